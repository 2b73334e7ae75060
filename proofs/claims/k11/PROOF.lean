import PyProof.Rows.All
import Wide.All
import OpenK.AllK
import Wide.FinOn
import HandS.ForMost
import HandS.ForExc
import HandS.Gcd
import HandS.Wide
import HandS.IsInst
import HandS.ExcIs
import HandS.CallLocal
import HandS.CallSlots
import HandS.More
import HandS.DictComp
import KE.GoesEnumKw
import HandS.TupAny
import HandS.Small
import HandS.Text
import HandS.Star
import HandS.Sort
import HandS.SortInts
import HandS.ExcValue
import HandS.RaiseMore
import HandS.FStr
import HandS.Style
import PySem.Challenge.RW_rimohms_k11_minors
set_option Elab.async false
set_option linter.all false
set_option maxRecDepth 100000
set_option maxHeartbeats 8000000
namespace Rz
open PySem PySem.Spec PyProof.Rows L2

/-! ### numbers -/
def CMulB (i j : Int) : Prop := ∃ a b : Nat, i.natAbs < 2 ^ a ∧ j.natAbs < 2 ^ b ∧ a + b ≤ 100000000
theorem CMulB.ok {i j : Int} (h : CMulB i j) : IntMulOk i j := by
  obtain ⟨a, b, h1, h2, h3⟩ := h
  have key : ∀ (x : Int) (n : Nat), x.natAbs < 2 ^ n → Builtin.Int.intBits x ≤ n := fun x n hx => by
    unfold Builtin.Int.intBits
    split
    · omega
    · rename_i h0
      have hne : x.natAbs ≠ 0 := fun z => h0 (by
        have : x = 0 := Int.natAbs_eq_zero.mp z
        rw [this]
        rfl)
      have := (Nat.log2_lt hne).mpr hx
      omega
  have k1 := key i a h1
  have k2 := key j b h2
  have e : bitsLine = 134217728 := by decide
  unfold IntMulOk
  intro z
  rw [Bool.and_eq_true] at z
  have z2 := z.2
  unfold Builtin.Int.intTooBig at z2
  have z3 := of_decide_eq_true z2
  rw [e] at z3
  omega
section
variable {X : Cx}
theorem op_mulB : OpR X (binaryOp .Mult) (rI CMulB fun i j => .int (i * j)) := opI fun _ _ _ _ _ _ _ hc q => mul_int q hc.ok
/-- // by a divisor of less than 9000 bits, of either sign -/
def CDivZ (_ j : Int) : Prop := j ≠ 0 ∧ j.natAbs < 2 ^ 9000
theorem op_fdivZ : OpR X (binaryOp .FloorDiv) (rI CDivZ fun i j => .int (i.fdiv j)) := opI fun i j _ _ _ _ _ hc q =>
  floordiv_int hc.1 q (.inl (PyProof.noPylong_of_log2 ((Nat.log2_lt (fun z => hc.1 (Int.natAbs_eq_zero.mp z))).mpr hc.2)))
end

/-! ### a statement, then the rest, with a word between them -/
def tCutZ (t u : TS) : TS := fun D σ H => ∃ Mid : L2.St → Hp → Prop, t { D with nx := Mid } σ H ∧ ∀ σ' H', Mid σ' H' → u D σ' H'
section
variable {X : Cx}
theorem pss_cutZ {st : Stmt} {rest : List Stmt} {t u : TS} (h1 : PS X st t) (h2 : PSs X rest u) : PSs X (st :: rest) (tCutZ t u) := by
  refine ⟨fun pins s σ H D I h => ?_⟩
  obtain ⟨Mid, hm, hu⟩ := h
  refine wpAny_execs_cons (thn (h1.run pins s σ H { D with nx := Mid } I hm) fun f s1 q => ?_)
  cases f with
  | next =>
    obtain ⟨σ', H', I', q⟩ := q
    exact h2.run pins s1 σ' H' D I' (hu σ' H' q)
  | ret v => exact q
  | brk => exact q
  | cont => exact q
end
theorem g_cut {t u : TS} {D : Ends} {σ : L2.St} {H : Hp} (Mid : L2.St → Hp → Prop) (h1 : t { D with nx := Mid } σ H) (h2 : ∀ σ' H', Mid σ' H' → u D σ' H') : tCutZ t u D σ H := ⟨Mid, h1, h2⟩
/-! ### built-in calls by named relations -/
def rInt1 : List V → Hp → VK → Prop := fun xs H Q => (∃ i, xs = [.int i] ∧ Q (.int i) H) ∨ ∃ k, xs = [.bl k] ∧ Q (.int (if k then 1 else 0)) H
def rAbs : List V → Hp → VK → Prop := fun xs H Q => ∃ i, xs = [.int i] ∧ Q (.int (if i < 0 then -i else i)) H
def rLenQ (K : PySem.W.Frag) : List V → Hp → VK → Prop := fun xs H Q => ∃ p ys, xs = [.ref p] ∧ (SqL K H p ys ∨ SqT K H p ys) ∧ Q (.int ys.length) H
def rListOf (K : PySem.W.Frag) : List V → Hp → VK → Prop := fun xs H Q => ∃ p ys, xs = [.ref p] ∧ (SqL K H p ys ∨ SqT K H p ys) ∧ ∀ l, H l = none → Q (.ref l) (upd H l (.lst ys))
def rTupleOf (K : PySem.W.Frag) : List V → Hp → VK → Prop := fun xs H Q => ∃ p ys, xs = [.ref p] ∧ ((SqL K H p ys ∧ ∀ l, H l = none → Q (.ref l) (upd H l (.tup ys))) ∨ (SqT K H p ys ∧ Q (.ref p) H))
def rIsNz : R2 := fun x y H Q => y = .non ∧ Q (.bl (decide (x = .non))) H
def rNotNz : R2 := fun x y H Q => y = .non ∧ Q (.bl (!decide (x = .non))) H
section
variable {X : Cx}
theorem zo_isN : OpR X (compareOp .Is) rIsNz := op_isN
theorem zo_notN : OpR X (compareOp .IsNot) rNotNz := op_notN
end
def rNewT (Q : VK) : List V → Hp → Prop := fun xs H1 => xs.length ≤ sizeLine ∧ ∀ p, H1 p = none → Q (.ref p) (upd H1 p (.tup xs))
def rNewL (Q : VK) : List V → Hp → Prop := fun xs H1 => xs.length ≤ sizeLine ∧ ∀ p, H1 p = none → Q (.ref p) (upd H1 p (.lst xs))
/-- a call of a local name that holds a def, where what is raised is wished for -/
def tCallLS (i : Nat) (f : Addr) (sp : Sp) (E : L2.St → XK) (t : TA) : TE := fun σ H Q => σ[i]? = some (some (.ref f)) ∧ t σ H fun vs H1 => sp vs H1 Q (E σ)
section
variable {X : Cx} {CX : CXT} {k i : Nat} {f : Addr} {fd : FuncData} {ps : List Str} {sp : Sp} {E : L2.St → XK} {x : Str} {p pos : Pos} {e : Expr} {es : List Expr} {t : TA}
theorem pe_callLS (F : FnOk X.prog X.w X.K X.mg X.base CX k f fd ps sp) (hr : Room k X.A) (hN : X.N[i]? = some x) (hv : Vis X.env.scope x) (hk : PySem.W.keepIn X.K (.ref f) = true) (hb : L2.Binds X.K fd ps []) (hx : ∀ σ, PassesAt CX X σ (E σ)) (ha : PA X (e :: es) t)
    (hdb : (x == ("__debug__" : Str)) = false := by decide) (hcd : (x == ("__classdict__" : Str)) = false := by decide)
    (he : starEach (e :: es) X.env = (false, eval e X.env) :: starEach es X.env := by rfl) (hpl : (backTo pos (starEach es X.env)).any (·.1) = false := by rfl) : PE X (.Call (.Name x p) (e :: es) [] pos) (tCallLS i f sp E t) := by
  refine ⟨fun pins s σ H Q I h => ?_⟩
  obtain ⟨hs, ht⟩ := h
  refine wpAny_Call_Name_kw (thn ((pe_var (pos := p) hN hv hdb hcd).run pins s σ H (fun v H1 => v = .ref f ∧ H1 = H) I ⟨.ref f, hs, rfl, rfl⟩) fun u s1 ⟨v, H1, I1, r1, q1⟩ => ?_)
  obtain ⟨rfl, rfl⟩ := q1
  cases r1
  refine PySem.W.callWith_K (h₀ := X.base) I.ok.mod.kin hk (thn (ha.run pos pins s1 σ _ _ I1 ht) fun us s2 ⟨vs, H2, I2, r, q⟩ => ⟨I2.kIn, ?_⟩) he hpl
  exact run_fnS F hr hb (hx σ) I2 r q
end
/-- isinstance(e, c), e the exception that a suite holds -/
def rIsEG (K : PySem.W.Frag) (cls : Value) (d : Option Addr) (a : Addr) : List V → Hp → VK → Prop := fun xs H Q => ∃ D, cls = .ref D ∧ d = none ∧ ExcC K D ∧ rIsE K D a xs H Q
theorem call_isEG {X : Cx} {a : Addr} {oe : Obj} {cls : Value} {d : Option Addr} {pn : List (Addr × Obj)} (hz : Zc cls d oe) (hf : ∃ vs, oe.data = .fields vs) : CallR (X.suite a ((a, oe) :: pn)) (.builtin "isinstance") (rIsEG X.K cls d a) := by
  intro pins s σ H xs us Q I r h
  obtain ⟨D, rfl, rfl, C, h⟩ := h
  exact call_isE C hz hf pins s σ H xs us Q I r h
def rTwo (P : V → V → Hp → Prop) : List V → Hp → Prop := fun vs H1 => ∃ v w, vs = [v, w] ∧ P v w H1
section
variable {X : Cx}
theorem zc_int : CallR X (.type "int") rInt1 := call_int1
theorem zc_abs : CallR X (.builtin "abs") rAbs := call_abs
theorem zc_len : CallR X (.builtin "len") (rLenQ X.K) := call_len_seq
theorem zc_list : CallR X (.type "list") (rListOf X.K) := call_list_of
theorem zc_tuple : CallR X (.type "tuple") (rTupleOf X.K) := call_tuple_of
end
/-! ### rules with the written part by name -/
section
variable {X : Cx} {K : PySem.W.Frag}
theorem ix_tupK (h : X.K = K) : IxR X (rIxT K) := h ▸ ix_tup
theorem ix_listK (h : X.K = K) : IxR X (rIxL K) := h ▸ ix_list
theorem zc_lenK (h : X.K = K) : CallR X (.builtin "len") (rLenQ K) := h ▸ zc_len
theorem zc_listK (h : X.K = K) : CallR X (.type "list") (rListOf K) := h ▸ zc_list
theorem zc_tupleK (h : X.K = K) : CallR X (.type "tuple") (rTupleOf K) := h ▸ zc_tuple
theorem call_isiK' (h : X.K = K) : CallR X (.builtin "isinstance") (rIsi K) := h ▸ call_isi
theorem cr_allK (h : X.K = K) (hc : X.calm = true) : CallR X (.builtin "all") (rAll K) := h ▸ cr_all hc
theorem cr_anyK (h : X.K = K) (hc : X.calm = true) : CallR X (.builtin "any") (rAny K) := h ▸ cr_any hc
theorem sl_tupK (h : X.K = K) : SlR X (rSlT K) := h ▸ sl_tup
theorem sl_listK (h : X.K = K) : SlR X (rSlL K) := h ▸ sl_list
theorem op_catTK (h : X.K = K) : OpR X (binaryOp .Add) (rCatT K) := h ▸ op_catT
theorem op_inK (h : X.K = K) : OpR X (compareOp .In) (rIn K false) := h ▸ op_in_seq
theorem op_ninK (h : X.K = K) : OpR X (compareOp .NotIn) (rIn K true) := h ▸ op_notIn_seq
theorem op_eqDK (h : X.K = K) (hu : X.A.units + 64 < cLine) : OpR X (compareOp .Eq) (rEqD K) := h ▸ op_eqD hu
theorem op_neDK (h : X.K = K) (hu : X.A.units + 64 < cLine) : OpR X (compareOp .NotEq) (rNeD K) := h ▸ op_neD hu
theorem mt_indexK (h : X.K = K) : MtR X "list.index" (rIndex K) := h ▸ mt_index
theorem pi_listK {tg l : Expr} {tl : TE} (h : X.K = K) (hl : PE X l tl) : PI X tg l (iList K tl) := h ▸ pi_list hl
theorem pi_tupK {tg l : Expr} {tl : TE} (h : X.K = K) (hl : PE X l tl) : PI X tg l (iTup K tl) := h ▸ pi_tup hl
theorem pg_lstK {pos : Pos} {es : List Expr} {k : Nat} {t : TGs} {n : Nat} (hK : X.K = K) (hc : X.calm = true) (h : PGs X es t) (hn : (assignEach es X.env).length = n := by rfl) (hst : (assignEach es X.env).findIdx? (·.1) = none := by rfl) : PG X (.Tuple es k pos) (gLst K n t) := hK ▸ pg_lst hc h hn hst
theorem pg_tupK {pos : Pos} {es : List Expr} {k : Nat} {t : TGs} {n : Nat} (hK : X.K = K) (hc : X.calm = true) (h : PGs X es t) (hn : (assignEach es X.env).length = n := by rfl) (hst : (assignEach es X.env).findIdx? (·.1) = none := by rfl) : PG X (.Tuple es k pos) (gTup K n t) := hK ▸ pg_tup hc h hn hst
end
/-! ### steps: the head of a reading -/
section
variable {t u : TS} {D : Ends} {σ : L2.St} {H : Hp} {te ta tb : TE} {g : TG} {i : Nat} {v x y : V} {Q : VK} {r : R2} {tt c : TT} {tas : TA}
theorem g_seq (h : t { D with nx := u D } σ H) : tSeq t u D σ H := h
theorem g_asg (h : te σ H fun x H1 => g x σ H1 D.nx) : tAsg te g D σ H := h
theorem g_name {Q : L2.St → Hp → Prop} (h : Q (σ.set i (some v)) H) : gName i v σ H Q := h
theorem g_var (e : σ[i]? = some (some v)) (h : Q v H) : tVar i σ H Q := ⟨v, e, h⟩
theorem g_c (h : Q v H) : tC v σ H Q := h
theorem g_op (h : ta σ H fun x H1 => tb σ H1 fun y H2 => r x y H2 Q) : tOp r ta tb σ H Q := h
theorem g_un {r : V → Hp → VK → Prop} (h : ta σ H fun x H1 => r x H1 Q) : tUn r ta σ H Q := h
theorem g_I {C : Int → Int → Prop} {f : Int → Int → V} {a b : Int} (hc : C a b) (h : Q (f a b) H) : rI C f (.int a) (.int b) H Q := ⟨a, b, rfl, rfl, hc, h⟩
theorem g_I0 {f : Int → Int → V} {a b : Int} (h : Q (f a b) H) : rI0 f (.int a) (.int b) H Q := ⟨a, b, rfl, rfl, h⟩
theorem g_U {f : Int → V} {a : Int} (h : Q (f a) H) : rU f (.int a) H Q := ⟨a, rfl, h⟩
theorem g_ret (h : te σ H D.rt) : tRet te D σ H := h
theorem g_drop (h : te σ H fun _ H1 => D.nx σ H1) : tDrop te D σ H := h
theorem g_next (h : D.nx σ H) : tNext D σ H := h
theorem g_ifs (h : c σ H fun b H1 => if b = true then t D σ H1 else u D σ H1) : tIfS c t u D σ H := h
theorem g_test {Q : Bool → Hp → Prop} (h : te σ H fun x H' => ∃ k, x = .bl k ∧ Q k H') : tTest te σ H Q := h
theorem g_B {Q : Bool → Hp → Prop} (h : te σ H fun x H' => ∃ k, x = .bl k ∧ Q k H') : tB te σ H Q := h
theorem g_bl {P : Bool → Prop} {b : Bool} (h : P b) : ∃ k, V.bl b = .bl k ∧ P k := ⟨b, rfl, h⟩
theorem g_and {a b : TT} {Q : Bool → Hp → Prop} (h : a σ H fun c H1 => if c = true then b σ H1 Q else Q false H1) : tAnd a b σ H Q := h
theorem g_or {a b : TT} {Q : Bool → Hp → Prop} (h : a σ H fun c H1 => if c = true then Q true H1 else b σ H1 Q) : tOr a b σ H Q := h
theorem g_not {a : TT} {Q : Bool → Hp → Prop} (h : a σ H fun c H1 => Q (!c) H1) : tNot a σ H Q := h
theorem g_andV (h : ta σ H fun x H1 => ∃ c, x = .bl c ∧ if c = true then tb σ H1 Q else Q (.bl false) H1) : tAndV ta tb σ H Q := h
theorem g_orV (h : ta σ H fun x H1 => ∃ c, x = .bl c ∧ if c = true then Q (.bl true) H1 else tb σ H1 Q) : tOrV ta tb σ H Q := h
theorem g_notV (h : ta σ H fun x H1 => ∃ c, x = .bl c ∧ Q (.bl (!c)) H1) : tNotV ta σ H Q := h
theorem g_ifE (h : tt σ H fun c H1 => if c = true then ta σ H1 Q else tb σ H1 Q) : tIf tt ta tb σ H Q := h
theorem g_call {sp : Sp} {dvs : List V} {E : XK} (h : tas σ H fun vs H1 => sp (vs ++ dvs) H1 Q E) : tCall sp dvs E tas σ H Q := h
theorem g_cb {r : List V → Hp → VK → Prop} (h : tas σ H fun vs H1 => r vs H1 Q) : tCB r tas σ H Q := h
theorem g_nil {Q : List V → Hp → Prop} (h : Q [] H) : tNil σ H Q := h
theorem g_cons {tr : TA} {Q : List V → Hp → Prop} (h : ta σ H fun x H1 => tr σ H1 fun xs H2 => Q (x :: xs) H2) : tCons ta tr σ H Q := h
theorem g_tup (h : tas σ H (rNewT Q)) : tTup tas σ H Q := h
theorem g_lst (h : tas σ H (rNewL Q)) : tLst tas σ H Q := h
theorem g_par {i j : Nat} (h : tas σ H (rTwo fun v w H1 => D.nx ((σ.set i (some v)).set j (some w)) H1)) : tPar i j tas D σ H := h
theorem g_two {P : V → V → Hp → Prop} {a b : V} (h : P a b H) : rTwo P [a, b] H := ⟨a, b, rfl, h⟩
theorem g_isN (h : Q (.bl (decide (x = .non))) H) : rIsNz x .non H Q := ⟨rfl, h⟩
theorem g_notN (h : Q (.bl (!decide (x = .non))) H) : rNotNz x .non H Q := ⟨rfl, h⟩
theorem g_isi {K : PySem.W.Frag} {a b' : String} {b : Bool} (ty : TyX K H x (.type a)) (e : kitB a b' = some b) (h : Q (.bl b) H) : rIsi K [x, .ty b'] H Q := ⟨x, .ty b', .type a, .type b', b, rfl, .ty b', ty, kit_ty e, h⟩
theorem g_isE {K : PySem.W.Frag} {D a : Addr} {c : V} {cv : Value} {b : Bool} (C : ExcC K D) (hc : ∀ u, RelV c u → u = cv) (e : PySem.W.kitOne K (.ref D) cv = some b) (h : Q (.bl b) H) : rIsEG K (.ref D) none a [.ref a, c] H Q := ⟨D, rfl, rfl, C, c, cv, b, rfl, hc, e, h⟩
theorem g_callLS {i : Nat} {f : Addr} {sp : Sp} {E : L2.St → XK} (e : σ[i]? = some (some (.ref f))) (h : tas σ H fun vs H1 => sp vs H1 Q (E σ)) : tCallLS i f sp E tas σ H Q := ⟨e, h⟩
theorem g_eq (s : scal x y = true) (h : Q (.bl (decide (x = y))) H) : rEq x y H Q := ⟨s, h⟩
theorem g_ne (s : scal x y = true) (h : Q (.bl (!decide (x = y))) H) : rNe x y H Q := ⟨s, h⟩
theorem g_ixT {K : PySem.W.Frag} {p : Addr} {xs : List V} {i : Int} (h : SqT K H p xs) (e : atI xs i = some v) (q : Q v H) : rIxT K (.ref p) (.int i) H Q := ⟨p, xs, i, v, rfl, rfl, h, e, q⟩
theorem g_ixL {K : PySem.W.Frag} {p : Addr} {xs : List V} {i : Int} (h : SqL K H p xs) (e : atI xs i = some v) (q : Q v H) : rIxL K (.ref p) (.int i) H Q := ⟨p, xs, i, v, rfl, rfl, h, e, q⟩
theorem g_sub {to ti : TE} {t : TSet} {Q : L2.St → Hp → Prop} (h : to σ H fun o H1 => ti σ H1 fun i H2 => t o i v H2 fun H3 => Q σ H3) : gSub to ti t v σ H Q := h
theorem g_setL {p : Addr} {xs : List V} {k : Int} {j : Nat} {Q : Hp → Prop} (h : H p = some (.lst xs)) (e : ixN xs.length k = some j) (q : Q (upd H p (.lst (xs.set j v)))) : rSetL (.ref p) (.int k) v H Q := ⟨p, xs, k, j, rfl, rfl, h, e, q⟩
theorem g_int1 {a : Int} (h : Q (.int a) H) : rInt1 [.int a] H Q := .inl ⟨a, rfl, h⟩
theorem g_int1b {a : Bool} (h : Q (.int (if a then 1 else 0)) H) : rInt1 [.bl a] H Q := .inr ⟨a, rfl, h⟩
theorem g_abs {a : Int} (h : Q (.int (if a < 0 then -a else a)) H) : rAbs [.int a] H Q := ⟨a, rfl, h⟩
theorem g_lenL {K : PySem.W.Frag} {p : Addr} {xs : List V} (h : SqL K H p xs) (q : Q (.int xs.length) H) : rLenQ K [.ref p] H Q := ⟨p, xs, rfl, .inl h, q⟩
theorem g_lenT {K : PySem.W.Frag} {p : Addr} {xs : List V} (h : SqT K H p xs) (q : Q (.int xs.length) H) : rLenQ K [.ref p] H Q := ⟨p, xs, rfl, .inr h, q⟩
theorem g_listL {K : PySem.W.Frag} {p : Addr} {xs : List V} (h : SqL K H p xs) (q : ∀ l, H l = none → Q (.ref l) (upd H l (.lst xs))) : rListOf K [.ref p] H Q := ⟨p, xs, rfl, .inl h, q⟩
theorem g_listT {K : PySem.W.Frag} {p : Addr} {xs : List V} (h : SqT K H p xs) (q : ∀ l, H l = none → Q (.ref l) (upd H l (.lst xs))) : rListOf K [.ref p] H Q := ⟨p, xs, rfl, .inr h, q⟩
theorem g_tupleL {K : PySem.W.Frag} {p : Addr} {xs : List V} (h : SqL K H p xs) (q : ∀ l, H l = none → Q (.ref l) (upd H l (.tup xs))) : rTupleOf K [.ref p] H Q := ⟨p, xs, rfl, .inl ⟨h, q⟩⟩
theorem g_tupleT {K : PySem.W.Frag} {p : Addr} {xs : List V} (h : SqT K H p xs) (q : Q (.ref p) H) : rTupleOf K [.ref p] H Q := ⟨p, xs, rfl, .inr ⟨h, q⟩⟩
theorem if_t {A B : Prop} {b : Bool} (e : b = true) (h : A) : if b = true then A else B := by rw [if_pos e]; exact h
theorem if_f {A B : Prop} {b : Bool} (e : b = false) (h : B) : if b = true then A else B := by rw [if_neg (by rw [e]; exact Bool.false_ne_true)]; exact h
theorem if_2 {A B : Prop} {b : Bool} (h1 : b = true → A) (h2 : b = false → B) : if b = true then A else B := by
  cases b with
  | true => exact if_t rfl (h1 rfl)
  | false => exact if_f rfl (h2 rfl)
end

/-! ### loops and comprehensions, by named parts -/
def forW (g : TG) (tb : TS) (D : Ends) (σ : L2.St) : It → Hp → Prop := fun J H1 => ∃ W : Nat → Nat → L2.St → Hp → Prop, (∃ m, W 0 m σ H1) ∧ ∀ i m σ H, W i m σ H →
  (J.stop i H ∧ D.nx σ H) ∨ (J.go i H ∧ ∃ N : L2.St → Hp → Prop, (∀ σ' H', N σ' H' → ∃ m', m' < m ∧ W (i + 1) m' σ' H') ∧ ∀ x H', J.yld i H x H' → g x σ H' fun σ2 H2 => tb { D with nx := N, ct := N, bk := D.nx } σ2 H2)
def lcW (g : TG) (tt : TT) (te : TE) (vs : List Nat) (σ : L2.St) (Q : VK) : It → Hp → Prop := fun J H1 => ∀ D, H1 D = none → ∃ W : Nat → Nat → Hp → Prop, (∃ m, W 0 m (upd H1 D (.lst []))) ∧ ∀ i m H, W i m H →
      (J.stop i H ∧ Q (.ref D) H) ∨ (J.go i H ∧ ∃ Nx : Hp → Prop, (∀ H', Nx H' → ∃ m', m' < m ∧ W (i + 1) m' H') ∧ ∀ x H', J.yld i H x H' → g x (wipe σ vs) H' fun σ2 H2 => wipe σ2 vs = wipe σ vs ∧ tt σ2 H2 fun b H3 =>
        if b = true then te σ2 H3 fun y H4 => ∃ acc, H4 D = some (.lst acc) ∧ acc.length < sizeLine ∧ Nx (upd H4 D (.lst (acc ++ [y]))) else Nx H3)
def rRng1 (R : It → Hp → Prop) : List V → Hp → Prop := fun vs H1 => ∃ j : Int, vs = [.int j] ∧ -(2 ^ 62) ≤ j ∧ j < 2 ^ 62 ∧ R (Itr 0 j.toNat) H1
def rItL (K : PySem.W.Frag) (R : It → Hp → Prop) : V → Hp → Prop := fun x H1 => ∃ a, x = .ref a ∧ (∃ xs, SqL K H1 a xs) ∧ R (Itl K a) H1
def rItT (K : PySem.W.Frag) (R : It → Hp → Prop) : V → Hp → Prop := fun x H1 => ∃ a, x = .ref a ∧ (∃ xs, SqT K H1 a xs) ∧ R (Itt K a) H1
section
variable {K : PySem.W.Frag} {D : Ends} {σ : L2.St} {H : Hp} {g : TG} {tb : TS} {ta : TA} {te tl : TE} {tt : TT} {vs : List Nat} {Q : VK} {c : TT}
theorem g_forR1 (h : ta σ H (rRng1 (forW g tb D σ))) : tFor (iRng1 ta) g tb D σ H := h
theorem g_forL (h : tl σ H (rItL K (forW g tb D σ))) : tFor (iList K tl) g tb D σ H := h
theorem g_forT (h : tl σ H (rItT K (forW g tb D σ))) : tFor (iTup K tl) g tb D σ H := h
theorem g_lcR1 (h : ta σ H (rRng1 (lcW g tt te vs σ Q))) : tLc (iRng1 ta) g tt te vs σ H Q := h
theorem g_lcL (h : tl σ H (rItL K (lcW g tt te vs σ Q))) : tLc (iList K tl) g tt te vs σ H Q := h
theorem g_lcT (h : tl σ H (rItT K (lcW g tt te vs σ Q))) : tLc (iTup K tl) g tt te vs σ H Q := h
theorem g_rng {j : Int} (n : Nat) (e : j = (n : Int)) (hb : n < 1000000) (Pv : Nat → L2.St → Hp → Prop) (h0 : Pv 0 σ H)
    (hs : ∀ (i : Nat) σ H, i < n → Pv i σ H → g (.int (i : Int)) σ H fun σ2 H2 => tb { D with nx := Pv (i + 1), ct := Pv (i + 1), bk := D.nx } σ2 H2) (hd : ∀ σ H, Pv n σ H → D.nx σ H) :
    rRng1 (forW g tb D σ) [.int j] H := by
  subst e
  refine ⟨(n : Int), rfl, by omega, by omega, ?_⟩
  rw [Int.toNat_natCast]
  refine for_range (lo := 0) (n := n) Pv h0 (fun i σ H hi p => ?_) hd
  have := hs i σ H hi p
  rw [show (0 : Int) + (i : Int) = (i : Int) by omega]
  exact this
theorem g_itL {a : Addr} {xs : List V} (h : SqL K H a xs) (Pv : Nat → L2.St → Hp → Prop) (h0 : Pv 0 σ H) (hl : ∀ i σ H, i ≤ xs.length → Pv i σ H → SqL K H a xs)
    (hs : ∀ i x σ H, xs[i]? = some x → Pv i σ H → g x σ H fun σ2 H2 => tb { D with nx := Pv (i + 1), ct := Pv (i + 1), bk := D.nx } σ2 H2) (hd : ∀ σ H, Pv xs.length σ H → D.nx σ H) : rItL K (forW g tb D σ) (.ref a) H :=
  ⟨a, rfl, ⟨xs, h⟩, for_list Pv h0 hl hs hd⟩
theorem g_itT {a : Addr} {xs : List V} (h : SqT K H a xs) (Pv : Nat → L2.St → Hp → Prop) (h0 : Pv 0 σ H) (hl : ∀ i σ H, i ≤ xs.length → Pv i σ H → SqT K H a xs)
    (hs : ∀ i x σ H, xs[i]? = some x → Pv i σ H → g x σ H fun σ2 H2 => tb { D with nx := Pv (i + 1), ct := Pv (i + 1), bk := D.nx } σ2 H2) (hd : ∀ σ H, Pv xs.length σ H → D.nx σ H) : rItT K (forW g tb D σ) (.ref a) H :=
  ⟨a, rfl, ⟨xs, h⟩, for_tup Pv h0 hl hs hd⟩
/-- behind a turn of a comprehension: y is laid behind what the new list at p holds -/
def lcN (Pv : Nat → List V → Hp → Prop) (p : Addr) (i : Nat) : VK := fun y H4 => ∃ acc, H4 p = some (.lst acc) ∧ acc.length < sizeLine ∧ ∃ acc2, Pv (i + 1) acc2 (upd H4 p (.lst (acc ++ [y])))
theorem lcN_of {Pv : Nat → List V → Hp → Prop} {p : Addr} {i : Nat} {y : V} {H4 : Hp} {acc : List V} (h : H4 p = some (.lst acc)) (hl : acc.length ≤ 1000000) (q : Pv (i + 1) (acc ++ [y]) (upd H4 p (.lst (acc ++ [y])))) : lcN Pv p i y H4 :=
  ⟨acc, h, by have := sizeLine_eq; omega, _, q⟩
/-- a comprehension over a range, no test -/
theorem g_lcRng {j : Int} {i₀ : Nat} (n : Nat) (e : j = (n : Int)) (hb : n < 1000000) (Pv : Addr → Nat → List V → Hp → Prop) (hw : ∀ x, wipe ((wipe σ vs).set i₀ (some x)) vs = wipe σ vs)
    (h0 : ∀ p, H p = none → Pv p 0 [] (upd H p (.lst [])))
    (hs : ∀ p (i : Nat) acc H', H p = none → i < n → Pv p i acc H' → te ((wipe σ vs).set i₀ (some (.int (i : Int)))) H' (lcN (Pv p) p i))
    (hd : ∀ p acc H', H p = none → Pv p n acc H' → Q (.ref p) H') : rRng1 (lcW (gName i₀) tYes te vs σ Q) [.int j] H := by
  subst e
  refine ⟨(n : Int), rfl, by omega, by omega, fun p hp => ?_⟩
  rw [Int.toNat_natCast]
  refine lc_range (lo := 0) (n := n) (fun i H' => ∃ acc, Pv p i acc H') ⟨[], h0 p hp⟩ (fun i H' hi ⟨acc, q⟩ => ?_) (fun H' ⟨acc, q⟩ => hd p acc H' hp q)
  rw [show (0 : Int) + (i : Int) = (i : Int) by omega]
  exact ⟨hw _, hs p i acc H' hp hi q⟩
theorem g_lcLst {a : Addr} {xs : List V} {i₀ : Nat} (h : SqL K H a xs) (Pv : Addr → Nat → List V → Hp → Prop) (hw : ∀ x, wipe ((wipe σ vs).set i₀ (some x)) vs = wipe σ vs)
    (h0 : ∀ p, H p = none → Pv p 0 [] (upd H p (.lst []))) (hl : ∀ p i acc H', H p = none → Pv p i acc H' → SqL K H' a xs)
    (hs : ∀ p (i : Nat) x acc H', H p = none → xs[i]? = some x → Pv p i acc H' → te ((wipe σ vs).set i₀ (some x)) H' (lcN (Pv p) p i))
    (hd : ∀ p acc H', H p = none → Pv p xs.length acc H' → Q (.ref p) H') : rItL K (lcW (gName i₀) tYes te vs σ Q) (.ref a) H := by
  refine ⟨a, rfl, ⟨xs, h⟩, fun p hp => ?_⟩
  refine lc_list (K := K) (xs := xs) (fun i H' => ∃ acc, Pv p i acc H') ⟨[], h0 p hp⟩ (fun i H' _ ⟨acc, q⟩ => hl p i acc H' hp q) (fun i x H' hi ⟨acc, q⟩ => ?_) (fun H' ⟨acc, q⟩ => hd p acc H' hp q)
  exact ⟨hw _, hs p i x acc H' hp hi q⟩
theorem g_lcTup {a : Addr} {xs : List V} {i₀ : Nat} (h : SqT K H a xs) (Pv : Addr → Nat → List V → Hp → Prop) (hw : ∀ x, wipe ((wipe σ vs).set i₀ (some x)) vs = wipe σ vs)
    (h0 : ∀ p, H p = none → Pv p 0 [] (upd H p (.lst []))) (hl : ∀ p i acc H', H p = none → Pv p i acc H' → SqT K H' a xs)
    (hs : ∀ p (i : Nat) x acc H', H p = none → xs[i]? = some x → Pv p i acc H' → te ((wipe σ vs).set i₀ (some x)) H' (lcN (Pv p) p i))
    (hd : ∀ p acc H', H p = none → Pv p xs.length acc H' → Q (.ref p) H') : rItT K (lcW (gName i₀) tYes te vs σ Q) (.ref a) H := by
  refine ⟨a, rfl, ⟨xs, h⟩, fun p hp => ?_⟩
  refine lc_tup (K := K) (xs := xs) (fun i H' => ∃ acc, Pv p i acc H') ⟨[], h0 p hp⟩ (fun i H' _ ⟨acc, q⟩ => hl p i acc H' hp q) (fun i x H' hi ⟨acc, q⟩ => ?_) (fun H' ⟨acc, q⟩ => hd p acc H' hp q)
  exact ⟨hw _, hs p i x acc H' hp hi q⟩
theorem g_while (W : Nat → L2.St → Hp → Prop) (m : Nat) (h0 : W m σ H) (hs : ∀ m σ H, W m σ H → c σ H fun b H1 => if b = true then ∃ N : L2.St → Hp → Prop, (∀ σ' H', N σ' H' → ∃ m', m' < m ∧ W m' σ' H') ∧ tb { D with nx := N, ct := N, bk := D.nx } σ H1 else D.nx σ H1) :
    tWhile c tb D σ H := ⟨W, ⟨m, h0⟩, hs⟩
end

/-! ### heaps -/
theorem up_same {H : Hp} {p : Addr} {o : HO} (h : H p = none) : Same H (upd H p o) := fun b x e => by
  rw [upd_ne (ne_of_none e h)]
  exact e
/-- all but what stands at S is kept -/
def Kp (S : Addr) (H H' : Hp) : Prop := ∀ b o, b ≠ S → H b = some o → H' b = some o
theorem Kp.refl (S : Addr) (H : Hp) : Kp S H H := fun _ _ _ e => e
theorem Kp.trans {S : Addr} {H H1 H2 : Hp} (a : Kp S H H1) (b : Kp S H1 H2) : Kp S H H2 := fun c o n e => b c o n (a c o n e)
theorem Kp.of {S : Addr} {H H' : Hp} (a : Same H H') : Kp S H H' := fun c o _ e => a c o e
theorem Kp.upd {S : Addr} {H : Hp} {o : HO} : Kp S H (upd H S o) := fun b x n e => by
  rw [upd_ne n]
  exact e
/-- the newest object laid past what is asked for -/
theorem ua {H : Hp} {p q : Addr} {o u : HO} (h : H p = some o) (n : H q = none) : upd H q u p = some o := by
  rw [upd_ne (ne_of_none h n)]
  exact h
theorem Same.sqt {K : PySem.W.Frag} {H H' : Hp} {a : Addr} {xs : List V} (e : Same H H') (h : SqT K H a xs) : SqT K H' a xs := by
  rcases h with (h | ⟨o, h⟩) | h
  · exact .inl (.inl (e _ _ h))
  · exact .inl (.inr ⟨o, e _ _ h⟩)
  · exact .inr h
theorem Kp.sqt {K : PySem.W.Frag} {S : Addr} {H H' : Hp} {a : Addr} {xs ys : List V} (e : Kp S H H') (hS : H S = some (.lst ys)) (h : SqT K H a xs) : SqT K H' a xs := by
  rcases h with (h | ⟨o, h⟩) | h
  · exact .inl (.inl (e _ _ (ne_of h hS (fun z => nomatch z)) h))
  · exact .inl (.inr ⟨o, e _ _ (ne_of h hS (fun z => nomatch z)) h⟩)
  · exact .inr h
theorem Kp.free {S p : Addr} {H H' : Hp} {o : HO} (e : Kp S H H') (hS : H S = some o) (hp : H' p = none) (hp2 : p ≠ S) : H p = none := by
  cases h1 : H p with
  | none => rfl
  | some o =>
    rw [e p o hp2 h1] at hp
    cases hp

/-! ### a displayed tuple, a displayed list -/
theorem g_newT {xs : List V} {Q : VK} {H : Hp} (hl : xs.length ≤ 1000000) (h : ∀ p, H p = none → Q (.ref p) (upd H p (.tup xs))) : rNewT Q xs H := ⟨by have := sizeLine_eq; omega, h⟩
theorem g_newL {xs : List V} {Q : VK} {H : Hp} (hl : xs.length ≤ 1000000) (h : ∀ p, H p = none → Q (.ref p) (upd H p (.lst xs))) : rNewL Q xs H := ⟨by have := sizeLine_eq; omega, h⟩
/-! ### a ratio -/
def RatV (K : PySem.W.Frag) (H : Hp) (v : V) (q : Rat) : Prop := ∃ p, v = .ref p ∧ SqT K H p [.int q.num, .int (q.den : Int)]
theorem RatV.same {K : PySem.W.Frag} {H H' : Hp} {v : V} {q : Rat} (h : RatV K H v q) (e : Same H H') : RatV K H' v q := by
  obtain ⟨p, rfl, h⟩ := h
  exact ⟨p, rfl, Same.sqt e h⟩
theorem RatV.kp {K : PySem.W.Frag} {S : Addr} {ys : List V} {H H' : Hp} {v : V} {q : Rat} (h : RatV K H v q) (e : Kp S H H') (hS : H S = some (.lst ys)) : RatV K H' v q := by
  obtain ⟨p, rfl, h⟩ := h
  exact ⟨p, rfl, Kp.sqt e hS h⟩
theorem RatV.new {K : PySem.W.Frag} {H : Hp} {p : Addr} {q : Rat} : RatV K (upd H p (.tup [.int q.num, .int (q.den : Int)])) (.ref p) q := ⟨p, rfl, SqT.of upd_same⟩
/-- both parts below 2 ^ n -/
def Bd (n : Nat) (q : Rat) : Prop := q.num.natAbs < 2 ^ n ∧ q.den < 2 ^ n
end Rz

namespace Rz
open PySem PySem.Spec PyProof.Rows L2

/-! ### ratios: integers' words and Rat's -/
def gcdI (a b : Int) : Int := (Nat.gcd a.natAbs b.natAbs : Nat)
def comI (a b : Int) : Int := if b < 0 then -gcdI a b else gcdI a b
theorem gcdI_pos {a b : Int} (hb : b ≠ 0) : 0 < gcdI a b := by
  unfold gcdI
  have : 0 < Nat.gcd a.natAbs b.natAbs := Nat.gcd_pos_of_pos_right _ (by omega)
  omega
theorem gcdI_dvd_l (a b : Int) : gcdI a b ∣ a := Int.ofNat_dvd_left.mpr (Nat.gcd_dvd_left _ _)
theorem gcdI_dvd_r (a b : Int) : gcdI a b ∣ b := Int.ofNat_dvd_left.mpr (Nat.gcd_dvd_right _ _)
theorem gcdI_le {a b : Int} (hb : b ≠ 0) : (gcdI a b).natAbs ≤ b.natAbs := by
  unfold gcdI
  have := Nat.gcd_le_right a.natAbs (n := b.natAbs) (by omega)
  omega
theorem comI_ne {a b : Int} (hb : b ≠ 0) : comI a b ≠ 0 := by
  have := gcdI_pos (a := a) hb
  unfold comI
  split <;> omega
theorem comI_abs (a b : Int) : (comI a b).natAbs = (gcdI a b).natAbs := by
  unfold comI
  split <;> omega
theorem gcd_int (a b : Int) : ((Int.gcd b a : Nat) : Int) = gcdI a b := by
  unfold gcdI
  rw [Int.gcd_eq_natAbs_gcd_natAbs, Nat.gcd_comm]
theorem fdiv_num {a b : Int} (hb : b ≠ 0) : a.fdiv (comI a b) = (Rat.divInt a b).num := by
  have hg := gcdI_pos (a := a) hb
  have hd := gcdI_dvd_l a b
  rw [Rat.num_divInt, gcd_int]
  unfold comI
  split
  · rename_i h
    rw [Int.fdiv_neg (by omega), if_pos hd, Int.sign_eq_neg_one_of_neg h, Int.fdiv_eq_ediv_of_nonneg _ (by omega)]
    rw [Int.neg_mul, Int.one_mul, Int.neg_ediv_of_dvd hd]
  · rename_i h
    rw [Int.sign_eq_one_of_pos (by omega), Int.one_mul, Int.fdiv_eq_ediv_of_nonneg _ (by omega)]
theorem fdiv_den {a b : Int} (hb : b ≠ 0) : b.fdiv (comI a b) = ((Rat.divInt a b).den : Int) := by
  have hg := gcdI_pos (a := a) hb
  have hd := gcdI_dvd_r a b
  rw [Rat.den_divInt, if_neg hb, Int.natCast_ediv, gcd_int]
  unfold comI
  split
  · rename_i h
    rw [Int.fdiv_neg (by omega), if_pos hd, Int.fdiv_eq_ediv_of_nonneg _ (by omega)]
    have : (b.natAbs : Int) = -b := by omega
    rw [this, Int.neg_ediv_of_dvd hd]
  · rename_i h
    rw [Int.fdiv_eq_ediv_of_nonneg _ (by omega)]
    have : (b.natAbs : Int) = b := by omega
    rw [this]
theorem num_le {a b : Int} : (Rat.divInt a b).num.natAbs ≤ a.natAbs := by
  by_cases hb : b = 0
  · rw [hb, Rat.divInt_zero]
    exact Nat.zero_le _
  · rw [← fdiv_num hb]
    have hd := gcdI_dvd_l a b
    obtain ⟨k, e⟩ := hd
    have hg := gcdI_pos (a := a) hb
    have e2 : comI a b ∣ a := by
      unfold comI
      split
      · exact Int.neg_dvd.mpr (gcdI_dvd_l a b)
      · exact gcdI_dvd_l a b
    rw [Int.fdiv_eq_ediv_of_dvd e2]
    exact Int.natAbs_ediv_le_natAbs _ _
theorem den_le {a b : Int} (hb : b ≠ 0) : (Rat.divInt a b).den ≤ b.natAbs := by
  rw [Rat.den_divInt, if_neg hb]
  exact Nat.div_le_self _ _
theorem rat_plus (p q : Rat) : Rat.divInt (p.num * (q.den : Int) + q.num * (p.den : Int)) ((p.den : Int) * (q.den : Int)) = p + q := by
  rw [Rat.add_def', ← Rat.divInt_ofNat, Int.natCast_mul]
theorem rat_minus (p q : Rat) : Rat.divInt (p.num * (q.den : Int) - q.num * (p.den : Int)) ((p.den : Int) * (q.den : Int)) = p - q := by
  rw [Rat.sub_def', ← Rat.divInt_ofNat, Int.natCast_mul]
theorem rat_times (p q : Rat) : Rat.divInt (p.num * q.num) ((p.den : Int) * (q.den : Int)) = p * q := by
  rw [Rat.mul_def', ← Rat.divInt_ofNat, Int.natCast_mul]
theorem rat_over (p q : Rat) : Rat.divInt (p.num * (q.den : Int)) ((p.den : Int) * q.num) = p / q := by
  rw [Rat.div_def, Rat.inv_def]
  conv => rhs; rw [← Rat.num_divInt_den p]
  rw [Rat.divInt_mul_divInt]
theorem den_pos (q : Rat) : (0 : Int) < (q.den : Int) := by
  have := q.den_pos
  omega
theorem den_mul_ne (p q : Rat) : (p.den : Int) * (q.den : Int) ≠ 0 := by
  have := Int.mul_pos (den_pos p) (den_pos q)
  omega
theorem pow_mul_lt {x y : Nat} {a b : Nat} (h1 : x < 2 ^ a) (h2 : y < 2 ^ b) : x * y < 2 ^ (a + b) := by
  rw [Nat.pow_add]
  exact Nat.mul_lt_mul'' h1 h2
theorem pow_mono {x a b : Nat} (h : x < 2 ^ a) (l : a ≤ b) : x < 2 ^ b := Nat.lt_of_lt_of_le h (Nat.pow_le_pow_right (by decide) l)
theorem Bd.mono {a b : Nat} {q : Rat} (h : Bd a q) (l : a ≤ b) : Bd b q := ⟨pow_mono h.1 l, pow_mono h.2 l⟩
theorem abs_mul_lt {x y : Int} {a b : Nat} (h1 : x.natAbs < 2 ^ a) (h2 : y.natAbs < 2 ^ b) : (x * y).natAbs < 2 ^ (a + b) := by
  rw [Int.natAbs_mul]
  exact pow_mul_lt h1 h2
theorem abs_add_lt {x y : Int} {a : Nat} (h1 : x.natAbs < 2 ^ a) (h2 : y.natAbs < 2 ^ a) : (x + y).natAbs < 2 ^ (a + 1) := by
  rw [Nat.pow_succ]
  omega
theorem abs_sub_lt {x y : Int} {a : Nat} (h1 : x.natAbs < 2 ^ a) (h2 : y.natAbs < 2 ^ a) : (x - y).natAbs < 2 ^ (a + 1) := by
  rw [Nat.pow_succ]
  omega
theorem Bd.add {a b : Nat} {p q : Rat} (h : Bd a p) (k : Bd b q) : Bd (a + b + 1) (p + q) := by
  rw [← rat_plus]
  have e1 := abs_mul_lt (x := p.num) (y := (q.den : Int)) h.1 k.2
  have e2 := abs_mul_lt (x := q.num) (y := (p.den : Int)) k.1 h.2
  rw [Nat.add_comm b a] at e2
  refine ⟨Nat.lt_of_le_of_lt num_le (abs_add_lt e1 e2), Nat.lt_of_le_of_lt (den_le (den_mul_ne p q)) ?_⟩
  exact pow_mono (abs_mul_lt (x := (p.den : Int)) (y := (q.den : Int)) h.2 k.2) (by omega)
theorem Bd.sub {a b : Nat} {p q : Rat} (h : Bd a p) (k : Bd b q) : Bd (a + b + 1) (p - q) := by
  rw [← rat_minus]
  have e1 := abs_mul_lt (x := p.num) (y := (q.den : Int)) h.1 k.2
  have e2 := abs_mul_lt (x := q.num) (y := (p.den : Int)) k.1 h.2
  rw [Nat.add_comm b a] at e2
  refine ⟨Nat.lt_of_le_of_lt num_le (abs_sub_lt e1 e2), Nat.lt_of_le_of_lt (den_le (den_mul_ne p q)) ?_⟩
  exact pow_mono (abs_mul_lt (x := (p.den : Int)) (y := (q.den : Int)) h.2 k.2) (by omega)
theorem Bd.mul {a b : Nat} {p q : Rat} (h : Bd a p) (k : Bd b q) : Bd (a + b) (p * q) := by
  rw [← rat_times]
  exact ⟨Nat.lt_of_le_of_lt num_le (abs_mul_lt h.1 k.1), Nat.lt_of_le_of_lt (den_le (den_mul_ne p q)) (abs_mul_lt (x := (p.den : Int)) (y := (q.den : Int)) h.2 k.2)⟩
theorem Bd.div {a b : Nat} {p q : Rat} (h : Bd a p) (k : Bd b q) (hq : q ≠ 0) : Bd (a + b) (p / q) := by
  have hn : q.num ≠ 0 := fun z => hq (Rat.num_eq_zero.mp z)
  have hm : (p.den : Int) * q.num ≠ 0 := Int.mul_ne_zero (by have := den_pos p; omega) hn
  rw [← rat_over]
  exact ⟨Nat.lt_of_le_of_lt num_le (abs_mul_lt (x := p.num) (y := (q.den : Int)) h.1 k.2), Nat.lt_of_le_of_lt (den_le hm) (abs_mul_lt (x := (p.den : Int)) (y := q.num) h.2 k.1)⟩
theorem Bd.neg {a : Nat} {p : Rat} (h : Bd a p) : Bd a (-p) := by
  refine ⟨?_, ?_⟩
  · rw [Rat.neg_num, Int.natAbs_neg]
    exact h.1
  · rw [Rat.neg_den]
    exact h.2
theorem Bd.of {n : Nat} {a b : Int} (h : a.natAbs < 2 ^ n) (k : b.natAbs < 2 ^ n) (hb : b ≠ 0) : Bd n (Rat.divInt a b) := ⟨Nat.lt_of_le_of_lt num_le h, Nat.lt_of_le_of_lt (den_le hb) k⟩
theorem Bd.zero : Bd 1 0 := ⟨by decide, by decide⟩
theorem Bd.one : Bd 1 1 := ⟨by decide, by decide⟩
theorem mulB_of {x y : Int} {a b : Nat} (h1 : x.natAbs < 2 ^ a) (h2 : y.natAbs < 2 ^ b) (h : a + b ≤ 8000) : CMulB x y := ⟨a, b, h1, h2, by omega⟩
theorem lt9000 {x : Nat} {n : Nat} (h : x < 2 ^ n) (l : n ≤ 9000) : x < 2 ^ 9000 := pow_mono h l

/-! ### the same data -/
def isSc : V → Bool
  | .int _ => true
  | .bl _ => true
  | .str _ => true
  | .non => true
  | _ => false
inductive Eqv (K : PySem.W.Frag) (H : Hp) : Nat → V → V → Prop
  | sc {n : Nat} {x : V} (h : isSc x = true) : Eqv K H (n + 1) x x
  | tup {n : Nat} {p q : Addr} {xs ys : List V} (hx : SqT K H p xs) (hy : SqT K H q ys) (hl : xs.length = ys.length) (hb : ys.length < 1000000) (h : ∀ (i : Nat) (x y : V), xs[i]? = some x → ys[i]? = some y → Eqv K H n x y) : Eqv K H (n + 1) (.ref p) (.ref q)
  | lst {n : Nat} {p q : Addr} {xs ys : List V} (hx : SqL K H p xs) (hy : SqL K H q ys) (hl : xs.length = ys.length) (hb : ys.length < 1000000) (h : ∀ (i : Nat) (x y : V), xs[i]? = some x → ys[i]? = some y → Eqv K H n x y) : Eqv K H (n + 2) (.ref p) (.ref q)
theorem Eqv.same {K : PySem.W.Frag} {H H' : Hp} {n : Nat} {x y : V} (e : Same H H') (h : Eqv K H n x y) : Eqv K H' n x y := by
  induction h with
  | sc h => exact .sc h
  | tup hx hy hl hb h ih => exact .tup (Same.sqt e hx) (Same.sqt e hy) hl hb ih
  | lst hx hy hl hb h ih => exact .lst (e.seq hx) (e.seq hy) hl hb ih
theorem Eqv.rat {K : PySem.W.Frag} {H : Hp} {n : Nat} {x y : V} {q : Rat} (h : RatV K H x q) (k : RatV K H y q) : Eqv K H (n + 2) x y := by
  obtain ⟨p, rfl, h⟩ := h
  obtain ⟨p', rfl, k⟩ := k
  refine .tup h k rfl (by show 2 < 1000000; decide) fun i x y e1 e2 => ?_
  rw [e1] at e2
  cases e2
  match i, e1 with
  | 0, e1 => cases e1; exact .sc rfl
  | 1, e1 => cases e1; exact .sc rfl
  | i + 2, e1 => simp at e1
theorem tyT {K : PySem.W.Frag} {H : Hp} {p : Addr} {xs : List V} (h : SqT K H p xs) : TyX K H (.ref p) (.type "tuple") := by
  rcases h with (h | ⟨o, h⟩) | ⟨o, its, n, h, hc, _⟩
  · exact .base (.tup h)
  · exact .fTuple h
  · exact .kTuple h hc
theorem tyL {K : PySem.W.Frag} {H : Hp} {p : Addr} {xs : List V} (h : SqL K H p xs) : TyX K H (.ref p) (.type "list") := by
  rcases h with (h | ⟨o, h⟩) | ⟨o, its, n, h, hc, _⟩
  · exact .base (.lst h)
  · exact .base (.frz h)
  · exact .kList h hc
def tyS : V → String
  | .int _ => "int"
  | .bl _ => "bool"
  | .str _ => "str"
  | _ => "NoneType"
theorem tySc {K : PySem.W.Frag} {H : Hp} {x : V} (h : isSc x = true) : TyX K H x (.type (tyS x)) := by
  cases x with
  | int i => exact .base (.int i)
  | bl i => exact .base (.bl i)
  | str i => exact .base (.str i)
  | non => exact .base .non
  | byt _ => cases h
  | flt _ => cases h
  | ref _ => cases h
  | ty _ => cases h
end Rz

namespace Rz
open PySem PySem.Spec PyProof.Rows L2
/-! ### promises -/
def StAt (H : Hp) (S c : Addr) : Prop := c ≠ S ∧ ∃ (i h n : Int) (cs : List Int), H S = some (.lst [.ref c, .int i, .int h, .int n]) ∧ H c = some (.lst (cs.map V.int)) ∧ 0 ≤ i ∧ 0 ≤ h
theorem StAt.upd {H : Hp} {S c p : Addr} {o : HO} (h : StAt H S c) (h1 : p ≠ S) (h2 : p ≠ c) : StAt (upd H p o) S c := by
  obtain ⟨n, i, x, m, cs, e1, e2, e3⟩ := h
  exact ⟨n, i, x, m, cs, by rw [upd_ne h1.symm]; exact e1, by rw [upd_ne h2.symm]; exact e2, e3⟩
theorem StAt.same {H H' : Hp} {S c : Addr} (h : StAt H S c) (e : Same H H') : StAt H' S c := by
  obtain ⟨n, i, x, m, cs, e1, e2, e3⟩ := h
  exact ⟨n, i, x, m, cs, e _ _ e1, e _ _ e2, e3⟩
theorem StAt.neS {H : Hp} {S c p : Addr} (h : StAt H S c) (hp : H p = none) : p ≠ S := by
  obtain ⟨n, i, x, m, cs, e1, e2, e3⟩ := h
  exact (ne_of_none e1 hp).symm
theorem StAt.nec {H : Hp} {S c p : Addr} (h : StAt H S c) (hp : H p = none) : p ≠ c := by
  obtain ⟨n, i, x, m, cs, e1, e2, e3⟩ := h
  exact (ne_of_none e2 hp).symm
theorem StAt.lst {H : Hp} {S c : Addr} (h : StAt H S c) : ∃ ys, H S = some (.lst ys) := by
  obtain ⟨n, i, x, m, cs, e1, e2, e3⟩ := h
  exact ⟨_, e1⟩
theorem RatV.st {K : PySem.W.Frag} {H H' : Hp} {S c : Addr} {v : V} {q : Rat} (h : RatV K H v q) (e : Kp S H H') (hS : StAt H S c) : RatV K H' v q := by
  obtain ⟨ys, hy⟩ := hS.lst
  exact h.kp e hy
def spPick : Sp := fun vs H Q _ => ∃ (S c : Addr) (lim : Int), vs = [.ref S, .int lim] ∧ StAt H S c ∧ 0 < lim ∧ lim.natAbs < 2 ^ 9000 ∧ ∀ v H', 0 ≤ v → v < lim → StAt H' S c → Kp S H H' → Q (.int v) H'
def spGcd : Sp := fun vs H Q _ => ∃ a b : Int, vs = [.int a, .int b] ∧ 0 ≤ a ∧ 0 ≤ b ∧ Q (.int (gcdI a b)) H
def spLRatio (K : PySem.W.Frag) : Sp := fun vs H Q _ => ∃ a b : Int, vs = [.int a, .int b] ∧ b ≠ 0 ∧ b.natAbs < 2 ^ 9000 ∧ ∀ v H', Same H H' → RatV K H' v (Rat.divInt a b) → Q v H'
def spBin (K : PySem.W.Frag) (f : Rat → Rat → Rat) : Sp := fun vs H Q _ => ∃ (x y : V) (p q : Rat) (n m : Nat), vs = [x, y] ∧ RatV K H x p ∧ RatV K H y q ∧ Bd n p ∧ Bd m q ∧ n + m ≤ 8000 ∧ ∀ v H', Same H H' → RatV K H' v (f p q) → Q v H'
theorem gcdI_step {a b : Int} (ha : 0 ≤ a) (hb : 0 ≤ b) (h : b ≠ 0) : gcdI b (a.fmod b) = gcdI a b := by
  have e1 : a.fmod b = ((a.toNat % b.toNat : Nat) : Int) := by
    rw [Int.fmod_eq_emod_of_nonneg _ hb, Int.natCast_emod, Int.toNat_of_nonneg ha, Int.toNat_of_nonneg hb]
  unfold gcdI
  rw [e1, Int.natAbs_natCast]
  have e2 : a.natAbs = a.toNat := by omega
  have e3 : b.natAbs = b.toNat := by omega
  rw [e2, e3]
  congr 1
  conv => rhs; rw [Nat.gcd_comm, Nat.gcd_rec]
  rw [Nat.gcd_comm]
theorem gcdI_zero {a : Int} (ha : 0 ≤ a) : gcdI a 0 = a := by
  unfold gcdI
  rw [Int.natAbs_zero, Nat.gcd_zero_right]
  omega
theorem abs_gcd (a b : Int) : gcdI (if a < 0 then -a else a) (if b < 0 then -b else b) = gcdI a b := by
  unfold gcdI
  have e1 : (if a < 0 then -a else a).natAbs = a.natAbs := by split <;> omega
  have e2 : (if b < 0 then -b else b).natAbs = b.natAbs := by split <;> omega
  rw [e1, e2]
def spDiv (K : PySem.W.Frag) : Sp := fun vs H Q _ => ∃ (x y : V) (p q : Rat) (n m : Nat), vs = [x, y] ∧ RatV K H x p ∧ RatV K H y q ∧ Bd n p ∧ Bd m q ∧ n + m ≤ 8000 ∧ q ≠ 0 ∧ ∀ v H', Same H H' → RatV K H' v (p / q) → Q v H'
theorem den_num_ne {p q : Rat} (h : q ≠ 0) : (p.den : Int) * q.num ≠ 0 := Int.mul_ne_zero (by have := den_pos p; omega) fun z => h (Rat.num_eq_zero.mp z)
def spRatio (K : PySem.W.Frag) (C : Addr) : Sp := fun vs H Q E => ∃ a b : Int, vs = [.int a, .int b] ∧ b.natAbs < 2 ^ 9000 ∧ (b = 0 → E (.ref C) none H) ∧ (b ≠ 0 → ∀ v H', Same H H' → RatV K H' v (Rat.divInt a b) → Q v H')
def spSame (K : PySem.W.Frag) (n : Nat) : Sp := fun vs H Q _ => ∃ x y, vs = [x, y] ∧ Eqv K H n x y ∧ ∀ H', Same H H' → Q (.bl true) H'
theorem fn_false {P : Program} {w : World} {K : PySem.W.Frag} {mg : Str → Option Value} {base : Heap} {f : Addr} {fd : FuncData} {ps : List Str} {k : Nat} {sp : Sp} (h : ∀ vs H Q E, ¬ sp vs H Q E) : FnOk P w K mg base CX0 k f fd ps sp := ⟨fun vs H Q E q => absurd q (h vs H Q E), fun A outer s H args us vs Q E _ _ _ _ q => absurd q (h vs H Q E)⟩
def spWhole : Sp := fun vs H Q _ => ∃ S c : Addr, vs = [.ref S] ∧ StAt H S c ∧ ∀ (v : Int) H', v.natAbs < 2 ^ 50 → StAt H' S c → Kp S H H' → Q (.int v) H'
def spOver (K : PySem.W.Frag) (C : Addr) : Sp := fun vs H Q E => ∃ (x y : V) (p q : Rat) (n m : Nat), vs = [x, y] ∧ RatV K H x p ∧ RatV K H y q ∧ Bd n p ∧ Bd m q ∧ n + m ≤ 8000 ∧ (q = 0 → E (.ref C) none H) ∧ (q ≠ 0 → ∀ v H', Same H H' → RatV K H' v (p / q) → Q v H')
def spNeg (K : PySem.W.Frag) : Sp := fun vs H Q _ => ∃ (x : V) (p : Rat), vs = [x] ∧ RatV K H x p ∧ ∀ v H', Same H H' → RatV K H' v (-p) → Q v H'
def spLess (K : PySem.W.Frag) : Sp := fun vs H Q _ => ∃ (x y : V) (p q : Rat) (n m : Nat), vs = [x, y] ∧ RatV K H x p ∧ RatV K H y q ∧ Bd n p ∧ Bd m q ∧ n + m ≤ 8000 ∧ Q (.bl (decide (p.num * (q.den : Int) < q.num * (p.den : Int)))) H
def spIsRatio (K : PySem.W.Frag) : Sp := fun vs H Q _ => ∃ (p : Addr) (a b : Int), vs = [.ref p] ∧ SqT K H p [.int a, .int b] ∧ Q (.bl (decide (0 < b) && decide (gcdI a b = 1))) H
/-- the sum of ratios, from the left -/
def sumR (qs : List Rat) : Rat := qs.foldl (fun a b => a + b) 0
theorem sumR_snoc (qs : List Rat) (q : Rat) : sumR (qs ++ [q]) = sumR qs + q := by
  unfold sumR
  rw [List.foldl_append]
  rfl
theorem fold_bd {n : Nat} : ∀ (qs : List Rat) (b : Rat) (m : Nat), Bd m b → (∀ q ∈ qs, Bd n q) → Bd (m + qs.length * (n + 1)) (qs.foldl (fun a b => a + b) b)
  | [], b, m, h, _ => by
    rw [List.length_nil, Nat.zero_mul]
    exact h
  | q :: qs, b, m, h, k => by
    have h1 := Bd.add h (k q List.mem_cons_self)
    refine (fold_bd qs (b + q) (m + n + 1) h1 fun x hx => k x (List.mem_cons_of_mem _ hx)).mono ?_
    rw [List.length_cons, Nat.succ_mul]
    omega
theorem sumR_bd {n : Nat} (qs : List Rat) (h : ∀ q ∈ qs, Bd n q) : Bd (1 + qs.length * (n + 1)) (sumR qs) := fold_bd qs 0 1 Bd.zero h
theorem sumR_take {qs : List Rat} {i : Nat} {q : Rat} (h : qs[i]? = some q) : sumR (qs.take (i + 1)) = sumR (qs.take i) + q := by
  rw [List.take_add_one, h]
  exact sumR_snoc _ _
def spTotal (K : PySem.W.Frag) : Sp := fun vs H Q _ => ∃ (a : Addr) (xs : List V) (qs : List Rat) (n : Nat), vs = [.ref a] ∧ SqL K H a xs ∧ xs.length = qs.length ∧ (∀ (i : Nat) x q, xs[i]? = some x → qs[i]? = some q → RatV K H x q) ∧ (∀ q ∈ qs, Bd n q) ∧ 1 + qs.length * (n + 1) + n ≤ 8000 ∧
  ∀ v H', Same H H' → RatV K H' v (sumR qs) → Q v H'
/-- told: the def at f, and what it tells -/
def spTold (K : PySem.W.Frag) (C f : Addr) (spF : Sp) : Sp := fun vs H Q _ => ∃ x y, vs = [.ref f, x, y] ∧ spF [x, y] H (fun v H' => ∀ p, H' p = none → Q (.ref p) (upd H' p (.tup [.str "told", v])))
  (fun cls d H' => cls = .ref C ∧ d = none ∧ ∀ p, H' p = none → Q (.ref p) (upd H' p (.tup [.str "refused"])))
theorem dec_int (a b : Int) : decide (V.int a = V.int b) = decide (a = b) := by
  by_cases h : a = b
  · rw [h, decide_eq_true rfl, decide_eq_true rfl]
  · rw [decide_eq_false h, decide_eq_false fun z => h (V.int.inj z)]
theorem RatV.updL {K : PySem.W.Frag} {H : Hp} {p : Addr} {v : V} {q : Rat} {ys : List V} {o : HO} (h : RatV K H v q) (e : H p = some (.lst ys)) : RatV K (upd H p o) v q := h.kp Kp.upd e
/-- the i-th of xs stands for the i-th of qs -/
structure Rats (K : PySem.W.Frag) (H : Hp) (xs : List V) (qs : List Rat) : Prop where
  len : xs.length = qs.length
  at_ : ∀ (i : Nat) x q, xs[i]? = some x → qs[i]? = some q → RatV K H x q
theorem Rats.nil {K : PySem.W.Frag} {H : Hp} : Rats K H [] [] := ⟨rfl, fun i x q h => by simp at h⟩
theorem Rats.same {K : PySem.W.Frag} {H H' : Hp} {xs : List V} {qs : List Rat} (h : Rats K H xs qs) (e : Same H H') : Rats K H' xs qs := ⟨h.len, fun i x q a b => (h.at_ i x q a b).same e⟩
theorem Rats.kp {K : PySem.W.Frag} {S : Addr} {ys : List V} {H H' : Hp} {xs : List V} {qs : List Rat} (h : Rats K H xs qs) (e : Kp S H H') (hS : H S = some (.lst ys)) : Rats K H' xs qs := ⟨h.len, fun i x q a b => (h.at_ i x q a b).kp e hS⟩
theorem Rats.snoc {K : PySem.W.Frag} {H : Hp} {xs : List V} {qs : List Rat} {x : V} {q : Rat} (h : Rats K H xs qs) (k : RatV K H x q) : Rats K H (xs ++ [x]) (qs ++ [q]) := by
  refine ⟨by rw [List.length_append, List.length_append, h.len]; rfl, fun i x' q' a b => ?_⟩
  by_cases hi : i < xs.length
  · rw [List.getElem?_append_left hi] at a
    rw [List.getElem?_append_left (h.len ▸ hi)] at b
    exact h.at_ i x' q' a b
  · rw [List.getElem?_append_right (by omega)] at a
    rw [List.getElem?_append_right (by rw [← h.len]; omega), ← h.len] at b
    by_cases h0 : i - xs.length = 0
    · rw [h0] at a b
      cases a
      cases b
      exact k
    · obtain ⟨j, hj⟩ : ∃ j, i - xs.length = j + 1 := ⟨i - xs.length - 1, by omega⟩
      rw [hj] at a
      simp at a
end Rz

namespace Rz

/-! ### sums -/
def sumN : Nat → (Nat → Rat) → Rat
  | 0, _ => 0
  | n + 1, f => sumN n f + f n
theorem sumN_congr {n : Nat} {f g : Nat → Rat} (h : ∀ i, i < n → f i = g i) : sumN n f = sumN n g := by
  induction n with
  | zero => rfl
  | succ n ih => rw [sumN, sumN, ih fun i hi => h i (by omega), h n (by omega)]
theorem sumN_add {n : Nat} {f g : Nat → Rat} {c : Rat} : sumN n (fun i => f i + c * g i) = sumN n f + c * sumN n g := by
  induction n with
  | zero => simp only [sumN]; grind
  | succ n ih => simp only [sumN, ih]; grind
theorem sumN_mul {n : Nat} {f : Nat → Rat} {c : Rat} : sumN n (fun i => c * f i) = c * sumN n f := by
  induction n with
  | zero => simp only [sumN]; grind
  | succ n ih => simp only [sumN, ih]; grind
theorem sumN_zero {n : Nat} {f : Nat → Rat} (h : ∀ i, i < n → f i = 0) : sumN n f = 0 := by
  induction n with
  | zero => rfl
  | succ n ih => rw [sumN, ih fun i hi => h i (by omega), h n (by omega)]; grind
/-- two terms alone -/
theorem sumN_two {n i : Nat} {f : Nat → Rat} (hi : i + 1 < n) (h : ∀ k, k < n → k ≠ i → k ≠ i + 1 → f k = 0) : sumN n f = f i + f (i + 1) := by
  induction n with
  | zero => omega
  | succ n ih =>
    rw [sumN]
    by_cases e : n = i + 1
    · subst e
      rw [sumN, sumN_zero fun k hk => h k (by omega) (by omega) (by omega)]
      grind
    · rw [ih (by omega) fun k hk => h k (by omega), h n (by omega) (by omega) (by omega)]
      grind
theorem sumN_one {n i : Nat} {f : Nat → Rat} (hi : i < n) (h : ∀ k, k < n → k ≠ i → f k = 0) : sumN n f = f i := by
  induction n with
  | zero => omega
  | succ n ih =>
    rw [sumN]
    by_cases e : n = i
    · subst e
      rw [sumN_zero fun k hk => h k (by omega) (by omega)]
      grind
    · rw [ih (by omega) fun k hk => h k (by omega), h n (by omega) (by omega)]
      grind

/-! ### determinants, by the last column -/
abbrev Row := List Rat
abbrev Mat := List Row
def ent (r : Row) (j : Nat) : Rat := r.getD j 0
def rw' (m : Mat) (i : Nat) : Row := m.getD i []
def sgn (k : Nat) : Rat := if k % 2 = 0 then 1 else -1
def det : Nat → Mat → Rat
  | 0, _ => 1
  | n + 1, m => sumN (n + 1) fun i => sgn (n - i) * ent (rw' m i) n * det n (m.eraseIdx i)
theorem rw_set_eq {m : Mat} {i : Nat} {u : Row} (h : i < m.length) : rw' (m.set i u) i = u := by
  unfold rw'
  rw [List.getD_eq_getElem?_getD, List.getElem?_set_self h, Option.getD_some]
theorem rw_set_ne {m : Mat} {i k : Nat} {u : Row} (h : i ≠ k) : rw' (m.set i u) k = rw' m k := by
  unfold rw'
  rw [List.getD_eq_getElem?_getD, List.getElem?_set_ne h, ← List.getD_eq_getElem?_getD]
theorem set_self {m : Mat} {i : Nat} (h : i < m.length) : m.set i (rw' m i) = m := by
  unfold rw'
  rw [List.getD_eq_getElem?_getD, List.getElem?_eq_getElem h, Option.getD_some]
  exact List.set_getElem_self h
theorem rw_erase_lt {m : Mat} {i k : Nat} (h : k < i) : rw' (m.eraseIdx i) k = rw' m k := by
  unfold rw'
  rw [List.getD_eq_getElem?_getD, List.getElem?_eraseIdx_of_lt h, ← List.getD_eq_getElem?_getD]
theorem rw_erase_ge {m : Mat} {i k : Nat} (h : i ≤ k) : rw' (m.eraseIdx i) k = rw' m (k + 1) := by
  unfold rw'
  rw [List.getD_eq_getElem?_getD, List.getElem?_eraseIdx_of_ge h, ← List.getD_eq_getElem?_getD]
theorem mat_ext {a b : Mat} (hl : a.length = b.length) (h : ∀ i, i < a.length → rw' a i = rw' b i) : a = b := by
  refine List.ext_getElem hl fun i h1 h2 => ?_
  have := h i h1
  unfold rw' at this
  rw [List.getD_eq_getElem?_getD, List.getD_eq_getElem?_getD, List.getElem?_eq_getElem h1, List.getElem?_eq_getElem h2] at this
  exact this
theorem erase_set_eq {m : Mat} {i : Nat} {u : Row} : (m.set i u).eraseIdx i = m.eraseIdx i := by
  by_cases h : i < m.length
  · refine mat_ext (by rw [List.length_eraseIdx, List.length_eraseIdx, List.length_set]) fun k hk => ?_
    rcases Nat.lt_or_ge k i with z | z
    · rw [rw_erase_lt z, rw_erase_lt z, rw_set_ne (by omega)]
    · rw [rw_erase_ge z, rw_erase_ge z, rw_set_ne (by omega)]
  · rw [List.set_eq_of_length_le (by omega)]
theorem erase_set_lt {m : Mat} {i k : Nat} {u : Row} (h : k < i) : (m.set i u).eraseIdx k = (m.eraseIdx k).set (i - 1) u := by
  by_cases hi : i < m.length
  · have hl : ((m.set i u).eraseIdx k).length = m.length - 1 := by rw [List.length_eraseIdx, List.length_set, if_pos (by omega)]
    refine mat_ext (by rw [hl, List.length_set, List.length_eraseIdx, if_pos (by omega)]) fun j hj => ?_
    rw [hl] at hj
    by_cases e : j = i - 1
    · subst e
      rw [rw_set_eq (by rw [List.length_eraseIdx, if_pos (by omega)]; omega), rw_erase_ge (by omega), show i - 1 + 1 = i by omega, rw_set_eq hi]
    · rw [rw_set_ne (by omega)]
      rcases Nat.lt_or_ge j k with z | z
      · rw [rw_erase_lt z, rw_erase_lt z, rw_set_ne (by omega)]
      · rw [rw_erase_ge z, rw_erase_ge z, rw_set_ne (by omega)]
  · rw [List.set_eq_of_length_le (by omega), List.set_eq_of_length_le (by rw [List.length_eraseIdx]; split <;> omega)]
theorem erase_set_gt {m : Mat} {i k : Nat} {u : Row} (h : i < k) : (m.set i u).eraseIdx k = (m.eraseIdx k).set i u := by
  have hl : ((m.set i u).eraseIdx k).length = ((m.eraseIdx k).set i u).length := by rw [List.length_set, List.length_eraseIdx, List.length_eraseIdx, List.length_set]
  refine mat_ext hl fun j hj => ?_
  have hj2 : j < m.length := by
    rw [List.length_eraseIdx, List.length_set] at hj
    split at hj <;> omega
  by_cases e : j = i
  · subst e
    rw [rw_erase_lt h, rw_set_eq hj2, rw_set_eq]
    rw [List.length_eraseIdx]
    split <;> omega
  · rw [rw_set_ne (by omega)]
    rcases Nat.lt_or_ge j k with z | z
    · rw [rw_erase_lt z, rw_erase_lt z, rw_set_ne (by omega)]
    · rw [rw_erase_ge z, rw_erase_ge z, rw_set_ne (by omega)]
/-- linear in each row -/
theorem det_lin : ∀ {n : Nat} {m : Mat} {i : Nat} {u v w : Row} {c : Rat}, i < n → m.length = n → (∀ j, j < n → ent u j = ent v j + c * ent w j) → det n (m.set i u) = det n (m.set i v) + c * det n (m.set i w)
  | 0, m, i, u, v, w, c, hi, hl, h => by omega
  | n + 1, m, i, u, v, w, c, hi, hl, h => by
    simp only [det]
    rw [← sumN_add]
    refine sumN_congr fun k hk => ?_
    by_cases e : k = i
    · subst e
      rw [erase_set_eq, erase_set_eq, erase_set_eq, rw_set_eq (by omega), rw_set_eq (by omega), rw_set_eq (by omega), h n (by omega)]
      grind
    · have hl2 : (m.eraseIdx k).length = n := by rw [List.length_eraseIdx, if_pos (by omega)]; omega
      rw [rw_set_ne (by omega), rw_set_ne (by omega), rw_set_ne (by omega)]
      rcases Nat.lt_or_ge k i with z | z
      · rw [erase_set_lt z, erase_set_lt z, erase_set_lt z, det_lin (u := u) (v := v) (w := w) (c := c) (by omega) hl2 fun j hj => h j (by omega)]
        grind
      · rw [erase_set_gt (by omega), erase_set_gt (by omega), erase_set_gt (by omega), det_lin (u := u) (v := v) (w := w) (c := c) (by omega) hl2 fun j hj => h j (by omega)]
        grind
theorem sgn_succ {k : Nat} : sgn (k + 1) = - sgn k := by
  unfold sgn
  rcases Nat.mod_two_eq_zero_or_one k with z | z
  · rw [if_neg (by omega), if_pos z]
  · rw [if_pos (by omega), if_neg (by omega)]
    grind
/-- two rows side by side are the same -/
theorem det_adj : ∀ {n : Nat} {m : Mat} {i : Nat}, i + 1 < n → m.length = n → rw' m i = rw' m (i + 1) → det n m = 0
  | 0, m, i, hi, hl, h => by omega
  | n + 1, m, i, hi, hl, h => by
    simp only [det]
    have hl2 : ∀ k, k < n + 1 → (m.eraseIdx k).length = n := fun k hk => by rw [List.length_eraseIdx, if_pos (by omega)]; omega
    rw [sumN_two (i := i) hi fun k hk h1 h2 => ?_]
    · have e : m.eraseIdx i = m.eraseIdx (i + 1) := by
        refine mat_ext (by rw [hl2 i (by omega), hl2 (i + 1) (by omega)]) fun k hk => ?_
        rcases Nat.lt_trichotomy k i with z | z | z
        · rw [rw_erase_lt z, rw_erase_lt (by omega)]
        · subst z
          rw [rw_erase_ge (Nat.le_refl _), rw_erase_lt (by omega), h]
        · rw [rw_erase_ge (by omega), rw_erase_ge (by omega)]
      rw [e, h, show n - i = n - (i + 1) + 1 by omega, sgn_succ]
      grind
    · have : det n (m.eraseIdx k) = 0 := by
        rcases Nat.lt_or_ge k i with z | z
        · refine det_adj (i := i - 1) (by omega) (hl2 k hk) ?_
          rw [rw_erase_ge (by omega), rw_erase_ge (by omega), show i - 1 + 1 = i by omega]
          exact h
        · refine det_adj (i := i) (by omega) (hl2 k hk) ?_
          rw [rw_erase_lt (by omega), rw_erase_lt (by omega)]
          exact h
      rw [this]
      grind
def addR (n : Nat) (u v : Row) (c : Rat) : Row := (List.range n).map fun j => ent u j + c * ent v j
theorem ent_addR {n j : Nat} {u v : Row} {c : Rat} (h : j < n) : ent (addR n u v c) j = ent u j + c * ent v j := by
  unfold addR ent
  rw [List.getD_eq_getElem?_getD, List.getElem?_map, List.getElem?_range h]
  rfl
def swp (m : Mat) (i k : Nat) : Mat := (m.set i (rw' m k)).set k (rw' m i)
theorem swp_len {m : Mat} {i k : Nat} : (swp m i k).length = m.length := by unfold swp; rw [List.length_set, List.length_set]
theorem rw_swp {m : Mat} {i k j : Nat} (hi : i < m.length) (hk : k < m.length) : rw' (swp m i k) j = if j = k then rw' m i else if j = i then rw' m k else rw' m j := by
  unfold swp
  by_cases e : j = k
  · subst e
    rw [if_pos rfl, rw_set_eq (by rw [List.length_set]; exact hk)]
  · rw [if_neg e, rw_set_ne (by omega)]
    by_cases e2 : j = i
    · subst e2
      rw [if_pos rfl, rw_set_eq hi]
    · rw [if_neg e2, rw_set_ne (by omega)]
theorem set_comm {m : Mat} {i k : Nat} {u v : Row} (h : i ≠ k) : (m.set i u).set k v = (m.set k v).set i u := List.set_comm _ _ h
theorem det_swp_adj {n : Nat} {m : Mat} {i : Nat} (hi : i + 1 < n) (hl : m.length = n) : det n (swp m i (i + 1)) = - det n m := by
  have ne : i ≠ i + 1 := by omega
  -- rows u, v at i and i + 1
  have key : ∀ u v : Row, det n ((m.set i u).set (i + 1) v) = - det n ((m.set i v).set (i + 1) u) := fun u v => by
    have same : ∀ x : Row, det n ((m.set i x).set (i + 1) x) = 0 := fun x => by
      refine det_adj hi (by rw [List.length_set, List.length_set]; exact hl) ?_
      rw [rw_set_ne (by omega), rw_set_eq (by omega), rw_set_eq (by rw [List.length_set]; omega)]
    have h0 := same (addR n u v 1)
    rw [det_lin (u := addR n u v 1) (v := u) (w := v) (c := 1) hi (by rw [List.length_set]; exact hl) fun j hj => ent_addR hj] at h0
    have ex : ∀ x : Row, det n ((m.set i (addR n u v 1)).set (i + 1) x) = det n ((m.set i u).set (i + 1) x) + 1 * det n ((m.set i v).set (i + 1) x) := fun x => by
      rw [set_comm ne, det_lin (u := addR n u v 1) (v := u) (w := v) (c := 1) (by omega) (by rw [List.length_set]; exact hl) fun j hj => ent_addR hj, set_comm (Ne.symm ne), set_comm (Ne.symm ne)]
    rw [ex u, ex v, same u, same v] at h0
    grind
  have := key (rw' m (i + 1)) (rw' m i)
  rw [set_self (m := m) (by omega)] at this
  unfold swp
  rw [this]
  congr 2
  exact set_self (by omega)
theorem mul_swp {m : Mat} {i j k : Nat} (hi : i < m.length) (hj : j < m.length) (hk : k < m.length) (h1 : i ≠ j) (h2 : j ≠ k) (h3 : i ≠ k) : swp (swp (swp m j k) i j) j k = swp m i k := by
  have l1 : (swp m j k).length = m.length := swp_len
  have l2 : (swp (swp m j k) i j).length = m.length := by rw [swp_len, l1]
  refine mat_ext (by rw [swp_len, l2, swp_len]) fun x hx => ?_
  have A := fun y => rw_swp (m := m) (i := j) (k := k) (j := y) hj hk
  have B := fun y => rw_swp (m := swp m j k) (i := i) (k := j) (j := y) (by omega) (by omega)
  have C := fun y => rw_swp (m := swp (swp m j k) i j) (i := j) (k := k) (j := y) (by omega) (by omega)
  have D := fun y => rw_swp (m := m) (i := i) (k := k) (j := y) hi hk
  simp only [C, B, A, D]
  by_cases e1 : x = k
  · subst e1
    simp [h1, h2, h3, Ne.symm h1, Ne.symm h2, Ne.symm h3]
  · by_cases e2 : x = j
    · subst e2
      simp [h1, h2, h3, Ne.symm h1, Ne.symm h2, Ne.symm h3]
    · by_cases e3 : x = i
      · subst e3
        simp [h1, h2, h3, Ne.symm h1, Ne.symm h2, Ne.symm h3]
      · simp [e1, e2, e3]
theorem det_swp : ∀ {d n : Nat} {m : Mat} {i : Nat}, i + d + 1 < n → m.length = n → det n (swp m i (i + d + 1)) = - det n m
  | 0, n, m, i, hi, hl => det_swp_adj hi hl
  | d + 1, n, m, i, hi, hl => by
    have a := det_swp_adj (m := m) (i := i + d + 1) hi hl
    have b := det_swp (n := n) (d := d) (m := swp m (i + d + 1) (i + d + 2)) (i := i) (by omega) (by rw [swp_len]; exact hl)
    have c := det_swp_adj (m := swp (swp m (i + d + 1) (i + d + 2)) i (i + d + 1)) (i := i + d + 1) hi (by rw [swp_len, swp_len]; exact hl)
    have e := mul_swp (m := m) (i := i) (j := i + d + 1) (k := i + d + 2) (by omega) (by omega) (by omega) (by omega) (by omega) (by omega)
    rw [show i + (d + 1) + 1 = i + d + 2 by omega, ← e]
    rw [show i + d + 1 + 1 = i + d + 2 by omega] at a c
    rw [c, b, a]
    grind
theorem det_swap {n i k : Nat} {m : Mat} (h : i < k) (hk : k < n) (hl : m.length = n) : det n (swp m i k) = - det n m := by
  obtain ⟨d, rfl⟩ : ∃ d, k = i + d + 1 := ⟨k - i - 1, by omega⟩
  exact det_swp hk hl
/-- two rows are the same -/
theorem det_same {n i k : Nat} {m : Mat} (h : i < k) (hk : k < n) (hl : m.length = n) (e : rw' m i = rw' m k) : det n m = 0 := by
  have s := det_swap h hk hl
  have : swp m i k = m := by
    refine mat_ext swp_len fun x hx => ?_
    rw [rw_swp (by omega) (by omega)]
    by_cases e1 : x = k
    · subst e1
      rw [if_pos rfl, e]
    · rw [if_neg e1]
      by_cases e2 : x = i
      · subst e2
        rw [if_pos rfl, e]
      · rw [if_neg e2]
  rw [this] at s
  grind
/-- as much of one row added to another one -/
theorem det_add {n i k : Nat} {m : Mat} {u : Row} {c : Rat} (hi : i < n) (hk : k < n) (hne : i ≠ k) (hl : m.length = n) (h : ∀ j, j < n → ent u j = ent (rw' m i) j + c * ent (rw' m k) j) : det n (m.set i u) = det n m := by
  rw [det_lin (u := u) (v := rw' m i) (w := rw' m k) (c := c) hi hl h, set_self (by omega)]
  have z : det n (m.set i (rw' m k)) = 0 := by
    have e1 : rw' (m.set i (rw' m k)) i = rw' m k := rw_set_eq (by omega)
    have e2 : rw' (m.set i (rw' m k)) k = rw' m k := rw_set_ne hne
    rcases Nat.lt_or_gt_of_ne hne with z | z
    · exact det_same z hk (by rw [List.length_set]; exact hl) (e1.trans e2.symm)
    · exact det_same z hi (by rw [List.length_set]; exact hl) (e2.trans e1.symm)
  rw [z]
  grind
/-- only the entries count -/
theorem det_ent {n : Nat} {a b : Mat} (h : ∀ i j, i < n → j < n → ent (rw' a i) j = ent (rw' b i) j) : det n a = det n b := by
  induction n generalizing a b with
  | zero => rfl
  | succ n ih =>
    simp only [det]
    refine sumN_congr fun k hk => ?_
    rw [h k n hk (by omega), ih (a := a.eraseIdx k) (b := b.eraseIdx k) fun i j hi hj => ?_]
    rcases Nat.lt_or_ge i k with z | z
    · rw [rw_erase_lt z, rw_erase_lt z]
      exact h i j (by omega) (by omega)
    · rw [rw_erase_ge z, rw_erase_ge z]
      exact h (i + 1) j (by omega) (by omega)
theorem det_zrow {n i : Nat} {m : Mat} (hi : i < n) (hl : m.length = n) (h : ∀ j, j < n → ent (rw' m i) j = 0) : det n m = 0 := by
  have := det_lin (m := m) (u := rw' m i) (v := rw' m i) (w := rw' m i) (c := 1) hi hl fun j hj => by
    rw [h j hj]
    grind
  rw [set_self (by omega)] at this
  grind
/-- rows from number a on are 0 in the columns up to a -/
theorem det_flat : ∀ {n a : Nat} {m : Mat}, a < n → m.length = n → (∀ k j, a ≤ k → k < n → j ≤ a → ent (rw' m k) j = 0) → det n m = 0
  | 0, a, m, ha, hl, h => by omega
  | n + 1, a, m, ha, hl, h => by
    by_cases e : a = n
    · exact det_zrow (i := a) ha hl fun j hj => h a j (Nat.le_refl _) ha (by omega)
    · simp only [det]
      refine sumN_zero fun k hk => ?_
      have hl2 : (m.eraseIdx k).length = n := by rw [List.length_eraseIdx, if_pos (by omega)]; omega
      rw [det_flat (a := a) (by omega) hl2 fun i j h1 h2 h3 => ?_]
      · grind
      · rcases Nat.lt_or_ge i k with z | z
        · rw [rw_erase_lt z]
          exact h i j h1 (by omega) h3
        · rw [rw_erase_ge z]
          exact h (i + 1) j (by omega) (by omega) h3
def prodN : Nat → (Nat → Rat) → Rat
  | 0, _ => 1
  | n + 1, f => prodN n f * f n
theorem prodN_congr {n : Nat} {f g : Nat → Rat} (h : ∀ i, i < n → f i = g i) : prodN n f = prodN n g := by
  induction n with
  | zero => rfl
  | succ n ih => rw [prodN, prodN, ih fun i hi => h i (by omega), h n (by omega)]
theorem prodN_ne {n : Nat} {f : Nat → Rat} (h : ∀ i, i < n → f i ≠ 0) : prodN n f ≠ 0 := by
  induction n with
  | zero => simp only [prodN]; grind
  | succ n ih =>
    have := ih fun i hi => h i (by omega)
    have := h n (by omega)
    simp only [prodN]
    grind
theorem det_tri : ∀ {n : Nat} {m : Mat}, m.length = n → (∀ k j, k < n → j < k → ent (rw' m k) j = 0) → det n m = prodN n fun i => ent (rw' m i) i
  | 0, m, hl, h => rfl
  | n + 1, m, hl, h => by
    have hl2 : ∀ k, k < n + 1 → (m.eraseIdx k).length = n := fun k hk => by rw [List.length_eraseIdx, if_pos (by omega)]; omega
    simp only [det]
    rw [sumN_one (i := n) (by omega) fun k hk hne => ?_]
    · rw [det_tri (hl2 n (by omega)) fun k j hk hj => ?_]
      · rw [show sgn (n - n) = 1 by rw [Nat.sub_self]; rfl]
        simp only [prodN]
        rw [prodN_congr (g := fun i => ent (rw' m i) i) fun i hi => by rw [rw_erase_lt (by omega)]]
        grind
      · rw [rw_erase_lt (by omega)]
        exact h k j (by omega) hj
    · have : det n (m.eraseIdx k) = 0 := by
        refine det_zrow (i := n - 1) (by omega) (hl2 k hk) fun j hj => ?_
        rw [rw_erase_ge (by omega), show n - 1 + 1 = n by omega]
        exact h n j (by omega) hj
      rw [this]
      grind
end Rz

namespace Rz

/-! ### matrices by their rows, chosen columns -/
def mkM (n : Nat) (f : Nat → Row) : Mat := (List.range n).map f
theorem mkM_len {n : Nat} {f : Nat → Row} : (mkM n f).length = n := by unfold mkM; rw [List.length_map, List.length_range]
theorem rw_mkM {n i : Nat} {f : Nat → Row} (h : i < n) : rw' (mkM n f) i = f i := by
  unfold rw' mkM
  rw [List.getD_eq_getElem?_getD, List.getElem?_map, List.getElem?_range h]
  rfl
def sel (N : Nat) (cs : Nat → Nat) (r : Row) : Row := (List.range N).map fun t => ent r (cs t)
theorem ent_sel {N t : Nat} {cs : Nat → Nat} {r : Row} (h : t < N) : ent (sel N cs r) t = ent r (cs t) := by
  unfold ent sel
  rw [List.getD_eq_getElem?_getD, List.getElem?_map, List.getElem?_range h]
  rfl

/-! ### r is s with as much of some rows of O -/
inductive Comb (n : Nat) (O : Mat) (P : Nat → Prop) : Row → Row → Prop
  | base {r s : Row} (h : ∀ j, j < n → ent r j = ent s j) : Comb n O P r s
  | step {r r' s : Row} (i : Nat) (c : Rat) (hi : P i) (h : Comb n O P r s) (e : ∀ j, j < n → ent r' j = ent r j + c * ent (rw' O i) j) : Comb n O P r' s
theorem Comb.refl {n : Nat} {O : Mat} {P : Nat → Prop} {r : Row} : Comb n O P r r := .base fun _ _ => rfl
theorem Comb.move {n : Nat} {O O' : Mat} {P P' : Nat → Prop} {r s : Row} (h : Comb n O P r s) (hp : ∀ i, P i → P' i ∧ rw' O' i = rw' O i) : Comb n O' P' r s := by
  induction h with
  | base h => exact .base h
  | step i c hi _ e ih =>
    obtain ⟨a, b⟩ := hp i hi
    exact .step i c a ih fun j hj => by rw [b]; exact e j hj
theorem Comb.cut {n n' : Nat} {O : Mat} {P : Nat → Prop} {r s : Row} (h : Comb n O P r s) (hn : n' ≤ n) : Comb n' O P r s := by
  induction h with
  | base h => exact .base fun j hj => h j (by omega)
  | step i c hi _ e ih => exact .step i c hi ih fun j hj => e j (by omega)
theorem Comb.add {n : Nat} {O : Mat} {P Q : Nat → Prop} {x y s : Row} {a : Nat} (hx : Comb n O Q x y) (hQ : ∀ i, Q i → P i) (ha : P a) (hy : y = rw' O a) : ∀ {r r' : Row} {c : Rat}, Comb n O P r s → (∀ j, j < n → ent r' j = ent r j + c * ent x j) → Comb n O P r' s := by
  induction hx with
  | base h =>
    intro r r' c hr e
    exact .step a c ha hr fun j hj => by rw [e j hj, h j hj, hy]
  | step i d hi _ e2 ih =>
    rename_i x0 x1 y0 hx0
    intro r r' c hr e
    have h1 := ih hy hr (r' := addR n r x0 c) (c := c) fun j hj => ent_addR hj
    refine .step i (c * d) (hQ i hi) h1 fun j hj => ?_
    rw [e j hj, e2 j hj, ent_addR hj]
    grind
theorem Comb.sel {n N : Nat} {O A : Mat} {P Q : Nat → Prop} {r s : Row} {cs : Nat → Nat} (h : Comb n O P r s) (hc : ∀ t, t < N → cs t < n) (hp : ∀ i, P i → Q i ∧ rw' A i = Rz.sel N cs (rw' O i)) : Comb N A Q (Rz.sel N cs r) (Rz.sel N cs s) := by
  induction h with
  | base h => exact .base fun j hj => by rw [ent_sel hj, ent_sel hj, h _ (hc j hj)]
  | step i c hi _ e ih =>
    obtain ⟨a, b⟩ := hp i hi
    exact .step i c a ih fun j hj => by rw [b, ent_sel hj, ent_sel hj, ent_sel hj, e _ (hc j hj)]
/-- a row is another one with as much of other rows that stand there -/
theorem comb_set {n k : Nat} {A H : Mat} {P : Nat → Prop} {r s : Row} (hk : k < n) (hl : H.length = n) (hP : ∀ i, P i → i < n ∧ i ≠ k ∧ rw' H i = rw' A i) (h : Comb n A P r s) : det n (H.set k r) = det n (H.set k s) := by
  induction h with
  | base h =>
    refine det_ent fun i j hi hj => ?_
    by_cases e : i = k
    · subst e
      rw [rw_set_eq (by omega), rw_set_eq (by omega), h j hj]
    · rw [rw_set_ne (by omega), rw_set_ne (by omega)]
  | step i c hi _ e ih =>
    rename_i r0 r1 s0 h0
    obtain ⟨a1, a2, a3⟩ := hP i hi
    rw [← ih]
    have := det_add (m := H.set k r0) (u := r1) (c := c) (i := k) (k := i) hk a1 (Ne.symm a2) (by rw [List.length_set]; exact hl) fun j hj => by
      rw [rw_set_eq (by omega), rw_set_ne (Ne.symm a2), a3]
      exact e j hj
    rw [List.set_set] at this
    exact this
/-- each row is one of A with as much of rows ahead -/
theorem det_down {n : Nat} {A B : Mat} (hA : A.length = n) (hB : B.length = n) (h : ∀ k, k < n → Comb n A (fun i => i < k) (rw' B k) (rw' A k)) : det n B = det n A := by
  have key : ∀ d, d ≤ n → det n (mkM n fun i => if i < d then rw' A i else rw' B i) = det n A := by
    intro d hd
    induction hk : n - d generalizing d with
    | zero =>
      have : d = n := by omega
      subst this
      exact det_ent fun i j hi hj => by rw [rw_mkM hi, if_pos hi]
    | succ m ih =>
      have h1 := ih (d + 1) (by omega) (by omega)
      rw [← h1]
      have hdn : d < n := by omega
      have c := comb_set (n := n) (k := d) (A := A) (H := mkM n fun i => if i < d + 1 then rw' A i else rw' B i) (P := fun i => i < d) hdn mkM_len (fun i hi => ⟨by omega, by omega, by rw [rw_mkM (by omega), if_pos (by omega)]⟩) (h d hdn)
      have e1 : (mkM n fun i => if i < d + 1 then rw' A i else rw' B i).set d (rw' B d) = mkM n fun i => if i < d then rw' A i else rw' B i := by
        refine mat_ext (by rw [List.length_set, mkM_len, mkM_len]) fun i hi => ?_
        rw [List.length_set, mkM_len] at hi
        by_cases e : i = d
        · subst e
          rw [rw_set_eq (by rw [mkM_len]; exact hi), rw_mkM hi, if_neg (by omega)]
        · rw [rw_set_ne (by omega), rw_mkM hi, rw_mkM hi]
          by_cases z : i < d
          · rw [if_pos z, if_pos (by omega)]
          · rw [if_neg z, if_neg (by omega)]
      have e2 : (mkM n fun i => if i < d + 1 then rw' A i else rw' B i).set d (rw' A d) = mkM n fun i => if i < d + 1 then rw' A i else rw' B i := by
        refine mat_ext (by rw [List.length_set]) fun i hi => ?_
        rw [List.length_set, mkM_len] at hi
        by_cases e : i = d
        · subst e
          rw [rw_set_eq (by rw [mkM_len]; exact hi), rw_mkM hi, if_pos (by omega)]
        · rw [rw_set_ne (by omega)]
      rw [e1, e2] at c
      exact c
  have h0 := key 0 (Nat.zero_le _)
  rw [← h0]
  exact det_ent fun i j hi hj => by rw [rw_mkM hi, if_neg (by omega)]
/-- .. of rows behind -/
theorem det_up {n : Nat} {A B : Mat} (hA : A.length = n) (hB : B.length = n) (h : ∀ k, k < n → Comb n A (fun i => k < i ∧ i < n) (rw' B k) (rw' A k)) : det n B = det n A := by
  have key : ∀ d, d ≤ n → det n (mkM n fun i => if i < d then rw' B i else rw' A i) = det n A := by
    intro d
    induction d with
    | zero =>
      intro _
      exact det_ent fun i j hi hj => by rw [rw_mkM hi, if_neg (by omega)]
    | succ d ih =>
      intro hd
      rw [← ih (by omega)]
      have hdn : d < n := by omega
      have c := comb_set (n := n) (k := d) (A := A) (H := mkM n fun i => if i < d then rw' B i else rw' A i) (P := fun i => d < i ∧ i < n) hdn mkM_len (fun i hi => ⟨hi.2, by omega, by rw [rw_mkM hi.2, if_neg (by omega)]⟩) (h d hdn)
      have e1 : (mkM n fun i => if i < d then rw' B i else rw' A i).set d (rw' B d) = mkM n fun i => if i < d + 1 then rw' B i else rw' A i := by
        refine mat_ext (by rw [List.length_set, mkM_len, mkM_len]) fun i hi => ?_
        rw [List.length_set, mkM_len] at hi
        by_cases e : i = d
        · subst e
          rw [rw_set_eq (by rw [mkM_len]; exact hi), rw_mkM hi, if_pos (by omega)]
        · rw [rw_set_ne (by omega), rw_mkM hi, rw_mkM hi]
          by_cases z : i < d
          · rw [if_pos z, if_pos (by omega)]
          · rw [if_neg z, if_neg (by omega)]
      have e2 : (mkM n fun i => if i < d then rw' B i else rw' A i).set d (rw' A d) = mkM n fun i => if i < d then rw' B i else rw' A i := by
        refine mat_ext (by rw [List.length_set]) fun i hi => ?_
        rw [List.length_set, mkM_len] at hi
        by_cases e : i = d
        · subst e
          rw [rw_set_eq (by rw [mkM_len]; exact hi), rw_mkM hi, if_neg (by omega)]
        · rw [rw_set_ne (by omega)]
      rw [e1, e2] at c
      exact c
  have h0 := key n (Nat.le_refl _)
  rw [← h0]
  exact det_ent fun i j hi hj => by rw [rw_mkM hi, if_pos hi]

/-! ### elimination, downwards -/
structure Gs (n nc : Nat) (O W : Mat) (a : Nat) : Prop where
  lo : O.length = n
  lw : W.length = n
  comb : ∀ k, k < n → Comb nc O (fun i => i < k ∧ i < a) (rw' W k) (rw' O k)
  tri : ∀ k j, k < n → j < a → j < k → ent (rw' W k) j = 0
  piv : ∀ i, i < a → ent (rw' W i) i ≠ 0
theorem Gs.start {n nc : Nat} {O : Mat} (h : O.length = n) : Gs n nc O O 0 := ⟨h, h, fun _ _ => .refl, fun _ _ _ z => absurd z (Nat.not_lt_zero _), fun _ z => absurd z (Nat.not_lt_zero _)⟩
theorem Gs.swap {n nc : Nat} {O W : Mat} {a f : Nat} (h : Gs n nc O W a) (hf : a ≤ f) (hfn : f < n) : Gs n nc (swp O a f) (swp W a f) a := by
  have hO := fun j => rw_swp (m := O) (i := a) (k := f) (j := j) (by rw [h.lo]; omega) (by rw [h.lo]; omega)
  have hW := fun j => rw_swp (m := W) (i := a) (k := f) (j := j) (by rw [h.lw]; omega) (by rw [h.lw]; omega)
  have same : ∀ i, i < a → rw' (swp O a f) i = rw' O i := fun i hi => by rw [hO, if_neg (by omega), if_neg (by omega)]
  refine ⟨by rw [swp_len]; exact h.lo, by rw [swp_len]; exact h.lw, fun k hk => ?_, fun k j hk hj hjk => ?_, fun i hi => ?_⟩
  · rw [hO k, hW k]
    by_cases e1 : k = f
    · subst e1
      rw [if_pos rfl, if_pos rfl]
      exact (h.comb a (by omega)).move fun i hi => ⟨⟨by omega, hi.2⟩, same i hi.2⟩
    · rw [if_neg e1, if_neg e1]
      by_cases e2 : k = a
      · subst e2
        rw [if_pos rfl, if_pos rfl]
        exact (h.comb f hfn).move fun i hi => ⟨⟨hi.2, hi.2⟩, same i hi.2⟩
      · rw [if_neg e2, if_neg e2]
        exact (h.comb k hk).move fun i hi => ⟨hi, same i hi.2⟩
  · rw [hW]
    by_cases e1 : k = f
    · rw [if_pos e1]
      exact h.tri a j (by omega) hj hj
    · rw [if_neg e1]
      by_cases e2 : k = a
      · rw [if_pos e2]
        exact h.tri f j hfn hj (by omega)
      · rw [if_neg e2]
        exact h.tri k j hk hj hjk
  · rw [hW, if_neg (by omega), if_neg (by omega)]
    exact h.piv i hi
/-- a row less as much of another one as makes it 0 in column a -/
def clr (row p : Row) (a : Nat) : Row := if ent row a = 0 then row else List.zipWith (fun v q => v - ent row a / ent p a * q) row p
theorem clr_len {row p : Row} {a : Nat} (h : p.length = row.length) : (clr row p a).length = row.length := by
  unfold clr
  split
  · rfl
  · rw [List.length_zipWith, h, Nat.min_self]
theorem ent_clr {row p : Row} {a j : Nat} (h : p.length = row.length) : ent (clr row p a) j = ent row j + (- (ent row a / ent p a)) * ent p j := by
  unfold clr
  split
  · rename_i e
    rw [e, Rat.div_def, Rat.zero_mul]
    grind
  · by_cases hj : j < row.length
    · simp only [ent, List.getD_eq_getElem?_getD]
      rw [List.getElem?_zipWith, List.getElem?_eq_getElem hj, List.getElem?_eq_getElem (by omega)]
      simp only [Option.getD_some]
      grind
    · simp only [ent, List.getD_eq_getElem?_getD]
      have z : ∀ f : Rat → Rat → Rat, (List.zipWith f row p)[j]? = none := fun f => List.getElem?_eq_none (by rw [List.length_zipWith]; omega)
      rw [z, List.getElem?_eq_none (show row.length ≤ j by omega), List.getElem?_eq_none (show p.length ≤ j by omega)]
      simp only [Option.getD_none]
      grind
def clrG (W : Mat) (a : Nat) : Mat := mkM W.length fun k => if a < k then clr (rw' W k) (rw' W a) a else rw' W k
def Wide (nc : Nat) (W : Mat) : Prop := ∀ k, k < W.length → (rw' W k).length = nc
theorem Wide.swp {nc : Nat} {W : Mat} {a f : Nat} (h : Wide nc W) (ha : a < W.length) (hf : f < W.length) : Wide nc (swp W a f) := fun k hk => by
  rw [swp_len] at hk
  rw [rw_swp ha hf]
  split
  · exact h a ha
  · split
    · exact h f hf
    · exact h k hk
theorem Wide.clrG {nc : Nat} {W : Mat} {a : Nat} (h : Wide nc W) (ha : a < W.length) : Wide nc (clrG W a) := fun k hk => by
  unfold Rz.clrG at hk ⊢
  rw [mkM_len] at hk
  rw [rw_mkM hk]
  split
  · rw [clr_len (by rw [h a ha, h k hk]), h k hk]
  · exact h k hk
theorem Gs.clear {n nc : Nat} {O W : Mat} {a : Nat} (h : Gs n nc O W a) (hw : Wide nc W) (ha : a < n) (hac : a < nc) (hp : ent (rw' W a) a ≠ 0) : Gs n nc O (clrG W a) (a + 1) := by
  have hr : ∀ k, k < n → rw' (clrG W a) k = if a < k then clr (rw' W k) (rw' W a) a else rw' W k := fun k hk => by
    unfold clrG
    rw [rw_mkM (by rw [h.lw]; exact hk)]
  have hl : ∀ k, k < n → (rw' W a).length = (rw' W k).length := fun k hk => by rw [hw a (by rw [h.lw]; exact ha), hw k (by rw [h.lw]; exact hk)]
  refine ⟨h.lo, by unfold clrG; rw [mkM_len]; exact h.lw, fun k hk => ?_, fun k j hk hj hjk => ?_, fun i hi => ?_⟩
  · rw [hr k hk]
    split
    · rename_i hak
      refine Comb.add (a := a) (h.comb a ha) (fun i hi => ⟨by omega, by omega⟩) ⟨hak, by omega⟩ rfl (c := - (ent (rw' W k) a / ent (rw' W a) a)) ((h.comb k hk).move fun i hi => ⟨⟨hi.1, by omega⟩, rfl⟩) fun j hj => ent_clr (hl k hk)
    · rename_i hak
      exact (h.comb k hk).move fun i hi => ⟨⟨hi.1, by omega⟩, rfl⟩
  · rw [hr k hk]
    split
    · rename_i hak
      rw [ent_clr (hl k hk)]
      by_cases e : j = a
      · subst e
        have : ent (rw' W k) j / ent (rw' W j) j * ent (rw' W j) j = ent (rw' W k) j := Rat.div_mul_cancel hp
        grind
      · rw [h.tri k j hk (by omega) hjk, h.tri a j ha (by omega) (by omega)]
        grind
    · exact h.tri k j hk (by omega) hjk
  · rw [hr i (by omega), if_neg (by omega)]
    by_cases e : i = a
    · subst e
      exact hp
    · exact h.piv i (by omega)
/-- what stands at an entry: a quotient of minors -/
theorem Gs.lead {n nc : Nat} {O W : Mat} {a m : Nat} (h : Gs n nc O W a) (hm : m ≤ a) (hmn : m ≤ n) (hac : a ≤ nc) : det m (mkM m fun t => Rz.sel m id (rw' O t)) = prodN m fun t => ent (rw' W t) t := by
  have e1 := det_down (n := m) (A := mkM m fun t => Rz.sel m id (rw' O t)) (B := mkM m fun t => Rz.sel m id (rw' W t)) mkM_len mkM_len fun k hk => by
    rw [rw_mkM hk, rw_mkM hk]
    exact (h.comb k (by omega)).sel (fun t ht => by show t < nc; omega) fun i hi => ⟨hi.1, by rw [rw_mkM (by omega)]⟩
  rw [← e1, det_tri mkM_len fun k j hk hj => ?_]
  · exact prodN_congr fun i hi => by rw [rw_mkM hi, ent_sel hi]; rfl
  · rw [rw_mkM hk, ent_sel (by omega)]
    exact h.tri k j (by omega) (by omega) hj
theorem Gs.entry {n nc : Nat} {O W : Mat} {a m k j : Nat} (h : Gs n nc O W a) (hk : k < n) (hm : m = min k a) (hj : j < nc) (hac : a ≤ nc) :
    det (m + 1) (mkM (m + 1) fun t => Rz.sel (m + 1) (fun s => if s < m then s else j) (rw' O (if t < m then t else k))) = (prodN m fun t => ent (rw' W t) t) * ent (rw' W k) j := by
  have e1 := det_down (n := m + 1) (A := mkM (m + 1) fun t => Rz.sel (m + 1) (fun s => if s < m then s else j) (rw' O (if t < m then t else k))) (B := mkM (m + 1) fun t => Rz.sel (m + 1) (fun s => if s < m then s else j) (rw' W (if t < m then t else k))) mkM_len mkM_len fun t ht => by
    rw [rw_mkM ht, rw_mkM ht]
    refine (h.comb _ (by split <;> omega)).sel (fun s hs => by split <;> omega) fun i hi => ?_
    have hit : i < t ∧ i < m := by
      split at hi <;> omega
    exact ⟨hit.1, by rw [rw_mkM (by omega), if_pos hit.2]⟩
  rw [← e1, det_tri mkM_len fun t s ht hs => ?_]
  · simp only [prodN]
    rw [rw_mkM (Nat.lt_succ_self _), ent_sel (Nat.lt_succ_self _), if_neg (Nat.lt_irrefl _), if_neg (Nat.lt_irrefl _)]
    rw [prodN_congr (g := fun t => ent (rw' W t) t) fun i hi => by rw [rw_mkM (by omega), ent_sel (by omega), if_pos hi, if_pos hi]]
  · rw [rw_mkM ht, ent_sel (by omega), if_pos (show s < m by omega)]
    split
    · exact h.tri t s (by omega) (by omega) hs
    · exact h.tri k s hk (by omega) (by omega)
end Rz

namespace Rz

/-! ### sizes: as much as L of it is an integer of at most B -/
def Sc (L B : Nat) (q : Rat) : Prop := ∃ z : Int, q * ((L : Int) : Rat) = (z : Rat) ∧ z.natAbs ≤ B
theorem Sc.mul {L B L' B' : Nat} {p q : Rat} (h : Sc L B p) (k : Sc L' B' q) : Sc (L * L') (B * B') (p * q) := by
  obtain ⟨z, e, b⟩ := h
  obtain ⟨z', e', b'⟩ := k
  refine ⟨z * z', ?_, by rw [Int.natAbs_mul]; exact Nat.mul_le_mul b b'⟩
  rw [Int.natCast_mul, Rat.intCast_mul, Rat.intCast_mul, ← e, ← e']
  grind
theorem Sc.add {L B B' : Nat} {p q : Rat} (h : Sc L B p) (k : Sc L B' q) : Sc L (B + B') (p + q) := by
  obtain ⟨z, e, b⟩ := h
  obtain ⟨z', e', b'⟩ := k
  refine ⟨z + z', ?_, by omega⟩
  rw [Rat.intCast_add, ← e, ← e']
  grind
theorem Sc.neg {L B : Nat} {p : Rat} (h : Sc L B p) : Sc L B (-p) := by
  obtain ⟨z, e, b⟩ := h
  refine ⟨-z, ?_, by omega⟩
  rw [Rat.intCast_neg, ← e]
  grind
theorem Sc.sgn {L B k : Nat} {p : Rat} (h : Sc L B p) : Sc L B (Rz.sgn k * p) := by
  unfold Rz.sgn
  split
  · rw [Rat.one_mul]
    exact h
  · have := h.neg
    rw [show (-1 : Rat) * p = -p by grind]
    exact this
theorem Sc.zero {L B : Nat} : Sc L B 0 := ⟨0, by rw [Rat.zero_mul]; rfl, Nat.zero_le _⟩
theorem Sc.one {B : Nat} (h : 1 ≤ B) : Sc 1 B 1 := ⟨1, by rw [Rat.one_mul]; rfl, h⟩
theorem Sc.mono {L B B' : Nat} {p : Rat} (h : Sc L B p) (l : B ≤ B') : Sc L B' p := let ⟨z, e, b⟩ := h; ⟨z, e, Nat.le_trans b l⟩
theorem sumN_sc {L B : Nat} : ∀ {n : Nat} {f : Nat → Rat}, (∀ i, i < n → Sc L B (f i)) → Sc L (n * B) (sumN n f)
  | 0, f, _ => Sc.zero
  | n + 1, f, h => by
    rw [Nat.succ_mul]
    exact (sumN_sc fun i hi => h i (by omega)).add (h n (by omega))
def fct : Nat → Nat
  | 0 => 1
  | n + 1 => (n + 1) * fct n
theorem det_sc {L B : Nat} : ∀ {n : Nat} {m : Mat}, m.length = n → (∀ i j, i < n → j < n → Sc L B (ent (rw' m i) j)) → Sc (L ^ n) (fct n * B ^ n) (det n m)
  | 0, m, _, _ => Sc.one (by simp [fct])
  | n + 1, m, hl, h => by
    have key : ∀ i, i < n + 1 → Sc (L ^ (n + 1)) (B * (fct n * B ^ n)) (sgn (n - i) * ent (rw' m i) n * det n (m.eraseIdx i)) := fun i hi => by
      have hl2 : (m.eraseIdx i).length = n := by rw [List.length_eraseIdx, if_pos (by omega)]; omega
      have h1 := h i n hi (by omega)
      have h2 := det_sc (L := L) (B := B) hl2 fun k j hk hj => by
        rcases Nat.lt_or_ge k i with z | z
        · rw [rw_erase_lt z]
          exact h k j (by omega) (by omega)
        · rw [rw_erase_ge z]
          exact h (k + 1) j (by omega) (by omega)
      have h3 := (h1.mul h2).sgn (k := n - i)
      rw [Rat.mul_assoc, Nat.pow_succ, Nat.mul_comm (L ^ n) L]
      exact h3
    simp only [det]
    have := sumN_sc key
    rw [show fct (n + 1) * B ^ (n + 1) = (n + 1) * (B * (fct n * B ^ n)) by
      show (n + 1) * fct n * B ^ (n + 1) = _
      rw [Nat.pow_succ]
      simp only [Nat.mul_assoc, Nat.mul_comm, Nat.mul_left_comm]]
    exact this
theorem Sc.bd {L B k : Nat} {q : Rat} (h : Sc L B q) (hL : 0 < L) (h1 : L < 2 ^ k) (h2 : B < 2 ^ k) : Bd k q := by
  obtain ⟨z, e, b⟩ := h
  have hL0 : ((L : Int) : Rat) ≠ 0 := fun z => by
    have := Rat.intCast_eq_zero_iff.mp z
    omega
  have e2 : q = Rat.divInt z (L : Int) := by
    rw [Rat.divInt_eq_div, ← e, Rat.div_def, Rat.mul_assoc, Rat.mul_inv_cancel _ hL0, Rat.mul_one]
  rw [e2]
  exact Bd.of (by omega) (by omega) (by omega)
theorem fct_mono : ∀ {m n : Nat}, m ≤ n → fct m ≤ fct n
  | m, 0, h => by
    have : m = 0 := by omega
    subst this
    exact Nat.le_refl _
  | m, n + 1, h => by
    rcases Nat.lt_or_eq_of_le h with z | z
    · exact Nat.le_trans (show fct m ≤ fct n from fct_mono (by omega)) (show fct n ≤ (n + 1) * fct n from Nat.le_mul_of_pos_left _ (by omega))
    · rw [z]
      exact Nat.le_refl _
/-- the sizes of all minors -/
structure Small (n nc L B k : Nat) (O : Mat) : Prop where
  sc : ∀ i j, i < n → j < nc → Sc L B (ent (rw' O i) j)
  L0 : 0 < L
  B0 : 0 < B
  hL : L ^ n < 2 ^ k
  hB : fct n * B ^ n < 2 ^ k
theorem Small.minor {n nc L B k m : Nat} {O : Mat} (h : Small n nc L B k O) (hm : m ≤ n) {f : Nat → Row} (hf : ∀ i j, i < m → j < m → ∃ i' j', i' < n ∧ j' < nc ∧ ent (f i) j = ent (rw' O i') j') : Bd k (det m (mkM m f)) := by
  have := det_sc (L := L) (B := B) (m := mkM m f) mkM_len fun i j hi hj => by
    rw [rw_mkM hi]
    obtain ⟨i', j', a, b, e⟩ := hf i j hi hj
    rw [e]
    exact h.sc i' j' a b
  refine this.bd (Nat.pow_pos h.L0) (Nat.lt_of_le_of_lt (Nat.pow_le_pow_right h.L0 hm) h.hL) (Nat.lt_of_le_of_lt ?_ h.hB)
  exact Nat.mul_le_mul (fct_mono hm) (Nat.pow_le_pow_right h.B0 hm)
theorem Gs.leadBd {n nc L B k : Nat} {O W : Mat} {a m : Nat} (h : Gs n nc O W a) (s : Small n nc L B k O) (hm : m ≤ a) (hmn : m ≤ n) (hac : a ≤ nc) : Bd k (prodN m fun t => ent (rw' W t) t) := by
  rw [← h.lead hm hmn hac]
  exact s.minor hmn fun i j hi hj => ⟨i, j, by omega, by omega, by rw [ent_sel hj]; rfl⟩
theorem Gs.leadNe {n nc : Nat} {O W : Mat} {a m : Nat} (h : Gs n nc O W a) (hm : m ≤ a) : (prodN m fun t => ent (rw' W t) t) ≠ 0 := prodN_ne fun i hi => h.piv i (by omega)
theorem Gs.bd {n nc L B k : Nat} {O W : Mat} {a i j : Nat} (h : Gs n nc O W a) (s : Small n nc L B k O) (hi : i < n) (hj : j < nc) (hac : a ≤ nc) : Bd (k + k) (ent (rw' W i) j) := by
  have e := h.entry (m := min i a) hi rfl hj hac
  have b1 : Bd k (det (min i a + 1) (mkM (min i a + 1) fun t => Rz.sel (min i a + 1) (fun s => if s < min i a then s else j) (rw' O (if t < min i a then t else i)))) := by
    refine s.minor (by omega) fun i' j' hi' hj' => ⟨if i' < min i a then i' else i, if j' < min i a then j' else j, by split <;> omega, by split <;> omega, by rw [ent_sel hj']⟩
  have b2 := h.leadBd s (m := min i a) (by omega) (by omega) hac
  have n2 := h.leadNe (m := min i a) (by omega)
  have : ent (rw' W i) j = det (min i a + 1) (mkM (min i a + 1) fun t => Rz.sel (min i a + 1) (fun s => if s < min i a then s else j) (rw' O (if t < min i a then t else i))) / prodN (min i a) fun t => ent (rw' W t) t := by
    rw [e]
    grind
  rw [this]
  exact b1.div b2 n2

/-! ### elimination, in both directions -/
structure Js (n nc : Nat) (O U W : Mat) (a : Nat) : Prop where
  g : Gs n nc O U a
  lw : W.length = n
  low : ∀ k, a ≤ k → k < n → rw' W k = rw' U k
  up : ∀ k, k < a → k < n → Comb nc U (fun i => k < i ∧ i < a) (rw' W k) (rw' U k)
  dg : ∀ k j, k < n → j < a → k ≠ j → ent (rw' W k) j = 0
def clrJ (W : Mat) (a : Nat) : Mat := mkM W.length fun k => if k = a then rw' W k else clr (rw' W k) (rw' W a) a
theorem Js.start {n nc : Nat} {O : Mat} (h : O.length = n) : Js n nc O O O 0 := ⟨.start h, h, fun _ _ _ => rfl, fun _ z => absurd z (Nat.not_lt_zero _), fun _ _ _ z => absurd z (Nat.not_lt_zero _)⟩
theorem Js.swap {n nc : Nat} {O U W : Mat} {a f : Nat} (h : Js n nc O U W a) (hf : a ≤ f) (hfn : f < n) : Js n nc (swp O a f) (swp U a f) (swp W a f) a := by
  have hU := fun j => rw_swp (m := U) (i := a) (k := f) (j := j) (by rw [h.g.lw]; omega) (by rw [h.g.lw]; omega)
  have hW := fun j => rw_swp (m := W) (i := a) (k := f) (j := j) (by rw [h.lw]; omega) (by rw [h.lw]; omega)
  refine ⟨h.g.swap hf hfn, by rw [swp_len]; exact h.lw, fun k hk hkn => ?_, fun k hk hkn => ?_, fun k j hk hj hne => ?_⟩
  · rw [hU, hW, h.low a (Nat.le_refl _) (by omega), h.low f hf hfn, h.low k hk hkn]
  · rw [hU k, hW k, if_neg (by omega), if_neg (by omega), if_neg (by omega), if_neg (by omega)]
    exact (h.up k hk hkn).move fun i hi => ⟨hi, by rw [hU, if_neg (by omega), if_neg (by omega)]⟩
  · rw [hW]
    by_cases e1 : k = f
    · rw [if_pos e1]
      exact h.dg a j (by omega) hj (by omega)
    · rw [if_neg e1]
      by_cases e2 : k = a
      · rw [if_pos e2]
        exact h.dg f j hfn hj (by omega)
      · rw [if_neg e2]
        exact h.dg k j hk hj hne
theorem Wide.clrJ {nc : Nat} {W : Mat} {a : Nat} (h : Wide nc W) (ha : a < W.length) : Wide nc (clrJ W a) := fun k hk => by
  unfold Rz.clrJ at hk ⊢
  rw [mkM_len] at hk
  rw [rw_mkM hk]
  split
  · exact h k hk
  · rw [clr_len (by rw [h a ha, h k hk]), h k hk]
theorem Js.clear {n nc : Nat} {O U W : Mat} {a : Nat} (h : Js n nc O U W a) (hw : Wide nc W) (hu : Wide nc U) (ha : a < n) (hac : a < nc) (hp : ent (rw' W a) a ≠ 0) : Js n nc O (clrG U a) (clrJ W a) (a + 1) := by
  have ea := h.low a (Nat.le_refl _) ha
  have hrU : ∀ k, k < n → rw' (clrG U a) k = if a < k then clr (rw' U k) (rw' U a) a else rw' U k := fun k hk => by
    unfold clrG
    rw [rw_mkM (by rw [h.g.lw]; exact hk)]
  have hrW : ∀ k, k < n → rw' (clrJ W a) k = if k = a then rw' W k else clr (rw' W k) (rw' W a) a := fun k hk => by
    unfold clrJ
    rw [rw_mkM (by rw [h.lw]; exact hk)]
  have hl : ∀ k, k < n → (rw' W a).length = (rw' W k).length := fun k hk => by rw [hw a (by rw [h.lw]; exact ha), hw k (by rw [h.lw]; exact hk)]
  refine ⟨h.g.clear hu ha hac (by rw [← ea]; exact hp), by unfold clrJ; rw [mkM_len]; exact h.lw, fun k hk hkn => ?_, fun k hk hkn => ?_, fun k j hk hj hne => ?_⟩
  · rw [hrU k hkn, hrW k hkn, if_neg (by omega), if_pos (by omega), h.low k (by omega) hkn, ea]
  · rw [hrU k hkn, if_neg (show ¬ a < k by omega), hrW k hkn]
    by_cases e : k = a
    · rw [if_pos e, e, ea]
      exact .refl
    · rw [if_neg e]
      have c := (h.up k (by omega) hkn).move (O' := clrG U a) (P' := fun i => k < i ∧ i < a + 1) fun i hi => ⟨⟨hi.1, by omega⟩, by rw [hrU i (by omega), if_neg (by omega)]⟩
      refine .step a (- (ent (rw' W k) a / ent (rw' W a) a)) ⟨by omega, by omega⟩ c fun j hj => ?_
      rw [ent_clr (hl k hkn), hrU a ha, if_neg (by omega), ← ea]
  · rw [hrW k hk]
    by_cases e : k = a
    · rw [if_pos e]
      exact h.dg k j hk (by omega) hne
    · rw [if_neg e, ent_clr (hl k hk)]
      by_cases e2 : j = a
      · subst e2
        have : ent (rw' W k) j / ent (rw' W j) j * ent (rw' W j) j = ent (rw' W k) j := Rat.div_mul_cancel hp
        grind
      · rw [h.dg k j hk (by omega) hne, h.dg a j ha (by omega) (by omega)]
        grind
/-- the diagonal is that of the one direction -/
theorem Js.diag {n nc : Nat} {O U W : Mat} {a k : Nat} (h : Js n nc O U W a) (hk : k < a) (hkn : k < n) (han : a ≤ n) (hac : a ≤ nc) : ent (rw' W k) k = ent (rw' U k) k := by
  have key : ∀ {r s : Row}, Comb nc U (fun i => k < i ∧ i < a) r s → ent r k = ent s k := fun c => by
    induction c with
    | base h => exact h k (by omega)
    | step i c hi _ e ih =>
      rw [e k (by omega), ih, h.g.tri i k (by omega) hk hi.1]
      grind
  exact key (h.up k hk hkn)
theorem prodN_at {n k : Nat} {f : Nat → Rat} {x : Rat} (hk : k < n) : (prodN n fun t => if t = k then x else f t) * f k = prodN n f * x := by
  induction n with
  | zero => omega
  | succ n ih =>
    simp only [prodN]
    by_cases e : n = k
    · subst e
      rw [if_pos rfl, prodN_congr (g := f) fun i hi => if_neg (by omega)]
      grind
    · rw [if_neg e]
      have := ih (by omega)
      grind
theorem Js.bd {n nc L B k : Nat} {O U W : Mat} {a i j : Nat} (h : Js n nc O U W a) (s : Small n nc L B k O) (hi : i < n) (hj : j < nc) (han : a ≤ n) (hac : a ≤ nc) : Bd (4 * k) (ent (rw' W i) j) := by
  by_cases hia : a ≤ i
  · rw [h.low i hia hi]
    exact (h.g.bd s hi hj hac).mono (by omega)
  · have hia : i < a := by omega
    obtain ⟨b, rfl⟩ : ∃ b, a = b + 1 := ⟨a - 1, by omega⟩
    -- the minor with column j in the place of column i
    have DO : Bd k (det (b + 1) (mkM (b + 1) fun t => Rz.sel (b + 1) (fun s => if s = b then j else if s = i then b else s) (rw' O t))) := by
      refine s.minor han fun i' j' hi' hj' => ⟨i', if j' = b then j else if j' = i then b else j', by omega, ?_, by rw [ent_sel hj']⟩
      split
      · exact hj
      · split <;> omega
    have hcs : ∀ t, t < b + 1 → (if t = b then j else if t = i then b else t) < nc := fun t ht => by
      split
      · exact hj
      · split <;> omega
    have e1 := det_down (n := b + 1) (A := mkM (b + 1) fun t => Rz.sel (b + 1) (fun s => if s = b then j else if s = i then b else s) (rw' O t)) (B := mkM (b + 1) fun t => Rz.sel (b + 1) (fun s => if s = b then j else if s = i then b else s) (rw' U t)) mkM_len mkM_len fun t ht => by
      rw [rw_mkM ht, rw_mkM ht]
      exact (h.g.comb t (by omega)).sel hcs fun i' hi' => ⟨hi'.1, by rw [rw_mkM (by omega)]⟩
    have e2 := det_up (n := b + 1) (A := mkM (b + 1) fun t => Rz.sel (b + 1) (fun s => if s = b then j else if s = i then b else s) (rw' U t)) (B := mkM (b + 1) fun t => Rz.sel (b + 1) (fun s => if s = b then j else if s = i then b else s) (rw' W t)) mkM_len mkM_len fun t ht => by
      rw [rw_mkM ht, rw_mkM ht]
      exact (h.up t ht (by omega)).sel hcs fun i' hi' => ⟨hi', by rw [rw_mkM (by omega)]⟩
    have lead := h.g.lead (m := b + 1) (Nat.le_refl _) han hac
    have leadW : (prodN (b + 1) fun t => ent (rw' U t) t) = prodN (b + 1) fun t => ent (rw' W t) t := prodN_congr fun t ht => (h.diag ht (by omega) han hac).symm
    have l2 := h.g.leadBd s (m := b + 1) (Nat.le_refl _) han hac
    have l3 := h.g.leadNe (m := b + 1) (Nat.le_refl _)
    have wii : Bd (k + k) (ent (rw' W i) i) := by
      rw [h.diag hia hi han hac]
      exact h.g.bd s hi (by omega) hac
    have sq : ∀ t, t < b + 1 → ∀ q, q < b + 1 → ent (Rz.sel (b + 1) (fun s => if s = b then j else if s = i then b else s) (rw' W t)) q = ent (rw' W t) (if q = b then j else if q = i then b else q) := fun t ht q hq => ent_sel hq
    by_cases eb : i = b
    · subst eb
      have tr := det_tri (n := i + 1) (m := mkM (i + 1) fun t => Rz.sel (i + 1) (fun s => if s = i then j else if s = i then i else s) (rw' W t)) mkM_len fun t q ht hq => by
        rw [rw_mkM ht, sq t ht q (by omega), if_neg (by omega), if_neg (by omega)]
        exact h.dg t q (by omega) (by omega) (by omega)
      simp only [prodN] at tr
      rw [prodN_congr (g := fun t => ent (rw' W t) t) fun t ht => by rw [rw_mkM (by omega), sq t (by omega) t (by omega), if_neg (by omega), if_neg (by omega)], rw_mkM (Nat.lt_succ_self _), sq i (by omega) i (by omega), if_pos rfl] at tr
      have fin : ent (rw' W i) j = det (i + 1) (mkM (i + 1) fun t => Rz.sel (i + 1) (fun s => if s = i then j else if s = i then i else s) (rw' O t)) * ent (rw' W i) i / prodN (i + 1) fun t => ent (rw' U t) t := by
        rw [← e1, ← e2, tr, leadW]
        rw [leadW] at l3
        simp only [prodN] at l3 ⊢
        grind
      rw [fin]
      exact ((DO.mul wii).div l2 l3).mono (by omega)
    · have lM : (mkM (b + 1) fun t => Rz.sel (b + 1) (fun s => if s = b then j else if s = i then b else s) (rw' W t)).length = b + 1 := mkM_len
      have sw := det_swap (n := b + 1) (i := i) (k := b) (m := mkM (b + 1) fun t => Rz.sel (b + 1) (fun s => if s = b then j else if s = i then b else s) (rw' W t)) (by omega) (by omega) lM
      have hS := fun t => rw_swp (m := mkM (b + 1) fun t => Rz.sel (b + 1) (fun s => if s = b then j else if s = i then b else s) (rw' W t)) (i := i) (k := b) (j := t) (by rw [lM]; omega) (by rw [lM]; omega)
      have tr := det_tri (n := b + 1) (m := swp (mkM (b + 1) fun t => Rz.sel (b + 1) (fun s => if s = b then j else if s = i then b else s) (rw' W t)) i b) (by rw [swp_len]; exact lM) fun t q ht hq => by
        rw [hS]
        by_cases z1 : t = b
        · rw [if_pos z1, rw_mkM (by omega), sq i (by omega) q (by omega), if_neg (by omega)]
          split
          · exact h.dg i b (by omega) (by omega) eb
          · exact h.dg i q (by omega) (by omega) (by omega)
        · rw [if_neg z1]
          by_cases z2 : t = i
          · rw [if_pos z2, rw_mkM (by omega), sq b (by omega) q (by omega), if_neg (by omega), if_neg (by omega)]
            exact h.dg b q (by omega) (by omega) (by omega)
          · rw [if_neg z2, rw_mkM (by omega), sq t ht q (by omega), if_neg (by omega)]
            split
            · exact h.dg t b (by omega) (by omega) z1
            · exact h.dg t q (by omega) (by omega) (by omega)
      simp only [prodN] at tr
      rw [prodN_congr (g := fun t => if t = i then ent (rw' W b) b else ent (rw' W t) t) fun t ht => by
        rw [hS, if_neg (by omega)]
        by_cases z2 : t = i
        · rw [if_pos z2, if_pos z2, rw_mkM (by omega), sq b (by omega) t (by omega), if_neg (by omega), if_pos z2]
        · rw [if_neg z2, if_neg z2, rw_mkM (by omega), sq t (by omega) t (by omega), if_neg (by omega), if_neg z2], hS, if_pos rfl, rw_mkM (by omega), sq i (by omega) b (by omega), if_pos rfl] at tr
      have pa := prodN_at (n := b) (k := i) (f := fun t => ent (rw' W t) t) (x := ent (rw' W b) b) (by omega)
      have fin : ent (rw' W i) j = (- det (b + 1) (mkM (b + 1) fun t => Rz.sel (b + 1) (fun s => if s = b then j else if s = i then b else s) (rw' O t))) * ent (rw' W i) i / prodN (b + 1) fun t => ent (rw' U t) t := by
        rw [← e1, ← e2, ← sw, tr, leadW]
        rw [leadW] at l3
        simp only [prodN] at l3 ⊢
        rw [← pa] at l3 ⊢
        grind
      rw [fin]
      exact ((DO.neg.mul wii).div l2 l3).mono (by omega)
/-- what solves the rows that came out solves the rows there were -/
def Sol (n : Nat) (x : Nat → Rat) (r : Row) : Prop := sumN n (fun j => ent r j * x j) = ent r n
theorem Sol.comb {n : Nat} {x : Nat → Rat} {O : Mat} {P : Nat → Prop} {r s : Row} (c : Comb (n + 1) O P r s) (hO : ∀ i, P i → Sol n x (rw' O i)) (hr : Sol n x r) : Sol n x s := by
  induction c with
  | base h =>
    unfold Sol at hr ⊢
    rw [← h n (by omega), ← hr]
    exact sumN_congr fun j hj => by rw [h j (by omega)]
  | step i c hi _ e ih =>
    refine ih ?_
    have hi2 := hO i hi
    unfold Sol at hr hi2 ⊢
    rename_i r0 r1 s0 h0
    have e3 : sumN n (fun j => ent r1 j * x j) = sumN n (fun j => ent r0 j * x j) + c * sumN n fun j => ent (rw' O i) j * x j := by
      rw [← sumN_add]
      exact sumN_congr fun j hj => by
        rw [e j (by omega)]
        grind
    rw [e3, hi2, e n (by omega)] at hr
    grind
theorem Js.sol {n : Nat} {x : Nat → Rat} {O U W : Mat} (h : Js n (n + 1) O U W n) (hW : ∀ k, k < n → Sol n x (rw' W k)) : ∀ k, k < n → Sol n x (rw' O k) := by
  have hU : ∀ d k, n - k = d → k < n → Sol n x (rw' U k) := by
    intro d
    induction d using Nat.strongRecOn with
    | ind d ih =>
      intro k hd hk
      exact Sol.comb (h.up k hk hk) (fun i hi => ih (n - i) (by omega) i rfl hi.2) (hW k hk)
  intro k
  induction k using Nat.strongRecOn with
  | ind k ih =>
    intro hk
    exact Sol.comb (h.g.comb k hk) (fun i hi => ih i hi.1 hi.2) (hU _ k rfl hk)
theorem Js.ends {n : Nat} {O U W : Mat} (h : Js n (n + 1) O U W n) {k : Nat} (hk : k < n) : Sol n (fun j => ent (rw' W j) n / ent (rw' W j) j) (rw' W k) := by
  unfold Sol
  rw [sumN_one (i := k) hk fun j hj hne => ?_]
  · have : ent (rw' W k) k ≠ 0 := by
      rw [h.diag hk hk (Nat.le_refl _) (by omega)]
      exact h.g.piv k hk
    grind
  · rw [h.dg k j hk hj (Ne.symm hne)]
    grind
/-- where there is no pivot, the determinant is 0 -/
theorem Gs.none {n nc : Nat} {O W : Mat} {a : Nat} (h : Gs n nc O W a) (ha : a < n) (hn : n ≤ nc) (hz : ∀ k, a ≤ k → k < n → ent (rw' W k) a = 0) : det n O = 0 := by
  rw [← det_down h.lo h.lw fun k hk => ((h.comb k hk).move (P' := fun i => i < k) fun i hi => ⟨hi.1, rfl⟩).cut hn]
  refine det_flat ha h.lw fun k j h1 h2 h3 => ?_
  rcases Nat.lt_or_eq_of_le h3 with z | z
  · exact h.tri k j h2 z (by omega)
  · rw [z]
    exact hz k h1 h2
end Rz

namespace Rz
open PySem PySem.Spec PyProof.Rows L2

/-! ### methods of lists, by named parts -/
def rInsert : V → List V → Hp → VK → Prop := fun x vs H Q => ∃ (l : Addr) (xs : List V) (i : Int) (y : V), x = .ref l ∧ vs = [.int i, y] ∧ H l = some (.lst xs) ∧ xs.length < sizeLine ∧ 0 ≤ i ∧ i < 2 ^ 63 ∧ Q .non (upd H l (.lst (xs.take i.toNat ++ [y] ++ xs.drop i.toNat)))
theorem zm_insert {X : Cx} : MtR X "list.insert" rInsert := mt_insert
def rBM (K : PySem.W.Frag) (T : String) (r : V → List V → Hp → VK → Prop) (t : TA) (σ : L2.St) (Q : VK) : V → Hp → Prop := fun x H1 => tyV K T x H1 ∧ t σ H1 fun xs H2 => r x xs H2 Q
section
variable {K : PySem.W.Frag} {H : Hp} {σ : L2.St} {t : TA} {Q : VK} {p : Addr} {xs : List V} {r : V → List V → Hp → VK → Prop} {to : TE} {T : String} {v x y : V}
theorem g_bm (h : to σ H (rBM K T r t σ Q)) : tBM K T r to t σ H Q := h
theorem g_bmL (h : SqL K H p xs) (q : t σ H fun vs H2 => r (.ref p) vs H2 Q) : rBM K "list" r t σ Q (.ref p) H := ⟨.inl ⟨rfl, xs, h⟩, q⟩
theorem g_append (h : H p = some (.lst xs)) (hl : xs.length ≤ 1000000) (q : Q .non (upd H p (.lst (xs ++ [y])))) : rAppend (.ref p) [y] H Q := ⟨p, xs, y, rfl, rfl, h, by have := sizeLine_eq; omega, q⟩
theorem g_insert {i : Nat} (h : H p = some (.lst xs)) (hl : xs.length ≤ 1000000) (hi : i ≤ 1000000) (q : Q .non (upd H p (.lst (xs.take i ++ y :: xs.drop i)))) : rInsert (.ref p) [.int (i : Int), y] H Q := by
  refine ⟨p, xs, (i : Int), y, rfl, rfl, h, by have := sizeLine_eq; omega, by omega, by omega, ?_⟩
  rw [Int.toNat_natCast, List.append_assoc]
  exact q
theorem flat_ints (ns : List Int) : (ns.map V.int).all flatV = true := by
  rw [List.all_eq_true]
  intro x hx
  obtain ⟨n, _, rfl⟩ := List.mem_map.mp hx
  rfl
theorem inV_ints (d : Int) (ns : List Int) : inV (.int d) (ns.map V.int) = decide (d ∈ ns) := by
  unfold inV
  induction ns with
  | nil => rfl
  | cons n ns ih =>
    rw [List.map_cons, List.any_cons, ih]
    show ((n == d) || decide (d ∈ ns)) = decide (d ∈ n :: ns)
    by_cases h : n = d
    · subst h
      simp
    · have h' : ¬ d = n := fun z => h z.symm
      simp [h, h']
theorem g_inL {d : Int} {ns : List Int} (h : SqL K H p (ns.map V.int)) (q : Q (.bl (decide (d ∈ ns))) H) : rIn K false (.int d) (.ref p) H Q :=
  ⟨p, _, rfl, .inl h, rfl, flat_ints ns, by rw [inV_ints]; exact q⟩
theorem g_index {d : Int} {ns : List Int} (h : SqL K H p (ns.map V.int)) (hd : d ∈ ns) (q : Q (.int (ns.idxOf d : Nat)) H) : rIndex K (.ref p) [.int d] H Q := by
  have hlt : ns.idxOf d < ns.length := List.idxOf_lt_length_of_mem hd
  refine ⟨p, ns.map V.int, .int d, ns.idxOf d, .int d, rfl, rfl, h, rfl, flat_ints ns, ?_, ?_, fun m z hm hz => ?_, q⟩
  · rw [List.getElem?_map, List.getElem?_eq_getElem hlt, List.getElem_idxOf]
    rfl
  · show (d == d) = true
    exact beq_self_eq_true d
  · rw [List.getElem?_map] at hz
    have hml : m < ns.length := by omega
    rw [List.getElem?_eq_getElem hml] at hz
    cases hz
    show (ns[m] == d) = false
    exact List.not_of_lt_findIdx (p := fun x => x == d) (xs := ns) (i := m) hm
end

/-! ### the rows of darts -/
abbrev Rows := List (List Int)
def twin (d : Int) : Int := d + 1 - 2 * (d % 2)
def atM (rows : Rows) (d : Int) : Nat × Nat :=
  let k := rows.findIdx fun r => decide (d ∈ r)
  if k < rows.length then (k, (rows.getD k []).idxOf d) else (0, 0)
def ins (i : Nat) (x : Int) (l : List Int) : List Int := l.take i ++ x :: l.drop i
def modRow (rows : Rows) (n : Nat) (f : List Int → List Int) : Rows := rows.set n (f (rows.getD n []))
/-- the next dart of the face to the left, none at the rim -/
def nxt (rows : Rows) (rim : Nat) (d : Int) : Option Int :=
  let q := atM rows (twin d)
  let row := rows.getD q.1 []
  if q.1 < rim ∧ q.2 + 1 = row.length then none else row[(q.2 + 1) % row.length]?
def walkF (rows : Rows) (rim : Nat) : Nat → List Int → Int → List Int
  | 0, found, _ => found
  | n + 1, found, d => match nxt rows rim d with
    | none => found
    | some d' => if some d' = found.head? then found else walkF rows rim n (found ++ [d']) d'
def faceM (rows : Rows) (rim : Nat) (d : Int) : List Int := walkF rows rim 200 [d] d
structure WF (rows : Rows) (E : Nat) : Prop where
  nd : rows.flatten.Nodup
  mem : ∀ d : Int, d ∈ rows.flatten ↔ 0 ≤ d ∧ d < 2 * (E : Int)
theorem mem_flat {rows : Rows} {d : Int} : d ∈ rows.flatten ↔ ∃ (k : Nat) (row : List Int), rows[k]? = some row ∧ d ∈ row := by
  rw [List.mem_flatten]
  constructor
  · rintro ⟨l, hl, hd⟩
    obtain ⟨k, hk⟩ := List.mem_iff_getElem?.mp hl
    exact ⟨k, l, hk, hd⟩
  · rintro ⟨k, row, hk, hd⟩
    exact ⟨row, List.mem_of_getElem? hk, hd⟩
/-- where a dart stands -/
theorem at_spec {rows : Rows} {d : Int} (h : d ∈ rows.flatten) : ∃ row, rows[(atM rows d).1]? = some row ∧ row[(atM rows d).2]? = some d := by
  obtain ⟨k, row, hk, hd⟩ := mem_flat.mp h
  have hlt : rows.findIdx (fun r => decide (d ∈ r)) < rows.length := List.findIdx_lt_length.mpr ⟨row, List.mem_of_getElem? hk, decide_eq_true hd⟩
  have hp := List.findIdx_getElem (xs := rows) (p := fun r => decide (d ∈ r)) (w := hlt)
  have hmem : d ∈ rows[rows.findIdx (fun r => decide (d ∈ r))] := of_decide_eq_true hp
  unfold atM
  simp only [hlt, if_true]
  refine ⟨_, List.getElem?_eq_getElem hlt, ?_⟩
  rw [List.getD_eq_getElem?_getD, List.getElem?_eq_getElem hlt, Option.getD_some]
  have h2 := List.idxOf_lt_length_of_mem hmem
  rw [List.getElem?_eq_getElem h2, List.getElem_idxOf]

/-! ### rows in the heap -/
structure RowsAt (H : Hp) (T : Addr) (rs : List Addr) (rows : Rows) : Prop where
  top : H T = some (.lst (rs.map V.ref))
  len : rs.length = rows.length
  at_ : ∀ (i : Nat) r row, rs[i]? = some r → rows[i]? = some row → H r = some (.lst (row.map V.int))
  nd : rs.Nodup
theorem RowsAt.get {H : Hp} {T : Addr} {rs : List Addr} {rows : Rows} (h : RowsAt H T rs rows) {i : Nat} {row : List Int} (e : rows[i]? = some row) : ∃ r, rs[i]? = some r ∧ H r = some (.lst (row.map V.int)) := by
  have hi : i < rs.length := by
    rw [h.len]
    exact (List.getElem?_eq_some_iff.mp e).1
  exact ⟨rs[i], List.getElem?_eq_getElem hi, h.at_ i _ row (List.getElem?_eq_getElem hi) e⟩
theorem RowsAt.neT {H : Hp} {T : Addr} {rs : List Addr} {rows : Rows} (h : RowsAt H T rs rows) {r : Addr} (hr : r ∈ rs) : r ≠ T := by
  intro e
  subst e
  obtain ⟨i, hi⟩ := List.mem_iff_getElem?.mp hr
  have hl : i < rows.length := by
    rw [← h.len]
    exact (List.getElem?_eq_some_iff.mp hi).1
  have h1 := h.at_ i r _ hi (List.getElem?_eq_getElem hl)
  have h2 := h.top
  rw [h1] at h2
  have h3 : (rows[i].map V.int) = rs.map V.ref := by
    injection h2 with h2
    injection h2
  cases hrs : rs with
  | nil =>
    rw [hrs] at hr
    cases hr
  | cons r' rs' =>
    rw [hrs] at h3
    cases hrow : rows[i] with
    | nil =>
      rw [hrow] at h3
      cases h3
    | cons z zs =>
      rw [hrow] at h3
      injection h3 with h3 _
      cases h3
theorem RowsAt.keep {H H' : Hp} {T : Addr} {rs : List Addr} {rows : Rows} (h : RowsAt H T rs rows) (k : ∀ b, b = T ∨ b ∈ rs → ∀ o, H b = some o → H' b = some o) : RowsAt H' T rs rows :=
  ⟨k T (.inl rfl) _ h.top, h.len, fun i r row a b => k r (.inr (List.mem_of_getElem? a)) _ (h.at_ i r row a b), h.nd⟩
theorem RowsAt.same {H H' : Hp} {T : Addr} {rs : List Addr} {rows : Rows} (h : RowsAt H T rs rows) (e : Same H H') : RowsAt H' T rs rows := h.keep fun b _ o z => e b o z
/-- a row is written -/
theorem RowsAt.row {H : Hp} {T : Addr} {rs : List Addr} {rows : Rows} (h : RowsAt H T rs rows) {n : Nat} {r : Addr} (hr : rs[n]? = some r) (row' : List Int) : RowsAt (upd H r (.lst (row'.map V.int))) T rs (rows.set n row') := by
  have hm := List.mem_of_getElem? hr
  refine ⟨by rw [upd_ne (h.neT hm).symm]; exact h.top, by rw [List.length_set]; exact h.len, fun i r' row a b => ?_, h.nd⟩
  by_cases hi : n = i
  · subst hi
    rw [hr] at a
    cases a
    have hl : n < rows.length := by
      rw [← h.len]
      exact (List.getElem?_eq_some_iff.mp hr).1
    rw [List.getElem?_set_self hl] at b
    cases b
    exact upd_same
  · rw [List.getElem?_set_ne hi] at b
    have hne : r' ≠ r := by
      intro e
      subst e
      exact hi (nd_ix h.nd hr a)
    rw [upd_ne hne]
    exact h.at_ i r' row a b
/-- a row more -/
theorem RowsAt.push {H : Hp} {T : Addr} {rs : List Addr} {rows : Rows} (h : RowsAt H T rs rows) {r : Addr} {row : List Int} (hr : H r = some (.lst (row.map V.int))) (hn : r ∉ rs) (hT : r ≠ T) :
    RowsAt (upd H T (.lst (rs.map V.ref ++ [.ref r]))) T (rs ++ [r]) (rows ++ [row]) := by
  refine ⟨by rw [upd_same, List.map_append]; rfl, by rw [List.length_append, List.length_append, h.len]; rfl, fun i r' row' a b => ?_, ?_⟩
  · by_cases hi : i < rs.length
    · rw [List.getElem?_append_left hi] at a
      rw [List.getElem?_append_left (h.len ▸ hi)] at b
      rw [upd_ne (h.neT (List.mem_of_getElem? a))]
      exact h.at_ i r' row' a b
    · rw [List.getElem?_append_right (by omega)] at a
      rw [List.getElem?_append_right (by rw [← h.len]; omega), ← h.len] at b
      by_cases h0 : i - rs.length = 0
      · rw [h0] at a b
        cases a
        cases b
        rw [upd_ne hT]
        exact hr
      · obtain ⟨j, hj⟩ : ∃ j, i - rs.length = j + 1 := ⟨i - rs.length - 1, by omega⟩
        rw [hj] at a
        simp at a
  · rw [List.nodup_append]
    refine ⟨h.nd, by simp, ?_⟩
    intro a ha b hb e
    rw [List.mem_singleton.mp hb] at e
    exact hn (e ▸ ha)
/-- a row is another object from now on -/
theorem RowsAt.swap {H : Hp} {T : Addr} {rs : List Addr} {rows : Rows} (h : RowsAt H T rs rows) {n : Nat} {r : Addr} {row : List Int} (hr : H r = some (.lst (row.map V.int))) (hn : r ∉ rs) (hT : r ≠ T) (hl : n < rs.length) :
    RowsAt (upd H T (.lst ((rs.map V.ref).set n (.ref r)))) T (rs.set n r) (rows.set n row) := by
  refine ⟨by rw [upd_same, List.map_set], by rw [List.length_set, List.length_set, h.len], fun i r' row' a b => ?_, ?_⟩
  · by_cases hi : n = i
    · subst hi
      rw [List.getElem?_set_self hl] at a
      rw [List.getElem?_set_self (h.len ▸ hl)] at b
      cases a
      cases b
      rw [upd_ne hT]
      exact hr
    · rw [List.getElem?_set_ne hi] at a
      rw [List.getElem?_set_ne hi] at b
      rw [upd_ne (h.neT (List.mem_of_getElem? a))]
      exact h.at_ i r' row' a b
  · refine List.pairwise_iff_getElem.mpr fun i j hi hj hij => ?_
    have hi' : i < rs.length := by rw [List.length_set] at hi; exact hi
    have hj' : j < rs.length := by rw [List.length_set] at hj; exact hj
    have key := List.pairwise_iff_getElem.mp h.nd i j hi' hj' hij
    rw [List.getElem_set, List.getElem_set]
    split
    · rename_i e1
      split
      · omega
      · intro e
        exact hn (e ▸ List.getElem_mem hj')
    · split
      · intro e
        exact hn (e ▸ List.getElem_mem hi')
      · exact key
theorem twin_range {d : Int} {E : Nat} (h : 0 ≤ d ∧ d < 2 * (E : Int)) : 0 ≤ twin d ∧ twin d < 2 * (E : Int) := by
  unfold twin
  omega
theorem twin_py (d : Int) : d + 1 - 2 * d.fmod 2 = twin d := by
  unfold twin
  rw [Int.fmod_eq_emod_of_nonneg _ (by decide)]
theorem fmod_nat (a b : Nat) : ((a : Int)).fmod (b : Int) = ((a % b : Nat) : Int) := by
  rw [Int.fmod_eq_emod_of_nonneg _ (by omega), Int.natCast_emod]
/-- the next dart is a dart -/
theorem nxt_mem {rows : Rows} {rim : Nat} {d d' : Int} (h : nxt rows rim d = some d') : d' ∈ rows.flatten := by
  unfold nxt at h
  simp only at h
  split at h
  · cases h
  · have hm := List.mem_of_getElem? h
    rw [List.getD_eq_getElem?_getD] at hm
    cases e : rows[(atM rows (twin d)).1]? with
    | none =>
      rw [e] at hm
      cases hm
    | some row =>
      rw [e, Option.getD_some] at hm
      exact mem_flat.mpr ⟨_, row, e, hm⟩
def Few (rows : Rows) : Prop := rows.length ≤ 10000 ∧ ∀ row ∈ rows, row.length ≤ 10000
def spAt : Sp := fun vs H Q _ => ∃ (T : Addr) (d : Int) (rs : List Addr) (rows : Rows), vs = [.ref T, .int d] ∧ RowsAt H T rs rows ∧ d ∈ rows.flatten ∧ Few rows ∧
  ∀ p, H p = none → Q (.ref p) (upd H p (.lst [.int ((atM rows d).1 : Nat), .int ((atM rows d).2 : Nat)]))
def spFace : Sp := fun vs H Q _ => ∃ (T : Addr) (rim E : Nat) (d : Int) (rs : List Addr) (rows : Rows), vs = [.ref T, .int (rim : Int), .int d] ∧ RowsAt H T rs rows ∧ WF rows E ∧ 0 ≤ d ∧ d < 2 * (E : Int) ∧ Few rows ∧
  ∀ p H', Same H H' → H p = none → H' p = some (.lst ((faceM rows rim d).map V.int)) → Q (.ref p) H'
end Rz

namespace Rz
open PySem PySem.Spec PyProof.Rows L2

/-! ### a list of ints is the empty list -/
theorem canLay_ints : ∀ ns : List Int, PyData.canLayAll0 (ns.map PyData.int) = true
  | [] => rfl
  | n :: ns => by
    show (PyData.canLay0 (.int n) && PyData.canLayAll0 (ns.map PyData.int)) = true
    rw [canLay_ints ns]
    rfl
theorem depth_ints : ∀ ns : List Int, PyData.depthAll (ns.map PyData.int) = 0
  | [] => rfl
  | n :: ns => by
    show max (PyData.depth (.int n)) (PyData.depthAll (ns.map PyData.int)) = 0
    rw [depth_ints ns]
    rfl
theorem shaped_ints (ns : List Int) : SeqAt.shaped (.list (ns.map PyData.int)) = true := by
  unfold SeqAt.shaped
  rw [Bool.and_eq_true]
  refine ⟨canLay_ints ns, decide_eq_true ?_⟩
  show PyData.depthAll (ns.map PyData.int) + 1 ≤ 64
  rw [depth_ints ns]
  decide
theorem dp_ints {K : PySem.W.Frag} {H : Hp} : ∀ ns : List Int, DpAll K H (ns.map V.int) (ns.map PyData.int)
  | [] => .nil
  | n :: ns => .cons (.int n) (dp_ints ns)
theorem g_eqNil {K : PySem.W.Frag} {H : Hp} {p q : Addr} {ns : List Int} {Q : VK} (h : SqL K H p (ns.map V.int)) (h2 : SqL K H q []) (k : Q (.bl (decide (ns = []))) H) : rEqD K (.ref p) (.ref q) H Q := by
  refine ⟨.list (ns.map PyData.int), .list [], .lst h (dp_ints ns), .lst h2 .nil, shaped_ints ns, by decide, ?_⟩
  have e : PyData.eqv (.list (ns.map PyData.int)) (.list []) = decide (ns = []) := by
    cases ns with
    | nil => rfl
    | cons n ns => rfl
  rw [e]
  exact k

/-! ### how the rows of a drawing grow -/
inductive Grow (rim E : Nat) (rows : Rows) : Rows → Prop
  | rimEdge (n o j : Nat) (hn : n < rim) (ho : o = (n + 1 + j) % rim) (hs : ∀ i, i < j → (n + 1 + i) % rim ≠ n ∧ rows.getD ((n + 1 + i) % rim) [] = []) :
      Grow rim E rows (modRow (modRow rows n (ins 0 (2 * (E : Int)))) o (fun row => row ++ [2 * (E : Int) + 1]))
  | before (n : Nat) (hn : n < rim) : Grow rim E rows ((rows ++ [rows.getD n [] ++ [2 * (E : Int) + 1]]).set n [2 * (E : Int)])
  | within (e : Nat) (he : e < E) : Grow rim E rows ((rows ++ [[2 * (e : Int) + 1, 2 * (E : Int)]]).set (atM rows (2 * (e : Int) + 1)).1 ((rows.getD (atM rows (2 * (e : Int) + 1)).1 []).set (atM rows (2 * (e : Int) + 1)).2 (2 * (E : Int) + 1)))
  | beside (e : Nat) (he : e < E) (r1 : Rows) (h1 : r1 = modRow rows (atM rows (2 * (e : Int))).1 (ins ((atM rows (2 * (e : Int))).2 + 1) (2 * (E : Int)))) :
      Grow rim E rows (modRow r1 (atM r1 (2 * (e : Int) + 1)).1 (ins (atM r1 (2 * (e : Int) + 1)).2 (2 * (E : Int) + 1)))
  | twig (n p : Nat) (hn : n < rows.length) (hp : p ≤ (rows.getD n []).length) : Grow rim E rows (modRow rows n (ins p (2 * (E : Int))) ++ [[2 * (E : Int) + 1]])
  | loop (n p : Nat) (hn : n < rows.length) (hp : p ≤ (rows.getD n []).length) : Grow rim E rows (modRow (modRow rows n (ins p (2 * (E : Int)))) n (ins (p + 1) (2 * (E : Int) + 1)))
  | across (d x y : Int) (hd : 0 ≤ d ∧ d < 2 * (E : Int)) (hx : x ∈ faceM rows rim d) (hy : y ∈ faceM rows rim d) (r1 : Rows) (h1 : r1 = modRow rows (atM rows x).1 (ins (atM rows x).2 (2 * (E : Int)))) :
      Grow rim E rows (modRow r1 (atM r1 y).1 (ins (atM r1 y).2 (2 * (E : Int) + 1)))

/-! ### the darts stay each once -/
theorem ins_perm (i : Nat) (x : Int) (l : List Int) : (ins i x l).Perm (x :: l) := by
  unfold ins
  have h := List.perm_middle (a := x) (l₁ := l.take i) (l₂ := l.drop i)
  rw [List.take_append_drop] at h
  exact h
theorem flatten_set : ∀ (rows : Rows) (n : Nat) (row row' : List Int) (zs : List Int), rows[n]? = some row → row'.Perm (zs ++ row) → (rows.set n row').flatten.Perm (zs ++ rows.flatten)
  | [], n, row, row', zs, h, _ => by simp at h
  | r :: rows, 0, row, row', zs, h, p => by
    have e : r = row := Option.some.inj h
    subst e
    show (row' ++ rows.flatten).Perm (zs ++ (r ++ rows.flatten))
    rw [← List.append_assoc]
    exact List.Perm.append_right _ p
  | r :: rows, n + 1, row, row', zs, h, p => by
    show (r ++ (rows.set n row').flatten).Perm (zs ++ (r ++ rows.flatten))
    refine (List.Perm.append_left r (flatten_set rows n row row' zs h p)).trans ?_
    rw [← List.append_assoc, ← List.append_assoc]
    exact List.Perm.append_right _ List.perm_append_comm
theorem modRow_perm {rows : Rows} {n : Nat} {f : List Int → List Int} {zs : List Int} (hn : n < rows.length) (hf : ∀ row, (f row).Perm (zs ++ row)) : (modRow rows n f).flatten.Perm (zs ++ rows.flatten) := by
  unfold modRow
  refine flatten_set rows n _ _ zs (List.getElem?_eq_getElem hn) ?_
  rw [List.getD_eq_getElem?_getD, List.getElem?_eq_getElem hn, Option.getD_some]
  exact hf _
theorem modRow_len {rows : Rows} {n : Nat} {f : List Int → List Int} : (modRow rows n f).length = rows.length := List.length_set ..
theorem WF.of_perm {rows rows' : Rows} {E : Nat} (h : WF rows E) (p : rows'.flatten.Perm ((2 * (E : Int)) :: (2 * (E : Int) + 1) :: rows.flatten)) : WF rows' (E + 1) := by
  have hm : ∀ d : Int, d ∈ rows.flatten → 0 ≤ d ∧ d < 2 * (E : Int) := fun d => (h.mem d).mp
  refine ⟨p.nodup_iff.mpr (List.nodup_cons.mpr ⟨fun q => ?_, List.nodup_cons.mpr ⟨fun q => ?_, h.nd⟩⟩), fun d => ?_⟩
  · rcases List.mem_cons.mp q with q | q
    · omega
    · have := hm _ q
      omega
  · have := hm _ q
    omega
  · rw [p.mem_iff, List.mem_cons, List.mem_cons, h.mem d]
    omega
theorem face_sub {rows : Rows} {rim : Nat} : ∀ (n : Nat) (found : List Int) (d : Int), (∀ x ∈ found, x ∈ rows.flatten) → ∀ x ∈ walkF rows rim n found d, x ∈ rows.flatten
  | 0, found, d, h => h
  | n + 1, found, d, h => by
    unfold walkF
    cases e : nxt rows rim d with
    | none => exact h
    | some d' =>
      simp only
      split
      · exact h
      · refine face_sub n _ _ fun x hx => ?_
        rcases List.mem_append.mp hx with hx | hx
        · exact h x hx
        · rw [List.mem_singleton.mp hx]
          exact nxt_mem e
theorem faceM_sub {rows : Rows} {rim : Nat} {d : Int} (h : d ∈ rows.flatten) : ∀ x ∈ faceM rows rim d, x ∈ rows.flatten := face_sub _ _ _ fun x hx => by
  rw [List.mem_singleton.mp hx]
  exact h
theorem at_lt {rows : Rows} {d : Int} (h : d ∈ rows.flatten) : (atM rows d).1 < rows.length := by
  obtain ⟨row, h1, _⟩ := at_spec h
  exact (List.getElem?_eq_some_iff.mp h1).1
theorem set_perm {l : List Int} {i : Nat} {x y : Int} (h : l[i]? = some x) : (x :: l.set i y).Perm (y :: l) := by
  have hi := (List.getElem?_eq_some_iff.mp h).1
  have e1 : l = l.take i ++ x :: l.drop (i + 1) := by
    have := List.take_append_drop i l
    rw [List.drop_eq_getElem_cons hi, (List.getElem?_eq_some_iff.mp h).2] at this
    exact this.symm
  have e2 : l.set i y = l.take i ++ y :: l.drop (i + 1) := by rw [List.set_eq_take_append_cons_drop, if_pos hi]
  rw [e2]
  refine ((List.Perm.cons x List.perm_middle).trans (List.Perm.swap y x _)).trans ?_
  refine List.Perm.cons y ?_
  conv => rhs; rw [e1]
  exact List.perm_middle.symm
theorem Grow.wf {rim E : Nat} {rows rows' : Rows} (g : Grow rim E rows rows') (hW : WF rows E) (hrim : rim ≤ rows.length) (h0 : 0 < rim) : WF rows' (E + 1) := by
  have hin : ∀ (i : Nat) (x : Int) (row : List Int), (ins i x row).Perm ([x] ++ row) := fun i x row => ins_perm i x row
  have two : ∀ {r1 r2 : Rows} {n : Nat} {f : List Int → List Int}, r1.flatten.Perm ([2 * (E : Int)] ++ rows.flatten) → n < r1.length → (∀ row, (f row).Perm ([2 * (E : Int) + 1] ++ row)) → WF (modRow r1 n f) (E + 1) := fun {r1 r2 n f} p1 hn hf => by
    refine hW.of_perm ((modRow_perm hn hf).trans ?_)
    exact (List.Perm.cons _ p1).trans (List.Perm.swap _ _ _)
  cases g with
  | rimEdge n o j hn ho hs =>
    refine two (r2 := []) (modRow_perm (by omega) (hin _ _)) (by rw [modRow_len, ho]; have := Nat.mod_lt (n + 1 + j) h0; omega) fun row => ?_
    exact List.perm_append_comm
  | before n hn =>
    refine hW.of_perm ?_
    have hl : n < (rows ++ [rows.getD n [] ++ [2 * (E : Int) + 1]]).length := by
      rw [List.length_append]
      omega
    have hrow : rows[n]? = some (rows.getD n []) := by
      rw [List.getD_eq_getElem?_getD, List.getElem?_eq_getElem (by omega), Option.getD_some]
    rw [List.set_append_left _ _ (by omega)]
    rw [List.flatten_append]
    show ((rows.set n [2 * (E : Int)]).flatten ++ ((rows.getD n [] ++ [2 * (E : Int) + 1]) ++ [])).Perm _
    rw [List.append_nil]
    -- the row goes from its place to the end
    have key : ∀ (rs : Rows) (m : Nat) (row : List Int), rs[m]? = some row → ((rs.set m [2 * (E : Int)]).flatten ++ row).Perm ((2 * (E : Int)) :: rs.flatten) := by
      intro rs
      induction rs with
      | nil => intro m row h; simp at h
      | cons r rs ih =>
        intro m row h
        cases m with
        | zero =>
          have e : r = row := Option.some.inj h
          subst e
          show ([2 * (E : Int)] ++ rs.flatten ++ r).Perm ((2 * (E : Int)) :: (r ++ rs.flatten))
          exact List.Perm.cons _ List.perm_append_comm
        | succ m =>
          show (r ++ (rs.set m [2 * (E : Int)]).flatten ++ row).Perm ((2 * (E : Int)) :: (r ++ rs.flatten))
          rw [List.append_assoc]
          exact (List.Perm.append_left r (ih m row h)).trans List.perm_middle
    rw [← List.append_assoc]
    refine (List.Perm.append_right _ (key rows n _ hrow)).trans ?_
    show ((2 * (E : Int)) :: (rows.flatten ++ [2 * (E : Int) + 1])).Perm _
    exact List.Perm.cons _ List.perm_append_comm
  | within e he =>
    refine hW.of_perm ?_
    have hd : (2 * (e : Int) + 1) ∈ rows.flatten := (hW.mem _).mpr (by omega)
    obtain ⟨row, h1, h2⟩ := at_spec hd
    have hl := (List.getElem?_eq_some_iff.mp h1).1
    rw [List.set_append_left _ _ hl, List.flatten_append]
    have hg : rows.getD (atM rows (2 * (e : Int) + 1)).1 [] = row := by rw [List.getD_eq_getElem?_getD, h1, Option.getD_some]
    rw [hg]
    have hp := set_perm (y := 2 * (E : Int) + 1) h2
    -- the set of rows, with the old dart beside it
    have key : ∀ (rs : Rows) (m : Nat) (row row' : List Int) (x y : Int), rs[m]? = some row → (x :: row').Perm (y :: row) → (x :: (rs.set m row').flatten).Perm (y :: rs.flatten) := by
      intro rs
      induction rs with
      | nil => intro m row row' x y h; simp at h
      | cons r rs ih =>
        intro m row row' x y h p
        cases m with
        | zero =>
          have e : r = row := Option.some.inj h
          subst e
          exact List.Perm.append_right rs.flatten p
        | succ m =>
          show (x :: (r ++ (rs.set m row').flatten)).Perm (y :: (r ++ rs.flatten))
          refine (List.perm_middle.symm.trans (List.Perm.append_left r (ih m row row' x y h p))).trans List.perm_middle
    have k1 := key rows _ row _ _ _ h1 hp
    refine List.perm_append_comm.trans ?_
    show ((2 * (e : Int) + 1) :: (2 * (E : Int)) :: _).Perm _
    refine (List.Perm.swap _ _ _).trans (List.Perm.cons _ k1)
  | beside e he r1 h1 =>
    subst h1
    have hd : (2 * (e : Int)) ∈ rows.flatten := (hW.mem _).mpr (by omega)
    have p1 := modRow_perm (f := ins ((atM rows (2 * (e : Int))).2 + 1) (2 * (E : Int))) (at_lt hd) (hin _ _)
    refine two (r2 := []) p1 (at_lt ?_) (hin _ _)
    rw [p1.mem_iff]
    exact List.mem_cons_of_mem _ ((hW.mem _).mpr (by omega))
  | twig n p hn hp =>
    refine hW.of_perm ?_
    rw [List.flatten_append]
    show ((modRow rows n (ins p (2 * (E : Int)))).flatten ++ [2 * (E : Int) + 1]).Perm _
    refine List.perm_append_comm.trans ?_
    exact (List.Perm.cons _ (modRow_perm hn (hin _ _))).trans (List.Perm.swap _ _ _)
  | loop n p hn hp =>
    exact two (r2 := []) (modRow_perm hn (hin _ _)) (by rw [modRow_len]; exact hn) (hin _ _)
  | across d x y hd hx hy r1 h1 =>
    subst h1
    have hdm := (hW.mem d).mpr hd
    have hxm := faceM_sub hdm x hx
    have hym := faceM_sub hdm y hy
    have p1 := modRow_perm (f := ins (atM rows x).2 (2 * (E : Int))) (at_lt hxm) (hin _ _)
    refine two (r2 := []) p1 (at_lt ?_) (hin _ _)
    rw [p1.mem_iff]
    exact List.mem_cons_of_mem _ hym
theorem Grow.len {rim E : Nat} {rows rows' : Rows} (g : Grow rim E rows rows') : rows.length ≤ rows'.length ∧ rows'.length ≤ rows.length + 1 := by
  cases g <;> simp only [modRow_len, List.length_set, List.length_append, List.length_singleton] <;> first | omega | (subst_vars; simp only [modRow_len]; omega)

/-! ### the law's state and the rows, over the heap at the start -/
structure NS (H0 H : Hp) (S c T : Addr) (rs : List Addr) (rows : Rows) : Prop where
  st : StAt H S c
  ro : RowsAt H T rs rows
  kp : Kp S H0 H
  T0 : H0 T = none
  r0 : ∀ r, r ∈ rs → H0 r = none
  s0 : StAt H0 S c
section
variable {H0 H H' : Hp} {S c T : Addr} {rs : List Addr} {rows : Rows}
theorem NS.nTS (h : NS H0 H S c T rs rows) : T ≠ S := h.s0.neS h.T0
theorem NS.nTc (h : NS H0 H S c T rs rows) : T ≠ c := h.s0.nec h.T0
theorem NS.nrS (h : NS H0 H S c T rs rows) {r : Addr} (hr : r ∈ rs) : r ≠ S := h.s0.neS (h.r0 r hr)
theorem NS.nrc (h : NS H0 H S c T rs rows) {r : Addr} (hr : r ∈ rs) : r ≠ c := h.s0.nec (h.r0 r hr)
theorem NS.same (h : NS H0 H S c T rs rows) (e : Same H H') : NS H0 H' S c T rs rows := ⟨h.st.same e, h.ro.same e, h.kp.trans (Kp.of e), h.T0, h.r0, h.s0⟩
theorem NS.pick (h : NS H0 H S c T rs rows) (hS : StAt H' S c) (k : Kp S H H') : NS H0 H' S c T rs rows :=
  ⟨hS, h.ro.keep fun b hb o e => k b o (by
    rcases hb with rfl | hb
    · exact h.nTS
    · exact h.nrS hb) e, h.kp.trans k, h.T0, h.r0, h.s0⟩
theorem NS.fresh (h : NS H0 H S c T rs rows) {r : Addr} (hr : H r = none) : H0 r = none := by
  obtain ⟨n, i, x, m, cs, e1, _⟩ := h.st
  exact h.kp.free h.s0.lst.choose_spec hr (ne_of_none e1 hr).symm
theorem kp_updN {p : Addr} {o : HO} (h : Kp S H0 H) (hp : H0 p = none) : Kp S H0 (upd H p o) := fun b x n e => by
  rw [upd_ne (ne_of_none e hp)]
  exact h b x n e
theorem NS.row (h : NS H0 H S c T rs rows) {n : Nat} {r : Addr} (hr : rs[n]? = some r) (row' : List Int) : NS H0 (upd H r (.lst (row'.map V.int))) S c T rs (rows.set n row') := by
  have hm := List.mem_of_getElem? hr
  exact ⟨h.st.upd (h.nrS hm) (h.nrc hm), h.ro.row hr row', kp_updN h.kp (h.r0 r hm), h.T0, h.r0, h.s0⟩
theorem NS.push (h : NS H0 H S c T rs rows) {r : Addr} {row : List Int} (hr : H r = some (.lst (row.map V.int))) (hr0 : H0 r = none) (hn : r ∉ rs) (hT : r ≠ T) : NS H0 (upd H T (.lst (rs.map V.ref ++ [.ref r]))) S c T (rs ++ [r]) (rows ++ [row]) :=
  ⟨h.st.upd h.nTS h.nTc, h.ro.push hr hn hT, kp_updN h.kp h.T0, h.T0, fun x hx => by
    rcases List.mem_append.mp hx with hx | hx
    · exact h.r0 x hx
    · rw [List.mem_singleton.mp hx]
      exact hr0, h.s0⟩
theorem NS.swap (h : NS H0 H S c T rs rows) {n : Nat} {r : Addr} {row : List Int} (hr : H r = some (.lst (row.map V.int))) (hr0 : H0 r = none) (hn : r ∉ rs) (hT : r ≠ T) (hl : n < rs.length) :
    NS H0 (upd H T (.lst ((rs.map V.ref).set n (.ref r)))) S c T (rs.set n r) (rows.set n row) :=
  ⟨h.st.upd h.nTS h.nTc, h.ro.swap hr hn hT hl, kp_updN h.kp h.T0, h.T0, fun x hx => by
    rcases List.mem_or_eq_of_mem_set hx with hx | hx
    · exact h.r0 x hx
    · rw [hx]
      exact hr0, h.s0⟩
/-- a fresh address is none of ours -/
theorem NS.nr (h : NS H0 H S c T rs rows) {p : Addr} (hp : H p = none) : p ∉ rs := fun hm => by
  obtain ⟨i, hi⟩ := List.mem_iff_getElem?.mp hm
  have hl : i < rows.length := by
    rw [← h.ro.len]
    exact (List.getElem?_eq_some_iff.mp hi).1
  rw [h.ro.at_ i p _ hi (List.getElem?_eq_getElem hl)] at hp
  cases hp
theorem NS.nT (h : NS H0 H S c T rs rows) {p : Addr} (hp : H p = none) : p ≠ T := (ne_of_none h.ro.top hp).symm
/-- the row at n: its address -/
theorem NS.get (h : NS H0 H S c T rs rows) {n : Nat} (hn : n < rows.length) : ∃ r, (rs.map V.ref)[n]? = some (.ref r) ∧ rs[n]? = some r ∧ H r = some (.lst ((rows.getD n []).map V.int)) := by
  obtain ⟨r, h1, h2⟩ := h.ro.get (List.getElem?_eq_getElem hn)
  refine ⟨r, by rw [List.getElem?_map, h1]; rfl, h1, ?_⟩
  rw [List.getD_eq_getElem?_getD, List.getElem?_eq_getElem hn, Option.getD_some]
  exact h2
theorem NS.sqT {K : PySem.W.Frag} (h : NS H0 H S c T rs rows) : SqL K H T (rs.map V.ref) := SqL.of h.ro.top
end
theorem map_ins (i : Nat) (x : Int) (l : List Int) : (l.map V.int).take i ++ V.int x :: (l.map V.int).drop i = (ins i x l).map V.int := by
  unfold ins
  rw [List.map_append, List.map_cons, List.map_take, List.map_drop]
/-- the rows are few and short -/
theorem WF.len {rows : Rows} {E : Nat} (h : WF rows E) : rows.flatten.length = 2 * E := by
  have p : rows.flatten.Perm ((List.range (2 * E)).map Int.ofNat) := by
    refine (List.perm_ext_iff_of_nodup h.nd ?_).mpr fun d => ?_
    · refine List.Pairwise.map _ (fun a b hab e => hab (Int.ofNat.inj e)) List.nodup_range
    · rw [h.mem d, List.mem_map]
      constructor
      · intro hd
        exact ⟨d.toNat, List.mem_range.mpr (by omega), by show ((d.toNat : Nat) : Int) = d; omega⟩
      · rintro ⟨n, hn, rfl⟩
        have := List.mem_range.mp hn
        show 0 ≤ (n : Int) ∧ (n : Int) < _
        omega
  rw [p.length_eq, List.length_map, List.length_range]
theorem row_le {rows : Rows} {row : List Int} (h : row ∈ rows) : row.length ≤ rows.flatten.length := by
  obtain ⟨a, b, rfl⟩ := List.append_of_mem h
  rw [List.flatten_append, List.flatten_cons, List.length_append, List.length_append]
  omega
theorem WF.row {rows : Rows} {E : Nat} (h : WF rows E) {n : Nat} : (rows.getD n []).length ≤ 2 * E := by
  by_cases hn : n < rows.length
  · rw [List.getD_eq_getElem?_getD, List.getElem?_eq_getElem hn, Option.getD_some, ← h.len]
    exact row_le (List.getElem_mem hn)
  · rw [List.getD_eq_getElem?_getD, List.getElem?_eq_none (by omega)]
    exact Nat.zero_le _
theorem walkF_len {rows : Rows} {rim : Nat} : ∀ (n : Nat) (found : List Int) (d : Int), found.length ≤ (walkF rows rim n found d).length ∧ (walkF rows rim n found d).length ≤ found.length + n
  | 0, found, d => ⟨Nat.le_refl _, Nat.le_refl _⟩
  | n + 1, found, d => by
    unfold walkF
    cases e : nxt rows rim d with
    | none => exact ⟨Nat.le_refl _, Nat.le_add_right _ _⟩
    | some d' =>
      simp only
      split
      · exact ⟨Nat.le_refl _, Nat.le_add_right _ _⟩
      · have := walkF_len (rows := rows) (rim := rim) n (found ++ [d']) d'
        rw [List.length_append, List.length_singleton] at this
        omega
theorem faceM_len (rows : Rows) (rim : Nat) (d : Int) : 1 ≤ (faceM rows rim d).length ∧ (faceM rows rim d).length ≤ 201 := by
  have := walkF_len (rows := rows) (rim := rim) 200 [d] d
  rw [List.length_singleton] at this
  unfold faceM
  omega
/-- a test that gives b and leaves the heap -/
theorem g_ifb {c : TT} {t u : TS} {D : Ends} {σ : L2.St} {H : Hp} (b : Bool) (h : ∀ Q : Bool → Hp → Prop, Q b H → c σ H Q) (h2 : if b = true then t D σ H else u D σ H) : tIfS c t u D σ H := h _ h2
theorem lim_ok {n : Nat} (h : n ≤ 100000) : ((n : Int)).natAbs < 2 ^ 9000 := pow_mono (a := 20) (by omega) (by decide)
theorem modRow_get {rows : Rows} {n m : Nat} {f : List Int → List Int} (hn : n < rows.length) (hm : m = n) : (modRow rows n f).getD m [] = f (rows.getD n []) := by
  subst hm
  unfold modRow
  rw [List.getD_eq_getElem?_getD, List.getElem?_set_self hn, Option.getD_some]
def spGrow : Sp := fun vs H Q _ => ∃ (H0 : Hp) (S c T : Addr) (rim E : Nat) (ch : Int) (rs : List Addr) (rows : Rows), vs = [.ref S, .int (rim : Int), .ref T, .int (E : Int), .int ch] ∧ NS H0 H S c T rs rows ∧ WF rows E ∧ 0 < rim ∧ rim ≤ rows.length ∧ rows.length ≤ 1000 ∧ E ≤ 1000 ∧
  ∀ rs' rows' H', Grow rim E rows rows' → NS H0 H' S c T rs' rows' → Q (.int ((E + 1 : Nat) : Int)) H'
theorem g_cat {H : Hp} {l b : Addr} {xs zs : List V} {Q : VK} (h1 : H l = some (.lst xs)) (h2 : H b = some (.lst zs)) (hz : xs.length + zs.length ≤ 1000000) (q : ∀ p, H p = none → Q (.ref p) (upd H p (.lst (xs ++ zs)))) : rCat (.ref l) (.ref b) H Q :=
  ⟨l, b, xs, zs, rfl, rfl, h1, h2, by have := sizeLine_eq; omega, q⟩
theorem ixN_of {n j : Nat} (hj : j < n) : ixN n (j : Int) = some j := by
  unfold ixN
  rw [if_pos (by omega), if_pos (by omega), Int.toNat_natCast]
theorem few_of {rows : Rows} (h1 : rows.length ≤ 10000) (h2 : rows.flatten.length ≤ 10000) : Few rows := ⟨h1, fun row hr => Nat.le_trans (row_le hr) h2⟩
theorem lim_ok2 {n : Nat} (h : n ≤ 10000) : (2 * (n : Int)).natAbs < 2 ^ 9000 := pow_mono (a := 20) (by omega) (by decide)
theorem getD_at {rows : Rows} {n : Nat} {row : List Int} (h : rows[n]? = some row) : rows.getD n [] = row := by rw [List.getD_eq_getElem?_getD, h, Option.getD_some]
inductive Built (rim : Nat) : Nat → Rows → Prop
  | start : Built rim 0 (List.replicate rim [])
  | grow {E : Nat} {rows rows' : Rows} : Built rim E rows → Grow rim E rows rows' → Built rim (E + 1) rows'
theorem Built.all {rim E : Nat} {rows : Rows} (h : Built rim E rows) (h0 : 0 < rim) : WF rows E ∧ rim ≤ rows.length ∧ rows.length ≤ rim + E := by
  induction h with
  | start =>
    have e : (List.replicate rim ([] : List Int)).flatten = [] := by simp
    refine ⟨⟨by rw [e]; exact List.nodup_nil, fun d => ?_⟩, by simp, by simp⟩
    rw [e]
    constructor
    · intro h
      cases h
    · intro h
      omega
  | grow hb g ih =>
    obtain ⟨w, l1, l2⟩ := ih
    have := g.len
    exact ⟨g.wf w l1 h0, by omega, by omega⟩
theorem NS.other {H0 H : Hp} {S c T : Addr} {rs : List Addr} {rows : Rows} (h : NS H0 H S c T rs rows) {p : Addr} {o : HO} (hp0 : H0 p = none) (hT : p ≠ T) (hr : p ∉ rs) : NS H0 (upd H p o) S c T rs rows :=
  ⟨h.st.upd (h.s0.neS hp0) (h.s0.nec hp0), h.ro.keep fun b hb o' e => by
    have : b ≠ p := by
      rintro rfl
      rcases hb with hb | hb
      · exact hT hb
      · exact hr hb
    rw [upd_ne this]
    exact e, kp_updN h.kp hp0, h.T0, h.r0, h.s0⟩
/-- a net's value -/
structure NetAt (K : PySem.W.Frag) (H : Hp) (p t m : Addr) (ts : List Addr) (as : List V) (rim : Nat) (rows : Rows) (qs : List Rat) : Prop where
  top : SqT K H p [.int (rim : Int), .ref t, .ref m]
  turns : SqT K H t (ts.map V.ref)
  len : ts.length = rows.length
  row : ∀ (i : Nat) r row, ts[i]? = some r → rows[i]? = some row → SqT K H r (row.map V.int)
  ams : SqT K H m as
  rats : Rats K H as qs
def NetV (K : PySem.W.Frag) (H : Hp) (v : V) (rim : Nat) (rows : Rows) (qs : List Rat) : Prop := ∃ p t m ts as, v = .ref p ∧ NetAt K H p t m ts as rim rows qs
theorem NetAt.same {K : PySem.W.Frag} {H H' : Hp} {p t m : Addr} {ts : List Addr} {as : List V} {rim : Nat} {rows : Rows} {qs : List Rat} (h : NetAt K H p t m ts as rim rows qs) (e : Same H H') : NetAt K H' p t m ts as rim rows qs :=
  ⟨Same.sqt e h.top, Same.sqt e h.turns, h.len, fun i r row a b => Same.sqt e (h.row i r row a b), Same.sqt e h.ams, h.rats.same e⟩
theorem NetAt.kp {K : PySem.W.Frag} {S : Addr} {ys : List V} {H H' : Hp} {p t m : Addr} {ts : List Addr} {as : List V} {rim : Nat} {rows : Rows} {qs : List Rat} (h : NetAt K H p t m ts as rim rows qs) (e : Kp S H H') (hS : H S = some (.lst ys)) : NetAt K H' p t m ts as rim rows qs :=
  ⟨Kp.sqt e hS h.top, Kp.sqt e hS h.turns, h.len, fun i r row a b => Kp.sqt e hS (h.row i r row a b), Kp.sqt e hS h.ams, h.rats.kp e hS⟩
def spAmount (K : PySem.W.Frag) : Sp := fun vs H Q _ => ∃ S c : Addr, vs = [.ref S] ∧ StAt H S c ∧ ∀ v H' q, StAt H' S c → Kp S H H' → RatV K H' v q → 0 < q → Bd 5 q → Q v H'
def spNet (K : PySem.W.Frag) : Sp := fun vs H Q _ => ∃ (S c : Addr) (R M : Nat), vs = [.ref S, .int (R : Int), .int (M : Int)] ∧ StAt H S c ∧ 1 ≤ R ∧ R ≤ 100 ∧ M ≤ 500 ∧
  ∀ v H' rim rows E qs, 1 ≤ rim → rim ≤ R → E ≤ M → Built rim E rows → qs.length = E → (∀ q ∈ qs, 0 < q ∧ Bd 5 q) → StAt H' S c → Kp S H H' → NetV K H' v rim rows qs → Q v H'
theorem divInt_pos {a b : Int} (ha : 0 < a) (hb : 0 < b) : 0 < Rat.divInt a b := by
  have hb' : (Rat.divInt a b).den = b.natAbs / Int.gcd b a := by rw [Rat.den_divInt, if_neg (by omega)]
  have : 0 < (Rat.divInt a b).num := by
    rw [Rat.num_divInt, Int.sign_eq_one_of_pos hb, Int.one_mul]
    have hg : 0 < Int.gcd b a := Int.gcd_pos_of_ne_zero_left _ (by omega)
    exact Int.ediv_pos_of_pos_of_dvd ha (by omega) (Int.gcd_dvd_right ..)
  rw [Rat.lt_iff]
  show (0 : Int) * _ < _ * ((1 : Nat) : Int)
  omega
end Rz

namespace Rz
open PySem PySem.Spec PyProof.Rows L2

/-! ### {k: v for t0 in i0 for t1 in i1}: its two loops by one lemma -/
/-- what one turn does behind its store, then k -/
def deedIn (kx vx : Expr) (D : Addr) (env : Env) (k : Sem Fin) : Sem Fin := do
  (do
    let a ← eval kx env
    let b ← holding [a] (eval vx env)
    standAt { kx.pos with endLine := vx.pos.endLine, endCol := vx.pos.endCol }
    holding [a, b] (dictSet D a b))
  k
def deedOut (whole i1 : Expr) (acc : Value) (env : Env) (k : Sem Fin) : Sem Fin := do
  let src ← eval i1 env
  standAt i1.pos
  let src ← foldedSetIterable i1 env src
  let _ ← runOwn (.compStart whole 1 (← holding [src] (pyIter src)) acc env) env
  k
def turnWith (whole : Expr) (dep : Nat) (t : Expr) (p : Pos) (it acc : Value) (env : Env) (deed : Sem Fin → Sem Fin) : Sem Fin := do
  standAt p
  match ← pyNext it with
  | none => pure (.done .next)
  | some v =>
    letOwnedTupleGo t it v
    assign t env v
    deed (again (.compLoop whole dep it acc env))
abbrev dc2 (kx vx t0 i0 t1 i1 : Expr) (sc : Scope) (pos : Pos) : Expr := .DictComp kx vx [⟨t0, i0, [], 0⟩, ⟨t1, i1, [], 0⟩] sc pos
theorem turn_in (kx vx t0 i0 t1 i1 : Expr) (sc : Scope) (pos : Pos) (it : Value) (D : Addr) (env : Env) :
    compTurn (dc2 kx vx t0 i0 t1 i1 sc pos) 1 it (.ref D) env = turnWith (dc2 kx vx t0 i0 t1 i1 sc pos) 1 t1 i1.pos it (.ref D) env (deedIn kx vx D env) := by rfl
theorem turn_out (kx vx t0 i0 t1 i1 : Expr) (sc : Scope) (pos : Pos) (it : Value) (D : Addr) (env : Env) :
    compTurn (dc2 kx vx t0 i0 t1 i1 sc pos) 0 it (.ref D) env = turnWith (dc2 kx vx t0 i0 t1 i1 sc pos) 0 t0 i0.pos it (.ref D) env (deedOut (dc2 kx vx t0 i0 t1 i1 sc pos) i1 (.ref D) env) := by rfl
/-- a deed keeps the slots' knowledge and brings Nx -/
def Deed (X : Cx) (fs : List Nat) (deed : Sem Fin → Sem Fin) (ta : L2.St → Hp → (Hp → Prop) → Prop) : Prop :=
  ∀ (pins : List (Addr × Obj)) (s : Shared) (σ : L2.St) (H : Hp) (Nx : Hp → Prop) (k : Sem Fin) (R : Fin → Shared → Prop), Inv X pins σ H s → ta σ H Nx →
    (∀ s' H', Inv X pins (wipe σ fs) H' s' → Nx H' → wpAny (model X.prog X.w) X.A k R (fun _ _ => False) s') → wpAny (model X.prog X.w) X.A (deed k) R (fun _ _ => False) s
theorem noRaise {M : Model} {A : Around} {α : Type} {t : Sem α} {Q : α → Shared → Prop} {E : Value → Shared → Prop} {s : Shared} (h : wpAny M A t Q (fun _ _ => False) s) : wpAny M A t Q E s := wpAny_mono h (fun _ _ z => z) fun _ _ z => z.elim
/-- one loop of a comprehension's block -/
theorem loopWith {X : Cx} (hx : X.xe = fun _ _ => False) (hc : X.calm = true) {kx vx t0 i0 t1 i1 t : Expr} {sc : Scope} {pos : Pos} {dep : Nat} {p : Pos} {acc : Value} {it : Addr} {deed : Sem Fin → Sem Fin} {fs : List Nat} {g : TG} {ta : L2.St → Hp → (Hp → Prop) → Prop}
    (heq : compTurn (dc2 kx vx t0 i0 t1 i1 sc pos) dep (.ref it) acc X.env = turnWith (dc2 kx vx t0 i0 t1 i1 sc pos) dep t p (.ref it) acc X.env deed) (pg : PG X t g) (da : Deed X fs deed ta)
    {pins : List (Addr × Obj)} {σ : L2.St} {J : It} {fp : List Addr} {tn : Nat → Heap → Prop} (T : Turn X.prog X.w X.K t J fp it tn)
    {H : Hp} {s : Shared} (I : Inv X pins (wipe σ fs) H s) (st : tn 0 s.heap) (nf : ∀ b ∈ fp, H b = none) (fpo : ∀ (H' : Hp), (∀ b ∈ fp, H' b = none) → ∀ b ∈ fp, FpOk X pins H' b)
    (W : Nat → Nat → Hp → Prop) (m₀ : Nat) (w0 : W 0 m₀ H) (Z : Hp → Prop)
    (turn : ∀ i m H, W i m H → (J.stop i H ∧ Z H) ∨ (J.go i H ∧ ∃ Nx : Hp → Prop, (∀ H', Nx H' → ∃ m', m' < m ∧ W (i + 1) m' H') ∧ ∀ x H', J.yld i H x H' → g x (wipe σ fs) H' fun σ2 H2 => wipe σ2 fs = wipe σ fs ∧ ta σ2 H2 Nx)) :
    codeAny (model X.prog X.w) X.A (.compLoop (dc2 kx vx t0 i0 t1 i1 sc pos) dep (.ref it) acc X.env) (fun r s' => match r with
      | .ok f => f = .next ∧ ∃ H', Inv X pins (wipe σ fs) H' s' ∧ Z H'
      | .error _ => False) s := by
  refine codeAny_loop rfl (fun n q => ∃ i G, Inv X pins (wipe σ fs) G q ∧ tn i q.heap ∧ (∀ b ∈ fp, G b = none) ∧ W i n G) (fun n q ⟨i, G, Iq, sq, nq, wq⟩ => ?_) m₀ ⟨0, H, I, st, nf, w0⟩
  show wpAny _ X.A ((compTurn (dc2 kx vx t0 i0 t1 i1 sc pos) dep (.ref it) acc X.env).onRaise fun x => do noteFrame x X.env; theTreesLotGoes x) _ _ q
  refine wpAny_noted ?_
  rw [heq]
  refine wpAny_bind (wpAny_standAt (wpAny_bind ?_))
  rcases turn i n G wq with ⟨hstop, hz⟩ | ⟨hgo, Nx, hNx, hstep⟩
  · refine wpAny_mono (T.done X rfl rfl rfl hc i pins q (wipe σ fs) G (fun _ _ => False) Iq (fpo G nq) sq hstop) (fun r q1 ⟨er, I1⟩ => ?_) fun _ _ z => z.elim
    subst er
    exact wpAny_pure ⟨rfl, G, I1, hz⟩
  · refine wpAny_mono (T.item X rfl rfl rfl hc i pins q (wipe σ fs) G (fun _ _ => False) Iq (fpo G nq) sq hgo) (fun r q1 ⟨u, er, h1⟩ => ?_) fun _ _ z => z.elim
    subst er
    refine wpAny_bind (wpAny_mono h1 (fun _ q2 ⟨x, G2, I2, r2, y2, s2, n2⟩ => ?_) fun _ _ z => z.elim)
    have I2' := I2.pinned (fpo G2 n2) (T.obj _ _ s2)
    have hg := pg.run _ q2 _ G2 x u _ I2' r2 (hstep x G2 y2)
    rw [hx] at hg
    refine wpAny_bind (wpAny_mono hg (fun _ q3 ⟨σ3, G3, I3, hw3, h3⟩ => ?_) fun _ _ z => z.elim)
    refine noRaise (da _ q3 σ3 G3 Nx _ _ I3 h3 fun q4 G4 I4 hn4 => ?_)
    obtain ⟨m', hm, w'⟩ := hNx G4 hn4
    have back : ∀ b, b ∈ fp → ∀ o, q2.heap.get? b = some o → q4.heap.get? b = some o ∧ G4 b = none := fun b hb o e => by
      have z := I4.pin (b, o) (List.mem_append_right _ (List.mem_append_right _ (mem_pinsAt hb e)))
      exact ⟨z.1, z.2.1⟩
    rw [hw3] at I4
    refine wpAny_pure ⟨rfl, m', hm, i + 1, G4, I4.unpinned, T.keep _ _ _ s2 fun b hb o e => (back b hb o e).1, fun b hb => ?_, w'⟩
    obtain ⟨o, e, _⟩ := T.obj _ _ s2 b hb
    exact (back b hb o e).2

/-! ### the two deeds -/
def tPut (tk tv : TE) (D : Addr) : L2.St → Hp → (Hp → Prop) → Prop := fun σ H Nx => tk σ H fun y H1 => tv σ H1 fun z H2 => ∃ kvs k, y = kV k ∧ H2 D = some (.dK kvs) ∧ kvs.length < sizeLine ∧ Nx (upd H2 D (.dK (putK kvs k z)))
def inW (fs1 : List Nat) (g1 : TG) (ta1 : L2.St → Hp → (Hp → Prop) → Prop) (σ : L2.St) (Nx : Hp → Prop) : It → Hp → Prop := fun J H1 => ∃ W : Nat → Nat → Hp → Prop, (∃ m, W 0 m H1) ∧ ∀ i m H, W i m H →
  (J.stop i H ∧ Nx H) ∨ (J.go i H ∧ ∃ Nx1 : Hp → Prop, (∀ H', Nx1 H' → ∃ m', m' < m ∧ W (i + 1) m' H') ∧ ∀ x H', J.yld i H x H' → g1 x (wipe σ fs1) H' fun σ2 H2 => wipe σ2 fs1 = wipe σ fs1 ∧ ta1 σ2 H2 Nx1)
def tInner (fs1 : List Nat) (wi1 : TI) (g1 : TG) (ta1 : L2.St → Hp → (Hp → Prop) → Prop) : L2.St → Hp → (Hp → Prop) → Prop := fun σ H Nx => wi1 σ H (inW fs1 g1 ta1 σ Nx)
theorem deed_in {X : Cx} (hx : X.xe = fun _ _ => False) {fs : List Nat} {kx vx : Expr} {tk tv : TE} {D : Addr} (pk : PE X kx tk) (pv : PE X vx tv) : Deed X fs (deedIn kx vx D X.env) (tPut tk tv D) := by
  intro pins s σ H Nx k R I h hk
  unfold deedIn
  have h1 := pk.run pins s σ H _ I h
  rw [hx] at h1
  refine wpAny_bind (wpAny_bind (wpAny_mono h1 (fun u s1 ⟨y, H1, I1, r1, q1⟩ => ?_) fun _ _ z => z))
  have h2 := pv.run pins s1 σ H1 _ I1 q1
  rw [hx] at h2
  refine wpAny_bind (wpAny_holding (wpAny_mono h2 (fun u2 s2 ⟨z, H2, I2, r2, kvs, kk, ey, hD, hz, nx⟩ => ?_) fun _ _ z => z))
  subst ey
  refine wpAny_bind (wpAny_standAt (wpAny_holding (d_dictSet I2 hD hz r1 r2 fun s3 I3 => ?_)))
  exact hk s3 _ (I3.weak (wipe_length _ _) fun j v e => (wipe_some e).1) nx
theorem start_in {prog : Program} {w : World} {A : Around} {R : Result → Shared → Prop} {s : Shared} {kx vx t0 i0 t1 i1 : Expr} {sc : Scope} {pos : Pos} {it acc : Value} {env : Env}
    (h0 : codeAny (model prog w) A (.compLoop (dc2 kx vx t0 i0 t1 i1 sc pos) 1 it acc env) R s)
    (h : wpAny (model prog w) A (pyIter it) (fun it2 s2 => codeAny (model prog w) A (.compLoop (dc2 kx vx t0 i0 t1 i1 sc pos) 1 it2 acc env) R s2) (notedBy (model prog w) A env fun x s2 => R (.error x) s2) s) :
    codeAny (model prog w) A (.compStart (dc2 kx vx t0 i0 t1 i1 sc pos) 1 it acc env) R s := by
  refine codeAny_of_tree ?_
  show wpAny _ _ ((compStart (dc2 kx vx t0 i0 t1 i1 sc pos) 1 it acc env).onRaise (fun x => do noteFrame x env; standAt theWindowsPlace)) _ _ s
  refine wpAny_notedAt ?_
  unfold compStart
  show wpAny _ _ (ask >>= _) _ _ s
  refine wpAny_bind (wpAny_askSetting (wpAny_ite ?_))
  split
  · first
      | exact wpAny_bind (wpAny_pure (wpAny_pure (And.intro rfl h0)))
      | exact wpAny_pure (And.intro rfl h0)
  · first
      | exact wpAny_bind (wpAny_rule (wpAny_bind (wpAny_standAt (wpAny_bind (wpAny_mono h (fun it2 s2 z => wpAny_pure (And.intro rfl z)) fun _ _ x => x)))))
      | (refine wpAny_bind (wpAny_rule ?_); show wpAny _ _ (standAt i1.pos >>= _) _ _ s; exact wpAny_bind (wpAny_standAt (wpAny_bind (wpAny_mono h (fun it2 s2 z => wpAny_pure (And.intro rfl z)) fun _ _ x => x))))
theorem deed_out {X : Cx} (hx : X.xe = fun _ _ => False) (hc : X.calm = true) {fs fs1 : List Nat} (hsub : ∀ i ∈ fs1, i ∈ fs) {kx vx t0 i0 t1 i1 : Expr} {sc : Scope} {pos : Pos} {D : Addr} {wi1 : TI} {g1 : TG} {ta1 : L2.St → Hp → (Hp → Prop) → Prop}
    (hs1 : ∀ x, foldedSetIterable i1 X.env x = pure x) (pi1 : PI X t1 i1 wi1) (pg1 : PG X t1 g1) (da : Deed X fs1 (deedIn kx vx D X.env) ta1) :
    Deed X fs (deedOut (dc2 kx vx t0 i0 t1 i1 sc pos) i1 (.ref D) X.env) (tInner fs1 wi1 g1 ta1) := by
  intro pins s σ H Nx k R I h hk
  unfold deedOut
  have h1 := pi1.run pins s σ H _ I h
  rw [hx] at h1
  refine wpAny_bind (wpAny_mono h1 (fun u s1 h2 => ?_) fun _ _ z => z)
  refine wpAny_bind (wpAny_standAt (wpAny_bind (wpAny_of_eq (hs1 u) (wpAny_bind (wpAny_holding (wpAny_mono h2 (fun itv s2 h3 => ?_) fun _ _ z => z))))))
  obtain ⟨it, fp, tn, J, H1, e, I1, T, st, hf, W, ⟨m, w0⟩, turn⟩ := h3
  subst e
  have loop := loopWith hx hc (turn_in kx vx t0 i0 t1 i1 sc pos (.ref it) D X.env) pg1 da T (I1.weak (wipe_length _ _) fun j v e => (wipe_some e).1) st (fun b hb => (hf b hb).1) (fun H' hn b hb => ⟨hn b hb, (hf b hb).2⟩) W m w0 Nx turn
  refine wpAny_bind (wpAny_runOwn ?_)
  rw [Around.mark_none]
  refine codeAny_mono (start_in loop (T.self X.A 0 _ _ _ st loop)) fun r s' hr => ?_
  cases r with
  | ok f =>
    obtain ⟨_, H', I', nx⟩ := hr
    have I2 : Inv X pins (wipe σ fs) H' s' := I'.weak ((wipe_length _ _).trans (wipe_length _ _).symm) fun j v e => by
      obtain ⟨e1, e2⟩ := wipe_some e
      rw [wipe_out fun z => e2 (hsub j z)]
      exact e1
    first
      | exact hk s' H' I2 nx
      | exact wpAny_bind (wpAny_pure (hk s' H' I2 nx))
  | error e => exact hr.elim

/-! ### the whole -/
def outW (g : TG) (fs fs1 : List Nat) (wi1 : TI) (g1 : TG) (tk tv : TE) (σ : L2.St) (Q : VK) : It → Hp → Prop := fun J H1 => ∀ D, H1 D = none → ∃ W : Nat → Nat → Hp → Prop, (∃ m, W 0 m (upd H1 D (.dK []))) ∧ ∀ i m H, W i m H →
  (J.stop i H ∧ Q (.ref D) H) ∨ (J.go i H ∧ ∃ Nx : Hp → Prop, (∀ H', Nx H' → ∃ m', m' < m ∧ W (i + 1) m' H') ∧ ∀ x H', J.yld i H x H' → g x (wipe σ fs) H' fun σ2 H2 => wipe σ2 fs = wipe σ fs ∧ tInner fs1 wi1 g1 (tPut tk tv D) σ2 H2 Nx)
def tDc2 (wi : TI) (g : TG) (fs fs1 : List Nat) (wi1 : TI) (g1 : TG) (tk tv : TE) : TE := fun σ H Q => wi σ H (outW g fs fs1 wi1 g1 tk tv σ Q)
abbrev BlkA (X : Cx) (scope : Scope) (p : Cx → Prop) : Prop := ∀ (s : Shared) (H : Hp) (C : Addr) (cl : List (Str × Addr)) (fp : List Addr), p (X.blk s H scope (compEnvC scope cl C X.env) fp)
section
variable {X : Cx} {kx vx t0 i0 t1 i1 : Expr} {scope : Scope} {own : List (Str × Nat)} {fs1 : List Nat} {pos pos' : Pos} {wi wi1 : TI} {g g1 : TG} {tk tv : TE}
theorem dc2_core {pins : List (Addr × Obj)} {s : Shared} {σ : L2.St} {H : Hp} {Q : VK} {use : Option (Value → Sem Unit)} {Qf : Value → Shared → Prop} (hc : X.calm = true) (hN : X.N.Nodup) (I : Inv X pins σ H s) (hi : PI X t0 i0 wi) (ok : BlkOk X.N X.env.scope scope own) (hv : ∀ i ∈ fs1, i ∈ own.map (·.2))
    (hg : BlkA X scope fun Y => PG Y t0 g) (hi1 : BlkA X scope fun Y => PI Y t1 i1 wi1) (hg1 : BlkA X scope fun Y => PG Y t1 g1) (hk : BlkA X scope fun Y => PE Y kx tk) (he : BlkA X scope fun Y => PE Y vx tv)
    (hs : ∀ x, foldedSetIterable i0 X.env x = pure x) (hs1 : ∀ env x, foldedSetIterable i1 env x = pure x) (h : tDc2 wi g (own.map (·.2)) fs1 wi1 g1 tk tv σ H Q)
    (hRR : ∀ D C s' m H', Inv X pins σ H' s' → Q (.ref D) H' → s'.heap.Ns C m → FpOk X pins H' C → compPost (model X.prog X.w) X.A X.xe use Qf (.ref D) C (.ok .next) s') :
    wpAny (model X.prog X.w) X.A (comprehension (dc2 kx vx t0 i0 t1 i1 scope pos) scope X.env pos' newDict false (eval i0 X.env) use) Qf X.xe s := by
  have hclo := closure_ok (scope := scope) (env := X.env) fun y hy e => I.ok.has y.1 (ok.free y hy e)
  refine wpAny_comprehension_free (use := use) rfl hs hclo ok.kind (fun y hy e => by rw [ok.uniq y hy, e]) (thn (hi.run pins s σ H _ I h) fun xv s1 hx => thn hx fun itv s2 h2 => ?_)
  obtain ⟨it, fp, tn, J, H2, rfl, I2, T, st2, f2, q⟩ := h2
  refine wpAny_newObj_type (newEnv_comp ?_)
  obtain ⟨D, hD⟩ : ∃ D, D = s2.heap.objs.size := ⟨_, rfl⟩
  rw [← hD]
  have hDn : H2 D = none := I2.hok.fresh (by rw [hD]; exact Nat.le_refl _)
  obtain ⟨W, ⟨m0, w0⟩, turn⟩ := q D hDn
  obtain ⟨s3, hs3⟩ : ∃ s3 : Shared, s3 = { s2 with heap := s2.heap.push { cls := .type "dict", data := .dict #[] } } := ⟨_, rfl⟩
  rw [← hs3]
  have keep3 : ∀ b o, s2.heap.get? b = some o → s3.heap.get? b = some o := fun b o e => by rw [hs3]; exact Heap.get?_push_of_some _ e
  obtain ⟨H3, hH3⟩ : ∃ H3 : Hp, H3 = upd H2 D (.dK []) := ⟨_, rfl⟩
  have I3 : Inv X pins σ H3 s3 := by
    rw [hs3, hH3, hD]
    exact I2.laid (t' := s2.toks) (fun b o e => Heap.get?_push_of_some _ e) (Nat.le_refl _) (dk_empty s2.heap I2.big)
  have hlt3 : ∀ b ∈ fp, b < s2.heap.objs.size := fun b hb => let ⟨_, e, _⟩ := T.obj _ _ st2 b hb; Heap.lt_size e
  have f3 : ∀ b ∈ fp, FpOk X pins H3 b ∧ b < s3.heap.objs.size := fun b hb => by
    have hb3 := hlt3 b hb
    refine ⟨⟨?_, (f2 b hb).2⟩, ?_⟩
    · rw [hH3, upd_ne (by rw [hD]; exact Nat.ne_of_lt hb3)]
      exact (f2 b hb).1
    · rw [hs3]
      show b < (s2.heap.push _).objs.size
      rw [Heap.size_push]
      exact Nat.lt_succ_of_lt hb3
  have I4 := block_start I3 ok hN f3
  have zg := hg s3 H3 s3.heap.objs.size (cellsFrom (s3.heap.objs.size + 1) scope.names (cloFrom X.env.cells scope.names [])) fp
  have zi := hi1 s3 H3 s3.heap.objs.size (cellsFrom (s3.heap.objs.size + 1) scope.names (cloFrom X.env.cells scope.names [])) fp
  have zg1 := hg1 s3 H3 s3.heap.objs.size (cellsFrom (s3.heap.objs.size + 1) scope.names (cloFrom X.env.cells scope.names [])) fp
  have zk := hk s3 H3 s3.heap.objs.size (cellsFrom (s3.heap.objs.size + 1) scope.names (cloFrom X.env.cells scope.names [])) fp
  have zv := he s3 H3 s3.heap.objs.size (cellsFrom (s3.heap.objs.size + 1) scope.names (cloFrom X.env.cells scope.names [])) fp
  show codeAny _ _ (.compStart (dc2 kx vx t0 i0 t1 i1 scope pos) 0 (.ref it) (.ref D) (compEnvC scope (cellsFrom (s3.heap.objs.size + 1) scope.names (cloFrom X.env.cells scope.names [])) s3.heap.objs.size X.env)) (compPost (model X.prog X.w) X.A X.xe use Qf (.ref D) s3.heap.objs.size) _
  obtain ⟨ce, hce⟩ : ∃ ce, ce = compEnvC scope (cellsFrom (s3.heap.objs.size + 1) scope.names (cloFrom X.env.cells scope.names [])) s3.heap.objs.size X.env := ⟨_, rfl⟩
  have hcl : ce.locals = s3.heap.objs.size := by rw [hce]; rfl
  rw [← hce] at I4 zg zi zg1 zk zv ⊢
  rw [← hH3] at w0
  obtain ⟨s4, hs4⟩ : ∃ s4 : Shared, s4 = { s3 with heap := pushCells (s3.heap.push { cls := .type "dict", data := .dict #[] }) scope.names } := ⟨_, rfl⟩
  rw [← hs4] at I4 ⊢
  have st4 : tn 0 s4.heap := T.keep _ _ _ st2 fun b _ o e => by
    rw [hs4]
    exact pushCells_keeps _ _ _ _ (Heap.get?_push_of_some _ (keep3 b o e))
  have fpo : ∀ H' : Hp, (∀ b ∈ fp, H' b = none) → ∀ b ∈ fp, FpOk (X.blk s3 H3 scope ce fp) [] H' b := fun H' hn b hb =>
    ⟨hn b hb, (I4.ok.exf b hb).1, I4.ok.exfs b hb, .inl hb, fun x c e => (I4.ok.exf b hb).2 x c e, fun p hp => absurd (show p ∈ ([] : List (Addr × Obj)) ++ [] from hp) (by simp)⟩
  have loop := loopWith (X := X.blk s3 H3 scope ce fp) rfl hc (turn_out kx vx t0 i0 t1 i1 scope pos (.ref it) D ce) zg
    (deed_out (X := X.blk s3 H3 scope ce fp) rfl hc hv (fun x => hs1 ce x) zi zg1 (deed_in (X := X.blk s3 H3 scope ce fp) rfl zk zv)) T (σ := σ) (fs := own.map (·.2)) I4 st4 (fun b hb => (f3 b hb).1.1) fpo W m0 w0 (Q (.ref D)) turn
  have loop2 : codeAny (model X.prog X.w) X.A (.compLoop (dc2 kx vx t0 i0 t1 i1 scope pos) 0 (.ref it) (.ref D) ce) (compPost (model X.prog X.w) X.A X.xe use Qf (.ref D) s3.heap.objs.size) s4 := by
    refine codeAny_mono loop fun r s6 hr => ?_
    cases r with
    | error e => exact hr.elim
    | ok f =>
      obtain ⟨rfl, H6, I6, q6⟩ := hr
      have I7 : Inv X pins σ H6 s6 := I3.call' (ch := fp) I6.os I6.base I6.hok I6.bare fun b hb => ⟨(f3 b hb).1.2.2.2.1, (f3 b hb).1.2.1, (f3 b hb).1.2.2.2.2.1, (f3 b hb).1.2.2.2.2.2⟩
      obtain ⟨m, hn, _⟩ := I6.loc
      have nC : H6 ce.locals = none := I6.free
      have hn : s6.heap.Ns ce.locals m := hn
      rw [hcl] at hn nC
      exact hRR D s3.heap.objs.size s6 m H6 I7 q6 hn (I3.fpOk (Nat.le_refl _) nC)
  exact codeAny_compStart_dict loop2 (T.self X.A 0 _ _ _ st4 loop2)
theorem pe_dc2 (hc : X.calm = true) (hN : X.N.Nodup) (hi : PI X t0 i0 wi) (ok : BlkOk X.N X.env.scope scope own) (hv : ∀ i ∈ fs1, i ∈ own.map (·.2))
    (hg : BlkA X scope fun Y => PG Y t0 g) (hi1 : BlkA X scope fun Y => PI Y t1 i1 wi1) (hg1 : BlkA X scope fun Y => PG Y t1 g1) (hk : BlkA X scope fun Y => PE Y kx tk) (he : BlkA X scope fun Y => PE Y vx tv)
    (hs : ∀ x, foldedSetIterable i0 X.env x = pure x := by intro _; rfl) (hs1 : ∀ env x, foldedSetIterable i1 env x = pure x := by intro _ _; rfl) : PE X (dc2 kx vx t0 i0 t1 i1 scope pos) (tDc2 wi g (own.map (·.2)) fs1 wi1 g1 tk tv) := by
  refine ⟨fun pins s σ H Q I h => ?_⟩
  rw [arm_eval_DictComp]
  refine dc2_core hc hN I hi ok hv hg hi1 hg1 hk he hs hs1 h fun D C s' m H' I' q hn f => ⟨m, hn, fun h2 sb => ?_⟩
  exact ⟨.ref D, H', I'.turned (t' := s'.toks) (fun b o hb e => (sb.2 b hb).trans e) f.1 f.2.1 f.2.2.2.1 f.2.2.2.2.1 f.2.2.2.2.2, rfl, q⟩
/-- name = {..}, on one line, the name a local -/
theorem ps_setDc2 {i : Nat} {y : Str} {py spos : Pos} (hc : X.calm = true) (hN : X.N.Nodup) (hy : X.N[i]? = some y) (hyl : X.env.scope.names.lookup y = some .local) (hsw : swapsWith (dc2 kx vx t0 i0 t1 i1 scope pos) (some (.Name y py)) spos.line X.env = pure true)
    (hi : PI X t0 i0 wi) (ok : BlkOk X.N X.env.scope scope own) (hv : ∀ i ∈ fs1, i ∈ own.map (·.2))
    (hg : BlkA X scope fun Y => PG Y t0 g) (hi1 : BlkA X scope fun Y => PI Y t1 i1 wi1) (hg1 : BlkA X scope fun Y => PG Y t1 g1) (hk : BlkA X scope fun Y => PE Y kx tk) (he : BlkA X scope fun Y => PE Y vx tv)
    (hs : ∀ x, foldedSetIterable i0 X.env x = pure x := by intro _; rfl) (hs1 : ∀ env x, foldedSetIterable i1 env x = pure x := by intro _ _; rfl) : PS X (.Assign [.Name y py] (dc2 kx vx t0 i0 t1 i1 scope pos) spos) (tAsg (tDc2 wi g (own.map (·.2)) fs1 wi1 g1 tk tv) (gName i)) := by
  refine ⟨fun pins s σ H D I h => ?_⟩
  rw [exec_Assign_Name_used _ _ _ _ hsw]
  refine wpAny_bind (wpAny_standAt (wpAny_bind ?_))
  show wpAny _ X.A (do let _ ← comprehension (dc2 kx vx t0 i0 t1 i1 scope pos) scope X.env (firstIterPos [⟨t0, i0, [], 0⟩, ⟨t1, i1, [], 0⟩] pos) newDict false (eval i0 X.env) (some (assign (.Name y py) X.env))) _ _ s
  have h2 : tDc2 wi g (own.map (·.2)) fs1 wi1 g1 tk tv σ H (fun x H1 => gName i x σ H1 D.nx) := h
  refine wpAny_bind (thn (dc2_core (Qf := fun _ s' => SP X pins D .next s') hc hN I hi ok hv hg hi1 hg1 hk he hs hs1 h2 fun L C s' m H' I' q hn f => ?_) fun _ s' hq => wpAny_pure (wpAny_pure hq))
  show wpAny _ _ (assign (.Name y py) X.env (.ref L)) _ _ _
  refine wpAny_assign_Name (store_ok2 (v := V.ref L) I' hN hy (.inl hyl) rfl (fun s2 I2 ⟨a, sb, ha⟩ => ?_) (.inr hyl))
  refine ⟨m, hn.sameBut sb ?_, fun h3 sb3 => ⟨_, H', I2.turned (t' := s2.toks) (fun b o hb e => (sb3.2 b hb).trans e) f.1 f.2.1 f.2.2.2.1 f.2.2.2.2.1 f.2.2.2.2.2, q⟩⟩
  rcases ha with z | z
  · rw [z]
    exact f.2.1
  · exact fun e => f.2.2.2.2.1 y a z e.symm
theorem sw_dict {kx vx : Expr} {gs : List Comprehension} {scope : Scope} {pos py : Pos} {y : Str} {l : Nat} {env : Env} (hk : env.scope.kind = .function) (hy : env.scope.names.lookup y = some .local) (hl : (py.line == pos.line) = true)
    (ha : (scope.names.any fun (n, k) => n == y && (k == .local || k == .cell)) = false) : swapsWith (.DictComp kx vx gs scope pos) (some (.Name y py)) l env = pure true := by
  have e1 : env.kindOf y = some .local := hy
  have e2 : env.blockKind = .function := by unfold Env.blockKind; rw [hk]; rfl
  unfold swapsWith
  simp only [e2, e1, ha, Expr.pos, hl]
  rfl
end
end Rz

namespace Rz
open PySem PySem.Spec PyProof.Rows L2

/-! ### enumerate(a tuple), enumerate(a tuple, start=c) -/
def ItE (K : PySem.W.Frag) (a : Addr) (c : Int) : It :=
  ⟨fun i H => ∃ (xs : List V) (x : V), SqT K H a xs ∧ xs[i]? = some x, fun i H v H' => ∃ T x, v = .ref T ∧ H T = none ∧ H' = upd H T (.tup [.int (c + (i : Int)), x]) ∧ ∀ xs, SqT K H a xs → xs[i]? = some x, fun i H => ∃ xs : List V, SqT K H a xs ∧ xs.length = i⟩
theorem turn_enumT {P : Program} {w : World} {K : PySem.W.Frag} {elts : List Expr} {kk : Nat} {tpos : Pos} (a e it : Addr) (c : Int) (hne : e ≠ it) (hea : e ≠ a) (hai : a ≠ it) :
    Turn P w K (.Tuple elts kk tpos) (ItE K a c) [e, it] e (fun i h => (∃ old, IsEnum h e it (c + (i : Int)) old) ∧ h.IsTupleIter it a i) where
  mem := List.mem_cons_self
  obj := fun i h st b hb => by
    obtain ⟨⟨old, he⟩, o, ho, hc, hd⟩ := st
    rcases List.mem_cons.mp hb with z | z
    · subst z
      exact ⟨_, he, fun v q => nomatch q⟩
    · exact ⟨o, List.mem_singleton.mp z ▸ ho, fun v q => by rw [hd] at q; cases q⟩
  keep := fun i h h' st k => ⟨st.1.imp fun old he => k e List.mem_cons_self _ he, st.2.at fun o q => k it (List.mem_cons_of_mem _ List.mem_cons_self) o q⟩
  item := by
    intro X hP hw hK hc i pins s σ H E I hf st hg
    subst hP hw hK
    obtain ⟨⟨old, he⟩, hit⟩ := st
    obtain ⟨xs, x, hq, hx⟩ := hg
    obtain ⟨its, rv, p, hz⟩ := I.tuple hq
    obtain ⟨u, hu, ru⟩ := rv.get hx
    have hu2 : its.toArray[i]? = some u := by simpa using hu
    have hin : i < its.toArray.size := (Array.getElem?_eq_some_iff.mp hu2).1
    have p2 : s.heap.IsTuple a its.toArray := p
    have Dr := Draws.tuple (prog := X.prog) (w := X.w) (A := X.A.in1) (show X.A.in1.handled = none from I.ok.hd hc) it a hai its.toArray
    have hel : e < s.heap.objs.size := Heap.lt_size he
    have hil : it < s.heap.objs.size := let ⟨_, q, _⟩ := hit; Heap.lt_size q
    refine wpAny_pyNext_enum_itemC Dr he ⟨hit, p2⟩ hin hne (fun z => ?_) fun y h' tk hy ho hst hT hsz hk => ?_
    · rcases List.mem_cons.mp z with z | z
      · exact hne z
      · exact hea (List.mem_singleton.mp z)
    rw [hu2] at hy
    cases hy
    refine ⟨_, rfl, wpAny_letOwnedTupleGo_enum (s := { s with heap := h', toks := tk + 1 }) ho fun h2 he2 sb => ?_⟩
    have hT2 : h2.get? s.heap.objs.size = some { cls := .type "tuple", data := .seq #[.int (c + (i : Int)) tk, u] } := (sb.2 _ (Nat.ne_of_gt hel)).trans hT
    have new : ObjOk X.prog X.w (upd H s.heap.objs.size (.tup [.int (c + (i : Int)), x])) h2 s.heap.objs.size (.tup [.int (c + (i : Int)), x]) :=
      ⟨by show 2 ≤ sizeLine; decide, [.int (c + (i : Int)) tk, u], .cons ⟨_, rfl⟩ (.cons ru .nil), ⟨_, hT2, rfl, _, rfl⟩⟩
    have I1 : Inv X pins σ (upd H s.heap.objs.size (.tup [.int (c + (i : Int)), x])) { s with heap := h2, toks := tk + 1 } :=
      I.turnedNew (ch := [e, it]) (fun b ob hb q => (sb.2 b fun z => hb (z ▸ List.mem_cons_self)).trans (hk b ob (fun z => hb (z ▸ List.mem_cons_self)) (fun z => hb (z ▸ List.mem_cons_of_mem _ List.mem_cons_self)) q)) hf (Nat.le_refl _) new
    refine ⟨.ref s.heap.objs.size, _, I1, rfl, ⟨_, x, rfl, I.hok.fresh (Nat.le_refl _), rfl, fun ys hy => by rw [I.tuple_inj hy hq]; exact hx⟩, ⟨⟨u, ?_⟩, hst.1.at fun o q => (sb.2 it hne.symm).trans q⟩, fun b hb => ?_⟩
    · have e1 : c + ((i + 1 : Nat) : Int) = c + (i : Int) + 1 := by omega
      rw [e1]
      exact he2
    · have hb2 : b < s.heap.objs.size := by
        rcases List.mem_cons.mp hb with z | z
        · exact z ▸ hel
        · exact List.mem_singleton.mp z ▸ hil
      rw [upd_ne (Nat.ne_of_lt hb2)]
      exact (hf b hb).1
  done := by
    intro X hP hw hK hc i pins s σ H E I hf st hg
    subst hP hw hK
    obtain ⟨⟨old, he⟩, hit⟩ := st
    obtain ⟨xs, hq, hx⟩ := hg
    obtain ⟨its, rv, p, hz⟩ := I.tuple hq
    have hl := rv.length
    have hsz : its.toArray.size = i := by rw [List.size_toArray, ← hl, hx]
    have Dr := Draws.tuple (prog := X.prog) (w := X.w) (A := X.A.in1) (show X.A.in1.handled = none from I.ok.hd hc) it a hai its.toArray
    have z := hf it (List.mem_cons_of_mem _ List.mem_cons_self)
    exact wpAny_pyNext_enum_endD Dr he ⟨by rw [hsz]; exact hit, p⟩ fun h' eb => ⟨rfl, I.turned (t' := s.toks) (fun b o hb q => eb b o hb q) z.1 z.2.1 z.2.2.2.1 z.2.2.2.2.1 z.2.2.2.2.2⟩
  self := fun A i s Q E st h => let ⟨⟨_, he⟩, _⟩ := st; wpAny_pyIter_enum he h
set_option maxHeartbeats 1000000 in
theorem meets_enum1 {v : Value} {o : Obj} {H : Heap → Prop} (B : Begins v o H) :
    Meets (Builtin.«enumerate.__new__» ⟨[.type "enumerate", v], []⟩) (fun _ R s => H s.heap ∧ R (.ok (.ret (.ref (s.heap.push o).objs.size)))
      { s with heap := (s.heap.push o).push { cls := .type "enumerate", data := .fields #[.none, .bool false, .ref s.heap.objs.size, rawInt 0, .none, .none] } }) :=
  .of_wp fun prog w A R s h => by
    obtain ⟨hp, g, d, tk, os⟩ := s
    obtain ⟨h1, h⟩ := h
    have hsub := sub_enumerate
    have it : ∀ {A2 : Around} {E : Value → Shared → Prop} {Q : Value → Shared → Prop}, Q (.ref hp.objs.size) ⟨hp.push o, g, d, tk, os⟩ → wpAny (model prog w) A2 (pyIter v) Q E ⟨hp, g, d, tk, os⟩ := fun q => B.iter prog w _ _ ⟨hp, g, d, tk, os⟩ _ h1 q
    wp_walk using it
    refine wpAny_stack_any fun st => wpAny_pure ?_
    split
    · rename_i c _ _ _ _ _
      cases (c == Value.type "enumerate")
      · wp_walk using it
        exact ⟨_, rfl, h⟩
      · wp_walk using it
        exact ⟨_, rfl, h⟩
    · wp_walk using it
      exact ⟨_, rfl, h⟩
theorem call_enum1 {prog : Program} {w : World} {A : Around} {E : Value → Shared → Prop} {s : Shared} {v : Value} {o : Obj} {H : Heap → Prop} {Q : Value → Shared → Prop} (B : Begins v o H) (h1 : H s.heap)
    (h : ∀ h', IsEnum h' (s.heap.objs.size + 1) s.heap.objs.size 0 .none → h'.get? s.heap.objs.size = some o → h'.objs.size = s.heap.objs.size + 2 → (∀ b u, s.heap.get? b = some u → h'.get? b = some u) → Q (.ref (s.heap.objs.size + 1)) { s with heap := h' }) :
    wpAny (model prog w) A (call (.type "enumerate") [v]) Q E s := by
  refine callType_new F.called_enumerate (by decide) (F.typeCall_enumerate_1 _) (F.newCall_enumerate_1 _) (fun obj => F.args_object_init_2 obj _) F.entry_enumerate_new (meets_enum1 B) ⟨h1, ?_⟩
  have hz : (s.heap.push o).objs.size = s.heap.objs.size + 1 := Heap.size_push ..
  have he : IsEnum ((s.heap.push o).push { cls := .type "enumerate", data := .fields #[.none, .bool false, .ref s.heap.objs.size, rawInt 0, .none, .none] }) (s.heap.objs.size + 1) s.heap.objs.size 0 .none := by
    rw [← hz]
    exact Heap.get?_push_size (s.heap.push o) rfl
  rw [hz]
  exact ⟨⟨_, he, rfl⟩, h _ he (Heap.get?_push_of_some _ (Heap.get?_push_size _ B.free)) (by rw [Heap.size_push, hz]) fun b u x => Heap.get?_push_of_some _ (Heap.get?_push_of_some _ x)⟩
def rEnT (K : PySem.W.Frag) (c : Int) (R : It → Hp → Prop) : List V → Hp → Prop := fun vs H1 => ∃ a, vs = [.ref a] ∧ (∃ xs, SqT K H1 a xs) ∧ R (ItE K a c) H1
def iEnT (K : PySem.W.Frag) (ta : TA) : TI := fun σ H R => ta σ H (rEnT K 0 R)
def rEnTk (K : PySem.W.Frag) (R : It → Hp → Prop) (vs : List V) : List V → Hp → Prop := fun zs H1 => ∃ c : Int, zs = [.int c] ∧ -(2 ^ 62) ≤ c ∧ c < 2 ^ 62 ∧ rEnT K c R vs H1
def iEnTk (K : PySem.W.Frag) (ta tk : TA) : TI := fun σ H R => ta σ H fun vs H1 => tk σ H1 (rEnTk K R vs)
section
variable {X : Cx}
theorem enum_pie {pins : List (Addr × Obj)} {σ : L2.St} {H : Hp} {s : Shared} {E : Value → Shared → Prop} {R : It → Hp → Prop} {a : Addr} {xs : List V} {c : Int} {h' : Heap} {elts : List Expr} {kk : Nat} {tpos : Pos} (I : Inv X pins σ H s) (hq : SqT X.K H a xs)
    (he : IsEnum h' (s.heap.objs.size + 1) s.heap.objs.size c .none) (ho : h'.get? s.heap.objs.size = some { cls := .type "tuple_iterator", data := .fields #[.ref a, .int 0 0] }) (hk : ∀ b u, s.heap.get? b = some u → h'.get? b = some u) (q : R (ItE X.K a c) H) :
    wpAny (model X.prog X.w) X.A (pyIter (.ref (s.heap.objs.size + 1))) (PIE X pins σ (.Tuple elts kk tpos) R) E { s with heap := h' } := by
  obtain ⟨its, rv, p, hz⟩ := I.tuple hq
  obtain ⟨oa, hoa, _⟩ := p
  have hal : a < s.heap.objs.size := Heap.lt_size hoa
  have I2 : Inv X pins σ H { s with heap := h' } := I.kept (t' := s.toks) hk
  have he0 : IsEnum h' (s.heap.objs.size + 1) s.heap.objs.size (c + ((0 : Nat) : Int)) .none := by
    rw [show c + ((0 : Nat) : Int) = c by omega]
    exact he
  refine wpAny_pyIter_enum he ⟨s.heap.objs.size + 1, [s.heap.objs.size + 1, s.heap.objs.size], _, _, H, rfl, I2, turn_enumT a (s.heap.objs.size + 1) s.heap.objs.size c (Nat.succ_ne_self _) (Nat.ne_of_gt (Nat.lt_succ_of_lt hal)) (Nat.ne_of_lt hal), ⟨⟨.none, he0⟩, ⟨_, ho, rfl, rfl⟩⟩, fun b hb => ?_, q⟩
  have hle : s.heap.objs.size ≤ b := by
    rcases List.mem_cons.mp hb with z | z
    · rw [z]
      exact Nat.le_succ _
    · rw [List.mem_singleton.mp z]
      exact Nat.le_refl _
  exact I.fpOk hle (I.hok.fresh hle)
theorem pi_enumT {K : PySem.W.Frag} {e : Expr} {ta : TA} {p pos tpos : Pos} {elts : List Expr} {kk : Nat} (hKK : X.K = K) (hg : Gl X "enumerate") (hm : X.mg "enumerate" = none) (ha : PA X [e] ta) (hs : starEach [e] X.env = [(false, eval e X.env)] := by rfl) :
    PI X (.Tuple elts kk tpos) (.Call (.Name "enumerate" p) [e] [] pos) (iEnT K ta) := by
  subst hKK
  refine ⟨fun pins s σ H R I h => Call_ (ld_blt I hg hm boot_enumerate (PyProof.Rows.callWith_type1 (thn (ha.run pos pins s σ H _ I h) fun us s1 ⟨vs, H1, I1, r1, q1⟩ => ?_) hs rfl))⟩
  obtain ⟨a, rfl, ⟨xs, hq⟩, q⟩ := q1
  obtain rfl := Vals.ref1 r1
  obtain ⟨its, rv, p2, hz⟩ := I1.tuple hq
  exact call_enum1 (begins_tuple a its.toArray) p2 fun h' he ho hsz hk => enum_pie I1 hq he ho hk q
theorem callWith_tyKw {M : Model} {Ar : Around} {E : Value → Shared → Prop} {s : Shared} {pos : Pos} {T : String} {first : List Value} {args : List (Bool × Sem Value)} {kws : List (Option Str × Sem Value)} {Q : Value → Shared → Prop} (hplain : (args.any (·.1) || kws.any (·.1.isNone)) = false)
    (h : wpAny M Ar (evalArgs (.type T) true args kws) (fun a s1 => wpAny M Ar (call (.type T) (first ++ a.pos) a.kw) Q E s1) E s) : wpAny M Ar (callWith pos (.type T) first args kws) Q E s := by
  unfold callWith
  refine wpAny_bind (wpAny_holding (wpAny_mono h (fun a s1 h1 => wpAny_bind (wpAny_standAt ?_)) fun _ _ z => z))
  simp only [hplain]
  refine wpAny_bind (wpAny_pure ?_)
  exact wpAny_bind (wpAny_mono h1 (fun r s2 hr => wpAny_bind (wpAny_holding (wpAny_point (wpAny_pure hr)))) fun _ _ z => z)
theorem pi_enumTk {K : PySem.W.Frag} {e : Expr} {ta tk : TA} {p pos tpos : Pos} {elts : List Expr} {kk : Nat} {kws : List Keyword} (hKK : X.K = K) (hg : Gl X "enumerate") (hm : X.mg "enumerate" = none) (ha : PA X [e] ta) (hkw : PK X kws tk)
    (hs : starEach [e] X.env = (false, eval e X.env) :: starEach [] X.env := by rfl) (hall : (backToKw pos (keywordEach kws X.env)).all (·.1.isSome) = true := by rfl)
    (hpl : ((backTo pos (starEach [e] X.env)).any (·.1) || (backToKw pos (keywordEach kws X.env)).any (·.1.isNone)) = false := by rfl) (hks : (backToKw pos (keywordEach kws X.env)).filterMap (·.1) = [Str.ofString "start"] := by rfl) :
    PI X (.Tuple elts kk tpos) (.Call (.Name "enumerate" p) [e] kws pos) (iEnTk K ta tk) := by
  subst hKK
  refine ⟨fun pins s σ H R I h => wpAny_Call_Name_kw (ld_blt I hg hm boot_enumerate (callWith_tyKw hpl (evalArgs_kw2 hall (thn (ha.run pos pins s σ H _ I h) fun us s1 ⟨vs, H1, I1, r1, q1⟩ => thn (hkw.run pos pins s1 σ H1 _ I1 q1) fun ws s2 ⟨zs, H2, I2, r2, q2⟩ => ?_) hs)))⟩
  obtain ⟨c, rfl, hc1, hc2, a, rfl, ⟨xs, hq⟩, q⟩ := q2
  obtain rfl := Vals.ref1 r1
  rw [hks]
  cases r2 with
  | cons r rr =>
    cases rr
    obtain ⟨t, rfl⟩ := r
    obtain ⟨its, rv, p2, hz⟩ := I2.tuple hq
    exact enum_begins_start (begins_tuple a its.toArray) p2 (by omega) (by omega) fun h' he ho hsz hk => enum_pie I2 hq he ho hk q
end
section
variable {K : PySem.W.Frag} {σ : L2.St} {H : Hp} {g g1 : TG} {fs fs1 : List Nat} {wi1 : TI} {ta ta2 : TA} {tk tv tl : TE} {Q : VK} {ta1 : L2.St → Hp → (Hp → Prop) → Prop} {Nx : Hp → Prop} {R : It → Hp → Prop} {vs : List V}
theorem g_dc2T (h : tl σ H (rItT K (outW g fs fs1 wi1 g1 tk tv σ Q))) : tDc2 (iTup K tl) g fs fs1 wi1 g1 tk tv σ H Q := h
theorem g_dc2E (h : ta σ H fun vs H1 => ta2 σ H1 (rEnTk K (outW g fs fs1 wi1 g1 tk tv σ Q) vs)) : tDc2 (iEnTk K ta ta2) g fs fs1 wi1 g1 tk tv σ H Q := h
theorem g_inT (h : tl σ H (rItT K (inW fs1 g1 ta1 σ Nx))) : tInner fs1 (iTup K tl) g1 ta1 σ H Nx := h
theorem g_inE (h : ta σ H (rEnT K 0 (inW fs1 g1 ta1 σ Nx))) : tInner fs1 (iEnT K ta) g1 ta1 σ H Nx := h
theorem g_enTk {c : Int} (h1 : -(2 ^ 62) ≤ c) (h2 : c < 2 ^ 62) (h : rEnT K c R vs H) : rEnTk K R vs [.int c] H := ⟨c, rfl, h1, h2, h⟩
/-- the dict's next entry -/
def putN (Nx : Hp → Prop) (D : Addr) (y z : V) (H2 : Hp) : Prop := ∃ kvs k, y = kV k ∧ H2 D = some (.dK kvs) ∧ kvs.length < sizeLine ∧ Nx (upd H2 D (.dK (putK kvs k z)))
theorem g_put {D : Addr} {Nx : Hp → Prop} (h : tk σ H fun y H1 => tv σ H1 fun z H2 => putN Nx D y z H2) : tPut tk tv D σ H Nx := h
theorem putN_int {D : Addr} {Nx : Hp → Prop} {d : Int} {z : V} {kvs : List (Key × V)} (h : H D = some (.dK kvs)) (hl : kvs.length ≤ 1000000) (q : Nx (upd H D (.dK (putK kvs (.inl d) z)))) : putN Nx D (.int d) z H := ⟨kvs, .inl d, rfl, h, by have := sizeLine_eq; omega, q⟩
theorem out_tup {a : Addr} {xs : List V} (h : SqT K H a xs) (Pv : Addr → Nat → Hp → Prop) (h0 : ∀ D, H D = none → Pv D 0 (upd H D (.dK []))) (hl : ∀ D i H', H D = none → Pv D i H' → SqT K H' a xs)
    (hs : ∀ D i x H', H D = none → xs[i]? = some x → Pv D i H' → g x (wipe σ fs) H' fun σ2 H2 => wipe σ2 fs = wipe σ fs ∧ tInner fs1 wi1 g1 (tPut tk tv D) σ2 H2 (Pv D (i + 1))) (hd : ∀ D H', H D = none → Pv D xs.length H' → Q (.ref D) H') :
    rItT K (outW g fs fs1 wi1 g1 tk tv σ Q) (.ref a) H := by
  refine ⟨a, rfl, ⟨xs, h⟩, fun D hD => ⟨fun i m H' => m = xs.length - i ∧ i ≤ xs.length ∧ Pv D i H', ⟨_, rfl, Nat.zero_le _, h0 D hD⟩, fun i m H' hw => ?_⟩⟩
  obtain ⟨rfl, hi, p⟩ := hw
  have q := hl D i H' hD p
  rcases Nat.lt_or_eq_of_le hi with hlt | heq
  · refine .inr ⟨⟨xs, xs[i], q, List.getElem?_eq_getElem hlt⟩, Pv D (i + 1), fun H2 p2 => ⟨xs.length - (i + 1), by omega, rfl, hlt, p2⟩, fun x H2 y => ?_⟩
    obtain ⟨rfl, y⟩ := y
    exact hs D i x _ hD (y xs q) p
  · subst heq
    exact .inl ⟨⟨xs, q, Nat.le_refl _⟩, hd D H' hD p⟩
theorem out_enum {a : Addr} {xs : List V} {c : Int} (h : SqT K H a xs) (Pv : Addr → Nat → Hp → Prop) (h0 : ∀ D, H D = none → Pv D 0 (upd H D (.dK []))) (hl : ∀ D i H', H D = none → Pv D i H' → SqT K H' a xs)
    (hs : ∀ D i x T H', H D = none → xs[i]? = some x → Pv D i H' → H' T = none → g (.ref T) (wipe σ fs) (upd H' T (.tup [.int (c + (i : Int)), x])) fun σ2 H2 => wipe σ2 fs = wipe σ fs ∧ tInner fs1 wi1 g1 (tPut tk tv D) σ2 H2 (Pv D (i + 1))) (hd : ∀ D H', H D = none → Pv D xs.length H' → Q (.ref D) H') :
    rEnT K c (outW g fs fs1 wi1 g1 tk tv σ Q) [.ref a] H := by
  refine ⟨a, rfl, ⟨xs, h⟩, fun D hD => ⟨fun i m H' => m = xs.length - i ∧ i ≤ xs.length ∧ Pv D i H', ⟨_, rfl, Nat.zero_le _, h0 D hD⟩, fun i m H' hw => ?_⟩⟩
  obtain ⟨rfl, hi, p⟩ := hw
  have q := hl D i H' hD p
  rcases Nat.lt_or_eq_of_le hi with hlt | heq
  · refine .inr ⟨⟨xs, xs[i], q, List.getElem?_eq_getElem hlt⟩, Pv D (i + 1), fun H2 p2 => ⟨xs.length - (i + 1), by omega, rfl, hlt, p2⟩, fun v H2 y => ?_⟩
    obtain ⟨T, x, rfl, hT, rfl, y⟩ := y
    exact hs D i x T _ hD (y xs q) p hT
  · subst heq
    exact .inl ⟨⟨xs, q, rfl⟩, hd D H' hD p⟩
theorem in_tup {a : Addr} {xs : List V} (h : SqT K H a xs) (Pv : Nat → Hp → Prop) (h0 : Pv 0 H) (hl : ∀ i H', Pv i H' → SqT K H' a xs)
    (hs : ∀ i x H', xs[i]? = some x → Pv i H' → g1 x (wipe σ fs1) H' fun σ2 H2 => wipe σ2 fs1 = wipe σ fs1 ∧ ta1 σ2 H2 (Pv (i + 1))) (hd : ∀ H', Pv xs.length H' → Nx H') : rItT K (inW fs1 g1 ta1 σ Nx) (.ref a) H := by
  refine ⟨a, rfl, ⟨xs, h⟩, fun i m H' => m = xs.length - i ∧ i ≤ xs.length ∧ Pv i H', ⟨_, rfl, Nat.zero_le _, h0⟩, fun i m H' hw => ?_⟩
  obtain ⟨rfl, hi, p⟩ := hw
  have q := hl i H' p
  rcases Nat.lt_or_eq_of_le hi with hlt | heq
  · refine .inr ⟨⟨xs, xs[i], q, List.getElem?_eq_getElem hlt⟩, Pv (i + 1), fun H2 p2 => ⟨xs.length - (i + 1), by omega, rfl, hlt, p2⟩, fun x H2 y => ?_⟩
    obtain ⟨rfl, y⟩ := y
    exact hs i x _ (y xs q) p
  · subst heq
    exact .inl ⟨⟨xs, q, Nat.le_refl _⟩, hd H' p⟩
theorem in_enum {a : Addr} {xs : List V} {c : Int} (h : SqT K H a xs) (Pv : Nat → Hp → Prop) (h0 : Pv 0 H) (hl : ∀ i H', Pv i H' → SqT K H' a xs)
    (hs : ∀ i x T H', xs[i]? = some x → Pv i H' → H' T = none → g1 (.ref T) (wipe σ fs1) (upd H' T (.tup [.int (c + (i : Int)), x])) fun σ2 H2 => wipe σ2 fs1 = wipe σ fs1 ∧ ta1 σ2 H2 (Pv (i + 1))) (hd : ∀ H', Pv xs.length H' → Nx H') : rEnT K c (inW fs1 g1 ta1 σ Nx) [.ref a] H := by
  refine ⟨a, rfl, ⟨xs, h⟩, fun i m H' => m = xs.length - i ∧ i ≤ xs.length ∧ Pv i H', ⟨_, rfl, Nat.zero_le _, h0⟩, fun i m H' hw => ?_⟩
  obtain ⟨rfl, hi, p⟩ := hw
  have q := hl i H' p
  rcases Nat.lt_or_eq_of_le hi with hlt | heq
  · refine .inr ⟨⟨xs, xs[i], q, List.getElem?_eq_getElem hlt⟩, Pv (i + 1), fun H2 p2 => ⟨xs.length - (i + 1), by omega, rfl, hlt, p2⟩, fun v H2 y => ?_⟩
    obtain ⟨T, x, rfl, hT, rfl, y⟩ := y
    exact hs i x T _ (y xs q) p hT
  · subst heq
    exact .inl ⟨⟨xs, q, rfl⟩, hd H' p⟩
/-- an entry of a dict -/
def rDG : R2 := fun x y H Q => ∃ a v, x = .ref a ∧ DGet H a y (some v) ∧ Q v H
theorem g_dget {td ty : TE} (h : td σ H fun x H1 => ty σ H1 fun y H2 => rDG x y H2 Q) : tDGet td ty σ H Q := h
theorem g_dgetI {a : Addr} {kvs : List (Key × V)} {d : Int} {v : V} (h : H a = some (.dK kvs)) (e : valV kvs (.inl d) = some v) (q : Q v H) : rDG (.ref a) (.int d) H Q := ⟨a, v, rfl, .inl ⟨kvs, .inl d, .inl h, rfl, e.symm⟩, q⟩
theorem g_setD {a : Addr} {kvs : List (Key × V)} {d : Int} {v : V} {Q : Hp → Prop} (h : H a = some (.dK kvs)) (hl : kvs.length ≤ 1000000) (q : Q (upd H a (.dK (putK kvs (.inl d) v)))) : rSetD (.ref a) (.int d) v H Q := ⟨a, _, rfl, .inl ⟨kvs, .inl d, h, rfl, by have := sizeLine_eq; omega, rfl⟩, q⟩
end
end Rz
namespace Rz
open PySem PySem.Spec PyProof.Rows L2
theorem room1 {k : Nat} {Ar : Around} (r : Room k Ar) : Ar.units + 1 < cLine := by
  have := r.units
  omega
theorem sl_tupAK {X : Cx} {K : PySem.W.Frag} (h : X.K = K) : SlR X (rSlA K) := h ▸ sl_tupA
end Rz

namespace Rz
open PySem PySem.Spec PyProof.Rows L2

/-! ### a dart stands at one place -/
theorem row_of {rows : Rows} {k : Nat} {row : List Int} (h : rows[k]? = some row) : rows.getD k [] = row := by rw [List.getD_eq_getElem?_getD, h, Option.getD_some]
theorem place_inj {rows : Rows} (nd : rows.flatten.Nodup) {k k' i i' : Nat} {row row' : List Int} {d : Int} (h1 : rows[k]? = some row) (h2 : row[i]? = some d) (h1' : rows[k']? = some row') (h2' : row'[i']? = some d) : k = k' ∧ i = i' := by
  have hf := List.pairwise_flatten.mp nd
  obtain ⟨hn, hp⟩ := hf
  have hk := (List.getElem?_eq_some_iff.mp h1)
  have hk' := (List.getElem?_eq_some_iff.mp h1')
  obtain ⟨l1, e1⟩ := hk
  obtain ⟨l1', e1'⟩ := hk'
  have m1 := List.mem_of_getElem? h2
  have m2 := List.mem_of_getElem? h2'
  have ek : k = k' := by
    rcases Nat.lt_trichotomy k k' with z | z | z
    · have := List.pairwise_iff_getElem.mp hp k k' l1 l1' z
      rw [e1, e1'] at this
      exact absurd rfl (this d m1 d m2)
    · exact z
    · have := List.pairwise_iff_getElem.mp hp k' k l1' l1 z
      rw [e1, e1'] at this
      exact absurd rfl (this d m2 d m1)
  subst ek
  rw [h1] at h1'
  cases h1'
  exact ⟨rfl, nd_ix (hn row (List.mem_of_getElem? h1)) h2 h2'⟩
theorem at_of {rows : Rows} (nd : rows.flatten.Nodup) {k i : Nat} {row : List Int} {d : Int} (h1 : rows[k]? = some row) (h2 : row[i]? = some d) : atM rows d = (k, i) := by
  obtain ⟨row', a, b⟩ := at_spec (mem_flat.mpr ⟨k, row, h1, List.mem_of_getElem? h2⟩)
  obtain ⟨e1, e2⟩ := place_inj nd a b h1 h2
  exact Prod.ext e1 e2

/-! ### the next dart clockwise, none behind the last dart of the first m nodes -/
def nxtAt (rows : Rows) (m : Nat) (x : Int) : Option Int :=
  if (atM rows x).1 < m ∧ (atM rows x).2 + 1 = (rows.getD (atM rows x).1 []).length then none else (rows.getD (atM rows x).1 [])[((atM rows x).2 + 1) % (rows.getD (atM rows x).1 []).length]?
theorem nxt_eq {rows : Rows} {m : Nat} {d : Int} : nxt rows m d = nxtAt rows m (twin d) := rfl
def optV : Option Int → V
  | none => .non
  | some d => .int d
def Ahead (kvs : List (Key × V)) (rows : Rows) (m : Nat) (P : Nat × Nat → Prop) : Prop := ∀ d ∈ rows.flatten, P (atM rows d) → valV kvs (.inl d) = some (optV (nxtAt rows m d))
theorem nxtAt_zero {rows : Rows} {k i : Nat} {row : List Int} {d x : Int} (nd : rows.flatten.Nodup) (h1 : rows[k]? = some row) (h2 : row[i]? = some d) (h3 : row[(i + 1) % row.length]? = some x) : nxtAt rows 0 d = some x := by
  unfold nxtAt
  rw [at_of nd h1 h2]
  simp only [row_of h1]
  rw [if_neg (fun z => Nat.not_lt_zero _ z.1)]
  exact h3
/-- an entry more -/
theorem Ahead.put {kvs : List (Key × V)} {rows : Rows} {k i : Nat} {row : List Int} {d x : Int} (nd : rows.flatten.Nodup) (h1 : rows[k]? = some row) (h2 : row[i]? = some d) (h3 : row[(i + 1) % row.length]? = some x) (h : Ahead kvs rows 0 fun q => q.1 < k ∨ q.1 = k ∧ q.2 < i) :
    Ahead (putK kvs (.inl d) (.int x)) rows 0 fun q => q.1 < k ∨ q.1 = k ∧ q.2 < i + 1 := fun y hy hp => by
  rw [valV_put]
  by_cases e : y = d
  · subst e
    rw [if_pos rfl, nxtAt_zero nd h1 h2 h3]
    rfl
  · rw [if_neg (fun z => e (Sum.inl.inj z))]
    refine h y hy ?_
    rcases hp with hp | ⟨hp1, hp2⟩
    · exact .inl hp
    · refine .inr ⟨hp1, ?_⟩
      rcases Nat.lt_or_eq_of_le (Nat.le_of_lt_succ hp2) with z | z
      · exact z
      · obtain ⟨row', a, b⟩ := at_spec hy
        rw [hp1, h1] at a
        cases a
        rw [z, h2] at b
        exact absurd (Option.some.inj b).symm e
theorem Ahead.row {kvs : List (Key × V)} {rows : Rows} {k : Nat} {row : List Int} (h1 : rows[k]? = some row) (h : Ahead kvs rows 0 fun q => q.1 < k ∨ q.1 = k ∧ q.2 < row.length) : Ahead kvs rows 0 fun q => q.1 < k + 1 := fun y hy hp => by
  refine h y hy ?_
  rcases Nat.lt_or_eq_of_le (Nat.le_of_lt_succ hp) with z | z
  · exact .inl z
  · obtain ⟨row', a, b⟩ := at_spec hy
    rw [z, h1] at a
    cases a
    exact .inr ⟨z, (List.getElem?_eq_some_iff.mp b).1⟩
theorem Ahead.whole {kvs : List (Key × V)} {rows : Rows} (h : Ahead kvs rows 0 fun q => q.1 < rows.length) : Ahead kvs rows 0 fun _ => True := fun y hy _ => h y hy (at_lt hy)
/-- the rim: none behind the last dart of a node more -/
theorem Ahead.rim {kvs : List (Key × V)} {rows : Rows} {k : Nat} {row : List Int} {d : Int} (nd : rows.flatten.Nodup) (h1 : rows[k]? = some row) (h2 : row[row.length - 1]? = some d) (h : Ahead kvs rows k fun _ => True) : Ahead (putK kvs (.inl d) .non) rows (k + 1) fun _ => True := fun y hy _ => by
  have hl : 0 < row.length := by
    have := (List.getElem?_eq_some_iff.mp h2).1
    omega
  rw [valV_put]
  by_cases e : y = d
  · subst e
    rw [if_pos rfl]
    unfold nxtAt
    rw [at_of nd h1 h2]
    simp only [row_of h1]
    rw [if_pos ⟨Nat.lt_succ_self _, by omega⟩]
    rfl
  · rw [if_neg (fun z => e (Sum.inl.inj z)), h y hy trivial]
    obtain ⟨row', a, b⟩ := at_spec hy
    unfold nxtAt
    have key : ((atM rows y).1 < k ∧ (atM rows y).2 + 1 = (rows.getD (atM rows y).1 []).length) ↔ ((atM rows y).1 < k + 1 ∧ (atM rows y).2 + 1 = (rows.getD (atM rows y).1 []).length) := by
      refine ⟨fun z => ⟨by omega, z.2⟩, fun z => ⟨?_, z.2⟩⟩
      rcases Nat.lt_or_eq_of_le (Nat.le_of_lt_succ z.1) with w | w
      · exact w
      · have z2 := z.2
        rw [w] at a z2
        rw [h1] at a
        cases a
        rw [row_of h1] at z2
        rw [show (atM rows y).2 = row.length - 1 by omega, h2] at b
        exact absurd (Option.some.inj b).symm e
    simp only [key]
theorem Ahead.rim0 {kvs : List (Key × V)} {rows : Rows} {k : Nat} (h1 : rows[k]? = some []) (h : Ahead kvs rows k fun _ => True) : Ahead kvs rows (k + 1) fun _ => True := fun y hy _ => by
  rw [h y hy trivial]
  obtain ⟨row', a, b⟩ := at_spec hy
  have key : ((atM rows y).1 < k ∧ (atM rows y).2 + 1 = (rows.getD (atM rows y).1 []).length) ↔ ((atM rows y).1 < k + 1 ∧ (atM rows y).2 + 1 = (rows.getD (atM rows y).1 []).length) := by
    refine ⟨fun z => ⟨by omega, z.2⟩, fun z => ⟨?_, z.2⟩⟩
    rcases Nat.lt_or_eq_of_le (Nat.le_of_lt_succ z.1) with w | w
    · exact w
    · rw [w, h1] at a
      cases a
      simp at b
  unfold nxtAt
  simp only [key]

/-! ### the walk of a face comes back -/
theorem twin_inj {a b : Int} (h : twin a = twin b) : a = b := by
  unfold twin at h
  omega
theorem nxt_inj {rows : Rows} {E rim : Nat} (hW : WF rows E) {a b x : Int} (ha : 0 ≤ a ∧ a < 2 * (E : Int)) (hb : 0 ≤ b ∧ b < 2 * (E : Int)) (h1 : nxt rows rim a = some x) (h2 : nxt rows rim b = some x) : a = b := by
  have go : ∀ {c : Int}, 0 ≤ c ∧ c < 2 * (E : Int) → nxt rows rim c = some x → ∃ (k i : Nat) (row : List Int), rows[k]? = some row ∧ row[i]? = some (twin c) ∧ row[(i + 1) % row.length]? = some x := fun {c} hc h => by
    obtain ⟨row, a1, a2⟩ := at_spec ((hW.mem (twin c)).mpr (twin_range hc))
    rw [nxt_eq] at h
    unfold nxtAt at h
    simp only [row_of a1] at h
    split at h
    · cases h
    · exact ⟨_, _, row, a1, a2, h⟩
  obtain ⟨k, i, row, p1, p2, p3⟩ := go ha h1
  obtain ⟨k', i', row', p1', p2', p3'⟩ := go hb h2
  obtain ⟨e1, e2⟩ := place_inj hW.nd p1 p3 p1' p3'
  subst e1
  rw [p1] at p1'
  cases p1'
  have l1 := (List.getElem?_eq_some_iff.mp p2).1
  have l2 := (List.getElem?_eq_some_iff.mp p2').1
  have e3 : i = i' := by
    rcases Nat.lt_or_eq_of_le (show i + 1 ≤ row.length from l1) with z | z
    · rw [Nat.mod_eq_of_lt z] at e2
      rcases Nat.lt_or_eq_of_le (show i' + 1 ≤ row.length from l2) with z' | z'
      · rw [Nat.mod_eq_of_lt z'] at e2
        omega
      · rw [z', Nat.mod_self] at e2
        omega
    · rw [z, Nat.mod_self] at e2
      rcases Nat.lt_or_eq_of_le (show i' + 1 ≤ row.length from l2) with z' | z'
      · rw [Nat.mod_eq_of_lt z'] at e2
        omega
      · omega
  subst e3
  rw [p2] at p2'
  exact twin_inj (Option.some.inj p2')
theorem nxt_range {rows : Rows} {E rim : Nat} (hW : WF rows E) {a x : Int} (h : nxt rows rim a = some x) : 0 ≤ x ∧ x < 2 * (E : Int) := (hW.mem x).mp (nxt_mem h)
/-- a stretch of the walk from d: each its darts once -/
structure Walk1 (rows : Rows) (rim E : Nat) (d : Int) (w : List Int) (l : Int) : Prop where
  hd : w.head? = some d
  last : w[w.length - 1]? = some l
  nd : w.Nodup
  rng : ∀ x ∈ w, 0 ≤ x ∧ x < 2 * (E : Int)
  link : ∀ (i : Nat) x y, w[i]? = some x → w[i + 1]? = some y → nxt rows rim x = some y
theorem Walk1.start {rows : Rows} {rim E : Nat} {d : Int} (h : 0 ≤ d ∧ d < 2 * (E : Int)) : Walk1 rows rim E d [d] d :=
  ⟨rfl, rfl, by simp, fun x hx => by rw [List.mem_singleton.mp hx]; exact h, fun i x y _ b => by simp at b⟩
theorem Walk1.pos {rows : Rows} {rim E : Nat} {d l : Int} {w : List Int} (h : Walk1 rows rim E d w l) : 1 ≤ w.length := by
  have := h.hd
  cases w with
  | nil => cases this
  | cons a b => simp
theorem Walk1.mem {rows : Rows} {rim E : Nat} {d l : Int} {w : List Int} (h : Walk1 rows rim E d w l) : l ∈ w := List.mem_of_getElem? h.last
theorem Walk1.step {rows : Rows} {rim E : Nat} {d l x : Int} {w : List Int} (hW : WF rows E) (h : Walk1 rows rim E d w l) (hn : nxt rows rim l = some x) (hne : x ≠ d) : Walk1 rows rim E d (w ++ [x]) x := by
  have hp := h.pos
  have hx : x ∉ w := fun hm => by
    obtain ⟨i, hi⟩ := List.mem_iff_getElem?.mp hm
    have hil := (List.getElem?_eq_some_iff.mp hi).1
    cases i with
    | zero =>
      have := h.hd
      rw [List.head?_eq_getElem?, hi] at this
      exact hne (Option.some.inj this)
    | succ i =>
      have hi2 : w[i]? = some w[i] := List.getElem?_eq_getElem (by omega)
      have k := h.link i _ _ hi2 hi
      have e := nxt_inj hW (h.rng _ (List.mem_of_getElem? hi2)) (h.rng _ h.mem) k hn
      rw [e] at hi2
      have := nd_ix h.nd hi2 h.last
      omega
  refine ⟨?_, ?_, ?_, fun y hy => ?_, fun i a b ha hb => ?_⟩
  · rw [List.head?_append, h.hd]
    rfl
  · rw [List.length_append, List.length_singleton, Nat.add_sub_cancel, List.getElem?_append_right (Nat.le_refl _), Nat.sub_self]
    rfl
  · rw [List.nodup_append]
    refine ⟨h.nd, by simp, fun a ha b hb e => ?_⟩
    rw [List.mem_singleton.mp hb] at e
    exact hx (e ▸ ha)
  · rcases List.mem_append.mp hy with hy | hy
    · exact h.rng y hy
    · rw [List.mem_singleton.mp hy]
      exact nxt_range hW hn
  · have hi : i + 1 < (w ++ [x]).length := (List.getElem?_eq_some_iff.mp hb).1
    rw [List.length_append, List.length_singleton] at hi
    rw [List.getElem?_append_left (by omega)] at ha
    rcases Nat.lt_or_eq_of_le (show i + 1 ≤ w.length by omega) with z | z
    · rw [List.getElem?_append_left z] at hb
      exact h.link i a b ha hb
    · rw [List.getElem?_append_right (by omega), z, Nat.sub_self] at hb
      have e : x = b := Option.some.inj hb
      have e2 : i = w.length - 1 := by omega
      rw [e2, h.last] at ha
      cases ha
      rw [← e]
      exact hn
theorem nodup_le : ∀ (w l : List Int), w.Nodup → (∀ x ∈ w, x ∈ l) → w.length ≤ l.length
  | [], l, _, _ => Nat.zero_le _
  | x :: w, l, hn, hs => by
    obtain ⟨h1, h2⟩ := List.nodup_cons.mp hn
    have hx := hs x List.mem_cons_self
    have := nodup_le w (l.erase x) h2 fun y hy => (List.mem_erase_of_ne (show y ≠ x from fun z => h1 (by rw [← z]; exact hy))).mpr (hs y (List.mem_cons_of_mem _ hy))
    rw [List.length_erase_of_mem hx] at this
    have := List.length_pos_of_mem hx
    rw [List.length_cons]
    omega
theorem Walk1.len {rows : Rows} {rim E : Nat} {d l : Int} {w : List Int} (h : Walk1 rows rim E d w l) : w.length ≤ 2 * E := by
  have := nodup_le w ((List.range (2 * E)).map Int.ofNat) h.nd fun x hx => by
    have hr := h.rng x hx
    rw [List.mem_map]
    exact ⟨x.toNat, List.mem_range.mpr (by omega), by show ((x.toNat : Nat) : Int) = x; omega⟩
  rw [List.length_map, List.length_range] at this
  exact this
/-- the end of the walk -/
theorem Walk1.face {rows : Rows} {rim E : Nat} {d l : Int} {w : List Int} (n : Nat) (h : Walk1 rows rim E d w l) (hE : 2 * E ≤ 200) (hw : faceM rows rim d = walkF rows rim (201 - w.length) w l) (he : nxt rows rim l = none ∨ nxt rows rim l = some d) : faceM rows rim d = w := by
  have := h.len
  have := h.pos
  obtain ⟨m, hm⟩ : ∃ m, 201 - w.length = m + 1 := ⟨200 - w.length, by omega⟩
  rw [hw, hm]
  show (match nxt rows rim l with
    | none => w
    | some d' => if some d' = w.head? then w else walkF rows rim m (w ++ [d']) d') = w
  rcases he with he | he
  · rw [he]
  · rw [he]
    simp only
    rw [if_pos h.hd.symm]
theorem Walk1.more {rows : Rows} {rim E : Nat} {d l x : Int} {w : List Int} (h : Walk1 rows rim E d w l) (hE : 2 * E ≤ 200) (hw : faceM rows rim d = walkF rows rim (201 - w.length) w l) (hn : nxt rows rim l = some x) (hne : x ≠ d) :
    faceM rows rim d = walkF rows rim (201 - (w ++ [x]).length) (w ++ [x]) x := by
  have := h.len
  have := h.pos
  obtain ⟨m, hm⟩ : ∃ m, 201 - w.length = m + 1 := ⟨200 - w.length, by omega⟩
  have hm2 : 201 - (w ++ [x]).length = m := by
    rw [List.length_append, List.length_singleton]
    omega
  rw [hw, hm, hm2]
  show (match nxt rows rim l with
    | none => w
    | some d' => if some d' = w.head? then w else walkF rows rim m (w ++ [d']) d') = _
  rw [hn]
  simp only
  rw [if_neg]
  rw [h.hd]
  exact fun z => hne (Option.some.inj z)
theorem xor_twin {d : Int} (h : 0 ≤ d) : Builtin.bitXor d 1 = twin d := by
  rw [Bits.bitXor_pp h (by decide)]
  obtain ⟨n, rfl⟩ : ∃ n : Nat, d = n := ⟨d.toNat, by omega⟩
  rw [Int.toNat_natCast]
  show ((n ^^^ 1 : Nat) : Int) = twin n
  have e1 : (n ^^^ 1) % 2 = (n % 2) ^^^ 1 := Nat.xor_mod_two_pow (a := n) (b := 1) (n := 1)
  have e2 : (n ^^^ 1) / 2 = n / 2 := by
    have := Nat.xor_div_two_pow (a := n) (b := 1) (n := 1)
    rw [show 1 / 2 ^ 1 = 0 from rfl, Nat.xor_zero] at this
    exact this
  unfold twin
  rcases Nat.mod_two_eq_zero_or_one n with z | z
  · rw [z] at e1
    have e3 : (n ^^^ 1) % 2 = 1 := e1
    omega
  · rw [z] at e1
    have e3 : (n ^^^ 1) % 2 = 0 := e1
    omega
end Rz
namespace Rz
open PySem PySem.Spec PyProof.Rows L2
theorem sqt_updD {K : PySem.W.Frag} {H : Hp} {D a : Addr} {kvs : List (Key × V)} {xs : List V} {o : HO} (hD : H D = some (.dK kvs)) (h : SqT K H a xs) : SqT K (upd H D o) a xs := by
  rcases h with (h | ⟨u, h⟩) | h
  · exact .inl (.inl (by rw [upd_ne (ne_of h hD (fun z => nomatch z))]; exact h))
  · exact .inl (.inr ⟨u, by rw [upd_ne (ne_of h hD (fun z => nomatch z))]; exact h⟩)
  · exact .inr h
def spOther : Sp := fun vs H Q _ => ∃ d : Int, vs = [.int d] ∧ 0 ≤ d ∧ Q (.int (twin d)) H
/-- the turns of a net, as tuples -/
structure TurnsAt (K : PySem.W.Frag) (H : Hp) (t : Addr) (ts : List Addr) (rows : Rows) : Prop where
  top : SqT K H t (ts.map V.ref)
  len : ts.length = rows.length
  row : ∀ (i : Nat) r row, ts[i]? = some r → rows[i]? = some row → SqT K H r (row.map V.int)
theorem TurnsAt.same {K : PySem.W.Frag} {H H' : Hp} {t : Addr} {ts : List Addr} {rows : Rows} (h : TurnsAt K H t ts rows) (e : Same H H') : TurnsAt K H' t ts rows := ⟨Same.sqt e h.top, h.len, fun i r row a b => Same.sqt e (h.row i r row a b)⟩
theorem TurnsAt.get {K : PySem.W.Frag} {H : Hp} {t : Addr} {ts : List Addr} {rows : Rows} (h : TurnsAt K H t ts rows) {i : Nat} {x : V} (e : (ts.map V.ref)[i]? = some x) : ∃ r, x = .ref r ∧ rows[i]? = some (rows.getD i []) ∧ SqT K H r ((rows.getD i []).map V.int) := by
  rw [List.getElem?_map] at e
  cases hr : ts[i]? with
  | none =>
    rw [hr] at e
    cases e
  | some r =>
    rw [hr] at e
    cases e
    have hl : i < rows.length := by
      rw [← h.len]
      exact (List.getElem?_eq_some_iff.mp hr).1
    have hg := List.getElem?_eq_getElem hl
    rw [row_of hg]
    exact ⟨r, rfl, hg, h.row i r _ hr hg⟩
theorem NetAt.tns {K : PySem.W.Frag} {H : Hp} {p t m : Addr} {ts : List Addr} {as : List V} {rim : Nat} {rows : Rows} {qs : List Rat} (h : NetAt K H p t m ts as rim rows qs) : TurnsAt K H t ts rows := ⟨h.turns, h.len, h.row⟩
def spNextC (K : PySem.W.Frag) : Sp := fun vs H Q _ => ∃ (t : Addr) (ts : List Addr) (rows : Rows) (E : Nat), vs = [.ref t] ∧ TurnsAt K H t ts rows ∧ WF rows E ∧ E ≤ 100 ∧ rows.length ≤ 1000 ∧
  ∀ D kvs H', Same H H' → H D = none → H' D = some (.dK kvs) → Ahead kvs rows 0 (fun _ => True) → kvs.length ≤ 300000 → Q (.ref D) H'
def spLeft (K : PySem.W.Frag) : Sp := fun vs H Q _ => ∃ (v : V) (d : Int) (rim : Nat) (rows : Rows) (qs : List Rat) (E : Nat), vs = [v, .int d] ∧ NetV K H v rim rows qs ∧ WF rows E ∧ E ≤ 100 ∧ rows.length ≤ 1000 ∧ rim ≤ rows.length ∧ (0 ≤ d ∧ d < 2 * (E : Int)) ∧
  ∀ p H', Same H H' → SqT K H' p ((faceM rows rim d).map V.int) → Q (.ref p) H'
def spEnds (K : PySem.W.Frag) : Sp := fun vs H Q _ => ∃ (v : V) (rim : Nat) (rows : Rows) (qs : List Rat) (E : Nat), vs = [v] ∧ NetV K H v rim rows qs ∧ WF rows E ∧ qs.length = E ∧ E ≤ 100 ∧ rows.length ≤ 1000 ∧
  ∀ l (ps : List Addr) H', Same H H' → H l = none → H' l = some (.lst (ps.map V.ref)) → ps.length = E → (∀ (e : Nat) q, ps[e]? = some q → SqT K H' q [.int (((atM rows (2 * (e : Int))).1 : Int) + 1), .int (((atM rows (2 * (e : Int) + 1)).1 : Int) + 1)]) → Q (.ref l) H'
/-- a tuple's cut -/
theorem g_slA {K : PySem.W.Frag} {H : Hp} {a : Addr} {xs : List V} {n : Nat} {Q : VK} (h : SqT K H a xs) (hn : n ≤ xs.length) (q : ∀ p H', Same H H' → SqT K H' p (xs.take n) → Q (.ref p) H') : rSlA K (.ref a) none (some (n : Int)) H Q := by
  have e1 : HT.sIx xs.length 0 none = 0 := rfl
  have e2 : HT.sIx xs.length xs.length (some (n : Int)) = n := by
    rw [HT.sIx_nat]
    omega
  refine ⟨a, xs, rfl, h, fun z => ?_, fun z p hp => ?_⟩
  · rw [e2] at z
    refine q a H (Same.refl _) ?_
    rw [z.2, List.take_length]
    exact h
  · have e3 : cutV xs none (some (n : Int)) = xs.take n := by
      unfold cutV
      rw [e1, e2, List.drop_zero, Nat.sub_zero]
    rw [e3]
    exact q p _ (up_same hp) (SqT.of upd_same)
def Home (kvs : List (Key × V)) (rows : Rows) (P : Nat × Nat → Prop) : Prop := ∀ d ∈ rows.flatten, P (atM rows d) → valV kvs (.inl d) = some (.int (((atM rows d).1 : Int) + 1))
theorem Home.put {kvs : List (Key × V)} {rows : Rows} {k i : Nat} {row : List Int} {d : Int} (nd : rows.flatten.Nodup) (h1 : rows[k]? = some row) (h2 : row[i]? = some d) (h : Home kvs rows fun q => q.1 < k ∨ q.1 = k ∧ q.2 < i) :
    Home (putK kvs (.inl d) (.int ((k : Int) + 1))) rows fun q => q.1 < k ∨ q.1 = k ∧ q.2 < i + 1 := fun y hy hp => by
  rw [valV_put]
  by_cases e : y = d
  · subst e
    rw [if_pos rfl, at_of nd h1 h2]
  · rw [if_neg (fun z => e (Sum.inl.inj z))]
    refine h y hy ?_
    rcases hp with hp | ⟨hp1, hp2⟩
    · exact .inl hp
    · refine .inr ⟨hp1, ?_⟩
      rcases Nat.lt_or_eq_of_le (Nat.le_of_lt_succ hp2) with z | z
      · exact z
      · obtain ⟨row', a, b⟩ := at_spec hy
        rw [hp1, h1] at a
        cases a
        rw [z, h2] at b
        exact absurd (Option.some.inj b).symm e
theorem Home.row {kvs : List (Key × V)} {rows : Rows} {k : Nat} {row : List Int} (h1 : rows[k]? = some row) (h : Home kvs rows fun q => q.1 < k ∨ q.1 = k ∧ q.2 < row.length) : Home kvs rows fun q => q.1 < k + 1 := fun y hy hp => by
  refine h y hy ?_
  rcases Nat.lt_or_eq_of_le (Nat.le_of_lt_succ hp) with z | z
  · exact .inl z
  · obtain ⟨row', a, b⟩ := at_spec hy
    rw [z, h1] at a
    cases a
    exact .inr ⟨z, (List.getElem?_eq_some_iff.mp b).1⟩
/-- n refs laid one after another, the i-th told by its facts -/
theorem int_at {row : List Int} {j : Nat} {x : V} (h : (row.map V.int)[j]? = some x) : ∃ d, row[j]? = some d ∧ x = .int d := by
  rw [List.getElem?_map] at h
  cases hz : row[j]? with
  | none =>
    rw [hz] at h
    cases h
  | some d =>
    rw [hz] at h
    cases h
    exact ⟨d, rfl, rfl⟩
theorem at_snoc {α : Type} {ps : List α} {q x : α} {e : Nat} (h : (ps ++ [q])[e]? = some x) : (e < ps.length ∧ ps[e]? = some x) ∨ (e = ps.length ∧ x = q) := by
  by_cases he : e < ps.length
  · rw [List.getElem?_append_left he] at h
    exact .inl ⟨he, h⟩
  · rw [List.getElem?_append_right (by omega)] at h
    by_cases h0 : e - ps.length = 0
    · rw [h0] at h
      cases h
      exact .inr ⟨by omega, rfl⟩
    · obtain ⟨j, hj⟩ : ∃ j, e - ps.length = j + 1 := ⟨e - ps.length - 1, by omega⟩
      rw [hj] at h
      simp at h
end Rz
namespace Rz
open PySem PySem.Spec PyProof.Rows L2
theorem Eqv.ints {K : PySem.W.Frag} {H : Hp} {n : Nat} {p q : Addr} {ns : List Int} (h1 : SqT K H p (ns.map V.int)) (h2 : SqT K H q (ns.map V.int)) (hl : ns.length < 1000000) : Eqv K H (n + 2) (.ref p) (.ref q) :=
  .tup h1 h2 rfl (by rw [List.length_map]; exact hl) fun i x y e1 e2 => by
    rw [e1] at e2
    cases e2
    obtain ⟨d, _, rfl⟩ := int_at e1
    exact .sc rfl
/-- [list(turn) for turn in turns] -/
theorem rows_lc {K : PySem.W.Frag} {σ : L2.St} {H : Hp} {vs : List Nat} {i₀ : Nat} {Q : VK} {t : Addr} {ts : List Addr} {rows : Rows} (hN : TurnsAt K H t ts rows) (hb : rows.length ≤ 1000) (hw : ∀ x, wipe ((wipe σ vs).set i₀ (some x)) vs = wipe σ vs) (hi : ∀ x, ((wipe σ vs).set i₀ (some x))[i₀]? = some (some x))
    (q : ∀ T rs H', Same H H' → H T = none → RowsAt H' T rs rows → (∀ r ∈ rs, H r = none) → Q (.ref T) H') : rItT K (lcW (gName i₀) tYes (tCB (rListOf K) (tCons (tVar i₀) tNil)) vs σ Q) (.ref t) H := by
  refine g_lcTup hN.top (fun T i acc H' => Same H H' ∧ H' T = some (.lst acc) ∧ ∃ rs : List Addr, rs.length = i ∧ acc = rs.map V.ref ∧ rs.Nodup ∧ (∀ r ∈ rs, H r = none ∧ r ≠ T) ∧ ∀ (j : Nat) r row, rs[j]? = some r → rows[j]? = some row → H' r = some (.lst (row.map V.int))) hw
    (fun T hT => ⟨up_same hT, upd_same, [], rfl, rfl, List.nodup_nil, (fun r hr => nomatch hr), fun j r row a => by simp at a⟩) (fun T i acc H' _ h => Same.sqt h.1 hN.top) ?_ ?_
  · rintro T i x acc H1 hT hx ⟨sm, eT, rs, hl, rfl, hnd, hfr, hrow⟩
    obtain ⟨r, rfl, hri, hr1⟩ := (hN.same sm).get hx
    have hil := (List.getElem?_eq_some_iff.mp hri).1
    refine g_cb (g_cons (g_var (hi _) (g_nil (g_listT hr1 fun l hl0 => ?_))))
    have s1 := up_same (H := H1) (o := .lst ((rows.getD i []).map V.int)) hl0
    have hlT : l ≠ T := (ne_of_none eT hl0).symm
    have hlr : ∀ r ∈ rs, r ≠ l := fun r hr => by
      obtain ⟨j, hj⟩ := List.mem_iff_getElem?.mp hr
      have hj2 : j < rows.length := by
        have := (List.getElem?_eq_some_iff.mp hj).1
        omega
      exact ne_of_none (hrow j r _ hj (List.getElem?_eq_getElem hj2)) hl0
    refine lcN_of (s1 _ _ eT) (by rw [List.length_map]; omega) ⟨fun b o h => ?_, upd_same, rs ++ [l], ?_, ?_, ?_, fun r' hr' => ?_, fun j r' row a b => ?_⟩
    · rw [upd_ne (ne_of_none h hT)]
      exact s1 _ _ (sm _ _ h)
    · rw [List.length_append, hl]
      rfl
    · rw [List.map_append]
      rfl
    · rw [List.nodup_append]
      refine ⟨hnd, by simp, fun a ha b hb2 e => ?_⟩
      rw [List.mem_singleton.mp hb2] at e
      exact hlr a ha e
    · rcases List.mem_append.mp hr' with z | z
      · exact hfr r' z
      · rw [List.mem_singleton.mp z]
        exact ⟨sm.free hl0, hlT⟩
    · rcases at_snoc a with ⟨h1, h2⟩ | ⟨h1, rfl⟩
      · rw [upd_ne (hfr r' (List.mem_of_getElem? h2)).2]
        exact s1 _ _ (hrow j r' row h2 b)
      · rw [h1, hl, hri] at b
        cases b
        rw [upd_ne hlT]
        exact upd_same
  · rintro T acc H1 hT ⟨sm, eT, rs, hl, rfl, hnd, hfr, hrow⟩
    refine q T rs H1 sm hT ⟨eT, ?_, hrow, hnd⟩ fun r hr => (hfr r hr).1
    rw [hl, List.length_map, hN.len]
/-- a law's promise: at every list of at most 63 ints it ends and gives True -/
def spLaw (K : PySem.W.Frag) : Sp := fun vs H Q _ => ∃ (a : Addr) (ns : List Int), vs = [.ref a] ∧ SqL K H a (ns.map V.int) ∧ ns.length ≤ 63 ∧ ∀ H', Q (.bl true) H'
/-- a list of the pairs of the nodes of the edges -/
structure EndsL (K : PySem.W.Frag) (H : Hp) (l : Addr) (ps : List Addr) (rows : Rows) (n : Nat) : Prop where
  top : H l = some (.lst (ps.map V.ref))
  len : ps.length = n
  at_ : ∀ (e : Nat) q, ps[e]? = some q → SqT K H q [.int (((atM rows (2 * (e : Int))).1 : Int) + 1), .int (((atM rows (2 * (e : Int) + 1)).1 : Int) + 1)]
theorem EndsL.same {K : PySem.W.Frag} {H H' : Hp} {l : Addr} {ps : List Addr} {rows : Rows} {n : Nat} (h : EndsL K H l ps rows n) (e : Same H H') : EndsL K H' l ps rows n := ⟨e _ _ h.top, h.len, fun i q z => Same.sqt e (h.at_ i q z)⟩
theorem EndsL.eqv {K : PySem.W.Frag} {H : Hp} {l l' : Addr} {ps ps' : List Addr} {rows : Rows} {n k : Nat} (h : EndsL K H l ps rows n) (h' : EndsL K H l' ps' rows n) (hn : n < 1000000) : Eqv K H (k + 4) (.ref l) (.ref l') := by
  refine .lst (SqL.of h.top) (SqL.of h'.top) (by rw [List.length_map, List.length_map, h.len, h'.len]) (by rw [List.length_map, h'.len]; exact hn) fun i x y e1 e2 => ?_
  rw [List.getElem?_map] at e1 e2
  cases hp : ps[i]? with
  | none =>
    rw [hp] at e1
    cases e1
  | some q =>
    cases hp' : ps'[i]? with
    | none =>
      rw [hp'] at e2
      cases e2
    | some q' =>
      rw [hp] at e1
      rw [hp'] at e2
      cases e1
      cases e2
      exact Eqv.ints (ns := [((atM rows (2 * (i : Int))).1 : Int) + 1, ((atM rows (2 * (i : Int) + 1)).1 : Int) + 1]) (h.at_ i q hp) (h'.at_ i q' hp') (by show 2 < 1000000; decide)
end Rz

namespace Rz
open PySem PySem.Spec PyProof.Rows L2

/-! ### ratios compared -/
def ratD (q : Rat) : PyData := .tuple [.int q.num, .int (q.den : Int)]
theorem RatV.dp {K : PySem.W.Frag} {H : Hp} {v : V} {q : Rat} (h : RatV K H v q) : Dp K H v (ratD q) := by
  obtain ⟨p, rfl, h⟩ := h
  exact .tup h (.cons (.int _) (.cons (.int _) .nil))
theorem rat_ext {p q : Rat} : p = q ↔ p.num = q.num ∧ (p.den : Int) = (q.den : Int) := ⟨fun h => by rw [h]; exact ⟨rfl, rfl⟩, fun h => Rat.ext h.1 (Int.ofNat.inj h.2)⟩
theorem ratD_eqv (p q : Rat) : PyData.eqv (ratD p) (ratD q) = decide (p = q) := by
  have e : PyData.eqv (ratD p) (ratD q) = ((p.num == q.num) && (((p.den : Int) == (q.den : Int)) && true)) := rfl
  rw [e, Bool.and_true]
  by_cases h : p = q
  · rw [decide_eq_true h, h, beq_self_eq_true, beq_self_eq_true]
    rfl
  · rw [decide_eq_false h]
    by_cases h1 : p.num = q.num
    · have h2 : ¬ (p.den : Int) = (q.den : Int) := fun z => h (rat_ext.mpr ⟨h1, z⟩)
      rw [beq_eq_false_iff_ne.mpr h2, Bool.and_false]
    · rw [beq_eq_false_iff_ne.mpr h1, Bool.false_and]
theorem g_neRat {K : PySem.W.Frag} {H : Hp} {x y : V} {p q : Rat} {Q : VK} (h1 : RatV K H x p) (h2 : RatV K H y q) (k : Q (.bl (!decide (p = q))) H) : rNeD K x y H Q := ⟨_, _, h1.dp, h2.dp, by rfl, by rfl, by rw [ratD_eqv]; exact k⟩
theorem g_eqRat {K : PySem.W.Frag} {H : Hp} {x y : V} {p q : Rat} {Q : VK} (h1 : RatV K H x p) (h2 : RatV K H y q) (k : Q (.bl (decide (p = q))) H) : rEqD K x y H Q := ⟨_, _, h1.dp, h2.dp, by rfl, by rfl, by rw [ratD_eqv]; exact k⟩

/-! ### more walks in comprehensions -/
section
variable {K : PySem.W.Frag} {σ : L2.St} {H : Hp} {g : TG} {tt : TT} {te : TE} {vs : List Nat} {Q : VK} {ta : TA} {R : It → Hp → Prop} {D : Ends} {tb : TS}
def rEnL (K : PySem.W.Frag) (R : It → Hp → Prop) : List V → Hp → Prop := fun us H1 => ∃ a xs, us = [.ref a] ∧ SqL K H1 a xs ∧ R (Ite K a) H1
def rZipL (K : PySem.W.Frag) (R : It → Hp → Prop) : List V → Hp → Prop := fun us H1 => ∃ a b xs ys, us = [.ref a, .ref b] ∧ SqL K H1 a xs ∧ SqL K H1 b ys ∧ R (Itz K a b) H1
def iEnL (K : PySem.W.Frag) (ta : TA) : TI := fun σ H R => ta σ H (rEnL K R)
def iZipL (K : PySem.W.Frag) (ta : TA) : TI := fun σ H R => ta σ H (rZipL K R)
theorem pi_enumLK {X : Cx} {e : Expr} {p pos tpos : Pos} {elts : List Expr} {kk : Nat} (hKK : X.K = K) (hg : Gl X "enumerate") (hm : X.mg "enumerate" = none) (ha : PA X [e] ta) (hs : starEach [e] X.env = [(false, eval e X.env)] := by rfl) :
    PI X (.Tuple elts kk tpos) (.Call (.Name "enumerate" p) [e] [] pos) (iEnL K ta) := hKK ▸ pi_enum hg hm ha hs
theorem pi_zipK {X : Cx} {e e2 : Expr} {p pos tpos : Pos} {elts : List Expr} {kk : Nat} (hKK : X.K = K) (hg : Gl X "zip") (hm : X.mg "zip" = none) (ha : PA X [e, e2] ta)
    (hs : starEach [e, e2] X.env = (false, eval e X.env) :: starEach [e2] X.env := by rfl) (hpl : (backTo pos (starEach [e2] X.env)).any (·.1) = false := by rfl) : PI X (.Tuple elts kk tpos) (.Call (.Name "zip" p) [e, e2] [] pos) (iZipL K ta) := hKK ▸ pi_zip hg hm ha hs hpl
theorem g_lcE (h : ta σ H (rEnL K (lcW g tt te vs σ Q))) : tLc (iEnL K ta) g tt te vs σ H Q := h
theorem g_lcZ (h : ta σ H (rZipL K (lcW g tt te vs σ Q))) : tLc (iZipL K ta) g tt te vs σ H Q := h
theorem lc_en {a : Addr} {xs : List V} (h : SqL K H a xs) (Pv : Addr → Nat → List V → Hp → Prop) (h0 : ∀ p, H p = none → Pv p 0 [] (upd H p (.lst []))) (hl : ∀ p i acc H', H p = none → Pv p i acc H' → SqL K H' a xs)
    (hs : ∀ p i x T acc H', H p = none → xs[i]? = some x → Pv p i acc H' → H' T = none → g (.ref T) (wipe σ vs) (upd H' T (.tup [.int (i : Nat), x])) fun σ2 H2 => wipe σ2 vs = wipe σ vs ∧ te σ2 H2 (lcN (Pv p) p i))
    (hd : ∀ p acc H', H p = none → Pv p xs.length acc H' → Q (.ref p) H') : rEnL K (lcW g tYes te vs σ Q) [.ref a] H := by
  refine ⟨a, xs, rfl, h, fun p hp => ⟨fun i m H' => m = xs.length - i ∧ i ≤ xs.length ∧ ∃ acc, Pv p i acc H', ⟨_, rfl, Nat.zero_le _, [], h0 p hp⟩, fun i m H' hw => ?_⟩⟩
  obtain ⟨rfl, hi, acc, pv⟩ := hw
  have q := hl p i acc H' hp pv
  rcases Nat.lt_or_eq_of_le hi with hlt | heq
  · refine .inr ⟨⟨xs, xs[i], q, List.getElem?_eq_getElem hlt⟩, fun H2 => ∃ acc2, Pv p (i + 1) acc2 H2, fun H2 p2 => ⟨xs.length - (i + 1), by omega, rfl, hlt, p2⟩, fun v H2 y => ?_⟩
    obtain ⟨T, x, rfl, hT, rfl, y⟩ := y
    exact hs p i x T acc _ hp (y xs q) pv hT
  · subst heq
    exact .inl ⟨⟨xs, q, Nat.le_refl _⟩, hd p acc H' hp pv⟩
theorem lc_zip {a b : Addr} {xs ys : List V} (h : SqL K H a xs) (h2 : SqL K H b ys) (hlen : xs.length = ys.length) (Pv : Addr → Nat → List V → Hp → Prop) (h0 : ∀ p, H p = none → Pv p 0 [] (upd H p (.lst []))) (hl : ∀ p i acc H', H p = none → Pv p i acc H' → SqL K H' a xs ∧ SqL K H' b ys)
    (hs : ∀ p i x z T acc H', H p = none → xs[i]? = some x → ys[i]? = some z → Pv p i acc H' → H' T = none → g (.ref T) (wipe σ vs) (upd H' T (.tup [x, z])) fun σ2 H2 => wipe σ2 vs = wipe σ vs ∧ te σ2 H2 (lcN (Pv p) p i))
    (hd : ∀ p acc H', H p = none → Pv p xs.length acc H' → Q (.ref p) H') : rZipL K (lcW g tYes te vs σ Q) [.ref a, .ref b] H := by
  refine ⟨a, b, xs, ys, rfl, h, h2, fun p hp => ⟨fun i m H' => m = xs.length - i ∧ i ≤ xs.length ∧ ∃ acc, Pv p i acc H', ⟨_, rfl, Nat.zero_le _, [], h0 p hp⟩, fun i m H' hw => ?_⟩⟩
  obtain ⟨rfl, hi, acc, pv⟩ := hw
  have q := hl p i acc H' hp pv
  rcases Nat.lt_or_eq_of_le hi with hlt | heq
  · refine .inr ⟨⟨xs, ys, xs[i], ys[i], q.1, q.2, List.getElem?_eq_getElem hlt, List.getElem?_eq_getElem _⟩, fun H2 => ∃ acc2, Pv p (i + 1) acc2 H2, fun H2 p2 => ⟨xs.length - (i + 1), by omega, rfl, hlt, p2⟩, fun v H2 y => ?_⟩
    obtain ⟨T, x, z, rfl, hT, rfl, y1, y2⟩ := y
    exact hs p i x z T acc _ hp (y1 xs q.1) (y2 ys q.2) pv hT
  · subst heq
    exact .inl ⟨⟨xs, ys, q.1, q.2, .inl (Nat.le_refl _)⟩, hd p acc H' hp pv⟩
end

section
variable {σ : L2.St} {H : Hp} {g : TG} {ta : TA} {D : Ends} {tb : TS}
def rRng2 (R : It → Hp → Prop) : List V → Hp → Prop := fun vs H1 => ∃ i j : Int, vs = [.int i, .int j] ∧ (-(2 ^ 62) ≤ i ∧ i < 2 ^ 62 ∧ -(2 ^ 62) ≤ j ∧ j < 2 ^ 62) ∧ R (Itr i (j - i).toNat) H1
theorem g_forR2 (h : ta σ H (rRng2 (forW g tb D σ))) : tFor (iRng2 ta) g tb D σ H := h
theorem g_rng2 {i j : Int} (a n : Nat) (ei : i = (a : Int)) (ej : j = (n : Int)) (hb : n < 1000000) (han : a ≤ n) (Pv : Nat → L2.St → Hp → Prop) (h0 : Pv a σ H)
    (hs : ∀ (k : Nat) σ H, a ≤ k → k < n → Pv k σ H → g (.int (k : Int)) σ H fun σ2 H2 => tb { D with nx := Pv (k + 1), ct := Pv (k + 1), bk := D.nx } σ2 H2) (hd : ∀ σ H, Pv n σ H → D.nx σ H) : rRng2 (forW g tb D σ) [.int i, .int j] H := by
  subst ei ej
  refine ⟨_, _, rfl, ⟨by omega, by omega, by omega, by omega⟩, ?_⟩
  rw [show ((n : Int) - (a : Int)).toNat = n - a by omega]
  refine for_range (lo := (a : Int)) (n := n - a) (fun k => Pv (a + k)) h0 (fun k σ H hk p => ?_) fun σ H p => hd σ H ?_
  · have := hs (a + k) σ H (by omega) (by omega) p
    rw [show (a : Int) + (k : Int) = ((a + k : Nat) : Int) by omega]
    exact this
  · rw [show n = a + (n - a) by omega]
    exact p
end
/-! ### rows and matrices in the heap -/
def RowV (K : PySem.W.Frag) (H : Hp) (v : V) (row : Row) : Prop := ∃ p xs, v = .ref p ∧ SqL K H p xs ∧ Rats K H xs row
theorem RowV.same {K : PySem.W.Frag} {H H' : Hp} {v : V} {row : Row} (h : RowV K H v row) (e : Same H H') : RowV K H' v row := let ⟨p, xs, a, b, c⟩ := h; ⟨p, xs, a, e.seq b, c.same e⟩
structure MatL (K : PySem.W.Frag) (H : Hp) (us : List V) (m : Mat) : Prop where
  len : us.length = m.length
  at_ : ∀ (i : Nat) v, us[i]? = some v → RowV K H v (rw' m i)
theorem MatL.same {K : PySem.W.Frag} {H H' : Hp} {us : List V} {m : Mat} (h : MatL K H us m) (e : Same H H') : MatL K H' us m := ⟨h.len, fun i v z => (h.at_ i v z).same e⟩
def MatV (K : PySem.W.Frag) (H : Hp) (v : V) (m : Mat) : Prop := ∃ p us, v = .ref p ∧ SqL K H p us ∧ MatL K H us m
theorem MatV.same {K : PySem.W.Frag} {H H' : Hp} {v : V} {m : Mat} (h : MatV K H v m) (e : Same H H') : MatV K H' v m := let ⟨p, us, a, b, c⟩ := h; ⟨p, us, a, e.seq b, c.same e⟩
theorem Rats.ent {K : PySem.W.Frag} {H : Hp} {xs : List V} {row : Row} (h : Rats K H xs row) {j : Nat} (hj : j < row.length) : ∃ x, xs[j]? = some x ∧ RatV K H x (Rz.ent row j) := by
  have hx : j < xs.length := by rw [h.len]; exact hj
  refine ⟨xs[j], List.getElem?_eq_getElem hx, ?_⟩
  have := h.at_ j _ _ (List.getElem?_eq_getElem hx) (List.getElem?_eq_getElem hj)
  unfold Rz.ent
  rw [List.getD_eq_getElem?_getD, List.getElem?_eq_getElem hj, Option.getD_some]
  exact this
theorem MatL.row {K : PySem.W.Frag} {H : Hp} {us : List V} {m : Mat} (h : MatL K H us m) {i : Nat} (hi : i < m.length) : ∃ p xs, us[i]? = some (.ref p) ∧ SqL K H p xs ∧ Rats K H xs (rw' m i) := by
  have hx : i < us.length := by rw [h.len]; exact hi
  obtain ⟨p, xs, e, b, c⟩ := h.at_ i _ (List.getElem?_eq_getElem hx)
  exact ⟨p, xs, by rw [List.getElem?_eq_getElem hx, e], b, c⟩
theorem MatL.of {K : PySem.W.Frag} {H : Hp} {us : List V} {m : Mat} (hl : us.length = m.length) (h : ∀ i, i < m.length → ∃ v, us[i]? = some v ∧ RowV K H v (rw' m i)) : MatL K H us m := ⟨hl, fun i v z => by
  have hi : i < m.length := by
    rw [← hl]
    exact (List.getElem?_eq_some_iff.mp z).1
  obtain ⟨w, a, b⟩ := h i hi
  rw [z] at a
  cases a
  exact b⟩
theorem MatL.swp {K : PySem.W.Frag} {H : Hp} {us : List V} {m : Mat} {i k : Nat} {x y : V} (h : MatL K H us m) (hi : i < m.length) (hk : k < m.length) (hx : us[k]? = some x) (hy : us[i]? = some y) : MatL K H ((us.set i x).set k y) (Rz.swp m i k) := by
  refine ⟨by rw [List.length_set, List.length_set, swp_len, h.len], fun j v z => ?_⟩
  rw [rw_swp hi hk]
  by_cases e1 : j = k
  · subst e1
    rw [if_pos rfl]
    rw [List.getElem?_set_self (by rw [List.length_set, h.len]; exact hk)] at z
    cases z
    exact h.at_ i _ hy
  · rw [if_neg e1]
    rw [List.getElem?_set_ne (Ne.symm e1)] at z
    by_cases e2 : j = i
    · subst e2
      rw [if_pos rfl]
      rw [List.getElem?_set_self (by rw [h.len]; exact hi)] at z
      cases z
      exact h.at_ k _ hx
    · rw [if_neg e2]
      rw [List.getElem?_set_ne (Ne.symm e2)] at z
      exact h.at_ j v z
theorem Small.swp {n nc L B k a f : Nat} {O : Mat} (h : Small n nc L B k O) (hl : O.length = n) (ha : a < n) (hf : f < n) : Small n nc L B k (Rz.swp O a f) := ⟨fun i j hi hj => by
  rw [rw_swp (by omega) (by omega)]
  split
  · exact h.sc a j ha hj
  · split
    · exact h.sc f j hf hj
    · exact h.sc i j hi hj, h.L0, h.B0, h.hL, h.hB⟩

/-! ### matrices made row by row -/
section
variable {K : PySem.W.Frag} {σ : L2.St} {H : Hp} {g : TG} {te : TE} {vs : List Nat} {Q : VK}
/-- a row that stands, whatever is written at p -/
def RowP (K : PySem.W.Frag) (H : Hp) (p : Addr) (v : V) (row : Row) : Prop := ∃ q xs, v = .ref q ∧ SqL K H q xs ∧ Rats K H xs row ∧ (q ≠ p ∨ ∀ H', SqL K H' q xs)
theorem RowP.v {p : Addr} {v : V} {row : Row} (h : RowP K H p v row) : RowV K H v row := let ⟨q, xs, a, b, c, _⟩ := h; ⟨q, xs, a, b, c⟩
theorem RowP.same {H' : Hp} {p : Addr} {v : V} {row : Row} (h : RowP K H p v row) (e : Same H H') : RowP K H' p v row := let ⟨q, xs, a, b, c, d⟩ := h; ⟨q, xs, a, e.seq b, c.same e, d⟩
theorem RowP.upd {p : Addr} {v : V} {row : Row} {acc : List V} {o : HO} (h : RowP K H p v row) (e : H p = some (.lst acc)) : RowP K (upd H p o) p v row := by
  obtain ⟨q, xs, rfl, a, b, d⟩ := h
  refine ⟨q, xs, rfl, ?_, b.kp Kp.upd e, d⟩
  rcases d with hq | d
  · rcases a with (a | ⟨u, a⟩) | a
    · exact .inl (.inl (by rw [upd_ne hq]; exact a))
    · exact .inl (.inr ⟨u, by rw [upd_ne hq]; exact a⟩)
    · exact .inr a
  · exact d _
theorem RowV.base {p : Addr} {v : V} {row : Row} (h : RowV K H v row) (hp : H p = none) : RowP K H p v row := by
  obtain ⟨q, xs, rfl, a, b⟩ := h
  refine ⟨q, xs, rfl, a, b, ?_⟩
  rcases a with (a | ⟨u, a⟩) | a
  · exact .inl (ne_of_none a hp)
  · exact .inl (ne_of_none a hp)
  · exact .inr fun _ => .inr a
/-- a row there was at H, or one laid behind H' -/
def Made (K : PySem.W.Frag) (H H' : Hp) (w : V) (row : Row) : Prop := RowV K H w row ∨ ∃ q, w = .ref q ∧ H' q = none
theorem Made.p {H' H3 : Hp} {p : Addr} {w : V} {row : Row} {acc : List V} (h : Made K H H' w row) (hp : H p = none) (ep : H' p = some (.lst acc)) (hs : Same H H3) (hr : RowV K H3 w row) : RowP K H3 p w row := by
  rcases h with h | ⟨q, rfl, hq⟩
  · exact (h.base hp).same hs
  · obtain ⟨q2, xs, e, a, b⟩ := hr
    cases e
    exact ⟨q, xs, rfl, a, b, .inl (ne_of_none ep hq).symm⟩
/-- the list that is being filled: i rows of m so far -/
def FillM (K : PySem.W.Frag) (H : Hp) (m : Mat) (p : Addr) (i : Nat) (acc : List V) (H' : Hp) : Prop := Same H H' ∧ H' p = some (.lst acc) ∧ acc.length = i ∧ ∀ (j : Nat) v, acc[j]? = some v → RowP K H' p v (rw' m j)
theorem FillM.start {m : Mat} {p : Addr} (hp : H p = none) : FillM K H m p 0 [] (upd H p (.lst [])) := ⟨up_same hp, upd_same, rfl, fun j v h => by simp at h⟩
theorem FillM.next {m : Mat} {p : Addr} {i : Nat} {acc : List V} {H' H3 : Hp} {w : V} (h : FillM K H m p i acc H') (hp : H p = none) (hs : Same H' H3) (hi : i ≤ 1000000) (hw : RowV K H3 w (rw' m i)) (hm : Made K H H' w (rw' m i)) : lcN (FillM K H m p) p i w H3 := by
  obtain ⟨sm, ep, hl, ha⟩ := h
  have ep3 := hs _ _ ep
  refine lcN_of ep3 (by omega) ⟨fun b o e => ?_, upd_same, by rw [List.length_append, hl]; rfl, fun j v z => ?_⟩
  · rw [upd_ne (ne_of_none e hp)]
    exact hs _ _ (sm _ _ e)
  · rcases at_snoc z with ⟨_, z2⟩ | ⟨z1, rfl⟩
    · exact ((ha j v z2).same hs).upd ep3
    · rw [z1, hl]
      exact (hm.p hp ep (sm.trans hs) hw).upd ep3
theorem FillM.done {m : Mat} {p : Addr} {acc : List V} {H' : Hp} (h : FillM K H m p m.length acc H') : H' p = some (.lst acc) ∧ MatL K H' acc m := ⟨h.2.1, h.2.2.1, fun j v z => (h.2.2.2 j v z).v⟩
theorem copy_rows {i₀ : Nat} {p : Addr} {us : List V} {m : Mat} (hp : SqL K H p us) (hM : MatL K H us m) (hb : m.length ≤ 1000) (hw : ∀ x, wipe ((wipe σ vs).set i₀ (some x)) vs = wipe σ vs) (hi : ∀ x, ((wipe σ vs).set i₀ (some x))[i₀]? = some (some x))
    (k : ∀ l us' H', Same H H' → H l = none → H' l = some (.lst us') → MatL K H' us' m → Q (.ref l) H') : rItL K (lcW (gName i₀) tYes (tCB (rListOf K) (tCons (tVar i₀) tNil)) vs σ Q) (.ref p) H := by
  refine g_lcLst hp (FillM K H m) hw (fun l hl => .start hl) (fun l i acc H' _ h => h.1.seq hp) ?_ ?_
  · intro l i x acc H' hl hx h
    have hil := (List.getElem?_eq_some_iff.mp hx).1
    obtain ⟨q, xs, rfl, a, b⟩ := (hM.at_ i x hx).same h.1
    refine g_cb (g_cons (g_var (hi _) (g_nil (g_listL a fun l2 hl2 => ?_))))
    exact h.next hl (up_same hl2) (by have := hM.len; omega) ⟨l2, xs, rfl, SqL.of upd_same, b.same (up_same hl2)⟩ (.inr ⟨l2, rfl, hl2⟩)
  · intro l acc H' hl h
    rw [hM.len] at h
    obtain ⟨a, b⟩ := h.done
    exact k l acc H' h.1 hl a b
theorem en_rows {p : Addr} {us : List V} {m m' : Mat} (hp : SqL K H p us) (hM : MatL K H us m) (hl : m'.length = m.length) (hb : m.length ≤ 1000)
    (hs : ∀ i v T H' (Qk : VK), Same H H' → us[i]? = some v → i < m.length → H' T = none → (∀ w H3, Same H' H3 → RowV K H3 w (rw' m' i) → Made K H H' w (rw' m' i) → Qk w H3) → g (.ref T) (wipe σ vs) (upd H' T (.tup [.int (i : Nat), v])) fun σ2 H2 => wipe σ2 vs = wipe σ vs ∧ te σ2 H2 Qk)
    (k : ∀ l us' H', Same H H' → H' l = some (.lst us') → MatL K H' us' m' → Q (.ref l) H') : rEnL K (lcW g tYes te vs σ Q) [.ref p] H := by
  refine lc_en hp (FillM K H m') (fun l hl => .start hl) (fun l i acc H' _ h => h.1.seq hp) ?_ ?_
  · intro l i x T acc H' hl0 hx h hT
    have hil := (List.getElem?_eq_some_iff.mp hx).1
    have hil2 : i < m.length := by
      rw [← hM.len]
      exact hil
    exact hs i x T H' _ h.1 hx hil2 hT fun w H3 sm hw hm => h.next hl0 sm (by omega) hw hm
  · intro l acc H' hl0 h
    rw [hM.len, ← hl] at h
    obtain ⟨a, b⟩ := h.done
    exact k l acc H' h.1 a b
theorem clrG_same {W : Mat} {a t : Nat} (h : t ≤ a) (ht : t < W.length) : rw' (clrG W a) t = rw' W t := by
  unfold clrG
  rw [rw_mkM ht, if_neg (by omega)]
end
theorem swp_self {m : Mat} {i : Nat} (h : i < m.length) : swp m i i = m := by
  unfold swp
  rw [set_self h, set_self h]
theorem atI_end {xs : List V} {v : V} (h : xs[xs.length - 1]? = some v) : atI xs (-1) = some v := by
  have hl := (List.getElem?_eq_some_iff.mp h).1
  have e : ixN xs.length (-1) = some (xs.length - 1) := by
    unfold ixN
    rw [if_neg (by decide)]
    rw [if_pos (by omega)]
    exact congrArg some (by omega)
  unfold atI
  rw [e]
  exact h
theorem pa_starK {X : Cx} {K : PySem.W.Frag} {e : Expr} {es : List Expr} {p : Pos} {te : TE} {t : TA} (hK : X.K = K) (he : PE X e te) (hr : PA X es t) : PA X (.Starred e p :: es) (StX.tStar K te t) := hK ▸ StX.pa_star he hr
theorem g_starL {K : PySem.W.Frag} {σ : L2.St} {H : Hp} {te : TE} {t : TA} {Q : List V → Hp → Prop} (h : te σ H fun x H1 => ∃ p xs, x = V.ref p ∧ (SqT K H1 p xs ∨ SqL K H1 p xs) ∧ t σ H1 fun ys H2 => Q (xs ++ ys) H2) : StX.tStar K te t σ H Q := h
def aug (m : Mat) (c : Row) : Mat := List.zipWith (fun r q => r ++ [q]) m c
theorem aug_len {m : Mat} {c : Row} (h : c.length = m.length) : (aug m c).length = m.length := by
  unfold aug
  rw [List.length_zipWith, h, Nat.min_self]
theorem rw_aug {m : Mat} {c : Row} {i : Nat} (h : c.length = m.length) (hi : i < m.length) : rw' (aug m c) i = rw' m i ++ [ent c i] := by
  unfold aug rw' ent
  rw [List.getD_eq_getElem?_getD, List.getElem?_zipWith, List.getElem?_eq_getElem hi, List.getElem?_eq_getElem (by omega)]
  rw [List.getD_eq_getElem?_getD, List.getElem?_eq_getElem hi, List.getD_eq_getElem?_getD, List.getElem?_eq_getElem (by omega)]
  rfl
theorem ent_snoc_lt {r : Row} {q : Rat} {j : Nat} (h : j < r.length) : ent (r ++ [q]) j = ent r j := by
  unfold ent
  rw [List.getD_eq_getElem?_getD, List.getElem?_append_left h, ← List.getD_eq_getElem?_getD]
theorem ent_snoc_eq {r : Row} {q : Rat} {j : Nat} (h : j = r.length) : ent (r ++ [q]) j = q := by
  unfold ent
  rw [List.getD_eq_getElem?_getD, List.getElem?_append_right (by omega), h, Nat.sub_self]
  rfl
theorem clrJ_same {W : Mat} {a : Nat} (ht : a < W.length) : rw' (clrJ W a) a = rw' W a := by
  unfold clrJ
  rw [rw_mkM ht, if_pos rfl]
/-! ### what the defs tell -/
def spPivot (K : PySem.W.Frag) : Sp := fun vs H Q _ => ∃ (v : V) (W : Mat) (a : Nat), vs = [v, .int (a : Int)] ∧ MatV K H v W ∧ a < W.length ∧ W.length ≤ 1000 ∧ (∀ k, k < W.length → a < (rw' W k).length) ∧
  (∀ f, a ≤ f → f < W.length → ent (rw' W f) a ≠ 0 → Q (.int (f : Int)) H) ∧ ((∀ k, a ≤ k → k < W.length → ent (rw' W k) a = 0) → Q .non H)
def spSwapped (K : PySem.W.Frag) : Sp := fun vs H Q _ => ∃ (v : V) (W : Mat) (i k : Nat), vs = [v, .int (i : Int), .int (k : Int)] ∧ MatV K H v W ∧ i < W.length ∧ k < W.length ∧ W.length ≤ 1000 ∧ ∀ v' H', Same H H' → MatV K H' v' (swp W i k) → Q v' H'
def spCleared (K : PySem.W.Frag) : Sp := fun vs H Q _ => ∃ (v u : V) (r p : Row) (a b : Nat), vs = [v, u, .int (a : Int)] ∧ RowV K H v r ∧ RowV K H u p ∧ p.length = r.length ∧ a < r.length ∧ r.length ≤ 1000 ∧ ent p a ≠ 0 ∧ 4 * b ≤ 8000 ∧ (∀ j, j < r.length → Bd b (ent r j) ∧ Bd b (ent p j)) ∧
  ∀ v' H', Same H H' → RowV K H' v' (clr r p a) → (v' = v ∧ clr r p a = r) ∨ (∃ q, v' = .ref q ∧ H q = none) → Q v' H'
def spDet (K : PySem.W.Frag) : Sp := fun vs H Q _ => ∃ (v : V) (m : Mat) (n L B k : Nat), vs = [v] ∧ MatV K H v m ∧ m.length = n ∧ n ≤ 100 ∧ Wide n m ∧ Small n n L B k m ∧ k ≤ 400 ∧ ∀ v' H', Same H H' → RatV K H' v' (det n m) → Q v' H'
def spSolved (K : PySem.W.Frag) : Sp := fun vs H Q _ => ∃ (v u : V) (m : Mat) (xs : List V) (c : Row) (n L B k : Nat) (p : Addr), vs = [v, u] ∧ MatV K H v m ∧ m.length = n ∧ n ≤ 100 ∧ Wide n m ∧ u = .ref p ∧ SqL K H p xs ∧ Rats K H xs c ∧ c.length = n ∧ Small n (n + 1) L B k (aug m c) ∧ k ≤ 400 ∧ det n m ≠ 0 ∧
  ∀ l ys x H', Same H H' → H' l = some (.lst ys) → Rats K H' ys x → x.length = n → (∀ j, j < n → Bd (8 * k) (ent x j)) → (∀ i, i < n → sumN n (fun j => ent (rw' m i) j * ent x j) = ent c i) → Q (.ref l) H'
end Rz

namespace Rz

/-! ### the sum over all orders of the columns -/
def insN (a k : Nat) (o : List Nat) : List Nat := o.take a ++ [k] ++ o.drop a
def sgnI (k : Nat) : Int := if k % 2 = 0 then 1 else -1
def ordM : Nat → List (List Nat × Int)
  | 0 => [([], 1)]
  | k + 1 => (ordM k).flatMap fun p => (List.range (k + 1)).map fun a => (insN a k p.1, if (k - a) % 2 = 0 then p.2 else -p.2)
def sumL (l : List Rat) : Rat := l.foldl (fun a b => a + b) 0
theorem foldl_add (l : List Rat) (a : Rat) : l.foldl (fun a b => a + b) a = a + sumL l := by
  unfold sumL
  induction l generalizing a with
  | nil => simp only [List.foldl_nil]; grind
  | cons x l ih =>
    rw [List.foldl_cons, List.foldl_cons, ih, ih (0 + x)]
    grind
theorem sumL_cons {x : Rat} {l : List Rat} : sumL (x :: l) = x + sumL l := by
  show (x :: l).foldl _ 0 = _
  rw [List.foldl_cons, foldl_add]
  grind
theorem sumL_nil : sumL [] = 0 := rfl
theorem sumL_append {l k : List Rat} : sumL (l ++ k) = sumL l + sumL k := by
  induction l with
  | nil => rw [List.nil_append, sumL_nil]; grind
  | cons x l ih => rw [List.cons_append, sumL_cons, sumL_cons, ih]; grind
theorem sumL_snoc {l : List Rat} {x : Rat} : sumL (l ++ [x]) = sumL l + x := by rw [sumL_append, sumL_cons, sumL_nil]; grind
theorem sumL_flat {α β : Type} {l : List α} {f : α → List β} {g : β → Rat} : sumL ((l.flatMap f).map g) = sumL (l.map fun p => sumL ((f p).map g)) := by
  induction l with
  | nil => rfl
  | cons x l ih => rw [List.flatMap_cons, List.map_append, sumL_append, List.map_cons, sumL_cons, ih]
theorem sumL_range {n : Nat} {f : Nat → Rat} : sumL ((List.range n).map f) = sumN n f := by
  induction n with
  | zero => rfl
  | succ n ih => rw [List.range_succ, List.map_append, List.map_cons, List.map_nil, sumL_snoc, ih]; rfl
theorem sumL_sumN {α : Type} {l : List α} {n : Nat} {f : α → Nat → Rat} : sumL (l.map fun p => sumN n (f p)) = sumN n fun i => sumL (l.map fun p => f p i) := by
  induction l with
  | nil => exact (sumN_zero fun i _ => rfl).symm
  | cons x l ih =>
    rw [List.map_cons, sumL_cons, ih]
    have : sumN n (fun i => sumL ((x :: l).map fun p => f p i)) = sumN n fun i => f x i + 1 * sumL (l.map fun p => f p i) := sumN_congr fun i _ => by
      rw [List.map_cons, sumL_cons]
      grind
    rw [this, sumN_add]
    grind
theorem sumL_mul {α : Type} {l : List α} {f : α → Rat} {c : Rat} : sumL (l.map fun p => c * f p) = c * sumL (l.map f) := by
  induction l with
  | nil => rw [List.map_nil, List.map_nil, sumL_nil]; grind
  | cons x l ih => rw [List.map_cons, List.map_cons, sumL_cons, sumL_cons, ih]; grind
theorem prodN_pull {n a : Nat} {f : Nat → Rat} (h : a ≤ n) : prodN (n + 1) f = f a * prodN n fun i => if i < a then f i else f (i + 1) := by
  induction n with
  | zero =>
    have : a = 0 := by omega
    subst this
    simp only [prodN]
    grind
  | succ n ih =>
    by_cases e : a = n + 1
    · subst e
      have := prodN_congr (n := n + 1) (f := fun i => if i < n + 1 then f i else f (i + 1)) (g := f) fun i hi => if_pos hi
      rw [this]
      simp only [prodN]
      grind
    · have e1 := ih (by omega)
      rw [show prodN (n + 1 + 1) f = prodN (n + 1) f * f (n + 1) from rfl, e1]
      rw [show (prodN (n + 1) fun i => if i < a then f i else f (i + 1)) = (prodN n fun i => if i < a then f i else f (i + 1)) * f (n + 1) by
        simp only [prodN]
        rw [if_neg (by omega)]]
      grind
def termM (m : Mat) (n : Nat) (p : List Nat × Int) : Rat := (p.2 : Rat) * prodN n fun i => ent (rw' m i) (p.1.getD i 0)
theorem insN_len {a k : Nat} {o : List Nat} : (insN a k o).length = o.length + 1 := by
  unfold insN
  rw [List.length_append, List.length_append, List.length_take, List.length_drop, List.length_singleton]
  omega
theorem insN_at {a k : Nat} {o : List Nat} (h : a ≤ o.length) {i : Nat} : (insN a k o).getD i 0 = if i < a then o.getD i 0 else if i = a then k else o.getD (i - 1) 0 := by
  unfold insN
  have hl : (o.take a).length = a := by rw [List.length_take]; omega
  rw [List.getD_eq_getElem?_getD]
  by_cases h1 : i < a
  · rw [if_pos h1, List.append_assoc, List.getElem?_append_left (by omega), List.getElem?_take, if_pos h1, ← List.getD_eq_getElem?_getD]
  · rw [if_neg h1]
    by_cases h2 : i = a
    · rw [if_pos h2, List.append_assoc, List.getElem?_append_right (by omega), hl, h2, Nat.sub_self]
      rfl
    · rw [if_neg h2, List.getElem?_append_right (by rw [List.length_append, hl]; show a + 1 ≤ i; omega), List.length_append, hl, List.getElem?_drop, List.length_singleton, show a + (i - (a + 1)) = i - 1 by omega, ← List.getD_eq_getElem?_getD]
theorem ordM_len : ∀ {n : Nat} {p : List Nat × Int}, p ∈ ordM n → p.1.length = n
  | 0, p, h => by
    rw [List.mem_singleton.mp h]
    rfl
  | n + 1, p, h => by
    obtain ⟨q, hq, hp⟩ := List.mem_flatMap.mp h
    obtain ⟨a, _, rfl⟩ := List.mem_map.mp hp
    show (insN a n q.1).length = n + 1
    rw [insN_len, ordM_len hq]
theorem ordM_lt : ∀ {n : Nat} {p : List Nat × Int}, p ∈ ordM n → ∀ x ∈ p.1, x < n
  | 0, p, h => by
    rw [List.mem_singleton.mp h]
    intro x hx
    cases hx
  | n + 1, p, h => by
    obtain ⟨q, hq, hp⟩ := List.mem_flatMap.mp h
    obtain ⟨a, _, rfl⟩ := List.mem_map.mp hp
    intro x hx
    have hx : x ∈ q.1.take a ++ [n] ++ q.1.drop a := hx
    rcases List.mem_append.mp hx with hx | hx
    · rcases List.mem_append.mp hx with hx | hx
      · have := ordM_lt hq x (List.mem_of_mem_take hx)
        omega
      · rw [List.mem_singleton.mp hx]
        omega
    · have := ordM_lt hq x (List.mem_of_mem_drop hx)
      omega
theorem ordM_sgn : ∀ {n : Nat} {p : List Nat × Int}, p ∈ ordM n → p.2 = 1 ∨ p.2 = -1
  | 0, p, h => by
    rw [List.mem_singleton.mp h]
    exact .inl rfl
  | n + 1, p, h => by
    obtain ⟨q, hq, hp⟩ := List.mem_flatMap.mp h
    obtain ⟨a, _, rfl⟩ := List.mem_map.mp hp
    have := ordM_sgn hq
    show (if (n - a) % 2 = 0 then q.2 else -q.2) = 1 ∨ (if (n - a) % 2 = 0 then q.2 else -q.2) = -1
    split <;> omega
theorem ordM_count : ∀ n : Nat, (ordM n).length = fct n
  | 0 => rfl
  | n + 1 => by
    have : ∀ l : List (List Nat × Int), (l.flatMap fun p => (List.range (n + 1)).map fun a => (insN a n p.1, if (n - a) % 2 = 0 then p.2 else -p.2)).length = (n + 1) * l.length := fun l => by
      induction l with
      | nil => rfl
      | cons x l ih =>
        rw [List.flatMap_cons, List.length_append, ih, List.length_map, List.length_range, List.length_cons, Nat.mul_succ]
        omega
    show (List.flatMap _ (ordM n)).length = (n + 1) * fct n
    rw [this, ordM_count n]
theorem leibniz : ∀ {n : Nat} {m : Mat}, m.length = n → sumL ((ordM n).map (termM m n)) = det n m
  | 0, m, h => by
    show sumL [termM m 0 ([], 1)] = 1
    rw [sumL_cons, sumL_nil]
    unfold termM
    simp only [prodN]
    show ((1 : Int) : Rat) * 1 + 0 = 1
    rw [show ((1 : Int) : Rat) = 1 from rfl]
    grind
  | n + 1, m, h => by
    show sumL (((ordM n).flatMap fun p => (List.range (n + 1)).map fun a => (insN a n p.1, if (n - a) % 2 = 0 then p.2 else -p.2)).map (termM m (n + 1))) = _
    rw [sumL_flat]
    have key : (ordM n).map (fun p => sumL (((List.range (n + 1)).map fun a => (insN a n p.1, if (n - a) % 2 = 0 then p.2 else -p.2)).map (termM m (n + 1)))) =
        (ordM n).map fun p => sumN (n + 1) fun a => (sgn (n - a) * ent (rw' m a) n) * termM (m.eraseIdx a) n p := by
      refine List.map_congr_left fun p hp => ?_
      have hpl := ordM_len hp
      rw [List.map_map, sumL_range]
      refine sumN_congr fun a ha => ?_
      show ((if (n - a) % 2 = 0 then p.2 else -p.2 : Int) : Rat) * (prodN (n + 1) fun i => ent (rw' m i) ((insN a n p.1).getD i 0)) = _
      rw [prodN_pull (a := a) (by omega), insN_at (show a ≤ p.1.length by omega), if_neg (Nat.lt_irrefl a), if_pos rfl]
      have e2 : (prodN n fun i => if i < a then ent (rw' m i) ((insN a n p.1).getD i 0) else ent (rw' m (i + 1)) ((insN a n p.1).getD (i + 1) 0)) = prodN n fun i => ent (rw' (m.eraseIdx a) i) (p.1.getD i 0) := prodN_congr fun i hi => by
        by_cases z : i < a
        · rw [if_pos z, rw_erase_lt z, insN_at (by omega), if_pos z]
        · rw [if_neg z, rw_erase_ge (by omega), insN_at (by omega), if_neg (by omega), if_neg (by omega), Nat.add_sub_cancel]
      rw [e2]
      unfold termM sgn
      split
      · grind
      · rw [Rat.intCast_neg]
        grind
    rw [key, sumL_sumN]
    show _ = sumN (n + 1) fun i => sgn (n - i) * ent (rw' m i) n * det n (m.eraseIdx i)
    refine sumN_congr fun a ha => ?_
    rw [sumL_mul, leibniz (by rw [List.length_eraseIdx, if_pos (by omega)]; omega)]
/-- the sizes of what is summed -/
theorem prodN_sc {L B : Nat} : ∀ {n : Nat} {f : Nat → Rat}, (∀ i, i < n → Sc L B (f i)) → Sc (L ^ n) (B ^ n) (prodN n f)
  | 0, f, _ => Sc.one (by simp)
  | n + 1, f, h => by
    rw [Nat.pow_succ, Nat.pow_succ]
    exact (prodN_sc fun i hi => h i (by omega)).mul (h n (by omega))
theorem sumL_sc {L B : Nat} : ∀ {l : List Rat}, (∀ x ∈ l, Sc L B x) → Sc L (l.length * B) (sumL l)
  | [], _ => Sc.zero
  | x :: l, h => by
    rw [sumL_cons, List.length_cons, Nat.succ_mul, Nat.add_comm]
    exact (h x List.mem_cons_self).add (sumL_sc fun y hy => h y (List.mem_cons_of_mem _ hy))
end Rz
namespace Rz
open PySem PySem.Spec PyProof.Rows L2
/-- an order and its sign, laid apart from p -/
def OrdAt (K : PySem.W.Frag) (H : Hp) (p : Addr) (v : V) (q : List Nat × Int) : Prop := ∃ a b, v = .ref a ∧ H a = some (.lst [.ref b, .int q.2]) ∧ H b = some (.lst (q.1.map fun x : Nat => V.int (x : Int))) ∧ a ≠ p ∧ b ≠ p
structure OrdL (K : PySem.W.Frag) (H : Hp) (p : Addr) (us : List V) (os : List (List Nat × Int)) : Prop where
  top : H p = some (.lst us)
  len : us.length = os.length
  at_ : ∀ (i : Nat) v q, us[i]? = some v → os[i]? = some q → OrdAt K H p v q
theorem OrdL.same {K : PySem.W.Frag} {H H' : Hp} {p : Addr} {us : List V} {os : List (List Nat × Int)} (h : OrdL K H p us os) (e : Same H H') : OrdL K H' p us os :=
  ⟨e _ _ h.top, h.len, fun i v q a b => let ⟨x, y, c, d, f, g, k⟩ := h.at_ i v q a b; ⟨x, y, c, e _ _ d, e _ _ f, g, k⟩⟩
theorem OrdL.snoc {K : PySem.W.Frag} {H : Hp} {p a b : Addr} {us : List V} {os : List (List Nat × Int)} {q : List Nat × Int} (h : OrdL K H p us os) (ha : H a = some (.lst [.ref b, .int q.2])) (hb : H b = some (.lst (q.1.map fun x : Nat => V.int (x : Int)))) (na : a ≠ p) (nb : b ≠ p) :
    OrdL K (upd H p (.lst (us ++ [.ref a]))) p (us ++ [.ref a]) (os ++ [q]) := by
  refine ⟨upd_same, by rw [List.length_append, List.length_append, h.len]; rfl, fun i v q' e1 e2 => ?_⟩
  rcases at_snoc e1 with ⟨h1, h2⟩ | ⟨h1, rfl⟩
  · rw [List.getElem?_append_left (by rw [← h.len]; exact h1)] at e2
    obtain ⟨x, y, c, d, f, g, k⟩ := h.at_ i v q' h2 e2
    exact ⟨x, y, c, by rw [upd_ne g]; exact d, by rw [upd_ne k]; exact f, g, k⟩
  · rw [List.getElem?_append_right (by rw [← h.len]; omega), h1, h.len, Nat.sub_self] at e2
    cases e2
    exact ⟨a, b, rfl, by rw [upd_ne na]; exact ha, by rw [upd_ne nb]; exact hb, na, nb⟩
/-- the orders that come of one -/
def growO (k j : Nat) (p : List Nat × Int) : List (List Nat × Int) := (List.range j).map fun a => (insN a k p.1, if (k - a) % 2 = 0 then p.2 else -p.2)
theorem growO_succ {k j : Nat} {p : List Nat × Int} : growO k (j + 1) p = growO k j p ++ [(insN j k p.1, if (k - j) % 2 = 0 then p.2 else -p.2)] := by
  unfold growO
  rw [List.range_succ, List.map_append]
  rfl
theorem growO_len {k j : Nat} {p : List Nat × Int} : (growO k j p).length = j := by
  unfold growO
  rw [List.length_map, List.length_range]
theorem flat_len {k i : Nat} {l : List (List Nat × Int)} (h : i ≤ l.length) : ((l.take i).flatMap (growO k (k + 1))).length = i * (k + 1) := by
  induction i with
  | zero => rw [List.take_zero, Nat.zero_mul]; rfl
  | succ i ih =>
    rw [List.take_succ, List.flatMap_append, List.length_append, ih (by omega), List.getElem?_eq_getElem (show i < l.length by omega)]
    show _ + ([l[i]].flatMap (growO k (k + 1))).length = _
    rw [List.flatMap_cons, List.flatMap_nil, List.append_nil, growO_len, Nat.succ_mul]
def spOrders (K : PySem.W.Frag) : Sp := fun vs H Q _ => ∃ n : Nat, vs = [.int (n : Int)] ∧ n ≤ 6 ∧ ∀ p us H', Same H H' → H p = none → OrdL K H' p us (ordM n) → Q (.ref p) H'
def spSum (K : PySem.W.Frag) : Sp := fun vs H Q _ => ∃ (v : V) (m : Mat) (n L B k : Nat), vs = [v] ∧ MatV K H v m ∧ m.length = n ∧ n ≤ 6 ∧ Wide n m ∧ Small n n L B k m ∧ k ≤ 400 ∧ ∀ v' H', Same H H' → RatV K H' v' (det n m) → Q v' H'
theorem g_slL {K : PySem.W.Frag} {H : Hp} {a : Addr} {xs : List V} {lo hi : Option Int} {Q : VK} (h : SqL K H a xs) (q : ∀ p, H p = none → Q (.ref p) (upd H p (.lst (cutV xs lo hi)))) : rSlL K (.ref a) lo hi H Q := ⟨a, xs, rfl, h, q⟩
theorem cutV_to {xs : List V} {n : Nat} (h : n ≤ xs.length) : cutV xs none (some (n : Int)) = xs.take n := by
  unfold cutV
  rw [HT.sIx_nat, HT.sIx_none, List.drop_zero, Nat.sub_zero, Nat.min_eq_left h]
theorem cutV_from {xs : List V} {n : Nat} (h : n ≤ xs.length) : cutV xs (some (n : Int)) none = xs.drop n := by
  unfold cutV
  rw [HT.sIx_nat, HT.sIx_none, Nat.min_eq_left h, List.take_of_length_le]
  rw [List.length_drop]
  omega
section
variable {te : TE} {tl th : TO} {σ : L2.St} {H : Hp} {Q : VK}
theorem g_slice {r : V → Option Int → Option Int → Hp → VK → Prop} (h : te σ H fun x H1 => tl σ H1 fun l H2 => th σ H2 fun u H3 => r x l u H3 Q) : tSl r te tl th σ H Q := h
theorem g_pNo {Q : Option Int → Hp → Prop} (h : Q none H) : tNoPart σ H Q := h
theorem g_pYes {Q : Option Int → Hp → Prop} (h : te σ H fun x H1 => ∃ i, x = .int i ∧ Q (some i) H1) : tPart te σ H Q := h
end
end Rz

namespace Rz
open PySem PySem.Spec PyProof.Rows L2

/-! ### what stays while the law's state is written -/
theorem st_sql {K : PySem.W.Frag} {H H' : Hp} {S c p : Addr} {xs : List V} (h : SqL K H p xs) (hS : StAt H S c) (k : Kp S H H') (hx : ∀ i h n : Int, xs ≠ [.ref c, .int i, .int h, .int n]) : SqL K H' p xs := by
  obtain ⟨_, i, hh, n, cs, e1, _⟩ := hS
  rcases h with (h | ⟨u, h⟩) | h
  · refine .inl (.inl (k p _ (fun z => ?_) h))
    rw [z, e1] at h
    cases h
    exact hx i hh n rfl
  · refine .inl (.inr ⟨u, k p _ (fun z => ?_) h⟩)
    rw [z, e1] at h
    cases h
  · exact .inr h
theorem rats_no {K : PySem.W.Frag} {H : Hp} {c : Addr} {xs : List V} {row : Row} (b : Rats K H xs row) (i h n : Int) : xs ≠ [.ref c, .int i, .int h, .int n] := fun z => by
  subst z
  have hl := b.len
  have h1 : 1 < row.length := by
    rw [← hl]
    show 1 < 4
    decide
  obtain ⟨_, e, _⟩ := b.at_ 1 (.int i) _ rfl (List.getElem?_eq_getElem h1)
  cases e
theorem RowV.st {K : PySem.W.Frag} {H H' : Hp} {S c : Addr} {v : V} {row : Row} (h : RowV K H v row) (hS : StAt H S c) (k : Kp S H H') : RowV K H' v row := by
  obtain ⟨p, xs, rfl, a, b⟩ := h
  obtain ⟨ys, hy⟩ := hS.lst
  exact ⟨p, xs, rfl, st_sql a hS k (rats_no b), b.kp k hy⟩
theorem RowP.st {K : PySem.W.Frag} {H H' : Hp} {S c p : Addr} {v : V} {row : Row} (h : RowP K H p v row) (hS : StAt H S c) (k : Kp S H H') : RowP K H' p v row := by
  obtain ⟨q, xs, rfl, a, b, d⟩ := h
  obtain ⟨ys, hy⟩ := hS.lst
  exact ⟨q, xs, rfl, st_sql a hS k (rats_no b), b.kp k hy, d⟩
theorem MatV.st {K : PySem.W.Frag} {H H' : Hp} {S c : Addr} {v : V} {m : Mat} (h : MatV K H v m) (hS : StAt H S c) (k : Kp S H H') : MatV K H' v m := by
  obtain ⟨p, us, rfl, a, b⟩ := h
  refine ⟨p, us, rfl, st_sql a hS k fun i h n z => ?_, b.len, fun i v e => (b.at_ i v e).st hS k⟩
  subst z
  obtain ⟨_, _, e, _⟩ := b.at_ 1 (.int i) rfl
  cases e

/-! ### matrices compared -/
def rowD (r : Row) : PyData := .list (r.map ratD)
def matD (m : Mat) : PyData := .list (m.map rowD)
theorem dpAll_of {K : PySem.W.Frag} {H : Hp} {α : Type} {f : α → PyData} : ∀ {us : List V} {l : List α}, us.length = l.length → (∀ (i : Nat) v x, us[i]? = some v → l[i]? = some x → Dp K H v (f x)) → DpAll K H us (l.map f)
  | [], [], _, _ => .nil
  | [], _ :: _, h, _ => by simp at h
  | _ :: _, [], h, _ => by simp at h
  | u :: us, x :: l, h, k => .cons (k 0 u x rfl rfl) (dpAll_of (by simpa using h) fun i v y a b => k (i + 1) v y a b)
theorem RowV.dp {K : PySem.W.Frag} {H : Hp} {v : V} {r : Row} (h : RowV K H v r) : Dp K H v (rowD r) := by
  obtain ⟨p, xs, rfl, a, b⟩ := h
  exact .lst a (dpAll_of b.len fun i v x e1 e2 => (b.at_ i v x e1 e2).dp)
theorem MatV.dp {K : PySem.W.Frag} {H : Hp} {v : V} {m : Mat} (h : MatV K H v m) : Dp K H v (matD m) := by
  obtain ⟨p, us, rfl, a, b⟩ := h
  refine .lst a (dpAll_of b.len fun i v x e1 e2 => ?_)
  have := b.at_ i v e1
  rw [show rw' m i = x by unfold rw'; rw [List.getD_eq_getElem?_getD, e2]; rfl] at this
  exact this.dp
theorem eqvAll_self {α : Type} {f : α → PyData} (h : ∀ x, PyData.eqv (f x) (f x) = true) : ∀ l : List α, PyData.eqvAll (l.map f) (l.map f) = true
  | [] => rfl
  | x :: l => by
    show (PyData.eqv (f x) (f x) && PyData.eqvAll (l.map f) (l.map f)) = true
    rw [h x, eqvAll_self h l]
    rfl
theorem lay_map {α : Type} {f : α → PyData} (h : ∀ x, PyData.canLay0 (f x) = true) : ∀ l : List α, PyData.canLayAll0 (l.map f) = true
  | [] => rfl
  | x :: l => by
    show (PyData.canLay0 (f x) && PyData.canLayAll0 (l.map f)) = true
    rw [h x, lay_map h l]
    rfl
theorem depth_map {α : Type} {f : α → PyData} {d : Nat} (h : ∀ x, PyData.depth (f x) ≤ d) : ∀ l : List α, PyData.depthAll (l.map f) ≤ d
  | [] => Nat.zero_le _
  | x :: l => by
    show max (PyData.depth (f x)) (PyData.depthAll (l.map f)) ≤ d
    have := h x
    have := depth_map h l
    omega
theorem rowD_eqv (r : Row) : PyData.eqv (rowD r) (rowD r) = true := eqvAll_self (fun q => by rw [ratD_eqv, decide_eq_true rfl]) r
theorem matD_eqv (m : Mat) : PyData.eqv (matD m) (matD m) = true := eqvAll_self rowD_eqv m
theorem rowD_depth (r : Row) : PyData.depth (rowD r) ≤ 2 := by
  show PyData.depthAll (r.map ratD) + 1 ≤ 2
  have := depth_map (f := ratD) (d := 1) (fun q => Nat.le_refl _) r
  omega
theorem matD_shaped (m : Mat) : SeqAt.shaped (matD m) = true := by
  unfold SeqAt.shaped
  rw [Bool.and_eq_true]
  refine ⟨lay_map (f := rowD) (fun r => lay_map (f := ratD) (fun q => rfl) r) m, decide_eq_true ?_⟩
  show PyData.depthAll (m.map rowD) + 1 ≤ 64
  have := depth_map (f := rowD) (d := 2) rowD_depth m
  omega
theorem g_neMat {K : PySem.W.Frag} {H : Hp} {x y : V} {m : Mat} {Q : VK} (h1 : MatV K H x m) (h2 : MatV K H y m) (k : Q (.bl false) H) : rNeD K x y H Q := ⟨_, _, h1.dp, h2.dp, matD_shaped m, matD_shaped m, by rw [matD_eqv]; exact k⟩

/-! ### sizes of quotients -/
theorem sc_div {a : Int} {b c A : Nat} (hb : 0 < b) (hA : a.natAbs * c ≤ A) : Sc (b * c) A (Rat.divInt a (b : Int)) := by
  refine ⟨a * c, ?_, by rw [Int.natAbs_mul, Int.natAbs_natCast]; exact hA⟩
  have hb0 : (((b : Nat) : Int) : Rat) ≠ 0 := fun z => by
    have := Rat.intCast_eq_zero_iff.mp z
    omega
  rw [Rat.divInt_eq_div, Int.natCast_mul, Rat.intCast_mul, Rat.intCast_mul]
  grind
theorem Sc.up {L B c A : Nat} {q : Rat} (h : Sc L B q) (hA : B * c ≤ A) : Sc (L * c) A q := by
  obtain ⟨z, e, b⟩ := h
  refine ⟨z * c, ?_, ?_⟩
  · rw [Int.natCast_mul, Rat.intCast_mul, Rat.intCast_mul, ← e]
    grind
  · rw [Int.natAbs_mul, Int.natAbs_natCast]
    exact Nat.le_trans (Nat.mul_le_mul_right _ b) hA
/-- the rows a matrix is drawn of: of size at most n -/
structure Drawn (n L B : Nat) (m : Mat) : Prop where
  wide : ∀ k, k < m.length → (rw' m k).length = n
  sc : ∀ k j, k < m.length → j < n → Sc L B (ent (rw' m k) j)
theorem Drawn.nil {n L B : Nat} : Drawn n L B [] := ⟨fun k h => absurd h (Nat.not_lt_zero _), fun k j h => absurd h (Nat.not_lt_zero _)⟩
theorem rw_snoc_lt {m : Mat} {r : Row} {k : Nat} (h : k < m.length) : rw' (m ++ [r]) k = rw' m k := by
  unfold rw'
  rw [List.getD_eq_getElem?_getD, List.getElem?_append_left h, ← List.getD_eq_getElem?_getD]
theorem rw_snoc_eq {m : Mat} {r : Row} {k : Nat} (h : k = m.length) : rw' (m ++ [r]) k = r := by
  unfold rw'
  rw [List.getD_eq_getElem?_getD, List.getElem?_append_right (by omega), h, Nat.sub_self]
  rfl
theorem Drawn.snoc {n L B : Nat} {m : Mat} {r : Row} (h : Drawn n L B m) (hl : r.length = n) (hr : ∀ j, j < n → Sc L B (ent r j)) : Drawn n L B (m ++ [r]) := by
  refine ⟨fun k hk => ?_, fun k j hk hj => ?_⟩
  · rw [List.length_append, List.length_singleton] at hk
    by_cases e : k < m.length
    · rw [rw_snoc_lt e]
      exact h.wide k e
    · rw [rw_snoc_eq (by omega)]
      exact hl
  · rw [List.length_append, List.length_singleton] at hk
    by_cases e : k < m.length
    · rw [rw_snoc_lt e]
      exact h.sc k j e hj
    · rw [rw_snoc_eq (by omega)]
      exact hr j hj
theorem Drawn.set {n L B i : Nat} {m : Mat} {r : Row} (h : Drawn n L B m) (hl : r.length = n) (hr : ∀ j, j < n → Sc L B (ent r j)) : Drawn n L B (m.set i r) := by
  refine ⟨fun k hk => ?_, fun k j hk hj => ?_⟩
  · rw [List.length_set] at hk
    by_cases e : i = k
    · subst e
      rw [rw_set_eq hk]
      exact hl
    · rw [rw_set_ne e]
      exact h.wide k hk
  · rw [List.length_set] at hk
    by_cases e : i = k
    · subst e
      rw [rw_set_eq hk]
      exact hr j hj
    · rw [rw_set_ne e]
      exact h.sc k j hk hj
theorem small_of {n nc : Nat} {m : Mat} (hn : n ≤ 6) (h : ∀ i j, i < n → j < nc → Sc 120 1620 (ent (rw' m i) j)) : Small n nc 120 1620 80 m := by
  refine ⟨h, by decide, by decide, Nat.lt_of_le_of_lt (Nat.pow_le_pow_right (by decide) hn) (by decide), ?_⟩
  exact Nat.lt_of_le_of_lt (Nat.mul_le_mul (fct_mono hn) (Nat.pow_le_pow_right (by decide) hn)) (by decide)
theorem draw_sc {a : Int} {b : Int} (ha : -9 ≤ a ∧ a ≤ 9) (hb : 1 ≤ b ∧ b ≤ 5) : Sc 60 540 (Rat.divInt a b) := by
  have hb2 : b = 1 ∨ b = 2 ∨ b = 3 ∨ b = 4 ∨ b = 5 := by omega
  have h9 : a.natAbs ≤ 9 := by omega
  rcases hb2 with rfl | rfl | rfl | rfl | rfl
  · exact sc_div (b := 1) (c := 60) (by decide) (by omega)
  · exact sc_div (b := 2) (c := 30) (by decide) (by omega)
  · exact sc_div (b := 3) (c := 20) (by decide) (by omega)
  · exact sc_div (b := 4) (c := 15) (by decide) (by omega)
  · exact sc_div (b := 5) (c := 12) (by decide) (by omega)
/-- the rows as they are being drawn, beside the law's state -/
structure BR (K : PySem.W.Frag) (H : Hp) (S c R : Addr) (us : List V) (m : Mat) : Prop where
  st : StAt H S c
  nS : R ≠ S
  nc : R ≠ c
  top : H R = some (.lst us)
  len : us.length = m.length
  at_ : ∀ (i : Nat) v, us[i]? = some v → RowP K H R v (rw' m i)
section
variable {K : PySem.W.Frag} {H H' : Hp} {S c R : Addr} {us : List V} {m : Mat}
theorem BR.same (h : BR K H S c R us m) (e : Same H H') : BR K H' S c R us m := ⟨h.st.same e, h.nS, h.nc, e _ _ h.top, h.len, fun i v z => (h.at_ i v z).same e⟩
theorem BR.pick (h : BR K H S c R us m) (hS : StAt H' S c) (k : Kp S H H') : BR K H' S c R us m := ⟨hS, h.nS, h.nc, k _ _ h.nS h.top, h.len, fun i v z => (h.at_ i v z).st h.st k⟩
theorem BR.v (h : BR K H S c R us m) : MatV K H (.ref R) m := ⟨R, us, rfl, SqL.of h.top, h.len, fun i v z => (h.at_ i v z).v⟩
theorem BR.snoc {v : V} {row : Row} (h : BR K H S c R us m) (hv : RowP K H R v row) : BR K (upd H R (.lst (us ++ [v]))) S c R (us ++ [v]) (m ++ [row]) := by
  refine ⟨h.st.upd h.nS h.nc, h.nS, h.nc, upd_same, by rw [List.length_append, List.length_append, h.len]; rfl, fun i w z => ?_⟩
  rcases at_snoc z with ⟨z1, z2⟩ | ⟨z1, rfl⟩
  · rw [rw_snoc_lt (by rw [← h.len]; exact z1)]
    exact (h.at_ i w z2).upd h.top
  · rw [rw_snoc_eq (by rw [← h.len]; exact z1)]
    exact hv.upd h.top
theorem BR.set {v : V} {row : Row} {i : Nat} (h : BR K H S c R us m) (hi : i < m.length) (hv : RowP K H R v row) : BR K (upd H R (.lst (us.set i v))) S c R (us.set i v) (m.set i row) := by
  refine ⟨h.st.upd h.nS h.nc, h.nS, h.nc, upd_same, by rw [List.length_set, List.length_set, h.len], fun j w z => ?_⟩
  by_cases e : i = j
  · subst e
    rw [List.getElem?_set_self (by rw [h.len]; exact hi)] at z
    cases z
    rw [rw_set_eq hi]
    exact hv.upd h.top
  · rw [List.getElem?_set_ne e] at z
    rw [rw_set_ne e]
    exact (h.at_ j w z).upd h.top
end
theorem ent_take {r : Row} {j k : Nat} (h : j < k) : ent (r.take k) j = ent r j := by
  unfold ent
  rw [List.getD_eq_getElem?_getD, List.getElem?_take, if_pos h, ← List.getD_eq_getElem?_getD]
theorem kp_new {H0 H : Hp} {S p : Addr} {o : HO} (h : Kp S H0 H) (hp : H0 p = none) : Kp S H0 (upd H p o) := fun b x n e => by
  rw [upd_ne (ne_of_none e hp)]
  exact h b x n e
end Rz

namespace Rz
open PySem PySem.Spec PyProof.Rows L2

theorem op_catAK {X : Cx} {K : PySem.W.Frag} (h : X.K = K) : OpR X (binaryOp .Add) (rCatA K) := h ▸ op_catA
section
variable {K : PySem.W.Frag} {H : Hp} {Q : VK} {σ : L2.St} {vs : List Nat} {te : TE} {tt : TT}
theorem g_catA {a b : Addr} {xs ys : List V} (h1 : SqT K H a xs) (h2 : SqT K H b ys) (hl : xs.length + ys.length ≤ 1000000) (q : ∀ p H', Same H H' → SqT K H' p (xs ++ ys) → Q (.ref p) H') : rCatA K (.ref a) (.ref b) H Q := by
  refine ⟨a, b, xs, ys, rfl, rfl, h1, h2, by have := sizeLine_eq; omega, fun z => ?_, fun _ z => ?_, fun _ _ p hp => ?_⟩
  · rw [z] at q
    exact q b H (Same.refl _) h2
  · rw [z, List.append_nil] at q
    exact q a H (Same.refl _) h1
  · exact q p _ (up_same hp) (SqT.of upd_same)
theorem g_slA2 {a : Addr} {xs : List V} {lo hi : Option Int} (h : SqT K H a xs) (q : ∀ p H', Same H H' → SqT K H' p (cutV xs lo hi) → Q (.ref p) H') : rSlA K (.ref a) lo hi H Q := by
  refine ⟨a, xs, rfl, h, fun z => ?_, fun z p hp => q p _ (up_same hp) (SqT.of upd_same)⟩
  refine q a H (Same.refl _) ?_
  unfold cutV
  rw [z.1, z.2, List.drop_zero, Nat.sub_zero, List.take_length]
  exact h
theorem Rats.take {xs : List V} {qs : List Rat} (h : Rats K H xs qs) (n : Nat) : Rats K H (xs.take n) (qs.take n) := ⟨by rw [List.length_take, List.length_take, h.len], fun i x q a b => by
  rw [List.getElem?_take] at a b
  by_cases z : i < n
  · rw [if_pos z] at a b
    exact h.at_ i x q a b
  · rw [if_neg z] at a
    cases a⟩
theorem Rats.drop {xs : List V} {qs : List Rat} (h : Rats K H xs qs) (n : Nat) : Rats K H (xs.drop n) (qs.drop n) := ⟨by rw [List.length_drop, List.length_drop, h.len], fun i x q a b => by
  rw [List.getElem?_drop] at a b
  exact h.at_ _ x q a b⟩
theorem Rats.app {xs ys : List V} {qs rs : List Rat} (h : Rats K H xs qs) (k : Rats K H ys rs) : Rats K H (xs ++ ys) (qs ++ rs) := ⟨by rw [List.length_append, List.length_append, h.len, k.len], fun i x q a b => by
  by_cases z : i < xs.length
  · rw [List.getElem?_append_left z] at a
    rw [List.getElem?_append_left (h.len ▸ z)] at b
    exact h.at_ i x q a b
  · rw [List.getElem?_append_right (by omega)] at a
    rw [List.getElem?_append_right (by rw [← h.len]; omega), ← h.len] at b
    exact k.at_ _ x q a b⟩
theorem Rats.one {x : V} {q : Rat} (h : RatV K H x q) : Rats K H [x] [q] := by
  have := Rats.nil.snoc h
  exact this
/-- the turns at ts, without their tuple -/
structure TsL (K : PySem.W.Frag) (H : Hp) (ts : List Addr) (rows : Rows) : Prop where
  len : ts.length = rows.length
  row : ∀ (i : Nat) r row, ts[i]? = some r → rows[i]? = some row → SqT K H r (row.map V.int)
theorem TsL.take {ts : List Addr} {rows : Rows} (h : TsL K H ts rows) (n : Nat) : TsL K H (ts.take n) (rows.take n) := ⟨by rw [List.length_take, List.length_take, h.len], fun i r row a b => by
  rw [List.getElem?_take] at a b
  by_cases z : i < n
  · rw [if_pos z] at a b
    exact h.row i r row a b
  · rw [if_neg z] at a
    cases a⟩
theorem TsL.drop {ts : List Addr} {rows : Rows} (h : TsL K H ts rows) (n : Nat) : TsL K H (ts.drop n) (rows.drop n) := ⟨by rw [List.length_drop, List.length_drop, h.len], fun i r row a b => by
  rw [List.getElem?_drop] at a b
  exact h.row _ r row a b⟩
theorem TsL.app {ts us : List Addr} {rows rows' : Rows} (h : TsL K H ts rows) (k : TsL K H us rows') : TsL K H (ts ++ us) (rows ++ rows') := ⟨by rw [List.length_append, List.length_append, h.len, k.len], fun i r row a b => by
  by_cases z : i < ts.length
  · rw [List.getElem?_append_left z] at a
    rw [List.getElem?_append_left (h.len ▸ z)] at b
    exact h.row i r row a b
  · rw [List.getElem?_append_right (by omega)] at a
    rw [List.getElem?_append_right (by rw [← h.len]; omega), ← h.len] at b
    exact k.row _ r row a b⟩
theorem TsL.same {H' : Hp} {ts : List Addr} {rows : Rows} (h : TsL K H ts rows) (e : Same H H') : TsL K H' ts rows := ⟨h.len, fun i r row a b => Same.sqt e (h.row i r row a b)⟩
theorem TsL.updL {ts : List Addr} {rows : Rows} {S : Addr} {ys : List V} {o : HO} (h : TsL K H ts rows) (e : H S = some (.lst ys)) : TsL K (upd H S o) ts rows := ⟨h.len, fun i r row a b => Kp.sqt Kp.upd e (h.row i r row a b)⟩
theorem NetAt.ts {p t m : Addr} {ts : List Addr} {as : List V} {rim : Nat} {rows : Rows} {qs : List Rat} (h : NetAt K H p t m ts as rim rows qs) : TsL K H ts rows := ⟨h.len, h.row⟩
theorem netV_of {p t m : Addr} {ts : List Addr} {as : List V} {rim : Nat} {rows : Rows} {qs : List Rat} (hp : SqT K H p [.int (rim : Int), .ref t, .ref m]) (ht : SqT K H t (ts.map V.ref)) (h : TsL K H ts rows) (hm : SqT K H m as) (hr : Rats K H as qs) : NetV K H (.ref p) rim rows qs := ⟨p, t, m, ts, as, rfl, hp, ht, h.len, h.row, hm, hr⟩
/-- a comprehension over a tuple, with a test -/
theorem lc_tupIf {a : Addr} {xs : List V} {i₀ : Nat} (h : SqT K H a xs) (Pv : Addr → Nat → List V → Hp → Prop) (hw : ∀ x, wipe ((wipe σ vs).set i₀ (some x)) vs = wipe σ vs) (h0 : ∀ p, H p = none → Pv p 0 [] (upd H p (.lst []))) (hl : ∀ p i acc H', H p = none → Pv p i acc H' → SqT K H' a xs)
    (hs : ∀ p (i : Nat) x acc H', H p = none → xs[i]? = some x → Pv p i acc H' → tt ((wipe σ vs).set i₀ (some x)) H' fun b H3 => if b = true then te ((wipe σ vs).set i₀ (some x)) H3 (lcN (Pv p) p i) else ∃ acc2, Pv p (i + 1) acc2 H3)
    (hd : ∀ p acc H', H p = none → Pv p xs.length acc H' → Q (.ref p) H') : rItT K (lcW (gName i₀) tt te vs σ Q) (.ref a) H := by
  refine ⟨a, rfl, ⟨xs, h⟩, fun p hp => ?_⟩
  refine lc_tup (K := K) (xs := xs) (fun i H' => ∃ acc, Pv p i acc H') ⟨[], h0 p hp⟩ (fun i H' _ ⟨acc, q⟩ => hl p i acc H' hp q) (fun i x H' hi ⟨acc, q⟩ => ?_) (fun H' ⟨acc, q⟩ => hd p acc H' hp q)
  exact ⟨hw _, hs p i x acc H' hp hi q⟩
end
/-! ### nets after moves -/
def dropD (e : Nat) (row : List Int) : List Int := (row.filter fun d => decide (¬ d / 2 = (e : Int))).map fun d => if d > 2 * (e : Int) + 1 then d - 2 else d
def dropE (e : Nat) (rows : Rows) : Rows := rows.map (dropD e)
/-- the node (from 0 on) of a dart -/
def nodeOf (rows : Rows) (d : Int) : Nat := (atM rows d).1
def spLOther : Sp := fun vs H Q _ => ∃ d : Int, vs = [.int d] ∧ Q (.int (twin d)) H
/-- what is known of the ends when the darts ahead of place (i, j) have been gone through -/
def endV (rows : Rows) (i j : Nat) (d : Int) : Int := if (atM rows d).1 < i ∨ (atM rows d).1 = i ∧ (atM rows d).2 < j then ((atM rows d).1 : Int) else 0
def endRows (rows : Rows) (E i j : Nat) : Rows := (List.range E).map fun e : Nat => [endV rows i j (2 * (e : Int)), endV rows i j (2 * (e : Int) + 1)]
theorem endRows_len {rows : Rows} {E i j : Nat} : (endRows rows E i j).length = E := by
  unfold endRows
  rw [List.length_map, List.length_range]
theorem endRows_at {rows : Rows} {E i j e : Nat} (h : e < E) : (endRows rows E i j)[e]? = some [endV rows i j (2 * (e : Int)), endV rows i j (2 * (e : Int) + 1)] := by
  unfold endRows
  rw [List.getElem?_map, List.getElem?_range h]
  rfl
theorem endV_put {rows : Rows} {i j : Nat} {row : List Int} {d x : Int} (nd : rows.flatten.Nodup) (h1 : rows[i]? = some row) (h2 : row[j]? = some d) (hx : x ∈ rows.flatten) : endV rows i (j + 1) x = if x = d then (i : Int) else endV rows i j x := by
  unfold endV
  by_cases e : x = d
  · subst e
    rw [at_of nd h1 h2, if_pos (.inr ⟨rfl, Nat.lt_succ_self _⟩), if_pos rfl]
  · rw [if_neg e]
    obtain ⟨row', a, b⟩ := at_spec hx
    have key : ((atM rows x).1 < i ∨ (atM rows x).1 = i ∧ (atM rows x).2 < j + 1) ↔ ((atM rows x).1 < i ∨ (atM rows x).1 = i ∧ (atM rows x).2 < j) := by
      refine ⟨fun z => ?_, fun z => ?_⟩
      · rcases z with z | ⟨z1, z2⟩
        · exact .inl z
        · refine .inr ⟨z1, ?_⟩
          rcases Nat.lt_or_eq_of_le (Nat.le_of_lt_succ z2) with z3 | z3
          · exact z3
          · rw [z1, h1] at a
            cases a
            rw [z3, h2] at b
            exact absurd (Option.some.inj b).symm e
      · rcases z with z | ⟨z1, z2⟩
        · exact .inl z
        · exact .inr ⟨z1, by omega⟩
    simp only [key]
theorem endV_row {rows : Rows} {i : Nat} {row : List Int} {x : Int} (h1 : rows[i]? = some row) (hx : x ∈ rows.flatten) : endV rows (i + 1) 0 x = endV rows i row.length x := by
  unfold endV
  obtain ⟨row', a, b⟩ := at_spec hx
  have key : ((atM rows x).1 < i + 1 ∨ (atM rows x).1 = i + 1 ∧ (atM rows x).2 < 0) ↔ ((atM rows x).1 < i ∨ (atM rows x).1 = i ∧ (atM rows x).2 < row.length) := by
    refine ⟨fun z => ?_, fun z => ?_⟩
    · by_cases e : (atM rows x).1 = i
      · rw [e, h1] at a
        cases a
        exact .inr ⟨e, (List.getElem?_eq_some_iff.mp b).1⟩
      · exact .inl (by omega)
    · exact .inl (by omega)
  simp only [key]
theorem endV_end {rows : Rows} {x : Int} (hx : x ∈ rows.flatten) : endV rows rows.length 0 x = (nodeOf rows x : Int) := by
  unfold endV nodeOf
  rw [if_pos (.inl (at_lt hx))]
/-- the nodes (from 0 on) of the darts of the edges -/
def endsM (rows : Rows) (E : Nat) : Rows := (List.range E).map fun e : Nat => [(nodeOf rows (2 * (e : Int)) : Int), (nodeOf rows (2 * (e : Int) + 1) : Int)]
def spLEnds (K : PySem.W.Frag) : Sp := fun vs H Q _ => ∃ (v : V) (rim : Nat) (rows : Rows) (qs : List Rat) (E : Nat), vs = [v] ∧ NetV K H v rim rows qs ∧ WF rows E ∧ qs.length = E ∧ E ≤ 100 ∧ rows.length ≤ 1000 ∧
  ∀ l rs H', Same H H' → H l = none → RowsAt H' l rs (endsM rows E) → Q (.ref l) H'
def spLDrop (K : PySem.W.Frag) : Sp := fun vs H Q _ => ∃ (v : V) (e rim : Nat) (rows : Rows) (qs : List Rat), vs = [v, .int (e : Int)] ∧ NetV K H v rim rows qs ∧ e < qs.length ∧ qs.length ≤ 1000 ∧ rows.length ≤ 1000 ∧ (∀ row ∈ rows, row.length ≤ 1000) ∧
  ∀ v' H', Same H H' → NetV K H' v' rim (dropE e rows) (qs.take e ++ qs.drop (e + 1)) → Q v' H'
def spLDropN (K : PySem.W.Frag) : Sp := fun vs H Q _ => ∃ (v : V) (n rim : Nat) (rows : Rows) (qs : List Rat), vs = [v, .int (n : Int)] ∧ NetV K H v rim rows qs ∧ 1 ≤ n ∧ n ≤ rows.length ∧ rows.length ≤ 1000 ∧
  ∀ v' H', Same H H' → NetV K H' v' rim (rows.take (n - 1) ++ rows.drop n) qs → Q v' H'
def spLPut (K : PySem.W.Frag) : Sp := fun vs H Q _ => ∃ (v u : V) (e rim : Nat) (rows : Rows) (qs : List Rat) (q : Rat), vs = [v, .int (e : Int), u] ∧ NetV K H v rim rows qs ∧ RatV K H u q ∧ e < qs.length ∧ qs.length ≤ 1000 ∧
  ∀ v' H', Same H H' → NetV K H' v' rim rows (qs.take e ++ [q] ++ qs.drop (e + 1)) → Q v' H'
theorem find_none {P : Nat → Bool} {n : Nat} (h : ∀ j, j < n → P j = false) : (List.range n).find? P = none := by
  rw [List.find?_eq_none]
  intro x hx
  rw [h x (List.mem_range.mp hx)]
  exact Bool.false_ne_true
theorem find_first {P : Nat → Bool} {n i : Nat} (hi : i < n) (h1 : P i = true) (h0 : ∀ j, j < i → P j = false) : (List.range n).find? P = some i := by
  induction n with
  | zero => omega
  | succ n ih =>
    rw [List.range_succ, List.find?_append]
    by_cases z : i < n
    · rw [ih z]
      rfl
    · have e : i = n := by omega
      subst e
      rw [find_none h0]
      show [i].find? P = some i
      rw [List.find?_cons, h1]
/-! ### what a move makes of a net: none where it does not fit -/
def ResV (K : PySem.W.Frag) (H : Hp) (v : V) (rim : Nat) : Option (Rows × List Rat) → Prop
  | none => v = .non
  | some r => NetV K H v rim r.1 r.2
def loopM (rows : Rows) (qs : List Rat) (k : Int) : Option (Rows × List Rat) :=
  if 0 ≤ k ∧ k < (qs.length : Int) ∧ nodeOf rows (2 * k) = nodeOf rows (2 * k + 1) then some (dropE k.toNat rows, qs.take k.toNat ++ qs.drop (k.toNat + 1)) else none
def looseAt (rows : Rows) (rim : Nat) (k : Int) : Option Nat := (List.range rows.length).find? fun n => decide (rim ≤ n ∧ (rows.getD n []).length = 1 ∧ (rows.getD n []).getD 0 0 / 2 = k)
def looseM (rows : Rows) (rim : Nat) (qs : List Rat) (k : Int) : Option (Rows × List Rat) :=
  if 0 ≤ k ∧ k < (qs.length : Int) then (looseAt rows rim k).map fun n => ((dropE k.toNat rows).take n ++ (dropE k.toNat rows).drop (n + 1), qs.take k.toNat ++ qs.drop (k.toNat + 1)) else none
theorem NetV.same {K : PySem.W.Frag} {H H' : Hp} {v : V} {rim : Nat} {rows : Rows} {qs : List Rat} (h : NetV K H v rim rows qs) (e : Same H H') : NetV K H' v rim rows qs := let ⟨p, t, m, ts, as, a, b⟩ := h; ⟨p, t, m, ts, as, a, b.same e⟩
def spALoop (K : PySem.W.Frag) : Sp := fun vs H Q _ => ∃ (v : V) (e : Int) (rim : Nat) (rows : Rows) (qs : List Rat) (E : Nat), vs = [v, .int e] ∧ NetV K H v rim rows qs ∧ WF rows E ∧ qs.length = E ∧ E ≤ 100 ∧ rows.length ≤ 1000 ∧
  ∀ v' H', Same H H' → ResV K H' v' rim (loopM rows qs e) → Q v' H'
def spALoose (K : PySem.W.Frag) : Sp := fun vs H Q _ => ∃ (v : V) (e : Int) (rim : Nat) (rows : Rows) (qs : List Rat) (E : Nat), vs = [v, .int e] ∧ NetV K H v rim rows qs ∧ WF rows E ∧ qs.length = E ∧ E ≤ 100 ∧ rows.length ≤ 1000 ∧ rim ≤ rows.length ∧
  ∀ v' H', Same H H' → ResV K H' v' rim (looseM rows rim qs e) → Q v' H'
section
variable {K : PySem.W.Frag} {σ : L2.St} {H : Hp} {g : TG} {tb : TS} {D : Ends} {ta : TA} {te : TE} {tt : TT} {vs : List Nat} {Q : VK}
theorem g_lcR2 (h : ta σ H (rRng2 (lcW g tt te vs σ Q))) : tLc (iRng2 ta) g tt te vs σ H Q := h
theorem g_rngZ {lo hi : Int} (n : Nat) (e : hi = lo + (n : Int)) (hlo : -1000 ≤ lo) (hlo2 : lo ≤ 1000) (hn : n < 1000000) (Pv : Nat → L2.St → Hp → Prop) (h0 : Pv 0 σ H)
    (hs : ∀ (k : Nat) σ H, k < n → Pv k σ H → g (.int (lo + (k : Int))) σ H fun σ2 H2 => tb { D with nx := Pv (k + 1), ct := Pv (k + 1), bk := D.nx } σ2 H2) (hd : ∀ σ H, Pv n σ H → D.nx σ H) : rRng2 (forW g tb D σ) [.int lo, .int hi] H := by
  subst e
  refine ⟨_, _, rfl, ⟨by omega, by omega, by omega, by omega⟩, ?_⟩
  rw [show (lo + (n : Int) - lo).toNat = n by omega]
  exact for_range (lo := lo) (n := n) Pv h0 hs hd
theorem g_lcRZ {lo hi : Int} {i₀ : Nat} (n : Nat) (e : hi = lo + (n : Int)) (hlo : -1000 ≤ lo) (hlo2 : lo ≤ 1000) (hn : n < 1000000) (Pv : Addr → Nat → List V → Hp → Prop) (hw : ∀ x, wipe ((wipe σ vs).set i₀ (some x)) vs = wipe σ vs)
    (h0 : ∀ p, H p = none → Pv p 0 [] (upd H p (.lst []))) (hs : ∀ p (i : Nat) acc H', H p = none → i < n → Pv p i acc H' → te ((wipe σ vs).set i₀ (some (.int (lo + (i : Int))))) H' (lcN (Pv p) p i))
    (hd : ∀ p acc H', H p = none → Pv p n acc H' → Q (.ref p) H') : rRng2 (lcW (gName i₀) tYes te vs σ Q) [.int lo, .int hi] H := by
  subst e
  refine ⟨_, _, rfl, ⟨by omega, by omega, by omega, by omega⟩, fun p hp => ?_⟩
  rw [show (lo + (n : Int) - lo).toNat = n by omega]
  exact lc_range (lo := lo) (n := n) (fun i H' => ∃ acc, Pv p i acc H') ⟨[], h0 p hp⟩ (fun i H' hi ⟨acc, q⟩ => ⟨hw _, hs p i acc H' hp hi q⟩) (fun H' ⟨acc, q⟩ => hd p acc H' hp q)
end

/-! ### moves -/
inductive Mv
  | loop (k : Int)
  | loose (k : Int)
  | par (j k : Int)
  | series (v : Int)
  | star (v : Int)
  | num
  | tri (d : Int)
def Mv.items : Mv → List V
  | .loop k => [.str "loop", .int k]
  | .loose k => [.str "loose", .int k]
  | .par j k => [.str "parallel", .int j, .int k]
  | .series v => [.str "series", .int v]
  | .star v => [.str "star", .int v]
  | .num => [.str "number"]
  | .tri d => [.str "triangle", .int d]
def MovV (K : PySem.W.Frag) (H : Hp) (v : V) (mv : Mv) : Prop := ∃ p, v = .ref p ∧ SqT K H p mv.items
theorem MovV.same {K : PySem.W.Frag} {H H' : Hp} {v : V} {mv : Mv} (h : MovV K H v mv) (e : Same H H') : MovV K H' v mv := let ⟨p, a, b⟩ := h; ⟨p, a, Same.sqt e b⟩
/-- the numbers of a move are not great -/
def Mv.small : Mv → Prop
  | .loop k => k.natAbs < 2 ^ 60
  | .loose k => k.natAbs < 2 ^ 60
  | .par j k => j.natAbs < 2 ^ 60 ∧ k.natAbs < 2 ^ 60
  | .series v => v.natAbs < 2 ^ 60
  | .star v => v.natAbs < 2 ^ 60
  | .num => True
  | .tri d => d.natAbs < 2 ^ 60
def MovL (K : PySem.W.Frag) (H : Hp) (us : List V) : Prop := ∀ (i : Nat) v, us[i]? = some v → ∃ mv, MovV K H v mv ∧ mv.small
theorem MovL.same {K : PySem.W.Frag} {H H' : Hp} {us : List V} (h : MovL K H us) (e : Same H H') : MovL K H' us := fun i v z => let ⟨mv, a, b⟩ := h i v z; ⟨mv, a.same e, b⟩
theorem MovL.nil {K : PySem.W.Frag} {H : Hp} : MovL K H [] := fun i v z => by simp at z
theorem MovL.app {K : PySem.W.Frag} {H : Hp} {us ws : List V} (h : MovL K H us) (k : MovL K H ws) : MovL K H (us ++ ws) := fun i v z => by
  by_cases hi : i < us.length
  · rw [List.getElem?_append_left hi] at z
    exact h i v z
  · rw [List.getElem?_append_right (by omega)] at z
    exact k _ v z
theorem MovL.one {K : PySem.W.Frag} {H : Hp} {v : V} {mv : Mv} (h : MovV K H v mv) (hs : mv.small) : MovL K H [v] := fun i w z => by
  cases i with
  | zero =>
    cases z
    exact ⟨mv, h, hs⟩
  | succ i => simp at z
theorem MovL.upd {K : PySem.W.Frag} {H : Hp} {us : List V} {S : Addr} {ys : List V} {o : HO} (h : MovL K H us) (e : H S = some (.lst ys)) : MovL K (upd H S o) us := fun i v z => by
  obtain ⟨mv, ⟨p, a, b⟩, c⟩ := h i v z
  exact ⟨mv, ⟨p, a, Kp.sqt Kp.upd e b⟩, c⟩
def spMoves (K : PySem.W.Frag) : Sp := fun vs H Q _ => ∃ (v : V) (rim : Nat) (rows : Rows) (qs : List Rat), vs = [v] ∧ NetV K H v rim rows qs ∧ qs.length ≤ 100 ∧ rows.length ≤ 1000 ∧ ∀ p us H', Same H H' → H' p = some (.lst us) → us.length ≤ 900000 → MovL K H' us → Q (.ref p) H'
theorem Eqv.net {K : PySem.W.Frag} {H : Hp} {n : Nat} {x y : V} {rim : Nat} {rows : Rows} {qs : List Rat} (h : NetV K H x rim rows qs) (k : NetV K H y rim rows qs) (h1 : rows.length < 1000000) (h2 : ∀ row ∈ rows, row.length < 1000000) (h3 : qs.length < 1000000) : Eqv K H (n + 4) x y := by
  obtain ⟨p, t, m, ts, as, rfl, hN⟩ := h
  obtain ⟨p', t', m', ts', as', rfl, hN'⟩ := k
  refine .tup hN.top hN'.top rfl (by show 3 < 1000000; decide) fun i x y e1 e2 => ?_
  match i, e1, e2 with
  | 0, e1, e2 =>
    cases e1
    cases e2
    exact .sc rfl
  | 1, e1, e2 =>
    cases e1
    cases e2
    refine .tup hN.turns hN'.turns (by rw [List.length_map, List.length_map, hN.len, hN'.len]) (by rw [List.length_map, hN'.len]; exact h1) fun j a b a1 b1 => ?_
    obtain ⟨r, rfl, hr, hs⟩ := hN.tns.get a1
    obtain ⟨r', rfl, hr', hs'⟩ := hN'.tns.get b1
    exact Eqv.ints hs hs' (h2 _ (List.mem_of_getElem? hr))
  | 2, e1, e2 =>
    cases e1
    cases e2
    refine .tup hN.ams hN'.ams (by rw [hN.rats.len, hN'.rats.len]) (by rw [hN'.rats.len]; exact h3) fun j a b a1 b1 => ?_
    have hj : j < qs.length := by
      rw [← hN.rats.len]
      exact (List.getElem?_eq_some_iff.mp a1).1
    exact Eqv.rat (n := n) (hN.rats.at_ j a _ a1 (List.getElem?_eq_getElem hj)) (hN'.rats.at_ j b _ b1 (List.getElem?_eq_getElem hj))
  | i + 3, e1, e2 => simp at e1
/-- a move of a drawing, by F: a net, or an error of class C -/
def spApply (K : PySem.W.Frag) (C : Addr) (F : Nat → Rows → List Rat → Mv → Option (Rows × List Rat)) (S : Mv → Prop) (Emax : Nat) : Sp := fun vs H Q E => ∃ (v u : V) (rim : Nat) (rows : Rows) (qs : List Rat) (En : Nat) (mv : Mv), vs = [v, u] ∧ NetV K H v rim rows qs ∧ MovV K H u mv ∧ S mv ∧ 1 ≤ rim ∧ rim ≤ 7 ∧ Built rim En rows ∧ qs.length = En ∧ En ≤ Emax ∧ (∀ q ∈ qs, 0 < q ∧ Bd 5 q) ∧
  (F rim rows qs mv = none → ∀ H', Same H H' → E (.ref C) none H') ∧ ∀ r, F rim rows qs mv = some r → ∀ v' H', Same H H' → NetV K H' v' rim r.1 r.2 → Q v' H'
def spTolds (K : PySem.W.Frag) (C : Addr) (spF : Sp) : Sp := fun vs H Q _ => ∃ x y, vs = [x, y] ∧ spF [x, y] H (fun v H' => ∀ p, H' p = none → Q (.ref p) (upd H' p (.tup [.str "told", v])))
  (fun cls d H' => cls = .ref C ∧ d = none ∧ ∀ p, H' p = none → Q (.ref p) (upd H' p (.tup [.str "refused"])))
theorem mono_apply {K : PySem.W.Frag} {C : Addr} {F : Nat → Rows → List Rat → Mv → Option (Rows × List Rat)} {S : Mv → Prop} {Em : Nat} : ∀ vs H Q Q' E E', (∀ v H, Q v H → Q' v H) → (∀ c d H, E c d H → E' c d H) → spApply K C F S Em vs H Q E → spApply K C F S Em vs H Q' E' := by
  rintro vs H Q Q' E E' hQ hE ⟨v, u, rim, rows, qs, En, mv, a1, a2, a3, a4, a5, a6, a7, a8, a9, a10, a11, a12⟩
  exact ⟨v, u, rim, rows, qs, En, mv, a1, a2, a3, a4, a5, a6, a7, a8, a9, a10, fun z H' sm => hE _ _ _ (a11 z H' sm), fun r z v' H' sm hv => hQ _ _ (a12 r z v' H' sm hv)⟩
def afterM (rim : Nat) (rows : Rows) (qs : List Rat) : Mv → Option (Rows × List Rat)
  | .loop k => loopM rows qs k
  | .loose k => looseM rows rim qs k
  | _ => none
def isLL (mv : Mv) : Prop := (∃ k, mv = .loop k) ∨ ∃ k, mv = .loose k
def spAfter (K : PySem.W.Frag) (F : Nat → Rows → List Rat → Mv → Option (Rows × List Rat)) (S : Mv → Prop) : Sp := fun vs H Q _ => ∃ (v u : V) (rim : Nat) (rows : Rows) (qs : List Rat) (En : Nat) (mv : Mv), vs = [v, u] ∧ NetV K H v rim rows qs ∧ MovV K H u mv ∧ S mv ∧ WF rows En ∧ qs.length = En ∧ En ≤ 100 ∧ rows.length ≤ 1000 ∧ rim ≤ rows.length ∧
  ∀ v' H', Same H H' → ResV K H' v' rim (F rim rows qs mv) → Q v' H'
theorem g_callSD {sp : Sp} {dvs : List V} {E : L2.St → XK} {tas : TA} {σ : L2.St} {H : Hp} {Q : VK} (h : tas σ H fun vs H1 => sp (vs ++ dvs) H1 Q (E σ)) : tCallSD sp dvs E tas σ H Q := h
end Rz

set_option maxHeartbeats 4000000
/-! Moves, more: least and greatest of two numbers, sorted lists of two, the move of parallel edges. -/
namespace Rz
open PySem PySem.Spec PyProof.Rows L2
def rMin2n : List V → Hp → VK → Prop := fun xs H Q => ∃ i j, xs = [.int i, .int j] ∧ Q (.int (if j < i then j else i)) H
def rMax2n : List V → Hp → VK → Prop := fun xs H Q => ∃ i j, xs = [.int i, .int j] ∧ Q (.int (if j > i then j else i)) H
section
variable {X : Cx} {K : PySem.W.Frag}
theorem call_min2n (hc : X.calm = true) : CallR X (.builtin "min") rMin2n := call_min2 hc
theorem call_max2n (hc : X.calm = true) : CallR X (.builtin "max") rMax2n := call_max2 hc
theorem call_sortedK (h : X.K = K) : CallR X (.builtin "sorted") (rSorted K) := h ▸ cr_sorted
end
section
variable {K : PySem.W.Frag} {H : Hp} {Q : VK}
theorem g_min2 {i j : Int} (h : Q (.int (if j < i then j else i)) H) : rMin2n [.int i, .int j] H Q := ⟨i, j, rfl, h⟩
theorem g_max2 {i j : Int} (h : Q (.int (if j > i then j else i)) H) : rMax2n [.int i, .int j] H Q := ⟨i, j, rfl, h⟩
def lo2 (a b : Int) : Int := if b < a then b else a
def hi2 (a b : Int) : Int := if b < a then a else b
theorem sorted2 {a b : Int} {xs : List Int} (h : xs.Perm [a, b]) (s : xs.Pairwise (· ≤ ·)) : xs = [lo2 a b, hi2 a b] := by
  match xs, h, s with
  | [], h, _ => exact absurd h.length_eq (by simp)
  | [_], h, _ => exact absurd h.length_eq (by simp)
  | _ :: _ :: _ :: _, h, _ => exact absurd h.length_eq (by simp)
  | [x, y], h, s =>
    have hxy : x ≤ y := by
      cases s with
      | cons h _ => exact h y (List.mem_singleton.mpr rfl)
    have m1 : a = x ∨ a = y := by simpa using h.mem_iff.mpr (show a ∈ [a, b] by simp)
    have m2 : b = x ∨ b = y := by simpa using h.mem_iff.mpr (show b ∈ [a, b] by simp)
    have m3 : x = a ∨ x = b := by simpa using h.mem_iff.mp (show x ∈ [x, y] by simp)
    have m4 : y = a ∨ y = b := by simpa using h.mem_iff.mp (show y ∈ [x, y] by simp)
    unfold lo2 hi2
    have e1 : x = if b < a then b else a := by split <;> omega
    have e2 : y = if b < a then a else b := by split <;> omega
    rw [← e1, ← e2]
theorem g_sorted2 {p : Addr} {a b : Int} (h : SqL K H p [.int a, .int b]) (q : ∀ r, H r = none → Q (.ref r) (upd H r (.lst [.int (lo2 a b), .int (hi2 a b)]))) : rSorted K [.ref p] H Q :=
  ⟨p, [a, b], rfl, h, by show 2 < 64; decide, fun ns r hp hs hr => by
    rw [sorted2 hp hs]
    exact q r hr⟩
theorem pair_eqv (a b c d : Int) : PyData.eqv (.list [.int a, .int b]) (.list [.int c, .int d]) = decide (a = c ∧ b = d) := by
  have e : PyData.eqv (.list [.int a, .int b]) (.list [.int c, .int d]) = ((a == c) && ((b == d) && true)) := rfl
  rw [e, Bool.and_true]
  by_cases h1 : a = c
  · by_cases h2 : b = d
    · rw [decide_eq_true ⟨h1, h2⟩, h1, h2, beq_self_eq_true, beq_self_eq_true]
      rfl
    · rw [decide_eq_false (fun z => h2 z.2), beq_eq_false_iff_ne.mpr h2, Bool.and_false]
  · rw [decide_eq_false (fun z => h1 z.1), beq_eq_false_iff_ne.mpr h1, Bool.false_and]
theorem g_neP2 {p q : Addr} {a b c d : Int} (h : SqL K H p [.int a, .int b]) (h2 : SqL K H q [.int c, .int d]) (k : Q (.bl (!decide (a = c ∧ b = d))) H) : rNeD K (.ref p) (.ref q) H Q :=
  ⟨_, _, .lst h (.cons (.int _) (.cons (.int _) .nil)), .lst h2 (.cons (.int _) (.cons (.int _) .nil)), by rfl, by rfl, by rw [pair_eqv]; exact k⟩
end

/-! ### parallel edges -/
def endA (rows : Rows) (k : Int) : Int := (nodeOf rows (2 * k) : Int)
def endB (rows : Rows) (k : Int) : Int := (nodeOf rows (2 * k + 1) : Int)
def sameEnds (rows : Rows) (j k : Int) : Prop := lo2 (endA rows j) (endB rows j) = lo2 (endA rows k) (endB rows k) ∧ hi2 (endA rows j) (endB rows j) = hi2 (endA rows k) (endB rows k)
instance {rows : Rows} {j k : Int} : Decidable (sameEnds rows j k) := inferInstanceAs (Decidable (_ ∧ _))
def parQ (qs : List Rat) (j k : Nat) : List Rat :=
  let rs := qs.take j ++ [qs.getD j 0 + qs.getD k 0] ++ qs.drop (j + 1)
  rs.take k ++ rs.drop (k + 1)
def parM (rows : Rows) (qs : List Rat) (j k : Int) : Option (Rows × List Rat) :=
  if (0 ≤ j ∧ 0 ≤ k ∧ j < (qs.length : Int) ∧ k < (qs.length : Int) ∧ j ≠ k) ∧ sameEnds rows j k ∧ endA rows j ≠ endB rows j then some (dropE k.toNat rows, parQ qs j.toNat k.toNat) else none
def spAPar (K : PySem.W.Frag) : Sp := fun vs H Q _ => ∃ (v : V) (j k : Int) (rim : Nat) (rows : Rows) (qs : List Rat) (E : Nat), vs = [v, .int j, .int k] ∧ NetV K H v rim rows qs ∧ WF rows E ∧ qs.length = E ∧ E ≤ 100 ∧ rows.length ≤ 1000 ∧ (∀ q ∈ qs, Bd 5 q) ∧
  ∀ v' H', Same H H' → ResV K H' v' rim (parM rows qs j k) → Q v' H'
def afterP (rim : Nat) (rows : Rows) (qs : List Rat) : Mv → Option (Rows × List Rat)
  | .par j k => parM rows qs j k
  | _ => none
def isPar (mv : Mv) : Prop := ∃ j k, mv = .par j k
/-- as spAfter, with amounts of bounded size -/
def spAfter2 (K : PySem.W.Frag) (F : Nat → Rows → List Rat → Mv → Option (Rows × List Rat)) (S : Mv → Prop) : Sp := fun vs H Q _ => ∃ (v u : V) (rim : Nat) (rows : Rows) (qs : List Rat) (En : Nat) (mv : Mv), vs = [v, u] ∧ NetV K H v rim rows qs ∧ MovV K H u mv ∧ S mv ∧ WF rows En ∧ qs.length = En ∧ En ≤ 100 ∧ rows.length ≤ 1000 ∧ rim ≤ rows.length ∧ (∀ q ∈ qs, Bd 5 q) ∧
  ∀ v' H', Same H H' → ResV K H' v' rim (F rim rows qs mv) → Q v' H'
def mvName : Mv → Str
  | .loop _ => "loop"
  | .loose _ => "loose"
  | .par _ _ => "parallel"
  | .series _ => "series"
  | .star _ => "star"
  | .num => "number"
  | .tri _ => "triangle"
theorem mvName_at (mv : Mv) : atI mv.items 0 = some (.str (mvName mv)) := by cases mv <;> rfl
theorem small_dropE {rows : Rows} {e n : Nat} (h : ∀ row ∈ rows, row.length ≤ n) : ∀ row ∈ dropE e rows, row.length ≤ n := fun row hr => by
  obtain ⟨r, h1, rfl⟩ := List.mem_map.mp hr
  refine Nat.le_trans ?_ (h r h1)
  unfold dropD
  rw [List.length_map]
  exact List.length_filter_le ..
end Rz

set_option maxHeartbeats 4000000
/-! sorted(t), t a tuple of numbers. -/
namespace Rz
open PySem PySem.Spec PyProof.Rows L2
section
variable {prog : Program} {w : World} {A : Around} {E : Value → Shared → Prop} {s : Shared}
theorem sorted_tup {a : Addr} {vs : List Value} {ns : List Int} {Q : Value → Shared → Prop} (hl : IsTup s.heap a vs.toArray) (hI : IntsAre vs ns) (h64 : vs.length < 64)
    (h : ∀ (out : Array Value) (ns' : List Int) (h' : Heap) (p : Addr) (e : Nat), IntsAre out.toList ns' → ns'.Perm ns → ns'.Pairwise (· ≤ ·) → (∀ b o, s.heap.get? b = some o → h'.get? b = some o) → s.heap.get? p = none → h'.get? p = some (seqObj "list" out e) → Q (.ref p) { s with heap := h' }) :
    wpAny (model prog w) A (call (.builtin "sorted") [.ref a]) Q E s := by
  obtain ⟨o, ho, hc, n, hd⟩ := hl
  refine Calls.call_function_entry kind_sorted plain_sorted entry_sorted (args_sorted1 _) ?_
  unfold Builtin.«sorted»
  refine wpAny_bind (m := checkCount "sorted" 1 1 _) (wpAny_pure ?_)
  refine wpAny_bind (PySem.wpAny_collect_seq a (.inr rfl) ho hc hd (fun h1 k1 => ?_) (by have := sizeLine_eq; rw [List.size_toArray]; omega))
  have hsz : s.heap.get? h1.objs.size = none := by
    cases z : s.heap.get? h1.objs.size with
    | none => rfl
    | some o => exact absurd (Heap.lt_size (k1 _ _ z)) (Nat.lt_irrefl _)
  refine wpAny_bind (wpAny_newList ?_ (by have := sizeLine_eq; show vs.toArray.toList.length ≤ _; rw [List.toList_toArray]; omega))
  have hoL : (h1.push (seqObj "list" vs.toArray 0)).get? h1.objs.size = some (seqObj "list" vs.toArray 0) := Heap.get?_push_size _ rfl
  refine wpAny_bind (wpAny_holding (wpAny_call_entry slot_list_sort ⟨_, hoL, rfl⟩ entry_list_sort (list_sort_tree (s := { s with heap := h1.push (seqObj "list" vs.toArray 0) }) hoL hI h64 fun out ns' a1 a2 a3 => ⟨_, rfl, ?_⟩) (args_list_sort _)))
  obtain ⟨e, he⟩ := sortedHeap_at (vs := vs) (out := out) hoL
  refine wpAny_pure ⟨_, rfl, h out ns' _ _ e a1 a2 a3 (fun b o hb => ?_) hsz he⟩
  have hb1 := k1 b o hb
  have hlt := Heap.lt_size hb1
  rw [sortedHeap_old (Nat.ne_of_lt hlt) (by rw [size_push']; exact Nat.lt_succ_of_lt hlt)]
  exact Heap.get?_push_of_some _ hb1
end
def rSortedT (K : PySem.W.Frag) : List V → Hp → VK → Prop := fun vs H Q => ∃ (a : Addr) (ns : List Int), vs = [V.ref a] ∧ SqT K H a (ns.map V.int) ∧ ns.length < 64 ∧
  ∀ (ns' : List Int) (p : Addr), ns'.Perm ns → ns'.Pairwise (· ≤ ·) → H p = none → Q (.ref p) (upd H p (.lst (ns'.map V.int)))
section
variable {X : Cx} {K : PySem.W.Frag}
theorem cr_sortedT : CallR X (.builtin "sorted") (rSortedT X.K) := by
  intro pins s σ H vs us Q I r h
  obtain ⟨a, ns, rfl, hs, h64, q⟩ := h
  obtain ⟨its, rv, hl, _⟩ := I.tuple hs
  rw [Vals.ref1 r]
  have hi := rv.ints
  refine sorted_tup hl hi (by rw [hi.length]; exact h64) fun out ns' h' p e h1 h2 h3 k hp he => ?_
  have hlen : (ns'.map V.int).length ≤ sizeLine := by rw [List.length_map, h2.length_eq]; exact small64 h64
  exact ⟨.ref p, upd H p (.lst (ns'.map V.int)), I.laidN (t' := s.toks) k hp (I.hok.gone hp) ⟨hlen, out.toList, e, vals_of_ints h1, he⟩, rfl, q ns' p h2 h3 (I.hok.gone hp)⟩
theorem call_sortedTK (h : X.K = K) : CallR X (.builtin "sorted") (rSortedT K) := h ▸ cr_sortedT
end
theorem g_sorted2T {K : PySem.W.Frag} {H : Hp} {Q : VK} {p : Addr} {a b : Int} (h : SqT K H p [.int a, .int b]) (q : ∀ r, H r = none → Q (.ref r) (upd H r (.lst [.int (lo2 a b), .int (hi2 a b)]))) : rSortedT K [.ref p] H Q :=
  ⟨p, [a, b], rfl, h, by show 2 < 64; decide, fun ns r hp hs hr => by
    rw [sorted2 hp hs]
    exact q r hr⟩
section
variable {K : PySem.W.Frag} {H : Hp} {Q : VK} {σ : L2.St} {vs : List Nat} {te : TE} {tt : TT}
theorem lc_rngIf {j : Int} {i₀ : Nat} (n : Nat) (e : j = (n : Int)) (hb : n < 1000000) (Pv : Addr → Nat → List V → Hp → Prop) (hw : ∀ x, wipe ((wipe σ vs).set i₀ (some x)) vs = wipe σ vs)
    (h0 : ∀ p, H p = none → Pv p 0 [] (upd H p (.lst [])))
    (hs : ∀ p (i : Nat) acc H', H p = none → i < n → Pv p i acc H' → tt ((wipe σ vs).set i₀ (some (.int (i : Int)))) H' fun b H3 => if b = true then te ((wipe σ vs).set i₀ (some (.int (i : Int)))) H3 (lcN (Pv p) p i) else ∃ acc2, Pv p (i + 1) acc2 H3)
    (hd : ∀ p acc H', H p = none → Pv p n acc H' → Q (.ref p) H') : rRng1 (lcW (gName i₀) tt te vs σ Q) [.int j] H := by
  subst e
  refine ⟨(n : Int), rfl, by omega, by omega, fun p hp => ?_⟩
  rw [Int.toNat_natCast]
  refine lc_range (lo := 0) (n := n) (fun i H' => ∃ acc, Pv p i acc H') ⟨[], h0 p hp⟩ (fun i H' hi ⟨acc, q⟩ => ?_) (fun H' ⟨acc, q⟩ => hd p acc H' hp q)
  rw [show (0 : Int) + (i : Int) = (i : Int) by omega]
  exact ⟨hw _, hs p i acc H' hp hi q⟩
end
/-- a dart stands in the turn of its node only -/
theorem in_row {rows : Rows} (nd : rows.flatten.Nodup) {d : Int} {k : Nat} {row : List Int} (h1 : rows[k]? = some row) (hd : d ∈ rows.flatten) : d ∈ row ↔ k = nodeOf rows d := by
  constructor
  · intro hm
    obtain ⟨i, hi, e⟩ := List.getElem_of_mem hm
    have := at_of nd h1 (show row[i]? = some d by rw [List.getElem?_eq_getElem hi, e])
    unfold nodeOf
    rw [this]
  · intro e
    obtain ⟨row2, e1, e2⟩ := at_spec hd
    have e1 : rows[nodeOf rows d]? = some row2 := e1
    rw [← e, h1] at e1
    cases e1
    exact List.mem_of_getElem? e2
/-- [tuple(x) for x in L], L a list of lists of numbers -/
theorem tups_lc {K : PySem.W.Frag} {σ : L2.St} {H : Hp} {vs : List Nat} {i₀ : Nat} {Q : VK} {L : Addr} {rs : List Addr} {rows : Rows} (hR : RowsAt H L rs rows) (hb : rows.length ≤ 1000) (hw : ∀ x, wipe ((wipe σ vs).set i₀ (some x)) vs = wipe σ vs) (hi : ∀ x, ((wipe σ vs).set i₀ (some x))[i₀]? = some (some x))
    (q : ∀ p ts H', Same H H' → H' p = some (.lst (ts.map V.ref)) → TsL K H' ts rows → Q (.ref p) H') : rItL K (lcW (gName i₀) tYes (tCB (rTupleOf K) (tCons (tVar i₀) tNil)) vs σ Q) (.ref L) H := by
  refine g_lcLst (SqL.of hR.top) (fun p i acc H' => Same H H' ∧ H' p = some (.lst acc) ∧ ∃ ts : List Addr, ts.length = i ∧ acc = ts.map V.ref ∧ ∀ (j : Nat) r row, ts[j]? = some r → rows[j]? = some row → SqT K H' r (row.map V.int)) hw
    (fun p hp => ⟨up_same hp, upd_same, [], rfl, rfl, fun j r row a => by simp at a⟩) (fun p i acc H' _ h => h.1.seq (SqL.of hR.top)) ?_ ?_
  · rintro p i x acc H1 hp hx ⟨sm, ep, ts, hl, rfl, ht⟩
    rw [List.getElem?_map] at hx
    cases hri : rs[i]? with
    | none =>
      rw [hri] at hx
      cases hx
    | some r =>
      rw [hri] at hx
      cases hx
      have hlt : i < rows.length := by
        rw [← hR.len]
        exact (List.getElem?_eq_some_iff.mp hri).1
      have hrow := sm _ _ (hR.at_ i r _ hri (List.getElem?_eq_getElem hlt))
      refine g_cb (g_cons (g_var (hi _) (g_nil (g_tupleL (SqL.of hrow) fun z hz => ?_))))
      have e5' := (up_same (o := .tup (rows[i].map V.int)) hz) _ _ ep
      refine lcN_of e5' (by rw [List.length_map]; omega) ⟨fun b o h => ?_, upd_same, ts ++ [z], ?_, ?_, fun j r' row a b => ?_⟩
      · rw [upd_ne (ne_of_none h hp)]
        exact (up_same hz) _ _ (sm _ _ h)
      · rw [List.length_append, hl]
        rfl
      · rw [List.map_append]
        rfl
      · refine Kp.sqt Kp.upd e5' ?_
        rcases at_snoc a with ⟨h1, h2⟩ | ⟨h1, rfl⟩
        · exact Same.sqt (up_same hz) (ht j r' row h2 b)
        · rw [h1, hl, List.getElem?_eq_getElem hlt] at b
          cases b
          exact SqT.of upd_same
  · rintro p acc H1 hp ⟨sm, ep, ts, hl, rfl, ht⟩
    exact q p ts H1 sm ep ⟨by rw [hl, List.length_map, hR.len], ht⟩
/-- a row in the place of a dart of a turn -/
def swapR (row : List Int) (d : Int) (ns : List Int) : List Int := row.take (row.idxOf d) ++ ns ++ row.drop (row.idxOf d + 1)
def spSwap (K : PySem.W.Frag) : Sp := fun vs H Q _ => ∃ (L : Addr) (n : Nat) (d : Int) (q : Addr) (rs : List Addr) (rows : Rows) (row ns : List Int), vs = [.ref L, .int (n : Int), .int d, .ref q] ∧ RowsAt H L rs rows ∧ rows[n]? = some row ∧ d ∈ row ∧ H q = some (.lst (ns.map V.int)) ∧ Few rows ∧ ns.length ≤ 1000 ∧
  ∀ (r : Addr) H', Kp L H H' → H r = none → RowsAt H' L (rs.set n r) (rows.set n (swapR row d ns)) → Q .non H'
/-- two edges in series at a node become one -/
def serRows (rows : Rows) (n : Nat) (lo hi : Int) : Rows := (rows.set (nodeOf rows (twin hi)) (swapR (rows.getD (nodeOf rows (twin hi)) []) (twin hi) [lo])).set n []
def serM (rim : Nat) (rows : Rows) (qs : List Rat) (v : Int) : Option (Rows × List Rat) :=
  if (rim : Int) < v ∧ v ≤ (rows.length : Int) ∧ (rows.getD (v - 1).toNat []).length = 2 then
    let row := rows.getD (v - 1).toNat []
    let lo := lo2 (row.getD 0 0) (row.getD 1 0)
    let hi := hi2 (row.getD 0 0) (row.getD 1 0)
    if lo / 2 = hi / 2 then none else
      let a := qs.getD (lo / 2).toNat 0
      let b := qs.getD (hi / 2).toNat 0
      let rows2 := dropE (hi / 2).toNat (serRows rows (v - 1).toNat lo hi)
      let q2 := qs.take (lo / 2).toNat ++ [a * b / (a + b)] ++ qs.drop ((lo / 2).toNat + 1)
      some (rows2.take (v - 1).toNat ++ rows2.drop ((v - 1).toNat + 1), q2.take (hi / 2).toNat ++ q2.drop ((hi / 2).toNat + 1))
  else none
def spASer (K : PySem.W.Frag) : Sp := fun vs H Q _ => ∃ (v : V) (n : Int) (rim : Nat) (rows : Rows) (qs : List Rat) (E : Nat), vs = [v, .int n] ∧ NetV K H v rim rows qs ∧ WF rows E ∧ qs.length = E ∧ E ≤ 100 ∧ rows.length ≤ 1000 ∧ 1 ≤ rim ∧ rim ≤ rows.length ∧ (∀ q ∈ qs, 0 < q ∧ Bd 5 q) ∧
  ∀ v' H', Same H H' → ResV K H' v' rim (serM rim rows qs n) → Q v' H'
def afterS (rim : Nat) (rows : Rows) (qs : List Rat) : Mv → Option (Rows × List Rat)
  | .series v => serM rim rows qs v
  | _ => none
def isSer (mv : Mv) : Prop := ∃ v, mv = .series v
/-- as spAfter, with amounts above 0 of bounded size -/
def spAfter3 (K : PySem.W.Frag) (F : Nat → Rows → List Rat → Mv → Option (Rows × List Rat)) (S : Mv → Prop) : Sp := fun vs H Q _ => ∃ (v u : V) (rim : Nat) (rows : Rows) (qs : List Rat) (En : Nat) (mv : Mv), vs = [v, u] ∧ NetV K H v rim rows qs ∧ MovV K H u mv ∧ S mv ∧ WF rows En ∧ qs.length = En ∧ En ≤ 100 ∧ rows.length ≤ 1000 ∧ rim ≤ rows.length ∧ 1 ≤ rim ∧ (∀ q ∈ qs, 0 < q ∧ Bd 5 q) ∧
  ∀ v' H', Same H H' → ResV K H' v' rim (F rim rows qs mv) → Q v' H'
theorem serRows_small {rows : Rows} {i n : Nat} {lo hi : Int} (h : ∀ row ∈ rows, row.length ≤ n) : ∀ row ∈ serRows rows i lo hi, row.length ≤ 2 * n + 1 := fun row hr => by
  unfold serRows at hr
  rcases List.mem_or_eq_of_mem_set hr with h1 | h1
  · rcases List.mem_or_eq_of_mem_set h1 with h2 | h2
    · have := h row h2; omega
    · rw [h2]
      have hg : (rows.getD (nodeOf rows (twin hi)) []).length ≤ n := by
        rw [List.getD_eq_getElem?_getD]
        cases e : rows[nodeOf rows (twin hi)]? with
        | none => exact Nat.zero_le _
        | some r => exact h r (List.mem_of_getElem? e)
      unfold swapR
      simp only [List.length_append, List.length_take, List.length_drop, List.length_cons, List.length_nil]
      omega
  · rw [h1]; exact Nat.zero_le _
theorem afterS_small {rim n : Nat} {rows : Rows} {qs : List Rat} {mv : Mv} {r : Rows × List Rat} (h : afterS rim rows qs mv = some r) (hn : ∀ row ∈ rows, row.length ≤ n) : r.1.length ≤ rows.length ∧ (∀ row ∈ r.1, row.length ≤ 2 * n + 1) ∧ r.2.length ≤ qs.length + 1 := by
  cases mv with
  | series v =>
    simp only [afterS, serM] at h
    split at h
    · split at h
      · cases h
      · cases h
        refine ⟨?_, fun row hr => ?_, ?_⟩
        · simp only [List.length_append, List.length_take, List.length_drop, dropE, serRows, List.length_map, List.length_set]
          omega
        · rcases List.mem_append.mp hr with h | h
          · exact small_dropE (serRows_small hn) row (List.mem_of_mem_take h)
          · exact small_dropE (serRows_small hn) row (List.mem_of_mem_drop h)
        · simp only [List.length_append, List.length_take, List.length_drop, List.length_cons, List.length_nil]
          omega
    · cases h
  | par => cases h
  | loop => cases h
  | loose => cases h
  | star => cases h
  | num => cases h
  | tri => cases h
end Rz

set_option maxHeartbeats 4000000
/-! No edge of a drawing stands alone between two inner nodes; each inner node has darts. -/
namespace Rz
open PySem PySem.Spec PyProof.Rows L2

def Full (rim : Nat) (rows : Rows) : Prop := ∀ (m : Nat) row, rim ≤ m → rows[m]? = some row → row ≠ []
def Lone (rim : Nat) (rows : Rows) : Prop := ∀ (m n : Nat) (d : Int), rim ≤ m → rim ≤ n → rows[m]? = some [d] → rows[n]? = some [twin d] → False
theorem ins_len (p : Nat) (x : Int) (row : List Int) : (ins p x row).length = row.length + 1 := by
  rw [(ins_perm p x row).length_eq]
  rfl
theorem modRow_at {rows : Rows} {n m : Nat} {f : List Int → List Int} {row : List Int} (h : (modRow rows n f)[m]? = some row) : (m = n ∧ ∃ r, rows[m]? = some r ∧ row = f r) ∨ rows[m]? = some row := by
  unfold modRow at h
  by_cases e : n = m
  · subst e
    have hl : n < rows.length := by
      have := (List.getElem?_eq_some_iff.mp h).1
      rw [List.length_set] at this
      exact this
    rw [List.getElem?_set_self hl] at h
    refine .inl ⟨rfl, rows[n], List.getElem?_eq_getElem hl, ?_⟩
    rw [List.getD_eq_getElem?_getD, List.getElem?_eq_getElem hl, Option.getD_some] at h
    exact (Option.some.inj h).symm
  · rw [List.getElem?_set_ne e] at h
    exact .inr h
theorem ins_one {rows : Rows} {n m p : Nat} {x d : Int} (h : (modRow rows n (ins p x))[m]? = some [d]) : rows[m]? = some [d] ∨ rows[m]? = some [] := by
  rcases modRow_at h with ⟨rfl, r, hr, e⟩ | h
  · have := congrArg List.length e
    rw [ins_len] at this
    cases r with
    | nil => exact .inr hr
    | cons a b => simp at this
  · exact .inl h
theorem ins_nil {rows : Rows} {n m p : Nat} {x : Int} (h : (modRow rows n (ins p x))[m]? = some []) : rows[m]? = some [] := by
  rcases modRow_at h with ⟨rfl, r, hr, e⟩ | h
  · have := congrArg List.length e
    rw [ins_len] at this
    simp at this
  · exact h
theorem Full.insd {rim : Nat} {rows : Rows} {n p : Nat} {x : Int} (h : Full rim rows) : Full rim (modRow rows n (ins p x)) := fun m row hm hr e => by
  subst e
  exact h m [] hm (ins_nil hr) rfl
theorem Full.one {rim : Nat} {rows : Rows} {n m p : Nat} {x d : Int} (h : Full rim rows) (hm : rim ≤ m) (hr : (modRow rows n (ins p x))[m]? = some [d]) : rows[m]? = some [d] := by
  rcases ins_one hr with z | z
  · exact z
  · exact absurd rfl (h m [] hm z)
theorem lone_of {rim E : Nat} {rows rows' : Rows} (hW : WF rows E) (h : Lone rim rows) (h1 : ∀ (m : Nat) d, rim ≤ m → rows'[m]? = some [d] → rows[m]? = some [d] ∨ d = 2 * (E : Int) ∨ d = 2 * (E : Int) + 1)
    (h2 : ∀ m n : Nat, rim ≤ m → rim ≤ n → rows'[m]? = some [2 * (E : Int)] → rows'[n]? = some [2 * (E : Int) + 1] → False) : Lone rim rows' := fun m n d hm hn a b => by
  have old : ∀ {k : Nat} {x : Int}, rows[k]? = some [x] → 0 ≤ x ∧ x < 2 * (E : Int) := fun {k x} z => (hW.mem x).mp (mem_flat.mpr ⟨k, _, z, List.mem_singleton.mpr rfl⟩)
  rcases h1 m d hm a with x | x
  · rcases h1 n (twin d) hn b with y | y
    · exact h m n d hm hn x y
    · have := twin_range (old x)
      omega
  · rcases x with rfl | rfl
    · have e : twin (2 * (E : Int)) = 2 * (E : Int) + 1 := by unfold twin; omega
      rw [e] at b
      exact h2 m n hm hn a b
    · have e : twin (2 * (E : Int) + 1) = 2 * (E : Int) := by unfold twin; omega
      rw [e] at b
      exact h2 n m hn hm b a
theorem Grow.full {rim E : Nat} {rows rows' : Rows} (g : Grow rim E rows rows') (hW : WF rows E) (hrim : rim ≤ rows.length) (h0 : 0 < rim) (hF : Full rim rows) (hL : Lone rim rows) : Full rim rows' ∧ Lone rim rows' := by
  have new : ∀ {k : Nat} {x : Int} {row : List Int}, rows[k]? = some row → x ∈ row → 0 ≤ x ∧ x < 2 * (E : Int) := fun {k x row} z hx => (hW.mem x).mp (mem_flat.mpr ⟨k, _, z, hx⟩)
  have two : ∀ {n1 p1 n2 p2 : Nat} {x y : Int}, Full rim (modRow (modRow rows n1 (ins p1 x)) n2 (ins p2 y)) ∧ Lone rim (modRow (modRow rows n1 (ins p1 x)) n2 (ins p2 y)) := fun {n1 p1 n2 p2 x y} => by
    refine ⟨hF.insd.insd, fun m n d hm hn a b => ?_⟩
    exact hL m n d hm hn (hF.one hm (hF.insd.one hm a)) (hF.one hn (hF.insd.one hn b))
  cases g with
  | rimEdge n o j hn ho hs =>
    have ho2 : o < rim := by rw [ho]; exact Nat.mod_lt _ h0
    have key : ∀ (m : Nat) row, rim ≤ m → (modRow (modRow rows n (ins 0 (2 * (E : Int)))) o (fun row => row ++ [2 * (E : Int) + 1]))[m]? = some row → rows[m]? = some row := fun m row hm h => by
      rcases modRow_at h with ⟨e, _⟩ | h
      · omega
      · rcases modRow_at h with ⟨e, _⟩ | h
        · omega
        · exact h
    exact ⟨fun m row hm h => hF m row hm (key m row hm h), fun m k d hm hk a b => hL m k d hm hk (key m _ hm a) (key k _ hk b)⟩
  | before n hn =>
    have key : ∀ (m : Nat) row, rim ≤ m → ((rows ++ [rows.getD n [] ++ [2 * (E : Int) + 1]]).set n [2 * (E : Int)])[m]? = some row → rows[m]? = some row ∨ row = rows.getD n [] ++ [2 * (E : Int) + 1] := fun m row hm h => by
      rw [List.getElem?_set_ne (by omega)] at h
      rcases at_snoc h with ⟨_, h⟩ | ⟨_, h⟩
      · exact .inl h
      · exact .inr h
    refine ⟨fun m row hm h => ?_, lone_of hW hL (fun m d hm h => ?_) fun m k hm hk a b => ?_⟩
    · rcases key m row hm h with z | z
      · exact hF m row hm z
      · rw [z]; simp
    · rcases key m _ hm h with z | z
      · exact .inl z
      · have e := congrArg List.getLast? z
        rw [List.getLast?_append] at e
        simp at e
        exact .inr (.inr e)
    · rcases key m _ hm a with z | z
      · have := new z (List.mem_singleton.mpr rfl)
        omega
      · have e := congrArg List.getLast? z
        rw [List.getLast?_append] at e
        simp at e
        omega
  | within e he =>
    have hd : (2 * (e : Int) + 1) ∈ rows.flatten := (hW.mem _).mpr (by omega)
    obtain ⟨row0, hr1, hr2⟩ := at_spec hd
    have hl := (List.getElem?_eq_some_iff.mp hr1).1
    have hg : rows.getD (atM rows (2 * (e : Int) + 1)).1 [] = row0 := row_of hr1
    have key : ∀ (m : Nat) row, ((rows ++ [[2 * (e : Int) + 1, 2 * (E : Int)]]).set (atM rows (2 * (e : Int) + 1)).1 ((rows.getD (atM rows (2 * (e : Int) + 1)).1 []).set (atM rows (2 * (e : Int) + 1)).2 (2 * (E : Int) + 1)))[m]? = some row →
        rows[m]? = some row ∨ row = [2 * (e : Int) + 1, 2 * (E : Int)] ∨ (m = (atM rows (2 * (e : Int) + 1)).1 ∧ row = row0.set (atM rows (2 * (e : Int) + 1)).2 (2 * (E : Int) + 1)) := fun m row h => by
      rw [hg] at h
      by_cases z : (atM rows (2 * (e : Int) + 1)).1 = m
      · rw [z, List.getElem?_set_self (by rw [List.length_append]; omega)] at h
        exact .inr (.inr ⟨z.symm, (Option.some.inj h).symm⟩)
      · rw [List.getElem?_set_ne z] at h
        rcases at_snoc h with ⟨_, h⟩ | ⟨_, h⟩
        · exact .inl h
        · exact .inr (.inl h)
    refine ⟨fun m row hm h => ?_, lone_of hW hL (fun m d hm h => ?_) fun m k hm hk a b => ?_⟩
    · rcases key m row h with z | z | ⟨z1, z⟩
      · exact hF m row hm z
      · rw [z]; simp
      · intro e2
        rw [e2] at z
        have := congrArg List.length z
        rw [List.length_set] at this
        have := (List.getElem?_eq_some_iff.mp hr2).1
        simp at *
        omega
    · rcases key m _ h with z | z | ⟨z1, z⟩
      · exact .inl z
      · have := congrArg List.length z
        simp at this
      · refine .inr (.inr ?_)
        have hl2 := (List.getElem?_eq_some_iff.mp hr2).1
        have e1 := congrArg List.length z
        rw [List.length_set, List.length_singleton] at e1
        have e2 : (atM rows (2 * (e : Int) + 1)).2 = 0 := by omega
        rw [e2] at z
        have e3 := congrArg (fun l : List Int => l[0]?) z
        simp only [List.getElem?_cons_zero] at e3
        rw [List.getElem?_set_self (by omega)] at e3
        exact Option.some.inj e3
    · rcases key m _ a with z | z | ⟨z1, z⟩
      · have := new z (List.mem_singleton.mpr rfl)
        omega
      · have := congrArg List.length z
        simp at this
      · have hl2 := (List.getElem?_eq_some_iff.mp hr2).1
        have e3 : (2 * (E : Int)) ∈ row0.set (atM rows (2 * (e : Int) + 1)).2 (2 * (E : Int) + 1) := by rw [← z]; simp
        rcases List.mem_or_eq_of_mem_set e3 with w | w
        · have := new hr1 w
          omega
        · omega
  | beside e he r1 h1 =>
    subst h1
    exact two
  | twig n p hn hp =>
    have hlen : (modRow rows n (ins p (2 * (E : Int)))).length = rows.length := modRow_len
    have key : ∀ (m : Nat) row, (modRow rows n (ins p (2 * (E : Int))) ++ [[2 * (E : Int) + 1]])[m]? = some row → (modRow rows n (ins p (2 * (E : Int))))[m]? = some row ∨ row = [2 * (E : Int) + 1] := fun m row h => by
      rcases at_snoc h with ⟨_, h⟩ | ⟨_, h⟩
      · exact .inl h
      · exact .inr h
    refine ⟨fun m row hm h => ?_, lone_of hW hL (fun m d hm h => ?_) fun m k hm hk a b => ?_⟩
    · rcases key m row h with z | z
      · exact hF.insd m row hm z
      · rw [z]; simp
    · rcases key m _ h with z | z
      · exact .inl (hF.one hm z)
      · exact .inr (.inr (by simpa using z))
    · rcases key m _ a with z | z
      · have := new (hF.one hm z) (List.mem_singleton.mpr rfl)
        omega
      · have : 2 * (E : Int) = 2 * (E : Int) + 1 := by simpa using z
        omega
  | loop n p hn hp => exact two
  | across d x y hd hx hy r1 h1 =>
    subst h1
    exact two
theorem Built.full {rim E : Nat} {rows : Rows} (h : Built rim E rows) (h0 : 0 < rim) : Full rim rows ∧ Lone rim rows := by
  induction h with
  | start =>
    have no : ∀ (m : Nat) row, rim ≤ m → (List.replicate rim ([] : List Int))[m]? = some row → False := fun m row hm h => by
      have := (List.getElem?_eq_some_iff.mp h).1
      rw [List.length_replicate] at this
      omega
    exact ⟨fun m row hm h => (no m row hm h).elim, fun m n d hm hn a b => (no m _ hm a).elim⟩
  | grow hb g ih =>
    obtain ⟨w, l1, l2⟩ := hb.all h0
    exact g.full w l1 h0 ih.1 ih.2
end Rz

set_option maxHeartbeats 4000000
/-! Rules for the program's own modules: a written dict's get, texts with numbers in them, comprehensions within comprehensions, a call of a local name, dict.get with a default. -/
namespace Rz
open PySem PySem.Spec PyProof.Rows L2

/-! ### a written dict by get -/
def KD (K : PySem.W.Frag) (w : World) (p : Addr) : Prop := ∃ es n, KDict K w p es n
def tKGet (K : PySem.W.Frag) (w : World) (td ty : TE) : TE := fun σ H Q => td σ H fun x H1 => ∃ p, x = .ref p ∧ KD K w p ∧ ty σ H1 fun y H2 => ∃ z u v, y = .str z ∧ PySem.W.nsIn K p z = some (some u) ∧ RelV v u ∧ Q v H2
theorem pe_kget1 {X : Cx} {K : PySem.W.Frag} {w : World} {o e : Expr} {apos cpos : Pos} {td ty : TE} (hK : X.K = K) (hw : X.w = w) (ho : PE X o td) (he : PE X e ty) (m : M1 X o "get" apos e cpos) : PE X (.Call (.Attribute o "get" apos) [e] [] cpos) (tKGet K w td ty) := by
  subst hK hw
  refine ⟨fun pins s σ H Q I h => ?_⟩
  refine wpAny_Call_method m.base m.few m.line PySem.F.plainAttrs_dict PySem.F.slot_dict_get PySem.F.type_dict_get (thn (ho.run pins s σ H _ I h) fun u s1 ⟨x, H1, I1, rx, q1⟩ => ?_)
  obtain ⟨p, rfl, ⟨es, n, D⟩, q1⟩ := q1
  obtain rfl : u = Value.ref p := rx
  refine ⟨kd_type D I1, fun b q => ?_, ?_⟩
  · cases q
    exact ⟨_, I1.kIn _ _ D.at_, rfl⟩
  rw [m.trees]
  refine Calls.callWith_builtin rfl (Calls.evalArgs_plain (Calls.spliced_cons (thn (he.run pins s1 σ H1 _ I1 q1) fun iv s2 ⟨y, H2, I2, ry, q2⟩ => Calls.spliced_nil ?_)))
  obtain ⟨z, u, v, rfl, e, rv, q2⟩ := q2
  obtain ⟨t, rfl⟩ := ry
  refine call_meetsIn PySem.F.slot_dict_get (kd_type D I2) PySem.F.entry_dict_get (PySem.F.args_dict_get_2 _ _) (meets_dict_get (strKind X.prog X.w) p (strKind_is X.prog X.w z t) D.low) ⟨_, PySem.W.mapOf_K (prog := X.prog) I2.kIn D.at_ D.lit, ?_⟩
  rw [PySem.W.find_K D.at_ e]
  exact ⟨v, H2, I2.tok _, rv, q2⟩
theorem g_kget {K : PySem.W.Frag} {w : World} {td ty : TE} {σ : L2.St} {H : Hp} {Q : VK} (h : td σ H fun x H1 => ∃ p, x = .ref p ∧ KD K w p ∧ ty σ H1 fun y H2 => ∃ z u v, y = .str z ∧ PySem.W.nsIn K p z = some (some u) ∧ RelV v u ∧ Q v H2) : tKGet K w td ty σ H Q := h

/-! ### texts with numbers in them -/
theorem str_len_app (a b : Str) : (a ++ b).length = a.length + b.length := by
  show (a.cps ++ b.cps).size = _
  rw [Array.size_append]
  rfl
theorem int_text_le {i : Int} (h : i.natAbs < 2 ^ 60) : (toString i : Str).length ≤ 100 := by
  have h2 : i.natAbs.log2 < 60 := by
    by_cases z : i.natAbs = 0
    · rw [z]; decide
    · exact (Nat.log2_lt z).mpr h
  have := int_text_length_le (k := 60) (by decide) h2
  show (Str.ofString (toString i)).length ≤ 100
  rw [PySem.ofString_length]
  omega
section
variable {σ : L2.St} {H : Hp} {acc s : Str} {ts : List TE} {Q : Str → Hp → Prop} {n m : Nat} {i : Int}
/-- the text so far has at most m signs -/
theorem g_jsC (hl : acc.length ≤ m) (hs : s.length ≤ 1000) (hm : m ≤ 1000000) (h : (acc ++ s).length ≤ m + 1000 → tJs ts (acc ++ s) σ H Q) : tJs (tC (.str s) :: ts) acc σ H Q := by
  have e := str_len_app acc s
  exact ⟨s, rfl, by rw [sizeLine_eq]; omega, h (by omega)⟩
theorem g_jsI (hσ : σ[n]? = some (some (.int i))) (hi : i.natAbs < 2 ^ 60) (hl : acc.length ≤ m) (hm : m ≤ 1000000) (h : (acc ++ (toString i : Str)).length ≤ m + 1000 → tJs ts (acc ++ (toString i : Str)) σ H Q) : tJs (tFmt (tVar n) :: ts) acc σ H Q := by
  have e := str_len_app acc (toString i : Str)
  have e2 := int_text_le hi
  have h2 : i.natAbs.log2 < 1920 := by
    by_cases z : i.natAbs = 0
    · rw [z]; decide
    · exact Nat.lt_trans ((Nat.log2_lt z).mpr hi) (by decide)
  exact ⟨.int i, hσ, .inr ⟨i, rfl, h2, _, rfl, by rw [sizeLine_eq]; omega, h (by omega)⟩⟩
/-- the first part -/
theorem g_js0 {R : Str → Prop} (hs : s.length ≤ 1000) (h : (Str.empty ++ s).length ≤ 1000 → R s) : ∃ y : Str, V.str s = .str y ∧ (Str.empty ++ y).length ≤ sizeLine ∧ R y := by
  have e := str_len_app Str.empty s
  have e0 : Str.empty.length = 0 := rfl
  exact ⟨s, rfl, by rw [sizeLine_eq]; omega, h (by omega)⟩
theorem g_jsN (h : Q acc H) : tJs [] acc σ H Q := h
end

/-! ### a comprehension within a comprehension -/
theorem lookup_relab {env : Env} : ∀ {names : List (Str × NameKind)} {x : Str}, names.lookup x = some .cell ∨ names.lookup x = some .free →
    (names.map fun (n, k) => if (k == NameKind.free && env.scope.kind == .function && env.kindOf n == some .cell) then (n, NameKind.cell) else (n, k)).lookup x = some .cell ∨
    (names.map fun (n, k) => if (k == NameKind.free && env.scope.kind == .function && env.kindOf n == some .cell) then (n, NameKind.cell) else (n, k)).lookup x = some .free
  | [], _, h => by simp at h
  | (n, k) :: r, x, h => by
    have ih := @lookup_relab env r x
    show List.lookup x ((if (k == NameKind.free && env.scope.kind == .function && env.kindOf n == some .cell) = true then (n, NameKind.cell) else (n, k)) :: _) = _ ∨ List.lookup x ((if (k == NameKind.free && env.scope.kind == .function && env.kindOf n == some .cell) = true then (n, NameKind.cell) else (n, k)) :: _) = _
    cases hx : x == n with
    | true =>
      simp only [List.lookup_cons, hx] at h
      by_cases hc : (k == NameKind.free && env.scope.kind == .function && env.kindOf n == some .cell) = true
      · rw [if_pos hc]
        simp only [List.lookup_cons, hx]
        exact .inl trivial
      · rw [if_neg hc]
        simp only [List.lookup_cons, hx]
        exact h
    | false =>
      simp only [List.lookup_cons, hx] at h
      by_cases hc : (k == NameKind.free && env.scope.kind == .function && env.kindOf n == some .cell) = true
      · rw [if_pos hc]; simp only [List.lookup_cons, hx]; exact ih h
      · rw [if_neg hc]; simp only [List.lookup_cons, hx]; exact ih h
theorem blkIn {X : Cx} {s : Shared} {H : Hp} {sc0 scope : Scope} {cl : List (Str × Addr)} {C : Addr} {fp : List Addr} {own : List (Str × Nat)} {N : List Str} (hN : (X.blk s H sc0 (compEnvC sc0 cl C X.env) fp).N = N) (h : BlkOk N sc0 scope own) :
    BlkOk (X.blk s H sc0 (compEnvC sc0 cl C X.env) fp).N (X.blk s H sc0 (compEnvC sc0 cl C X.env) fp).env.scope scope own := by
  subst hN
  exact ⟨h.kind, h.uniq, h.ix, fun y hy e => lookup_relab (h.free y hy e), h.own⟩

/-! ### dict.get with a default -/
def rDGet2 : V → V → V → Hp → VK → Prop := fun x y z H Q => ∃ a o, x = .ref a ∧ DGet H a y o ∧ Q (o.getD z) H
theorem g_dget2 {td ty tx : TE} {σ : L2.St} {H : Hp} {Q : VK} (h : td σ H fun x H1 => ∃ a, x = .ref a ∧ IsD H1 a ∧ ty σ H1 fun y H2 => tx σ H2 fun z H3 => ∃ o, DGet H3 a y o ∧ Q (o.getD z) H3) : tDGet2 td ty tx σ H Q := h
theorem isD_of {H : Hp} {a : Addr} {kvs : List (Key × V)} (h : H a = some (.dK kvs)) : IsD H a := .inl ⟨kvs, .inl h⟩
theorem dget_of {H : Hp} {a : Addr} {kvs : List (Key × V)} {d : Int} (h : H a = some (.dK kvs)) : DGet H a (.int d) (valV kvs (.inl d)) := .inl ⟨kvs, .inl d, .inl h, rfl, rfl⟩
/-! ### a call of a local name that holds a def of the program, what is raised wished for -/
theorem g_callL {i : Nat} {f : Addr} {sp : Sp} {dvs : List V} {E : XK} {tas : TA} {σ : L2.St} {H : Hp} {Q : VK} (e : σ[i]? = some (some (.ref f))) (h : tas σ H fun vs H1 => sp (vs ++ dvs) H1 Q E) : tCallL i f sp dvs E tas σ H Q := ⟨e, h⟩
end Rz
namespace Rz
open PySem PySem.Spec PyProof.Rows L2
def spHomes (K : PySem.W.Frag) : Sp := fun vs H Q _ => ∃ (v : V) (rim : Nat) (rows : Rows) (qs : List Rat) (E : Nat), vs = [v] ∧ NetV K H v rim rows qs ∧ WF rows E ∧ E ≤ 100 ∧ rows.length ≤ 1000 ∧
  ∀ D kvs H', Same H H' → H D = none → H' D = some (.dK kvs) → Home kvs rows (fun _ => True) → kvs.length ≤ 300000 → Q (.ref D) H'
/-- is there an edge k -/
def spCheckE (K : PySem.W.Frag) (C : Addr) : Sp := fun vs H Q E => ∃ (v : V) (e : Int) (rim : Nat) (rows : Rows) (qs : List Rat), vs = [v, .int e] ∧ NetV K H v rim rows qs ∧ e.natAbs < 2 ^ 60 ∧
  (¬ (0 ≤ e ∧ e < (qs.length : Int)) → E (.ref C) none H) ∧ (0 ≤ e → e < (qs.length : Int) → Q .non H)
def spFallen : Sp := fun vs H Q _ => ∃ d e : Int, vs = [.int d, .int e] ∧ Q (.int (if d / 2 > e then d - 2 else d)) H
end Rz
namespace Rz
open PySem PySem.Spec PyProof.Rows L2
/-- [.. for turn in turns], its items tuples -/
theorem turns_lc {K : PySem.W.Frag} {σ : L2.St} {H : Hp} {vs : List Nat} {i₀ : Nat} {Q : VK} {te : TE} {t : Addr} {ts : List Addr} {rows : Rows} (f : List Int → List Int) (hN : TurnsAt K H t ts rows) (hb : rows.length ≤ 100000) (hw : ∀ x, wipe ((wipe σ vs).set i₀ (some x)) vs = wipe σ vs)
    (hs : ∀ (i : Nat) r H' (Q2 : VK), rows[i]? = some (rows.getD i []) → Same H H' → SqT K H' r ((rows.getD i []).map V.int) → (∀ u H'', Same H' H'' → SqT K H'' u ((f (rows.getD i [])).map V.int) → Q2 (.ref u) H'') → te ((wipe σ vs).set i₀ (some (.ref r))) H' Q2)
    (q : ∀ l us H', Same H H' → H l = none → H' l = some (.lst (us.map V.ref)) → TsL K H' us (rows.map f) → Q (.ref l) H') : rItT K (lcW (gName i₀) tYes te vs σ Q) (.ref t) H := by
  refine g_lcTup hN.top (fun l i acc H' => Same H H' ∧ H' l = some (.lst acc) ∧ ∃ us : List Addr, acc = us.map V.ref ∧ TsL K H' us ((rows.take i).map f)) hw
    (fun l hl => ⟨up_same hl, upd_same, [], rfl, ⟨rfl, fun i r row z => by simp at z⟩⟩) (fun l i acc H' _ h => Same.sqt h.1 hN.top) ?_ ?_
  · rintro l i x acc H1 hl hx ⟨sm, el, us, rfl, hT⟩
    obtain ⟨r, rfl, hri, hr1⟩ := (hN.same sm).get hx
    have hil := (List.getElem?_eq_some_iff.mp hri).1
    refine hs i r H1 _ hri sm hr1 fun u H2 s2 hu => ?_
    have el2 := s2 _ _ el
    have e5 : (rows.take (i + 1)).map f = (rows.take i).map f ++ [f (rows.getD i [])] := by
      rw [List.take_succ, hri, List.map_append]
      rfl
    refine lcN_of el2 (by rw [List.length_map, hT.len, List.length_map, List.length_take]; omega) ⟨fun b o h => ?_, upd_same, us ++ [u], by rw [List.map_append]; rfl, ?_⟩
    · rw [upd_ne (ne_of_none h hl)]
      exact s2 _ _ (sm _ _ h)
    · rw [e5]
      refine TsL.updL (TsL.app (hT.same s2) ⟨rfl, fun j r' row a b => ?_⟩) el2
      cases j with
      | zero =>
        cases a
        cases b
        exact hu
      | succ j => simp at a
  · rintro l acc H1 hl ⟨sm, el, us, rfl, hT⟩
    rw [List.length_map, hN.len, List.take_length] at hT
    exact q l us H1 sm hl el hT
/-! ### a walk over the ends of an edge that are loose -/
theorem loose_first {rim En n : Nat} {rows : Rows} {e : Nat} (hW : WF rows En) (hL : Lone rim rows) (he : e < En) (h1 : rim ≤ n) (h2 : (rows.getD n []).length = 1) {d : Int} (hd : d = 2 * (e : Int) ∨ d = 2 * (e : Int) + 1) (hn : (atM rows d).1 = n) : looseAt rows rim (e : Int) = some n := by
  have hdm : d ∈ rows.flatten := (hW.mem d).mpr (by omega)
  obtain ⟨row, ha, hb⟩ := at_spec hdm
  rw [hn] at ha
  have hrow := row_of ha
  rw [hrow] at h2
  obtain ⟨x, rfl⟩ : ∃ x, row = [x] := by
    match row, h2 with
    | [x], _ => exact ⟨x, rfl⟩
  have hx : d ∈ [x] := List.mem_of_getElem? hb
  rw [List.mem_singleton.mp hx] at hd
  have hnl := (List.getElem?_eq_some_iff.mp ha).1
  unfold looseAt
  refine find_first hnl (decide_eq_true ⟨h1, by rw [hrow]; rfl, by rw [hrow]; show x / 2 = _; omega⟩) fun j hj => decide_eq_false ?_
  rintro ⟨j1, j2, j3⟩
  have hjl : j < rows.length := by omega
  have hjr : rows[j]? = some (rows.getD j []) := by rw [List.getD_eq_getElem?_getD, List.getElem?_eq_getElem hjl]; rfl
  obtain ⟨y, hy⟩ : ∃ y, rows.getD j [] = [y] := by
    match hq : rows.getD j [], j2 with
    | [y], _ => exact ⟨y, rfl⟩
  rw [hy] at hjr j3
  have j4 : y / 2 = (e : Int) := j3
  by_cases z : y = x
  · subst z
    have := (place_inj hW.nd hjr (i := 0) rfl ha (i' := 0) rfl).1
    omega
  · have : y = twin x := by unfold twin; omega
    subst this
    exact hL n j x h1 j1 ha hjr
theorem loose_none {rim En : Nat} {rows : Rows} {e : Nat} (hW : WF rows En) (h : ∀ d : Int, d = 2 * (e : Int) ∨ d = 2 * (e : Int) + 1 → ¬ (rim ≤ (atM rows d).1 ∧ (rows.getD (atM rows d).1 []).length = 1)) : looseAt rows rim (e : Int) = none := by
  unfold looseAt
  refine find_none fun j hj => decide_eq_false ?_
  rintro ⟨j1, j2, j3⟩
  have hjr : rows[j]? = some (rows.getD j []) := by rw [List.getD_eq_getElem?_getD, List.getElem?_eq_getElem hj]; rfl
  obtain ⟨y, hy⟩ : ∃ y, rows.getD j [] = [y] := by
    match hq : rows.getD j [], j2 with
    | [y], _ => exact ⟨y, rfl⟩
  rw [hy] at hjr j3
  have j4 : y / 2 = (e : Int) := j3
  have e1 := at_of hW.nd hjr (i := 0) rfl
  exact h y (by omega) ⟨by rw [e1]; exact j1, by rw [e1, hy]; rfl⟩
def isLoop (mv : Mv) : Prop := (∃ k, mv = .loop k) ∧ mv.small
def isLoose (mv : Mv) : Prop := (∃ k, mv = .loose k) ∧ mv.small
end Rz

set_option maxHeartbeats 4000000
namespace Rz
open PySem PySem.Spec PyProof.Rows L2
/-! ### xs[::-1], t[::-1] -/
theorem fm_congr {α β : Type} {f g : α → Option β} : ∀ l : List α, (∀ x ∈ l, f x = g x) → l.filterMap f = l.filterMap g
  | [], _ => rfl
  | x :: l, h => by
    rw [List.filterMap_cons, List.filterMap_cons, h x List.mem_cons_self, fm_congr l fun y hy => h y (List.mem_cons_of_mem _ hy)]
section
variable {prog : Program} {w : World} {A : Around} {E : Value → Shared → Prop} {s : Shared}
theorem sliceApplied_back {sl : Addr} {vs : Value} {n : Nat} {Q : Int × Int × Nat → Shared → Prop} (hs : s.heap.IsSliceOf sl .none .none vs) (ps : IsPart vs (some (-1)))
    (h : Q ((n : Int) - 1, -1, n) s) : wpAny (model prog w) A (Builtin.Slice.sliceApplied (.ref sl) (pure (n : Int))) Q E s := by
  obtain ⟨os, hos, hcs, hds⟩ := id hs
  unfold Builtin.Slice.sliceApplied Builtin.Slice.sliceFields
  refine wpAny_bind (wpAny_bind (wpAny_field hos hds (x := .none) rfl (wpAny_bind (wpAny_field hos hds (x := .none) rfl (wpAny_bind (wpAny_field hos hds (x := vs) rfl (wpAny_pure ?_)))))))
  refine wpAny_bind (HT.slicePart_ ps ?_)
  show wpAny _ _ (if ((-1 : Int) == 0) = true then _ else _) _ _ s
  rw [if_neg (by decide)]
  refine wpAny_bind (HT.slicePart_ .none (wpAny_bind (HT.slicePart_ .none (wpAny_bind (wpAny_pure ?_)))))
  have e1 : Builtin.Slice.sliceAdjust none none (-1) (n : Int) = ((n : Int) - 1, -1) := by
    unfold Builtin.Slice.sliceAdjust
    simp
  have e2 : Builtin.Slice.slicePlaces ((n : Int) - 1) (-1) (-1) = n := by
    unfold Builtin.Slice.slicePlaces
    rw [if_neg (by decide)]
    by_cases z : (n : Int) - 1 > -1
    · rw [if_pos z, show (- -1 : Int) = 1 by decide, Int.ediv_one]
      omega
    · rw [if_neg z]
      omega
  show wpAny _ _ (match Builtin.Slice.sliceAdjust none none (-1) (n : Int) with | (lo, hi) => pure (lo, (-1 : Int), Builtin.Slice.slicePlaces lo hi (-1))) _ _ s
  rw [e1]
  show wpAny _ _ (pure ((n : Int) - 1, (-1 : Int), Builtin.Slice.slicePlaces ((n : Int) - 1) (-1) (-1))) _ _ s
  rw [e2]
  exact wpAny_pure h
theorem pick_back (xs : Array Value) : ((List.range xs.size).filterMap fun (m : Nat) => xs[(((xs.size : Nat) : Int) - 1 + (m : Int) * (-1)).toNat]?) = xs.toList.reverse := by
  have e : (List.range xs.size).filterMap (fun (m : Nat) => xs[(((xs.size : Nat) : Int) - 1 + (m : Int) * (-1)).toNat]?) = ((List.range xs.size).map fun k => xs.size - 1 - k).filterMap (xs[·]?) := by
    rw [List.filterMap_map]
    refine fm_congr _ fun k hk => ?_
    have := List.mem_range.mp hk
    have e3 : (((xs.size : Nat) : Int) - 1 + (k : Int) * (-1)).toNat = xs.size - 1 - k := by omega
    rw [e3]
    rfl
  rw [e, PySem.W.krv_range, List.filterMap_reverse, PySem.W.krv_all]
theorem getItem_tuple_back {t sl : Addr} {items : Array Value} {vs : Value} {Q : Value → Shared → Prop} (ht : IsTup s.heap t items) (hs : s.heap.IsSliceOf sl .none .none vs) (ps : IsPart vs (some (-1)))
    (h : Q (.ref s.heap.objs.size) { s with heap := s.heap.push { cls := .type "tuple", data := .seq items.toList.reverse.toArray } }) (hsz : items.size ≤ sizeLine) : wpAny (model prog w) A (getItem (.ref t) (.ref sl)) Q E s := by
  have htake : sizeOk (.seq items.toList.reverse.toArray) := by
    show items.toList.reverse.toArray.size ≤ sizeLine
    rw [List.size_toArray, List.length_reverse, Array.length_toList]
    exact hsz
  obtain ⟨os, hos, hcs, hds⟩ := id hs
  have hTs : s.TypeIs (.ref sl) "slice" := ⟨os, hos, hcs⟩
  unfold getItem
  try with_reducible refine wpAny_holding ?_
  first | refine wpAny_bind (wpAny_pure ?_) | skip
  refine wpAny_bind (wpAny_sequenceKey ht.typeIs (by decide) ?_)
  refine wpAny_bind (wpAny_callSpecial?_slot (name := Str.ofString "__getitem__") ht.typeIs PyProof.Rows.slot_tuple_getitem
    (wpAny_call_entry PyProof.Rows.slot_tuple_getitem ht.typeIs entry_tuple_getitem ?_ (args_tuple_getitem _ _)))
  show wpAny _ _ (Builtin.Tuple.tupleItemsOf (.ref t) >>= _) _ _ s
  refine wpAny_bind (tupleItemsOf_ ht ?_)
  refine wpAny_bind (wpAny_typeOf hTs ?_)
  rw [if_pos (by decide)]
  refine wpAny_bind (sliceApplied_back hs ps ?_)
  have hno : ¬ ((((items.size : Nat) : Int) - 1 == 0 && (-1 : Int) == 1 && items.size == items.size) = true) := by
    intro q
    rw [Bool.and_eq_true, Bool.and_eq_true] at q
    exact absurd q.1.2 (by decide)
  show wpAny _ _ (if ((((items.size : Nat) : Int) - 1) == 0 && (-1 : Int) == 1 && items.size == items.size) = true then _ else _) _ _ s
  rw [if_neg hno, pick_back]
  first
    | exact wpAny_bind (m := Builtin.Tuple.tupleExact _) (wpAny_newObj_type (wpAny_pure ⟨_, rfl, wpAny_pure h⟩) htake)
    | exact wpAny_bind (m := Builtin.Tuple.tupleExact _) (wpAny_newObj_type (wpAny_bind (wpAny_pure (wpAny_pure ⟨_, rfl, wpAny_pure h⟩))) htake)
    | exact wpAny_bind (wpAny_bind (m := Builtin.Tuple.tupleExact _) (wpAny_newObj_type (wpAny_pure (wpAny_pure ⟨_, rfl, wpAny_pure h⟩)) htake))
    | exact wpAny_bind (wpAny_bind (m := Builtin.Tuple.tupleExact _) (wpAny_newObj_type (wpAny_pure ⟨_, rfl, wpAny_pure h⟩) htake))
end
def tRevT (K : PySem.W.Frag) (te : TE) : TE := fun σ H Q => te σ H fun x H1 => ∃ a xs, x = .ref a ∧ SqT K H1 a xs ∧ ∀ p, H1 p = none → Q (.ref p) (upd H1 p (.tup xs.reverse))
section
variable {X : Cx} {K : PySem.W.Frag}
theorem pe_revLK (hK : X.K = K) {e : Expr} {te : TE} {k : Nat} {p1 p2 p3 pos : Pos} (he : PE X e te) : PE X (.Subscript e (.Slice none none (some (.UnaryOp .USub (.Constant (.int 1) k p1) p2)) p3) pos) (tRevL K te) := hK ▸ pe_revL he
theorem pe_revTK (hK : X.K = K) {e : Expr} {te : TE} {k : Nat} {p1 p2 p3 pos : Pos} (he : PE X e te) : PE X (.Subscript e (.Slice none none (some (.UnaryOp .USub (.Constant (.int 1) k p1) p2)) p3) pos) (tRevT K te) := by
  subst hK
  refine ⟨fun pins s σ H Q I h => ?_⟩
  refine Subscript_ (thn (he.run pins s σ H _ I h) fun v s1 ⟨x, H1, I1, r1, q1⟩ => ?_)
  obtain ⟨a, xs, ex, hx, q⟩ := q1
  subst ex
  cases r1
  have hst : PO X (some (.UnaryOp .USub (.Constant (.int 1) k p1) p2)) (tPart (tUn (rU fun i => .int (-i)) (tC (.int 1)))) := po_some (pe_un un_neg pe_int)
  refine wpAny_Slice (wpAny_pure (wpAny_pure ?_))
  refine thn (hst.run pins s1 σ H1 (fun o H4 => o = some (-1) ∧ H4 = H1) I1 ⟨1, rfl, -1, rfl, rfl, rfl⟩) fun vs s4 ⟨o, H4, I4, ps, eo, e4⟩ => ?_
  subst eo e4
  have I5 : Inv X pins σ H4 { s4 with heap := s4.heap.push { cls := .type "slice", data := .fields #[.none, .none, vs] } } := I4.kept (t' := s4.toks) fun b ob q => Heap.get?_push_of_some _ q
  obtain ⟨its, r, ht, hz⟩ := I5.tuple hx
  have hlen := r.length
  show wpAny (model X.prog X.w) X.A (subscriptTail e (.Slice none none (some (.UnaryOp .USub (.Constant (.int 1) k p1) p2)) p3) (.ref a) (.ref s4.heap.objs.size)) (EP X pins σ Q) X.xe { s4 with heap := s4.heap.push { cls := .type "slice", data := .fields #[.none, .none, vs] } }
  refine tail_any (ops := [.ref a, .ref s4.heap.objs.size]) ht.typeIs (PyProof.Rows.slot_tuple_getitem.lookup) ?_ (by with_unfolding_all rfl)
  refine getItem_tuple_back ht (Heap.IsSliceOf.new _ .none .none vs) ps ?_ (by rw [List.size_toArray]; omega)
  refine ⟨.ref _, _, I5.laid (t' := s4.toks) (o := .tup xs.reverse) (fun b ob q => Heap.get?_push_of_some _ q) (Nat.le_refl _) ?_, rfl, q _ (I5.hok.fresh (Nat.le_refl _))⟩
  exact ⟨by rw [List.length_reverse]; exact hz, _, r.reverse, IsTup.new _ _⟩
theorem g_revL {te : TE} {σ : L2.St} {H : Hp} {Q : VK} (h : te σ H fun x H1 => ∃ a xs, x = .ref a ∧ SqL K H1 a xs ∧ ∀ p, H1 p = none → Q (.ref p) (upd H1 p (.lst xs.reverse))) : tRevL K te σ H Q := h
theorem g_revT {te : TE} {σ : L2.St} {H : Hp} {Q : VK} (h : te σ H fun x H1 => ∃ a xs, x = .ref a ∧ SqT K H1 a xs ∧ ∀ p, H1 p = none → Q (.ref p) (upd H1 p (.tup xs.reverse))) : tRevT K te σ H Q := h
end
end Rz

namespace Rz
open PySem PySem.Spec PyProof.Rows L2

/-! ### tables: tuples of tuples of ratios -/
def TRowV (K : PySem.W.Frag) (H : Hp) (v : V) (row : Row) : Prop := ∃ p xs, v = .ref p ∧ SqT K H p xs ∧ Rats K H xs row
structure TabL (K : PySem.W.Frag) (H : Hp) (us : List V) (m : Mat) : Prop where
  len : us.length = m.length
  at_ : ∀ (i : Nat) v, us[i]? = some v → TRowV K H v (rw' m i)
def TabV (K : PySem.W.Frag) (H : Hp) (v : V) (m : Mat) : Prop := ∃ p us, v = .ref p ∧ SqT K H p us ∧ TabL K H us m
section
variable {K : PySem.W.Frag} {H H' : Hp} {v : V} {m : Mat} {r0 : Row} {us : List V}
theorem TRowV.same (h : TRowV K H v r0) (e : Same H H') : TRowV K H' v r0 := let ⟨p, xs, a, b, c⟩ := h; ⟨p, xs, a, Same.sqt e b, c.same e⟩
theorem TabL.same (h : TabL K H us m) (e : Same H H') : TabL K H' us m := ⟨h.len, fun i v z => (h.at_ i v z).same e⟩
theorem TabV.same (h : TabV K H v m) (e : Same H H') : TabV K H' v m := let ⟨p, us, a, b, c⟩ := h; ⟨p, us, a, Same.sqt e b, c.same e⟩
theorem TRowV.kp {S : Addr} {ys : List V} (h : TRowV K H v r0) (e : Kp S H H') (hS : H S = some (.lst ys)) : TRowV K H' v r0 := let ⟨p, xs, a, b, c⟩ := h; ⟨p, xs, a, Kp.sqt e hS b, c.kp e hS⟩
theorem TabV.kp {S : Addr} {ys : List V} (h : TabV K H v m) (e : Kp S H H') (hS : H S = some (.lst ys)) : TabV K H' v m := let ⟨p, us, a, b, c⟩ := h; ⟨p, us, a, Kp.sqt e hS b, c.len, fun i v z => (c.at_ i v z).kp e hS⟩
theorem TabL.row (h : TabL K H us m) {i : Nat} (hi : i < m.length) : ∃ p xs, us[i]? = some (.ref p) ∧ SqT K H p xs ∧ Rats K H xs (rw' m i) := by
  have hx : i < us.length := by rw [h.len]; exact hi
  obtain ⟨p, xs, e, b, c⟩ := h.at_ i _ (List.getElem?_eq_getElem hx)
  exact ⟨p, xs, by rw [List.getElem?_eq_getElem hx, e], b, c⟩
end
/-- a tuple of numbers -/
def ntS (ns : List Nat) : List V := ns.map fun n : Nat => V.int (n : Int)
def IntT (K : PySem.W.Frag) (H : Hp) (v : V) (ns : List Nat) : Prop := ∃ p, v = .ref p ∧ SqT K H p (ntS ns)
theorem IntT.same {K : PySem.W.Frag} {H H' : Hp} {v : V} {ns : List Nat} (h : IntT K H v ns) (e : Same H H') : IntT K H' v ns := let ⟨p, a, b⟩ := h; ⟨p, a, Same.sqt e b⟩
theorem ntS_at {ns : List Nat} {i : Nat} {x : V} (h : (ntS ns)[i]? = some x) : ∃ n, ns[i]? = some n ∧ x = .int (n : Int) := by
  unfold ntS at h
  rw [List.getElem?_map] at h
  cases e : ns[i]? with
  | none => rw [e] at h; cases h
  | some n => rw [e] at h; cases h; exact ⟨n, rfl, rfl⟩
theorem ntS_len {ns : List Nat} : (ntS ns).length = ns.length := List.length_map ..
theorem atI_pred {xs : List V} {n : Nat} {v : V} (h1 : 1 ≤ n) (h : xs[n - 1]? = some v) : atI xs ((n : Int) - 1) = some v := by
  rw [show (n : Int) - 1 = ((n - 1 : Nat) : Int) by omega]
  exact atI_nat h
/-- the rows of heads, the columns of tails, with all signs turned about; numbers from 1 on -/
def negM (m : Mat) (hs ts : List Nat) : Mat := hs.map fun i => ts.map fun j => - ent (rw' m (i - 1)) (j - 1)
theorem negM_len {m : Mat} {hs ts : List Nat} : (negM m hs ts).length = hs.length := List.length_map ..
theorem rw_negM {m : Mat} {hs ts : List Nat} {i n : Nat} (h : hs[i]? = some n) : rw' (negM m hs ts) i = ts.map fun j => - ent (rw' m (n - 1)) (j - 1) := by
  unfold rw' negM
  rw [List.getD_eq_getElem?_getD, List.getElem?_map, h]
  rfl
theorem ent_negM {m : Mat} {hs ts : List Nat} {i j n t : Nat} (h : hs[i]? = some n) (h2 : ts[j]? = some t) : ent (rw' (negM m hs ts) i) j = - ent (rw' m (n - 1)) (t - 1) := by
  rw [rw_negM h]
  unfold Rz.ent
  rw [List.getD_eq_getElem?_getD, List.getElem?_map, h2]
  rfl
theorem negM_wide {m : Mat} {hs ts : List Nat} {n : Nat} (h : ts.length = n) : Wide n (negM m hs ts) := fun k hk => by
  rw [negM_len] at hk
  rw [rw_negM (List.getElem?_eq_getElem hk), List.length_map, h]
/-- what fits a square table of N rows -/
structure Fits (N : Nat) (hs ts : List Nat) : Prop where
  len : hs.length = ts.length
  hd : ∀ i ∈ hs, 1 ≤ i ∧ i ≤ N
  tl : ∀ j ∈ ts, 1 ≤ j ∧ j ≤ N
structure Sq (N : Nat) (m : Mat) : Prop where
  len : m.length = N
  wide : ∀ i, i < N → (rw' m i).length = N
theorem negM_small {L B k N n : Nat} {m : Mat} {hs ts : List Nat} (hF : Fits N hs ts) (hn : hs.length = n) (h : ∀ i j, i < N → j < N → Sc L B (ent (rw' m i) j)) (hL : 0 < L) (hB : 0 < B) (h1 : L ^ n < 2 ^ k) (h2 : fct n * B ^ n < 2 ^ k) : Small n n L B k (negM m hs ts) := by
  refine ⟨fun i j hi hj => ?_, hL, hB, h1, h2⟩
  have ei := List.getElem?_eq_getElem (l := hs) (i := i) (by omega)
  have ej := List.getElem?_eq_getElem (l := ts) (i := j) (by rw [← hF.len]; omega)
  rw [ent_negM ei ej]
  have a := hF.hd _ (List.getElem_mem (by omega : i < hs.length))
  have b := hF.tl _ (List.getElem_mem (by rw [← hF.len]; omega : j < ts.length))
  exact (h _ _ (by omega) (by omega)).neg
def spMinor (K : PySem.W.Frag) : Sp := fun vs H Q _ => ∃ (v u t : V) (m : Mat) (hs ts : List Nat) (N n L B k : Nat), vs = [v, u, t] ∧ TabV K H v m ∧ IntT K H u hs ∧ IntT K H t ts ∧ Sq N m ∧ N ≤ 100 ∧ Fits N hs ts ∧ hs.length = n ∧ n ≤ 100 ∧ Small n n L B k (negM m hs ts) ∧ k ≤ 400 ∧
  ∀ v' H', Same H H' → RatV K H' v' (det n (negM m hs ts)) → Q v' H'

/-! ### lists of ratios, lists of rows: comprehensions -/
section
variable {K : PySem.W.Frag} {σ : L2.St} {H : Hp} {g : TG} {tt : TT} {te : TE} {vs : List Nat} {Q : VK}
theorem take_getD {qs : List Rat} {i : Nat} (h : i < qs.length) : qs.take (i + 1) = qs.take i ++ [qs.getD i 0] := by
  rw [List.take_succ, List.getD_eq_getElem?_getD, List.getElem?_eq_getElem h]
  rfl
theorem rats_lcT {a : Addr} {xs : List V} {i₀ : Nat} (qs : List Rat) (h : SqT K H a xs) (hl : qs.length = xs.length) (hb : xs.length ≤ 1000) (hw : ∀ x, wipe ((wipe σ vs).set i₀ (some x)) vs = wipe σ vs)
    (hs : ∀ i x H' (Qk : VK), Same H H' → xs[i]? = some x → (∀ v H3, Same H' H3 → RatV K H3 v (qs.getD i 0) → Qk v H3) → te ((wipe σ vs).set i₀ (some x)) H' Qk)
    (k : ∀ l ys H', Same H H' → H l = none → H' l = some (.lst ys) → Rats K H' ys qs → Q (.ref l) H') : rItT K (lcW (gName i₀) tYes te vs σ Q) (.ref a) H := by
  refine g_lcTup h (fun l i acc H' => Same H H' ∧ H' l = some (.lst acc) ∧ Rats K H' acc (qs.take i)) hw (fun l hl => ⟨up_same hl, upd_same, by rw [List.take_zero]; exact Rats.nil⟩) (fun l i acc H' _ h2 => Same.sqt h2.1 h) ?_ ?_
  · rintro l i x acc H' hl0 hx ⟨sm, el, hacc⟩
    have hi := (List.getElem?_eq_some_iff.mp hx).1
    refine hs i x H' _ sm hx fun v H3 s3 hv => ?_
    have el3 := s3 _ _ el
    refine lcN_of el3 (by rw [hacc.len, List.length_take]; omega) ⟨fun b o e => ?_, upd_same, ?_⟩
    · rw [upd_ne (ne_of_none e hl0)]
      exact s3 _ _ (sm _ _ e)
    · rw [take_getD (by omega)]
      exact ((hacc.same s3).snoc hv).kp Kp.upd el3
  · rintro l acc H' hl0 ⟨sm, el, hacc⟩
    rw [← hl, List.take_length] at hacc
    exact k l acc H' sm hl0 el hacc
theorem rats_lcR {j : Int} {n i₀ : Nat} (qs : List Rat) (e : j = (n : Int)) (hl : qs.length = n) (hb : n ≤ 1000) (hw : ∀ x, wipe ((wipe σ vs).set i₀ (some x)) vs = wipe σ vs)
    (hs : ∀ i H' (Qk : VK), Same H H' → i < n → (∀ v H3, Same H' H3 → RatV K H3 v (qs.getD i 0) → Qk v H3) → te ((wipe σ vs).set i₀ (some (.int (i : Int)))) H' Qk)
    (k : ∀ l ys H', Same H H' → H l = none → H' l = some (.lst ys) → Rats K H' ys qs → Q (.ref l) H') : rRng1 (lcW (gName i₀) tYes te vs σ Q) [.int j] H := by
  refine g_lcRng n e (by omega) (fun l i acc H' => Same H H' ∧ H' l = some (.lst acc) ∧ Rats K H' acc (qs.take i)) hw (fun l hl => ⟨up_same hl, upd_same, by rw [List.take_zero]; exact Rats.nil⟩) ?_ ?_
  · rintro l i acc H' hl0 hi ⟨sm, el, hacc⟩
    refine hs i H' _ sm hi fun v H3 s3 hv => ?_
    have el3 := s3 _ _ el
    refine lcN_of el3 (by rw [hacc.len, List.length_take]; omega) ⟨fun b o e => ?_, upd_same, ?_⟩
    · rw [upd_ne (ne_of_none e hl0)]
      exact s3 _ _ (sm _ _ e)
    · rw [take_getD (by omega)]
      exact ((hacc.same s3).snoc hv).kp Kp.upd el3
  · rintro l acc H' hl0 ⟨sm, el, hacc⟩
    rw [← hl, List.take_length] at hacc
    exact k l acc H' sm hl0 el hacc
theorem rows_lcT {a : Addr} {xs : List V} {i₀ : Nat} (m : Mat) (h : SqT K H a xs) (hl : m.length = xs.length) (hb : xs.length ≤ 1000) (hw : ∀ x, wipe ((wipe σ vs).set i₀ (some x)) vs = wipe σ vs)
    (hs : ∀ i x H' (Qk : VK), Same H H' → xs[i]? = some x → (∀ q ys H3, Same H' H3 → H' q = none → H3 q = some (.lst ys) → Rats K H3 ys (rw' m i) → Qk (.ref q) H3) → te ((wipe σ vs).set i₀ (some x)) H' Qk)
    (k : ∀ l us' H', Same H H' → H l = none → H' l = some (.lst us') → MatL K H' us' m → Q (.ref l) H') : rItT K (lcW (gName i₀) tYes te vs σ Q) (.ref a) H := by
  refine g_lcTup h (FillM K H m) hw (fun l hl => .start hl) (fun l i acc H' _ h2 => Same.sqt h2.1 h) ?_ ?_
  · intro l i x acc H' hl0 hx hF
    have hi := (List.getElem?_eq_some_iff.mp hx).1
    exact hs i x H' _ hF.1 hx fun q ys H3 s3 hq eq hr => hF.next hl0 s3 (by omega) ⟨q, ys, rfl, SqL.of eq, hr⟩ (.inr ⟨q, rfl, hq⟩)
  · intro l acc H' hl0 hF
    rw [← hl] at hF
    obtain ⟨a, b⟩ := hF.done
    exact k l acc H' hF.1 hl0 a b
/-- a comprehension over a list, with a test -/
theorem g_lcLstIf {a : Addr} {xs : List V} {i₀ : Nat} (h : SqL K H a xs) (Pv : Addr → Nat → List V → Hp → Prop) (hw : ∀ x, wipe ((wipe σ vs).set i₀ (some x)) vs = wipe σ vs)
    (h0 : ∀ p, H p = none → Pv p 0 [] (upd H p (.lst []))) (hl : ∀ p i acc H', H p = none → Pv p i acc H' → SqL K H' a xs)
    (hs : ∀ p (i : Nat) x acc H', H p = none → xs[i]? = some x → Pv p i acc H' → tt ((wipe σ vs).set i₀ (some x)) H' fun b H3 => if b = true then te ((wipe σ vs).set i₀ (some x)) H3 (lcN (Pv p) p i) else ∃ acc2, Pv p (i + 1) acc2 H3)
    (hd : ∀ p acc H', H p = none → Pv p xs.length acc H' → Q (.ref p) H') : rItL K (lcW (gName i₀) tt te vs σ Q) (.ref a) H := by
  refine ⟨a, rfl, ⟨xs, h⟩, fun p hp => ?_⟩
  refine lc_list (K := K) (xs := xs) (fun i H' => ∃ acc, Pv p i acc H') ⟨[], h0 p hp⟩ (fun i H' _ ⟨acc, q⟩ => hl p i acc H' hp q) (fun i x H' hi ⟨acc, q⟩ => ?_) (fun H' ⟨acc, q⟩ => hd p acc H' hp q)
  exact ⟨hw _, hs p i x acc H' hp hi q⟩
/-- the numbers lo .. hi - 1 that a test lets through -/
def passN (P : Nat → Bool) (lo n : Nat) : List Nat := ((List.range n).map (lo + ·)).filter P
theorem passN_succ {P : Nat → Bool} {lo n : Nat} : passN P lo (n + 1) = if P (lo + n) = true then passN P lo n ++ [lo + n] else passN P lo n := by
  unfold passN
  rw [List.range_succ, List.map_append, List.filter_append]
  by_cases h : P (lo + n) = true
  · rw [if_pos h]
    simp [h]
  · rw [if_neg h]
    simp [h]
theorem passN_len {P : Nat → Bool} {lo n : Nat} : (passN P lo n).length ≤ n := by
  unfold passN
  refine Nat.le_trans (List.length_filter_le _ _) ?_
  rw [List.length_map, List.length_range]
  exact Nat.le_refl _
theorem filt_lc {lo hi : Nat} {i₀ : Nat} (P : Nat → Bool) (hlh : lo ≤ hi) (hb : hi ≤ 1000) (hw : ∀ x, wipe ((wipe σ vs).set i₀ (some x)) vs = wipe σ vs) (hi0 : ∀ x, ((wipe σ vs).set i₀ (some x))[i₀]? = some (some x))
    (ht : ∀ k H' (Qb : Bool → Hp → Prop), Same H H' → lo ≤ k → k < hi → (∀ H3, Same H' H3 → Qb (P k) H3) → tt ((wipe σ vs).set i₀ (some (.int (k : Int)))) H' Qb)
    (k : ∀ l H', Same H H' → H l = none → H' l = some (.lst (ntS (passN P lo (hi - lo)))) → Q (.ref l) H') : rRng2 (lcW (gName i₀) tt (tVar i₀) vs σ Q) [.int (lo : Int), .int (hi : Int)] H := by
  refine ⟨_, _, rfl, ⟨by omega, by omega, by omega, by omega⟩, fun p hp => ?_⟩
  rw [show ((hi : Int) - (lo : Int)).toNat = hi - lo by omega]
  refine lc_range (lo := (lo : Int)) (n := hi - lo) (fun i H' => Same H H' ∧ H' p = some (.lst (ntS (passN P lo i)))) ⟨up_same hp, upd_same⟩ (fun i H' hi2 ⟨sm, ep⟩ => ⟨hw _, ?_⟩) fun H' ⟨sm, ep⟩ => k p H' sm hp ep
  rw [show (lo : Int) + (i : Int) = ((lo + i : Nat) : Int) by omega]
  refine ht (lo + i) H' _ sm (by omega) (by omega) fun H3 s3 => ?_
  have ep3 := s3 _ _ ep
  refine if_2 (fun e => ?_) (fun e => ?_)
  · refine g_var (hi0 _) ?_
    refine ⟨_, ep3, by rw [ntS_len]; have := passN_len (P := P) (lo := lo) (n := i); have := sizeLine_eq; omega, ?_, ?_⟩
    · intro b o eb
      rw [upd_ne (ne_of_none eb hp)]
      exact s3 _ _ (sm _ _ eb)
    · rw [upd_same, passN_succ, if_pos e]
      unfold ntS
      rw [List.map_append]
      rfl
  · refine ⟨sm.trans s3, ?_⟩
    rw [passN_succ, if_neg (by rw [e]; decide)]
    exact ep3
end
/-! ### rows that are written in place -/
structure MR (K : PySem.W.Frag) (H : Hp) (R : Addr) (us : List V) (m : Mat) : Prop where
  top : H R = some (.lst us)
  len : us.length = m.length
  at_ : ∀ (i : Nat) v, us[i]? = some v → RowP K H R v (rw' m i)
section
variable {K : PySem.W.Frag} {H H' : Hp} {R : Addr} {us : List V} {m : Mat}
theorem MR.same (h : MR K H R us m) (e : Same H H') : MR K H' R us m := ⟨e _ _ h.top, h.len, fun i v z => (h.at_ i v z).same e⟩
theorem MR.l (h : MR K H R us m) : MatL K H us m := ⟨h.len, fun i v z => (h.at_ i v z).v⟩
theorem MR.v (h : MR K H R us m) : MatV K H (.ref R) m := ⟨R, us, rfl, SqL.of h.top, h.l⟩
theorem MR.set {v : V} {row : Row} {i : Nat} (h : MR K H R us m) (hi : i < m.length) (hv : RowP K H R v row) : MR K (upd H R (.lst (us.set i v))) R (us.set i v) (m.set i row) := by
  refine ⟨upd_same, by rw [List.length_set, List.length_set, h.len], fun j w z => ?_⟩
  by_cases e : i = j
  · subst e
    rw [List.getElem?_set_self (by rw [h.len]; exact hi)] at z
    cases z
    rw [rw_set_eq hi]
    exact hv.upd h.top
  · rw [List.getElem?_set_ne e] at z
    rw [rw_set_ne e]
    exact (h.at_ j w z).upd h.top
theorem MR.snoc {v : V} {row : Row} (h : MR K H R us m) (hv : RowP K H R v row) : MR K (upd H R (.lst (us ++ [v]))) R (us ++ [v]) (m ++ [row]) := by
  refine ⟨upd_same, by rw [List.length_append, List.length_append, h.len]; rfl, fun i w z => ?_⟩
  rcases at_snoc z with ⟨z1, z2⟩ | ⟨z1, rfl⟩
  · rw [rw_snoc_lt (by rw [← h.len]; exact z1)]
    exact (h.at_ i w z2).upd h.top
  · rw [rw_snoc_eq (by rw [← h.len]; exact z1)]
    exact hv.upd h.top
theorem FillM.mr {p : Addr} {acc : List V} (h : FillM K H m p m.length acc H') : MR K H' p acc m := ⟨h.2.1, h.2.2.1, h.2.2.2⟩
end
section
variable {K : PySem.W.Frag} {σ : L2.St} {H : Hp} {g : TG} {te : TE} {vs : List Nat} {Q : VK}
theorem copy_rowsR {i₀ : Nat} {p : Addr} {us : List V} {m : Mat} (hp : SqL K H p us) (hM : MatL K H us m) (hb : m.length ≤ 1000) (hw : ∀ x, wipe ((wipe σ vs).set i₀ (some x)) vs = wipe σ vs) (hi : ∀ x, ((wipe σ vs).set i₀ (some x))[i₀]? = some (some x))
    (k : ∀ l us' H', Same H H' → H l = none → MR K H' l us' m → Q (.ref l) H') : rItL K (lcW (gName i₀) tYes (tCB (rListOf K) (tCons (tVar i₀) tNil)) vs σ Q) (.ref p) H := by
  refine g_lcLst hp (FillM K H m) hw (fun l hl => .start hl) (fun l i acc H' _ h => h.1.seq hp) ?_ ?_
  · intro l i x acc H' hl hx h
    have hil := (List.getElem?_eq_some_iff.mp hx).1
    obtain ⟨q, xs, rfl, a, b⟩ := (hM.at_ i x hx).same h.1
    refine g_cb (g_cons (g_var (hi _) (g_nil (g_listL a fun l2 hl2 => ?_))))
    exact h.next hl (up_same hl2) (by have := hM.len; omega) ⟨l2, xs, rfl, SqL.of upd_same, b.same (up_same hl2)⟩ (.inr ⟨l2, rfl, hl2⟩)
  · intro l acc H' hl h
    rw [hM.len] at h
    exact k l acc H' h.1 hl h.mr
end
end Rz

namespace Rz
open PySem PySem.Spec PyProof.Rows L2

/-! ### the law's choices of numbers, and its circular pairs -/
def rowsN (c : Nat) : Nat → List (List Nat)
  | 0 => [[]]
  | k + 1 => rowsN c k ++ ((rowsN c k).filter fun r => decide (r.length < c)).map (· ++ [k + 1])
def subN (s c : Nat) : List (List Nat) := (rowsN c s).filter fun r => decide (r.length = c)
def turnOf (ch : List Nat) (h s : Nat) : List Nat := ch.drop (2 * h - s) ++ ch.take (2 * h - s)
def pairOf (ch : List Nat) (h s : Nat) : List Nat × List Nat := ((turnOf ch h s).take h, ((turnOf ch h s).drop h).reverse)
def pairsTo (n i : Nat) : List (List Nat × List Nat) := (List.range i).flatMap fun h => (subN n (2 * (h + 1))).flatMap fun ch => (List.range (h + 1)).map fun s => pairOf ch (h + 1) s
def pairsN (n : Nat) : List (List Nat × List Nat) := pairsTo n (n / 2)
theorem rowsN_len {c : Nat} : ∀ {k : Nat}, (rowsN c k).length ≤ 2 ^ k
  | 0 => Nat.le_refl _
  | k + 1 => by
    unfold rowsN
    rw [List.length_append, List.length_map, Nat.pow_succ]
    have h1 := rowsN_len (c := c) (k := k)
    have h2 := List.length_filter_le (fun r => decide (r.length < c)) (rowsN c k)
    omega
theorem rowsN_row {c : Nat} : ∀ {k : Nat}, ∀ r ∈ rowsN c k, r.length ≤ k
  | 0, r, h => by
    rw [List.mem_singleton.mp h]
    exact Nat.le_refl _
  | k + 1, r, h => by
    unfold rowsN at h
    rcases List.mem_append.mp h with h | h
    · have := rowsN_row r h
      omega
    · obtain ⟨r', h', rfl⟩ := List.mem_map.mp h
      have := rowsN_row r' (List.mem_filter.mp h').1
      rw [List.length_append]
      show r'.length + 1 ≤ k + 1
      omega
theorem subN_len {s c : Nat} : (subN s c).length ≤ 2 ^ s := Nat.le_trans (List.length_filter_le _ _) rowsN_len
theorem subN_row {s c : Nat} {r : List Nat} (h : r ∈ subN s c) : r.length = c := of_decide_eq_true (List.mem_filter.mp h).2
theorem pairsTo_succ {n i : Nat} : pairsTo n (i + 1) = pairsTo n i ++ (subN n (2 * (i + 1))).flatMap fun ch => (List.range (i + 1)).map fun s => pairOf ch (i + 1) s := by
  have key : ∀ f : Nat → List (List Nat × List Nat), (List.range (i + 1)).flatMap f = (List.range i).flatMap f ++ f i := fun f => by
    rw [List.range_succ, List.flatMap_append, List.flatMap_cons, List.flatMap_nil, List.append_nil]
  exact key _

/-! ### lists of lists of numbers -/
/-- the lists at us hold rs; none of them stands at p -/
structure LLs (H : Hp) (p : Addr) (us : List V) (rs : List (List Nat)) : Prop where
  len : us.length = rs.length
  at_ : ∀ (i : Nat) v r, us[i]? = some v → rs[i]? = some r → ∃ q, v = .ref q ∧ H q = some (.lst (ntS r)) ∧ q ≠ p
section
variable {H H' : Hp} {p : Addr} {us : List V} {rs : List (List Nat)}
theorem LLs.nil : LLs H p [] [] := ⟨rfl, fun i v r h => by simp at h⟩
theorem LLs.same (h : LLs H p us rs) (e : Same H H') : LLs H' p us rs := ⟨h.len, fun i v r a b => let ⟨q, c, d, f⟩ := h.at_ i v r a b; ⟨q, c, e _ _ d, f⟩⟩
theorem LLs.upd {o : HO} (h : LLs H p us rs) : LLs (upd H p o) p us rs := ⟨h.len, fun i v r a b => let ⟨q, c, d, f⟩ := h.at_ i v r a b; ⟨q, c, by rw [upd_ne f]; exact d, f⟩⟩
theorem LLs.snoc {q : Addr} {r : List Nat} (h : LLs H p us rs) (e : H q = some (.lst (ntS r))) (hq : q ≠ p) : LLs H p (us ++ [.ref q]) (rs ++ [r]) := by
  refine ⟨by rw [List.length_append, List.length_append, h.len]; rfl, fun i v x a b => ?_⟩
  by_cases hi : i < us.length
  · rw [List.getElem?_append_left hi] at a
    rw [List.getElem?_append_left (h.len ▸ hi)] at b
    exact h.at_ i v x a b
  · rw [List.getElem?_append_right (by omega)] at a
    rw [List.getElem?_append_right (by rw [← h.len]; omega), ← h.len] at b
    by_cases h0 : i - us.length = 0
    · rw [h0] at a b
      cases a
      cases b
      exact ⟨q, rfl, e, hq⟩
    · obtain ⟨j, hj⟩ : ∃ j, i - us.length = j + 1 := ⟨i - us.length - 1, by omega⟩
      rw [hj] at a
      simp at a
theorem LLs.app {ws : List V} {qs : List (List Nat)} (h : LLs H p us rs) (k : LLs H p ws qs) : LLs H p (us ++ ws) (rs ++ qs) := by
  refine ⟨by rw [List.length_append, List.length_append, h.len, k.len], fun i v x a b => ?_⟩
  by_cases hi : i < us.length
  · rw [List.getElem?_append_left hi] at a
    rw [List.getElem?_append_left (h.len ▸ hi)] at b
    exact h.at_ i v x a b
  · rw [List.getElem?_append_right (by omega)] at a
    rw [List.getElem?_append_right (by rw [← h.len]; omega), ← h.len] at b
    exact k.at_ _ v x a b
/-- no list stands at a place that is free -/
theorem LLs.to {p' : Addr} (h : LLs H p us rs) (hp : H p' = none) : LLs H p' us rs := ⟨h.len, fun i v r a b => let ⟨q, c, d, _⟩ := h.at_ i v r a b; ⟨q, c, d, ne_of_none d hp⟩⟩
end
def spSubs (K : PySem.W.Frag) : Sp := fun vs H Q _ => ∃ s c : Nat, vs = [.int (s : Int), .int (c : Int)] ∧ s ≤ 7 ∧ c ≤ 100 ∧ ∀ p us H', Same H H' → H p = none → H' p = some (.lst us) → LLs H' p us (subN s c) → Q (.ref p) H'
/-- pairs of tuples of numbers -/
structure PairL (H : Hp) (us : List V) (ps : List (List Nat × List Nat)) : Prop where
  len : us.length = ps.length
  at_ : ∀ (i : Nat) v q, us[i]? = some v → ps[i]? = some q → ∃ a h t, v = .ref a ∧ H a = some (.tup [.ref h, .ref t]) ∧ H h = some (.tup (ntS q.1)) ∧ H t = some (.tup (ntS q.2))
section
variable {H H' : Hp} {us : List V} {ps : List (List Nat × List Nat)}
theorem PairL.nil : PairL H [] [] := ⟨rfl, fun i v r h => by simp at h⟩
theorem PairL.same (h : PairL H us ps) (e : Same H H') : PairL H' us ps := ⟨h.len, fun i v r x y => let ⟨a, b, c, d, f, g, k⟩ := h.at_ i v r x y; ⟨a, b, c, d, e _ _ f, e _ _ g, e _ _ k⟩⟩
theorem PairL.kp {S : Addr} {ys : List V} (h : PairL H us ps) (e : Kp S H H') (hS : H S = some (.lst ys)) : PairL H' us ps := by
  refine ⟨h.len, fun i v r x y => ?_⟩
  obtain ⟨a, b, c, d, f, g, k⟩ := h.at_ i v r x y
  have ne : ∀ {q : Addr} {xs : List V}, H q = some (.tup xs) → q ≠ S := fun h z => by
    rw [z, hS] at h
    cases h
  exact ⟨a, b, c, d, e _ _ (ne f) f, e _ _ (ne g) g, e _ _ (ne k) k⟩
theorem PairL.snoc {a h t : Addr} {q : List Nat × List Nat} (hl : PairL H us ps) (e : H a = some (.tup [.ref h, .ref t])) (e1 : H h = some (.tup (ntS q.1))) (e2 : H t = some (.tup (ntS q.2))) : PairL H (us ++ [.ref a]) (ps ++ [q]) := by
  refine ⟨by rw [List.length_append, List.length_append, hl.len]; rfl, fun i v x y z => ?_⟩
  by_cases hi : i < us.length
  · rw [List.getElem?_append_left hi] at y
    rw [List.getElem?_append_left (hl.len ▸ hi)] at z
    exact hl.at_ i v x y z
  · rw [List.getElem?_append_right (by omega)] at y
    rw [List.getElem?_append_right (by rw [← hl.len]; omega), ← hl.len] at z
    by_cases h0 : i - us.length = 0
    · rw [h0] at y z
      cases y
      cases z
      exact ⟨a, h, t, rfl, e, e1, e2⟩
    · obtain ⟨j, hj⟩ : ∃ j, i - us.length = j + 1 := ⟨i - us.length - 1, by omega⟩
      rw [hj] at y
      simp at y
end
def spPairs (K : PySem.W.Frag) : Sp := fun vs H Q _ => ∃ n : Nat, vs = [.int (n : Int)] ∧ n ≤ 7 ∧ ∀ p us H', Same H H' → H p = none → H' p = some (.lst us) → PairL H' us (pairsN n) → Q (.ref p) H'
theorem ntS_app {a b : List Nat} : ntS (a ++ b) = ntS a ++ ntS b := List.map_append ..
theorem ntS_drop {a : List Nat} {n : Nat} : (ntS a).drop n = ntS (a.drop n) := by unfold ntS; rw [List.map_drop]
theorem ntS_take {a : List Nat} {n : Nat} : (ntS a).take n = ntS (a.take n) := by unfold ntS; rw [List.map_take]
theorem ntS_rev {a : List Nat} : (ntS a).reverse = ntS a.reverse := by unfold ntS; rw [List.map_reverse]
end Rz

namespace Rz
open PySem PySem.Spec PyProof.Rows L2

/-! ### rows whose items are written in place, beside the law's state -/
structure DR (K : PySem.W.Frag) (H0 H : Hp) (S c R : Addr) (rs : List Addr) (m : Mat) : Prop where
  st : StAt H S c
  s0 : StAt H0 S c
  kp : Kp S H0 H
  R0 : H0 R = none
  r0 : ∀ r ∈ rs, H0 r = none
  top : H R = some (.lst (rs.map V.ref))
  len : rs.length = m.length
  at_ : ∀ (i : Nat) r, rs[i]? = some r → ∃ xs, H r = some (.lst xs) ∧ Rats K H xs (rw' m i)
  nd : rs.Nodup
  nR : R ∉ rs
section
variable {K : PySem.W.Frag} {H0 H H' : Hp} {S c R : Addr} {rs : List Addr} {m : Mat}
theorem DR.same (h : DR K H0 H S c R rs m) (e : Same H H') : DR K H0 H' S c R rs m :=
  ⟨h.st.same e, h.s0, h.kp.trans (Kp.of e), h.R0, h.r0, e _ _ h.top, h.len, fun i r z => let ⟨xs, a, b⟩ := h.at_ i r z; ⟨xs, e _ _ a, b.same e⟩, h.nd, h.nR⟩
theorem DR.pick (h : DR K H0 H S c R rs m) (hS : StAt H' S c) (k : Kp S H H') : DR K H0 H' S c R rs m := by
  obtain ⟨ys, hy⟩ := h.st.lst
  refine ⟨hS, h.s0, h.kp.trans k, h.R0, h.r0, k _ _ (h.s0.neS h.R0) h.top, h.len, fun i r z => ?_, h.nd, h.nR⟩
  obtain ⟨xs, a, b⟩ := h.at_ i r z
  exact ⟨xs, k _ _ (h.s0.neS (h.r0 r (List.mem_of_getElem? z))) a, b.kp k hy⟩
theorem DR.get (h : DR K H0 H S c R rs m) {i : Nat} (hi : i < m.length) : ∃ r xs, (rs.map V.ref)[i]? = some (.ref r) ∧ rs[i]? = some r ∧ H r = some (.lst xs) ∧ Rats K H xs (rw' m i) := by
  have hx : i < rs.length := by rw [h.len]; exact hi
  obtain ⟨xs, a, b⟩ := h.at_ i _ (List.getElem?_eq_getElem hx)
  exact ⟨rs[i], xs, by rw [List.getElem?_map, List.getElem?_eq_getElem hx]; rfl, List.getElem?_eq_getElem hx, a, b⟩
theorem Rats.set {xs : List V} {qs : List Rat} {j : Nat} {v : V} {q : Rat} (h : Rats K H xs qs) (hv : RatV K H v q) : Rats K H (xs.set j v) (qs.set j q) := by
  refine ⟨by rw [List.length_set, List.length_set, h.len], fun i x y a b => ?_⟩
  by_cases e : j = i
  · subst e
    have hj : j < xs.length := by
      have := (List.getElem?_eq_some_iff.mp a).1
      rw [List.length_set] at this
      exact this
    rw [List.getElem?_set_self hj] at a
    rw [List.getElem?_set_self (h.len ▸ hj)] at b
    cases a
    cases b
    exact hv
  · rw [List.getElem?_set_ne e] at a
    rw [List.getElem?_set_ne e] at b
    exact h.at_ i x y a b
theorem DR.put (h : DR K H0 H S c R rs m) {i j : Nat} {r : Addr} {xs : List V} {v : V} {q : Rat} (hr : rs[i]? = some r) (hx : H r = some (.lst xs)) (hv : RatV K H v q) : DR K H0 (upd H r (.lst (xs.set j v))) S c R rs (m.set i ((rw' m i).set j q)) := by
  have hm := List.mem_of_getElem? hr
  have hrS := h.s0.neS (h.r0 r hm)
  have hrc := h.s0.nec (h.r0 r hm)
  have hRr : R ≠ r := fun z => h.nR (z ▸ hm)
  have hi : i < m.length := by
    rw [← h.len]
    exact (List.getElem?_eq_some_iff.mp hr).1
  refine ⟨h.st.upd hrS hrc, h.s0, fun b o n e => ?_, h.R0, h.r0, by rw [upd_ne hRr]; exact h.top, by rw [List.length_set]; exact h.len, fun i' r' z => ?_, h.nd, h.nR⟩
  · rw [upd_ne (ne_of_none e (h.r0 r hm))]
    exact h.kp b o n e
  · by_cases e : i = i'
    · subst e
      rw [hr] at z
      cases z
      obtain ⟨xs', a, b⟩ := h.at_ i r hr
      rw [hx] at a
      cases a
      refine ⟨_, upd_same, ?_⟩
      rw [rw_set_eq hi]
      exact (b.set hv).kp Kp.upd hx
    · obtain ⟨xs', a, b⟩ := h.at_ i' r' z
      have hne : r' ≠ r := by
        rintro rfl
        exact e (nd_ix h.nd hr z)
      refine ⟨xs', by rw [upd_ne hne]; exact a, ?_⟩
      rw [rw_set_ne e]
      exact b.kp Kp.upd hx
end
/-- a matrix of zeros -/
def zeroM (n : Nat) : Mat := mkM n fun _ => List.replicate n 0
theorem rats_rep {K : PySem.W.Frag} {H : Hp} {v : V} (n : Nat) (h : RatV K H v 0) : Rats K H (List.replicate n v) (List.replicate n 0) := by
  refine ⟨by rw [List.length_replicate, List.length_replicate], fun i x q a b => ?_⟩
  rw [List.getElem?_replicate] at a b
  split at a
  · rename_i z
    rw [if_pos z] at b
    cases a
    cases b
    exact h
  · cases a
section
variable {K : PySem.W.Frag} {σ : L2.St} {H : Hp} {te : TE} {vs : List Nat} {Q : VK}
/-- rows laid one after another -/
theorem rows_lcRD {j : Int} {n i₀ : Nat} {S c : Addr} (m : Mat) (e : j = (n : Int)) (hl : m.length = n) (hb : n ≤ 1000) (hS : StAt H S c) (hw : ∀ x, wipe ((wipe σ vs).set i₀ (some x)) vs = wipe σ vs)
    (hs : ∀ i H' (Qk : VK), Same H H' → i < n → (∀ q ys H3, Same H' H3 → H' q = none → H3 q = some (.lst ys) → Rats K H3 ys (rw' m i) → Qk (.ref q) H3) → te ((wipe σ vs).set i₀ (some (.int (i : Int)))) H' Qk)
    (k : ∀ l rs H', DR K H H' S c l rs m → Q (.ref l) H') : rRng1 (lcW (gName i₀) tYes te vs σ Q) [.int j] H := by
  refine g_lcRng n e (by omega) (fun l i acc H' => ∃ rs : List Addr, acc = rs.map V.ref ∧ Same H H' ∧ H' l = some (.lst acc) ∧ rs.length = i ∧ (∀ r ∈ rs, H r = none) ∧ rs.Nodup ∧ l ∉ rs ∧ ∀ (i : Nat) r, rs[i]? = some r → ∃ xs, H' r = some (.lst xs) ∧ Rats K H' xs (rw' m i)) hw ?_ ?_ ?_
  · exact fun l hl => ⟨[], rfl, up_same hl, upd_same, rfl, (fun r hr => nomatch hr), List.nodup_nil, (fun h => nomatch h), fun i r z => by simp at z⟩
  · rintro l i acc H' hl0 hi ⟨rs, rfl, sm, el, hrl, hr0, hnd, hnl, hat⟩
    refine hs i H' _ sm hi fun q ys H3 s3 hq eq hr => ?_
    have el3 := s3 _ _ el
    have hql : q ≠ l := (ne_of_none el hq).symm
    have hq0 : H q = none := sm.free hq
    have hqrs : q ∉ rs := fun hm => by
      obtain ⟨i', hi'⟩ := List.mem_iff_getElem?.mp hm
      obtain ⟨xs, a, _⟩ := hat i' q hi'
      rw [a] at hq
      cases hq
    refine lcN_of el3 (by rw [List.length_map]; omega) ⟨rs ++ [q], by rw [List.map_append]; rfl, fun b o e => ?_, upd_same, by rw [List.length_append, hrl]; rfl, fun r hr' => ?_, ?_, fun hm => ?_, fun i' r z => ?_⟩
    · rw [upd_ne (ne_of_none e hl0)]
      exact s3 _ _ (sm _ _ e)
    · rcases List.mem_append.mp hr' with h | h
      · exact hr0 r h
      · rw [List.mem_singleton.mp h]
        exact hq0
    · rw [List.nodup_append]
      refine ⟨hnd, by simp, fun a ha b hb2 e2 => ?_⟩
      rw [List.mem_singleton.mp hb2] at e2
      exact hqrs (e2 ▸ ha)
    · rcases List.mem_append.mp hm with h | h
      · exact hnl h
      · exact hql (List.mem_singleton.mp h).symm
    · by_cases hi' : i' < rs.length
      · rw [List.getElem?_append_left hi'] at z
        obtain ⟨xs, a, b⟩ := hat i' r z
        have hrl2 : r ≠ l := fun z2 => hnl (z2 ▸ List.mem_of_getElem? z)
        exact ⟨xs, by rw [upd_ne hrl2]; exact s3 _ _ a, (b.same s3).kp Kp.upd el3⟩
      · rw [List.getElem?_append_right (by omega)] at z
        by_cases h0 : i' - rs.length = 0
        · rw [h0] at z
          cases z
          have : i' = i := by omega
          subst this
          exact ⟨ys, by rw [upd_ne hql]; exact eq, hr.kp Kp.upd el3⟩
        · obtain ⟨j', hj'⟩ : ∃ j', i' - rs.length = j' + 1 := ⟨i' - rs.length - 1, by omega⟩
          rw [hj'] at z
          simp at z
  · rintro l acc H' hl0 ⟨rs, rfl, sm, el, hrl, hr0, hnd, hnl, hat⟩
    exact k l rs H' ⟨hS.same sm, hS, Kp.of sm, hl0, hr0, el, by rw [hrl, hl], hat, hnd, hnl⟩
/-- tuple(row) for row in rows -/
theorem tab_lc {i₀ : Nat} {p : Addr} {us : List V} {m : Mat} (hp : SqL K H p us) (hM : MatL K H us m) (hb : m.length ≤ 1000) (hw : ∀ x, wipe ((wipe σ vs).set i₀ (some x)) vs = wipe σ vs) (hi : ∀ x, ((wipe σ vs).set i₀ (some x))[i₀]? = some (some x))
    (k : ∀ l us' H', Same H H' → H l = none → H' l = some (.lst us') → TabL K H' us' m → Q (.ref l) H') : rItL K (lcW (gName i₀) tYes (tCB (rTupleOf K) (tCons (tVar i₀) tNil)) vs σ Q) (.ref p) H := by
  refine g_lcLst hp (fun l i acc H' => Same H H' ∧ H' l = some (.lst acc) ∧ acc.length = i ∧ ∀ (j : Nat) v, acc[j]? = some v → TRowV K H' v (rw' m j)) hw (fun l hl => ⟨up_same hl, upd_same, rfl, fun j v z => by simp at z⟩) (fun l i acc H' _ h => h.1.seq hp) ?_ ?_
  · rintro l i x acc H' hl0 hx ⟨sm, el, hal, hat⟩
    have hil := (List.getElem?_eq_some_iff.mp hx).1
    obtain ⟨q, xs, rfl, a, b⟩ := (hM.at_ i x hx).same sm
    refine g_cb (g_cons (g_var (hi _) (g_nil (g_tupleL a fun l2 hl2 => ?_))))
    have s2 := up_same (o := .tup xs) hl2
    have el2 := s2 _ _ el
    refine lcN_of el2 (by have := hM.len; omega) ⟨fun b2 o e => ?_, upd_same, by rw [List.length_append, hal]; rfl, fun j v z => ?_⟩
    · rw [upd_ne (ne_of_none e hl0)]
      exact s2 _ _ (sm _ _ e)
    · rcases at_snoc z with ⟨_, z2⟩ | ⟨z1, rfl⟩
      · exact ((hat j v z2).same s2).kp Kp.upd el2
      · rw [z1, hal]
        have h1 : TRowV K (upd H' l2 (.tup xs)) (.ref l2) (rw' m i) := ⟨l2, xs, rfl, SqT.of upd_same, b.same s2⟩
        exact h1.kp Kp.upd el2
  · rintro l acc H' hl0 ⟨sm, el, hal, hat⟩
    exact k l acc H' sm hl0 el ⟨by rw [hal, hM.len], hat⟩
end
theorem ent_set_eq {r : Row} {j : Nat} {q : Rat} (h : j < r.length) : ent (r.set j q) j = q := by
  unfold ent
  rw [List.getD_eq_getElem?_getD, List.getElem?_set_self h]
  rfl
theorem ent_set_ne {r : Row} {j k : Nat} {q : Rat} (h : j ≠ k) : ent (r.set j q) k = ent r k := by
  unfold ent
  rw [List.getD_eq_getElem?_getD, List.getElem?_set_ne h, ← List.getD_eq_getElem?_getD]
theorem DR.matL {K : PySem.W.Frag} {H0 H : Hp} {S c R : Addr} {rs : List Addr} {m : Mat} (h : DR K H0 H S c R rs m) : MatL K H (rs.map V.ref) m := by
  refine ⟨by rw [List.length_map, h.len], fun i v z => ?_⟩
  rw [List.getElem?_map] at z
  cases e : rs[i]? with
  | none => rw [e] at z; cases z
  | some r =>
    rw [e] at z
    cases z
    obtain ⟨xs, a, b⟩ := h.at_ i r e
    exact ⟨r, xs, rfl, SqL.of a, b⟩
/-- the pairs fit -/
def okPair (n : Nat) (q : List Nat × List Nat) : Bool := decide (q.1.length = q.2.length) && decide (1 ≤ q.1.length) && decide (q.1.length ≤ 3) && q.1.all (fun i => decide (1 ≤ i) && decide (i ≤ n)) && q.2.all fun i => decide (1 ≤ i) && decide (i ≤ n)
theorem pairs_ok (n : Nat) (h : n ≤ 7) : (pairsN n).all (okPair n) = true ∧ (2 ≤ n → 0 < (pairsN n).length) ∧ (pairsN n).length ≤ 200 := by
  have key : ∀ n, n < 8 → (pairsN n).all (okPair n) = true ∧ (2 ≤ n → 0 < (pairsN n).length) ∧ (pairsN n).length ≤ 200 := by decide +kernel
  exact key n (by omega)
theorem pair_fits {n : Nat} {q : List Nat × List Nat} (h : okPair n q = true) : Fits n q.1 q.2 ∧ 1 ≤ q.1.length ∧ q.1.length ≤ 3 := by
  unfold okPair at h
  simp only [Bool.and_eq_true, decide_eq_true_eq, List.all_eq_true] at h
  obtain ⟨⟨⟨⟨a, b⟩, c⟩, d⟩, e⟩ := h
  exact ⟨⟨a, d, e⟩, b, c⟩
end Rz

namespace K11
open PySem PySem.Spec PyProof.Rows L2 Rz
local macro_rules | `(tactic| walk_at "g") => `(tactic| with_reducible first
  | refine g_seq ?_ | refine g_asg ?_ | refine g_name ?_ | refine g_ret ?_ | refine g_drop ?_ | refine g_next ?_ | refine g_op ?_ | refine g_un ?_ | refine g_c ?_
  | refine g_ifs ?_ | refine g_test ?_ | refine g_B ?_ | refine g_bl ?_ | refine g_and ?_ | refine g_or ?_ | refine g_not ?_ | refine g_andV ?_ | refine g_orV ?_ | refine g_notV ?_ | refine g_ifE ?_
  | refine g_call ?_ | refine g_cb ?_ | refine g_nil ?_ | refine g_cons ?_ | refine g_tup ?_ | refine g_lst ?_ | refine g_par ?_ | refine g_two ?_ | refine g_I0 ?_ | refine g_U ?_ | refine g_sub ?_ | refine g_int1 ?_ | refine g_int1b ?_ | refine g_abs ?_ | refine g_forR1 ?_ | refine g_forL ?_ | refine g_forT ?_ | refine g_lcR1 ?_ | refine g_lcL ?_ | refine g_lcT ?_ | refine g_isN ?_ | refine g_notN ?_ | refine g_bm ?_)
local macro_rules | `(tactic| walk_at "gv") => `(tactic| ((with_reducible refine' g_var ?hv ?_); (case hv => rfl)))
local macro_rules | `(tactic| walk_at "gm") => `(tactic| ((with_reducible refine g_I ?hc ?_); (case hc => first | exact .inr ⟨by decide, by decide⟩ | exact .inl ⟨by decide, by decide⟩ | exact ⟨by decide, by decide, by decide⟩ | exact ⟨by decide, by decide +kernel⟩ | decide | assumption)))
local macro_rules | `(tactic| walk_at "ge") => `(tactic| first | ((with_reducible refine g_eq ?hs ?_); (case hs => rfl)) | ((with_reducible refine g_ne ?hs ?_); (case hs => rfl)))
local macro_rules | `(tactic| walk_at "gx") => `(tactic| first
  | ((with_reducible refine' g_ixT ?h ?e ?_); (case h => first | assumption | exact SqT.of upd_same | exact SqT.of (by assumption)); (case e => rfl))
  | ((with_reducible refine' g_ixL ?h ?e ?_); (case h => first | assumption | exact SqL.of upd_same | exact SqL.of (by assumption)); (case e => rfl))
  | ((with_reducible refine' g_setL ?h ?e ?_); (case h => first | assumption | exact upd_same); (case e => rfl)))
local macro_rules | `(tactic| walk_at "gl") => `(tactic| first
  | ((with_reducible refine' g_lenT ?h ?_); (case h => first | assumption | exact SqT.of upd_same | exact SqT.of (by assumption)))
  | ((with_reducible refine' g_lenL ?h ?_); (case h => first | assumption | exact SqL.of upd_same | exact SqL.of (by assumption))))
local macro_rules | `(tactic| walk_at "gs") => `(tactic| repeat (first | walk_at "g" | walk_at "gv" | walk_at "gm" | walk_at "ge" | walk_at "gx" | walk_at "gl"))

def topS (i : Nat) : Stmt := PySem.Challenge.pw_rimohms_k11_minors.main.body.getD i (.Pass ⟨0, 0, 0, 0⟩)
abbrev s_ratio : Stmt := topS 7
abbrev s_minus : Stmt := topS 8
abbrev s_times : Stmt := topS 9
abbrev s_over : Stmt := topS 10
abbrev s_opposite : Stmt := topS 11
abbrev s_determinant : Stmt := topS 13
abbrev s_pivot_place : Stmt := topS 14
abbrev s_swapped : Stmt := topS 15
abbrev s_cleared : Stmt := topS 16
abbrev s_minor : Stmt := topS 18
abbrev s_l_pick : Stmt := topS 20
abbrev s_l_gcd : Stmt := topS 21
abbrev s_l_ratio : Stmt := topS 22
abbrev s_l_sub : Stmt := topS 24
abbrev s_l_mul : Stmt := topS 25
abbrev s_l_div : Stmt := topS 26
abbrev s_l_same : Stmt := topS 27
abbrev s_l_det : Stmt := topS 28
abbrev s_l_minor : Stmt := topS 29
abbrev s_l_subsets : Stmt := topS 30
abbrev s_l_pairs : Stmt := topS 31
abbrev s_law : Stmt := topS 33
theorem sc_ratio : FnScope ["top", "bottom", "common"] ["top", "bottom"] (defScope s_ratio) := ⟨rfl, rfl, rfl, by decide +kernel, rfl, by decide +kernel, by decide +kernel⟩
theorem sc_minus : FnScope ["left", "right"] ["left", "right"] (defScope s_minus) := ⟨rfl, rfl, rfl, by decide +kernel, rfl, by decide +kernel, by decide +kernel⟩
theorem sc_times : FnScope ["left", "right"] ["left", "right"] (defScope s_times) := ⟨rfl, rfl, rfl, by decide +kernel, rfl, by decide +kernel, by decide +kernel⟩
theorem sc_over : FnScope ["left", "right"] ["left", "right"] (defScope s_over) := ⟨rfl, rfl, rfl, by decide +kernel, rfl, by decide +kernel, by decide +kernel⟩
theorem sc_opposite : FnScope ["value"] ["value"] (defScope s_opposite) := ⟨rfl, rfl, rfl, by decide +kernel, rfl, by decide +kernel, by decide +kernel⟩
theorem sc_determinant : FnScope ["rows", "value", "work", "at", "found", "row", "k"] ["rows"] (defScope s_determinant) := ⟨rfl, rfl, rfl, by decide +kernel, rfl, by decide +kernel, by decide +kernel⟩
theorem sc_pivot_place : FnScope ["rows", "column", "k"] ["rows", "column"] (defScope s_pivot_place) := ⟨rfl, rfl, rfl, by decide +kernel, rfl, by decide +kernel, by decide +kernel⟩
theorem sc_swapped : FnScope ["rows", "one", "other", "out"] ["rows", "one", "other"] (defScope s_swapped) := ⟨rfl, rfl, rfl, by decide +kernel, rfl, by decide +kernel, by decide +kernel⟩
theorem sc_cleared : FnScope ["row", "pivot", "column", "share", "value", "part"] ["row", "pivot", "column"] (defScope s_cleared) := ⟨rfl, rfl, rfl, by decide +kernel, rfl, by decide +kernel, by decide +kernel⟩
theorem sc_minor : FnScope ["table", "heads", "tails", "head", "tail"] ["table", "heads", "tails"] (defScope s_minor) := ⟨rfl, rfl, rfl, by decide +kernel, rfl, by decide +kernel, by decide +kernel⟩
theorem sc_l_pick : FnScope ["state", "limit", "value", "cell", "mixed"] ["state", "limit"] (defScope s_l_pick) := ⟨rfl, rfl, rfl, by decide +kernel, rfl, by decide +kernel, by decide +kernel⟩
theorem sc_l_gcd : FnScope ["left", "right"] ["left", "right"] (defScope s_l_gcd) := ⟨rfl, rfl, rfl, by decide +kernel, rfl, by decide +kernel, by decide +kernel⟩
theorem sc_l_ratio : FnScope ["top", "bottom", "common"] ["top", "bottom"] (defScope s_l_ratio) := ⟨rfl, rfl, rfl, by decide +kernel, rfl, by decide +kernel, by decide +kernel⟩
theorem sc_l_sub : FnScope ["left", "right"] ["left", "right"] (defScope s_l_sub) := ⟨rfl, rfl, rfl, by decide +kernel, rfl, by decide +kernel, by decide +kernel⟩
theorem sc_l_mul : FnScope ["left", "right"] ["left", "right"] (defScope s_l_mul) := ⟨rfl, rfl, rfl, by decide +kernel, rfl, by decide +kernel, by decide +kernel⟩
theorem sc_l_div : FnScope ["left", "right"] ["left", "right"] (defScope s_l_div) := ⟨rfl, rfl, rfl, by decide +kernel, rfl, by decide +kernel, by decide +kernel⟩
theorem sc_l_same : FnScope ["actual", "due", "k"] ["actual", "due"] (defScope s_l_same) := ⟨rfl, rfl, rfl, by decide +kernel, rfl, by decide +kernel, by decide +kernel⟩
theorem sc_l_det : FnScope ["rows", "row", "whole", "at", "k", "found", "share", "j"] ["rows"] (defScope s_l_det) := ⟨rfl, rfl, rfl, by decide +kernel, rfl, by decide +kernel, by decide +kernel⟩
theorem sc_l_minor : FnScope ["table", "heads", "tails", "rows", "i", "j"] ["table", "heads", "tails"] (defScope s_l_minor) := ⟨rfl, rfl, rfl, by decide +kernel, rfl, by decide +kernel, by decide +kernel⟩
theorem sc_l_subsets : FnScope ["size", "count", "rows", "k", "row"] ["size", "count"] (defScope s_l_subsets) := ⟨rfl, rfl, rfl, by decide +kernel, rfl, by decide +kernel, by decide +kernel⟩
theorem sc_l_pairs : FnScope ["rim", "found", "half", "chosen", "shift", "circle"] ["rim"] (defScope s_l_pairs) := ⟨rfl, rfl, rfl, by decide +kernel, rfl, by decide +kernel, by decide +kernel⟩
theorem sc_law : FnScope ["script", "state", "size", "k", "rows", "i", "j", "value", "row", "table", "pairs", "heads", "tails"] ["script"] (defScope s_law) := ⟨rfl, rfl, rfl, by decide +kernel, rfl, by decide +kernel, by decide +kernel⟩
structure Ads where
  f_ratio : Addr
  fd_ratio : FuncData
  f_minus : Addr
  fd_minus : FuncData
  f_times : Addr
  fd_times : FuncData
  f_over : Addr
  fd_over : FuncData
  f_opposite : Addr
  fd_opposite : FuncData
  f_determinant : Addr
  fd_determinant : FuncData
  f_pivot_place : Addr
  fd_pivot_place : FuncData
  f_swapped : Addr
  fd_swapped : FuncData
  f_cleared : Addr
  fd_cleared : FuncData
  f_minor : Addr
  fd_minor : FuncData
  f_l_pick : Addr
  fd_l_pick : FuncData
  f_l_gcd : Addr
  fd_l_gcd : FuncData
  f_l_ratio : Addr
  fd_l_ratio : FuncData
  f_l_sub : Addr
  fd_l_sub : FuncData
  f_l_mul : Addr
  fd_l_mul : FuncData
  f_l_div : Addr
  fd_l_div : FuncData
  f_l_same : Addr
  fd_l_same : FuncData
  f_l_det : Addr
  fd_l_det : FuncData
  f_l_minor : Addr
  fd_l_minor : FuncData
  f_l_subsets : Addr
  fd_l_subsets : FuncData
  f_l_pairs : Addr
  fd_l_pairs : FuncData
  f_law : Addr
  fd_law : FuncData
  C_RimError : Addr
  C_RatioError : Addr
  z_ZERO : Addr
  z_ONE : Addr
structure Txt (K : PySem.W.Frag) (mg : Str → Option Value) (A : Ads) : Prop where
  g_ratio : mg "ratio" = some (.ref A.f_ratio)
  F_ratio : Fun K "ratio" "ratio" s_ratio A.f_ratio A.fd_ratio
  b_ratio : L2.Binds K A.fd_ratio ["top", "bottom"] []
  g_minus : mg "minus" = some (.ref A.f_minus)
  F_minus : Fun K "minus" "minus" s_minus A.f_minus A.fd_minus
  b_minus : L2.Binds K A.fd_minus ["left", "right"] []
  g_times : mg "times" = some (.ref A.f_times)
  F_times : Fun K "times" "times" s_times A.f_times A.fd_times
  b_times : L2.Binds K A.fd_times ["left", "right"] []
  g_over : mg "over" = some (.ref A.f_over)
  F_over : Fun K "over" "over" s_over A.f_over A.fd_over
  b_over : L2.Binds K A.fd_over ["left", "right"] []
  g_opposite : mg "opposite" = some (.ref A.f_opposite)
  F_opposite : Fun K "opposite" "opposite" s_opposite A.f_opposite A.fd_opposite
  b_opposite : L2.Binds K A.fd_opposite ["value"] []
  g_determinant : mg "determinant" = some (.ref A.f_determinant)
  F_determinant : Fun K "determinant" "determinant" s_determinant A.f_determinant A.fd_determinant
  b_determinant : L2.Binds K A.fd_determinant ["rows"] []
  g_pivot_place : mg "pivot_place" = some (.ref A.f_pivot_place)
  F_pivot_place : Fun K "pivot_place" "pivot_place" s_pivot_place A.f_pivot_place A.fd_pivot_place
  b_pivot_place : L2.Binds K A.fd_pivot_place ["rows", "column"] []
  g_swapped : mg "swapped" = some (.ref A.f_swapped)
  F_swapped : Fun K "swapped" "swapped" s_swapped A.f_swapped A.fd_swapped
  b_swapped : L2.Binds K A.fd_swapped ["rows", "one", "other"] []
  g_cleared : mg "cleared" = some (.ref A.f_cleared)
  F_cleared : Fun K "cleared" "cleared" s_cleared A.f_cleared A.fd_cleared
  b_cleared : L2.Binds K A.fd_cleared ["row", "pivot", "column"] []
  g_minor : mg "minor" = some (.ref A.f_minor)
  F_minor : Fun K "minor" "minor" s_minor A.f_minor A.fd_minor
  b_minor : L2.Binds K A.fd_minor ["table", "heads", "tails"] []
  g_l_pick : mg "_law_pick" = some (.ref A.f_l_pick)
  F_l_pick : Fun K "_law_pick" "_law_pick" s_l_pick A.f_l_pick A.fd_l_pick
  b_l_pick : L2.Binds K A.fd_l_pick ["state", "limit"] []
  g_l_gcd : mg "_law_gcd" = some (.ref A.f_l_gcd)
  F_l_gcd : Fun K "_law_gcd" "_law_gcd" s_l_gcd A.f_l_gcd A.fd_l_gcd
  b_l_gcd : L2.Binds K A.fd_l_gcd ["left", "right"] []
  g_l_ratio : mg "_law_ratio" = some (.ref A.f_l_ratio)
  F_l_ratio : Fun K "_law_ratio" "_law_ratio" s_l_ratio A.f_l_ratio A.fd_l_ratio
  b_l_ratio : L2.Binds K A.fd_l_ratio ["top", "bottom"] []
  g_l_sub : mg "_law_sub" = some (.ref A.f_l_sub)
  F_l_sub : Fun K "_law_sub" "_law_sub" s_l_sub A.f_l_sub A.fd_l_sub
  b_l_sub : L2.Binds K A.fd_l_sub ["left", "right"] []
  g_l_mul : mg "_law_mul" = some (.ref A.f_l_mul)
  F_l_mul : Fun K "_law_mul" "_law_mul" s_l_mul A.f_l_mul A.fd_l_mul
  b_l_mul : L2.Binds K A.fd_l_mul ["left", "right"] []
  g_l_div : mg "_law_div" = some (.ref A.f_l_div)
  F_l_div : Fun K "_law_div" "_law_div" s_l_div A.f_l_div A.fd_l_div
  b_l_div : L2.Binds K A.fd_l_div ["left", "right"] []
  g_l_same : mg "_law_same" = some (.ref A.f_l_same)
  F_l_same : Fun K "_law_same" "_law_same" s_l_same A.f_l_same A.fd_l_same
  b_l_same : L2.Binds K A.fd_l_same ["actual", "due"] []
  g_l_det : mg "_law_det" = some (.ref A.f_l_det)
  F_l_det : Fun K "_law_det" "_law_det" s_l_det A.f_l_det A.fd_l_det
  b_l_det : L2.Binds K A.fd_l_det ["rows"] []
  g_l_minor : mg "_law_minor" = some (.ref A.f_l_minor)
  F_l_minor : Fun K "_law_minor" "_law_minor" s_l_minor A.f_l_minor A.fd_l_minor
  b_l_minor : L2.Binds K A.fd_l_minor ["table", "heads", "tails"] []
  g_l_subsets : mg "_law_subsets" = some (.ref A.f_l_subsets)
  F_l_subsets : Fun K "_law_subsets" "_law_subsets" s_l_subsets A.f_l_subsets A.fd_l_subsets
  b_l_subsets : L2.Binds K A.fd_l_subsets ["size", "count"] []
  g_l_pairs : mg "_law_pairs" = some (.ref A.f_l_pairs)
  F_l_pairs : Fun K "_law_pairs" "_law_pairs" s_l_pairs A.f_l_pairs A.fd_l_pairs
  b_l_pairs : L2.Binds K A.fd_l_pairs ["rim"] []
  g_law : mg "law" = some (.ref A.f_law)
  F_law : Fun K "law" "law" s_law A.f_law A.fd_law
  b_law : L2.Binds K A.fd_law ["script"] []
  g_RimError : mg "RimError" = some (.ref A.C_RimError)
  x_RimError : PySem.W.excIn K (A.C_RimError) [.type "ValueError", .type "Exception", .type "BaseException", .type "object"] "ValueError.__new__" = true
  k_RimError : PySem.W.keepIn K (.ref (A.C_RimError)) = true
  bb_RimError : PySem.W.subIn K (.ref (A.C_RimError)) (.type "BaseException") = some true
  t_RimError : PySem.W.typeIn K (.ref (A.C_RimError)) = some (.type "type")
  d_RimError : PySem.W.hasDictIn K (A.C_RimError) = true
  hg_RimError : PySem.W.findIn K (.ref (A.C_RimError)) "__getattribute__" = some (some (.builtin "BaseException.__getattribute__"))
  hk_RimError : PySem.W.findIn K (.ref (A.C_RimError)) "__getattr__" = some none
  ha_RimError : PySem.W.findIn K (.ref (A.C_RimError)) "__class__" = some (some (.builtin "object.__class__"))
  hm_RimError : PySem.W.mroIn K (A.C_RimError) (.type "object") = some true
  v_RimError : PySem.W.kitOne K (.ref (A.C_RimError)) (.type "ValueError") = some true
  i_RimError_RimError : PySem.W.kitOne K (.ref (A.C_RimError)) (.ref (A.C_RimError)) = some true
  e_RimError_RimError : PySem.W.exmOne K (.ref (A.C_RimError)) (.ref (A.C_RimError)) = some true
  i_RatioError_RimError : PySem.W.kitOne K (.ref (A.C_RimError)) (.ref (A.C_RatioError)) = some false
  e_RatioError_RimError : PySem.W.exmOne K (.ref (A.C_RimError)) (.ref (A.C_RatioError)) = some false
  g_RatioError : mg "RatioError" = some (.ref A.C_RatioError)
  x_RatioError : PySem.W.excIn K (A.C_RatioError) [.type "ValueError", .type "Exception", .type "BaseException", .type "object"] "ValueError.__new__" = true
  k_RatioError : PySem.W.keepIn K (.ref (A.C_RatioError)) = true
  bb_RatioError : PySem.W.subIn K (.ref (A.C_RatioError)) (.type "BaseException") = some true
  t_RatioError : PySem.W.typeIn K (.ref (A.C_RatioError)) = some (.type "type")
  d_RatioError : PySem.W.hasDictIn K (A.C_RatioError) = true
  hg_RatioError : PySem.W.findIn K (.ref (A.C_RatioError)) "__getattribute__" = some (some (.builtin "BaseException.__getattribute__"))
  hk_RatioError : PySem.W.findIn K (.ref (A.C_RatioError)) "__getattr__" = some none
  ha_RatioError : PySem.W.findIn K (.ref (A.C_RatioError)) "__class__" = some (some (.builtin "object.__class__"))
  hm_RatioError : PySem.W.mroIn K (A.C_RatioError) (.type "object") = some true
  v_RatioError : PySem.W.kitOne K (.ref (A.C_RatioError)) (.type "ValueError") = some true
  i_RimError_RatioError : PySem.W.kitOne K (.ref (A.C_RatioError)) (.ref (A.C_RimError)) = some true
  e_RimError_RatioError : PySem.W.exmOne K (.ref (A.C_RatioError)) (.ref (A.C_RimError)) = some true
  i_RatioError_RatioError : PySem.W.kitOne K (.ref (A.C_RatioError)) (.ref (A.C_RatioError)) = some true
  e_RatioError_RatioError : PySem.W.exmOne K (.ref (A.C_RatioError)) (.ref (A.C_RatioError)) = some true
  c_ZERO : mg "ZERO" = some (.ref A.z_ZERO)
  q_ZERO : ∀ H, SqT K H A.z_ZERO [.int 0, .int 1]
  c_ONE : mg "ONE" = some (.ref A.z_ONE)
  q_ONE : ∀ H, SqT K H A.z_ONE [.int 1, .int 1]
  n_abs : mg "abs" = none
  n_all : mg "all" = none
  n_bool : mg "bool" = none
  n_enumerate : mg "enumerate" = none
  n_int : mg "int" = none
  n_isinstance : mg "isinstance" = none
  n_len : mg "len" = none
  n_list : mg "list" = none
  n_min : mg "min" = none
  n_range : mg "range" = none
  n_str : mg "str" = none
  n_tuple : mg "tuple" = none
  n_zip : mg "zip" = none
  g_gcd : mg "gcd" = some (.builtin "math.gcd")
  hn_ : PySem.W.specialIn K (.builtin "object.__class__") "__get__" = some (some (.builtin "getset_descriptor.__get__"))
  ht_ : PySem.W.takesIn K (.builtin "object.__class__") = some true
section
variable {P : Program} {w : World} {K : PySem.W.Frag} {mg : Str → Option Value} {base : Heap} {A : Ads}
theorem ok_ratio (T : Txt K mg A) : FnOk P w K mg base (L2.CX P w) 1 A.f_ratio A.fd_ratio ["top", "bottom"] (spRatio K A.C_RatioError) := by
  have nd := sc_ratio.nd
  refine T.F_ratio.okX sc_ratio (fun vs H Q E h => ?_) (fun cdv Ar outer s H vs Q E hr h => ?_)
  · obtain ⟨a, b, rfl, _⟩ := h
    rfl
  · obtain ⟨a, b, rfl, hsz, k0, k1⟩ := h
    refine ⟨_, (pss_cons (ps_if (pt_cmpR op_eq (pv 1) pe_int (nomark _)) (pss_one (ps_raise rfl (takes_of rfl rfl rfl rfl) (pmk_own PySem.F.excBase_ValueError T.x_RatioError T.g_RatioError T.k_RatioError (raises_own T.bb_RatioError T.t_RatioError) (by exact rfl)))) pss_nil) (pss_cons (ps_set (i := 2) nd rfl (Or.inl rfl) (pe_callBfun cr_gcd (by rfl) T.g_gcd (pa_cons (pv 0) (pa_cons (pv 1) pa_nil)))) (pss_cutZ (ps_if (pt_cmpR op_lt (pv 1) pe_int (nomark _)) (pss_one (ps_set (i := 2) nd rfl (Or.inl rfl) (pe_un un_neg (pv 2)))) pss_nil) (pss_one (ps_ret (pe_tup (pa_cons (pe_op op_fdivZ (pv 0) (pv 2)) (pa_cons (pe_op op_fdivZ (pv 1) (pv 2)) pa_nil)))))))), ?_⟩
    walk_at "gs"
    refine if_2 (fun e => ?_) (fun e => ?_)
    · exact k0 (V.int.inj (of_decide_eq_true e))
    · have hb : b ≠ 0 := fun z => by
        rw [z] at e
        cases e
      walk_at "gs"
      refine ⟨_, _, rfl, ?_⟩
      walk_at "gs"
      refine g_cut (fun σ' H' => σ' = [some (.int a), some (.int b), some (.int (comI a b))] ∧ H' = H) ?_ ?_
      · walk_at "gs"
        refine if_2 (fun e => ?_) (fun e => ?_)
        · walk_at "gs"
          refine ⟨?_, rfl⟩
          have := of_decide_eq_true e
          unfold comI
          rw [if_pos this]
          rfl
        · walk_at "gs"
          refine ⟨?_, rfl⟩
          have := of_decide_eq_false e
          unfold comI
          rw [if_neg this]
          rfl
      · rintro σ' H' ⟨rfl, rfl⟩
        have hc : ∀ x, CDivZ x (comI a b) := fun x => ⟨comI_ne hb, by
          rw [comI_abs]
          exact Nat.lt_of_le_of_lt (gcdI_le hb) hsz⟩
        walk_at "gs"
        refine g_I (hc _) ?_
        walk_at "gs"
        refine g_I (hc _) ?_
        walk_at "gs"
        rw [fdiv_num hb, fdiv_den hb]
        refine g_newT (by show 2 ≤ 1000000; decide) fun p hp => ?_
        exact k1 hb _ _ (up_same hp) RatV.new
theorem ok_minus (T : Txt K mg A) : FnOk P w K mg base CX0 2 A.f_minus A.fd_minus ["left", "right"] (spBin K (fun p q => p - q)) := by
  have G_ratio := ok_ratio (P := P) (w := w) (base := base) T
  have nd := sc_minus.nd
  refine T.F_minus.ok sc_minus (fun vs H Q E h => ?_) (fun cdv Ar outer s H vs Q E hr h => ?_)
  · obtain ⟨x, y, p, q, n, m, rfl, _⟩ := h
    rfl
  · obtain ⟨x, y, p, q, n, m, rfl, ⟨px, rfl, hx⟩, ⟨py, rfl, hy⟩, bp, bq, hnm, k⟩ := h
    refine ⟨_, (pss_one (ps_ret (pe_call (E := E0) G_ratio (hr.mono (by decide)) (by rfl) T.g_ratio T.F_ratio.kp T.b_ratio .nil passL (pa_cons (pe_op op_sub (pe_op op_mulB (pe_ix (ix_tupK (K := K) rfl) (pv 0) pe_int (fun _ _ => rfl)) (pe_ix (ix_tupK (K := K) rfl) (pv 1) pe_int (fun _ _ => rfl))) (pe_op op_mulB (pe_ix (ix_tupK (K := K) rfl) (pv 1) pe_int (fun _ _ => rfl)) (pe_ix (ix_tupK (K := K) rfl) (pv 0) pe_int (fun _ _ => rfl)))) (pa_cons (pe_op op_mulB (pe_ix (ix_tupK (K := K) rfl) (pv 0) pe_int (fun _ _ => rfl)) (pe_ix (ix_tupK (K := K) rfl) (pv 1) pe_int (fun _ _ => rfl))) pa_nil))))), ?_⟩
    have m0 : CMulB p.num (q.den : Int) := mulB_of (a := n) (b := m) bp.1 bq.2 (by omega)
    have m1 : CMulB q.num (p.den : Int) := mulB_of (a := m) (b := n) bq.1 bp.2 (by omega)
    have m2 : CMulB (p.den : Int) (q.den : Int) := mulB_of (a := n) (b := m) bp.2 bq.2 (by omega)
    walk_at "gs"
    refine ⟨_, _, rfl, lt9000 (n := n + m) (abs_mul_lt (x := (p.den : Int)) (y := (q.den : Int)) bp.2 bq.2) (by omega), fun z => absurd z (den_mul_ne p q), fun _ v H' sm hv => ?_⟩
    rw [rat_minus] at hv
    exact k v H' sm hv
theorem ok_times (T : Txt K mg A) : FnOk P w K mg base CX0 2 A.f_times A.fd_times ["left", "right"] (spBin K (fun p q => p * q)) := by
  have G_ratio := ok_ratio (P := P) (w := w) (base := base) T
  have nd := sc_times.nd
  refine T.F_times.ok sc_times (fun vs H Q E h => ?_) (fun cdv Ar outer s H vs Q E hr h => ?_)
  · obtain ⟨x, y, p, q, n, m, rfl, _⟩ := h
    rfl
  · obtain ⟨x, y, p, q, n, m, rfl, ⟨px, rfl, hx⟩, ⟨py, rfl, hy⟩, bp, bq, hnm, k⟩ := h
    refine ⟨_, (pss_one (ps_ret (pe_call (E := E0) G_ratio (hr.mono (by decide)) (by rfl) T.g_ratio T.F_ratio.kp T.b_ratio .nil passL (pa_cons (pe_op op_mulB (pe_ix (ix_tupK (K := K) rfl) (pv 0) pe_int (fun _ _ => rfl)) (pe_ix (ix_tupK (K := K) rfl) (pv 1) pe_int (fun _ _ => rfl))) (pa_cons (pe_op op_mulB (pe_ix (ix_tupK (K := K) rfl) (pv 0) pe_int (fun _ _ => rfl)) (pe_ix (ix_tupK (K := K) rfl) (pv 1) pe_int (fun _ _ => rfl))) pa_nil))))), ?_⟩
    have m0 : CMulB p.num q.num := mulB_of (a := n) (b := m) bp.1 bq.1 (by omega)
    have m1 : CMulB (p.den : Int) (q.den : Int) := mulB_of (a := n) (b := m) bp.2 bq.2 (by omega)
    walk_at "gs"
    refine ⟨_, _, rfl, lt9000 (n := n + m) (abs_mul_lt (x := (p.den : Int)) (y := (q.den : Int)) bp.2 bq.2) (by omega), fun z => absurd z (den_mul_ne p q), fun _ v H' sm hv => ?_⟩
    rw [rat_times] at hv
    exact k v H' sm hv
end

section
variable {P : Program} {w : World} {K : PySem.W.Frag} {mg : Str → Option Value} {base : Heap} {A : Ads}
theorem ok_over (T : Txt K mg A) : FnOk P w K mg base (L2.CX P w) 2 A.f_over A.fd_over ["left", "right"] (spOver K A.C_RatioError) := by
  have G_ratio := ok_ratio (P := P) (w := w) (base := base) T
  have nd := sc_over.nd
  refine T.F_over.okX sc_over (fun vs H Q E h => ?_) (fun cdv Ar outer s H vs Q E hr h => ?_)
  · obtain ⟨x, y, p, q, n, m, rfl, _⟩ := h
    rfl
  · obtain ⟨x, y, p, q, n, m, rfl, ⟨px, rfl, hx⟩, ⟨py, rfl, hy⟩, bp, bq, hnm, k0, k1⟩ := h
    refine ⟨_, (pss_one (ps_ret (pe_call (E := E) G_ratio (hr.mono (by decide)) (by rfl) T.g_ratio T.F_ratio.kp T.b_ratio .nil (passes_call (takes_of rfl rfl rfl rfl) (fun _ _ _ _ h => h)) (pa_cons (pe_op op_mulB (pe_ix (ix_tupK (K := K) rfl) (pv 0) pe_int (fun _ _ => rfl)) (pe_ix (ix_tupK (K := K) rfl) (pv 1) pe_int (fun _ _ => rfl))) (pa_cons (pe_op op_mulB (pe_ix (ix_tupK (K := K) rfl) (pv 0) pe_int (fun _ _ => rfl)) (pe_ix (ix_tupK (K := K) rfl) (pv 1) pe_int (fun _ _ => rfl))) pa_nil))))), ?_⟩
    have m0 : CMulB p.num (q.den : Int) := mulB_of (a := n) (b := m) bp.1 bq.2 (by omega)
    have m1 : CMulB (p.den : Int) q.num := mulB_of (a := n) (b := m) bp.2 bq.1 (by omega)
    walk_at "gs"
    refine ⟨_, _, rfl, lt9000 (n := n + m) (abs_mul_lt (x := (p.den : Int)) (y := q.num) bp.2 bq.1) (by omega), fun z => ?_, fun z v H' sm hv => ?_⟩
    · refine k0 ?_
      rcases Int.mul_eq_zero.mp z with z | z
      · have := den_pos p
        omega
      · exact Rat.num_eq_zero.mp z
    · rw [rat_over] at hv
      refine k1 (fun z2 => z ?_) v H' sm hv
      rw [z2]
      exact Int.mul_zero _
theorem ok_opposite (T : Txt K mg A) : FnOk P w K mg base CX0 1 A.f_opposite A.fd_opposite ["value"] (spNeg K) := by
  have nd := sc_opposite.nd
  refine T.F_opposite.ok sc_opposite (fun vs H Q E h => ?_) (fun cdv Ar outer s H vs Q E hr h => ?_)
  · obtain ⟨x, p, rfl, _⟩ := h
    rfl
  · obtain ⟨x, p, rfl, ⟨px, rfl, hx⟩, k⟩ := h
    refine ⟨_, (pss_one (ps_ret (pe_tup (pa_cons (pe_un un_neg (pe_ix (ix_tupK (K := K) rfl) (pv 0) pe_int (fun _ _ => rfl))) (pa_cons (pe_ix (ix_tupK (K := K) rfl) (pv 0) pe_int (fun _ _ => rfl)) pa_nil))))), ?_⟩
    walk_at "gs"
    refine g_newT (by show 2 ≤ 1000000; decide) fun p hp => ?_
    refine k _ _ (up_same hp) ⟨p, rfl, SqT.of ?_⟩
    rw [Rat.neg_num, Rat.neg_den]
    exact upd_same
end

section
variable {P : Program} {w : World} {K : PySem.W.Frag} {mg : Str → Option Value} {base : Heap} {A : Ads}
theorem ratZ (T : Txt K mg A) (H : Hp) : RatV K H (.ref A.z_ZERO) 0 := ⟨_, rfl, T.q_ZERO H⟩
theorem ok_pivot_place (T : Txt K mg A) : FnOk P w K mg base CX0 1 A.f_pivot_place A.fd_pivot_place ["rows", "column"] (spPivot K) := by
  have nd := sc_pivot_place.nd
  refine T.F_pivot_place.ok sc_pivot_place (fun vs H Q E h => ?_) (fun cdv Ar outer s H vs Q E hr h => ?_)
  · obtain ⟨v, W, a, rfl, _⟩ := h
    rfl
  · obtain ⟨v, W, a, rfl, ⟨p, us, rfl, hp, hM⟩, ha, hl, hw, k1, k2⟩ := h
    refine ⟨_, (pss_cons (ps_for PassesOwn.never rfl (pi_range2 (by rfl) T.n_range (pa_cons (pv 1) (pa_cons (pe_callB (zc_lenK (K := K) rfl) (by rfl) T.n_len (by decide +kernel) (pa_cons (pv 0) pa_nil)) pa_nil))) (pg_name (i := 2) nd rfl (Or.inl rfl)) (pss_one (ps_if (pt_cmpR (op_neDK (K := K) rfl hr.units) (pe_ix (ix_listK (K := K) rfl) (pe_ix (ix_listK (K := K) rfl) (pv 0) (pv 2) (fun _ _ => rfl)) (pv 1) (fun _ _ => rfl)) (pe_glob (v := .ref A.z_ZERO) (by rfl) T.c_ZERO rfl) (nomark _)) (pss_one (ps_ret (pv 2))) pss_nil))) (pss_one (ps_ret pe_non))), ?_⟩
    walk_at "gs"
    refine g_forR2 ?_
    walk_at "gs"
    refine g_rng2 a W.length rfl (by rw [hM.len]) (by omega) (by omega) (fun j σ' H' => (∃ u, σ' = [some (.ref p), some (.int (a : Int)), u]) ∧ H' = H ∧ ∀ k, a ≤ k → k < j → ent (rw' W k) a = 0) ⟨⟨none, rfl⟩, rfl, fun k h1 h2 => by omega⟩ ?_ ?_
    · rintro j σ' H' h1 h2 ⟨⟨u, rfl⟩, rfl, hz⟩
      obtain ⟨rp, xs, e1, e2, e3⟩ := hM.row h2
      obtain ⟨x, ex, rx⟩ := e3.ent (hw j h2)
      walk_at "gs"
      refine g_ixL hp (atI_nat e1) ?_
      walk_at "gs"
      refine g_ixL e2 (atI_nat ex) ?_
      walk_at "gs"
      refine g_neRat rx (ratZ T _) ?_
      walk_at "gs"
      refine if_2 (fun e => ?_) (fun e => ?_)
      · walk_at "gs"
        exact k1 j h1 h2 fun z => by
          rw [decide_eq_true z] at e
          cases e
      · walk_at "gs"
        refine ⟨⟨_, rfl⟩, rfl, fun k h3 h4 => ?_⟩
        by_cases z : k = j
        · subst z
          by_cases z2 : ent (rw' W k) a = 0
          · exact z2
          · rw [decide_eq_false z2] at e
            cases e
        · exact hz k h3 (by omega)
    · rintro σ' H' ⟨⟨u, rfl⟩, rfl, hz⟩
      walk_at "gs"
      exact k2 fun k h1 h2 => hz k h1 h2
theorem ok_swapped (T : Txt K mg A) : FnOk P w K mg base CX0 1 A.f_swapped A.fd_swapped ["rows", "one", "other"] (spSwapped K) := by
  have nd := sc_swapped.nd
  refine T.F_swapped.ok sc_swapped (fun vs H Q E h => ?_) (fun cdv Ar outer s H vs Q E hr h => ?_)
  · obtain ⟨v, W, i, k, rfl, _⟩ := h
    rfl
  · obtain ⟨v, W, i, k, rfl, ⟨p, us, rfl, hp, hM⟩, hi, hk, hl, q2⟩ := h
    refine ⟨_, (pss_cons (ps_set (i := 3) nd rfl (Or.inl rfl) (pe_callTy (zc_listK (K := K) rfl) (by rfl) T.n_list (by decide +kernel) (pa_cons (pv 0) pa_nil))) (pss_cons (ps_asg (pe_tup (pa_cons (pe_ix (ix_listK (K := K) rfl) (pv 0) (pv 2) (fun _ _ => rfl)) (pa_cons (pe_ix (ix_listK (K := K) rfl) (pv 0) (pv 1) (fun _ _ => rfl)) pa_nil))) (pg_tupK (K := K) rfl rfl (pgs_cons (pg_sub (pv 3) (pv 1) set_list) (pgs_cons (pg_sub (pv 3) (pv 2) set_list) pgs_nil)))) (pss_one (ps_ret (pv 3))))), ?_⟩
    walk_at "gs"
    refine g_listL hp fun o ho => ?_
    have so := up_same (o := .lst us) ho
    obtain ⟨rk, xk, e1, _, _⟩ := hM.row hk
    obtain ⟨ri, xi, f1, _, _⟩ := hM.row hi
    have hpo : ∀ H', Kp o H H' → SqL K H' p us → True := fun _ _ _ => trivial
    walk_at "gs"
    refine g_ixL (so.seq hp) (atI_nat e1) ?_
    walk_at "gs"
    refine g_ixL (so.seq hp) (atI_nat f1) ?_
    walk_at "gs"
    refine g_newT (by show 2 ≤ 1000000; decide) fun q hq => ?_
    have eo := (up_same (o := .tup [.ref rk, .ref ri]) hq) _ _ (upd_same : upd H o (.lst us) o = some (.lst us))
    refine ⟨q, _, rfl, SqT.of upd_same, rfl, _, _, rfl, ?_⟩
    walk_at "gs"
    refine g_setL eo (ixN_of (by rw [hM.len]; exact hi)) ?_
    refine ⟨_, _, rfl, ?_⟩
    walk_at "gs"
    refine g_setL upd_same (ixN_of (by rw [List.length_set, hM.len]; exact hk)) ?_
    refine ⟨rfl, ?_⟩
    walk_at "gs"
    have sA : Same H (upd (upd (upd (upd H o (.lst us)) q (.tup [.ref rk, .ref ri])) o (.lst (us.set i (.ref rk)))) o (.lst ((us.set i (.ref rk)).set k (.ref ri)))) := fun b x hb => by
      rw [upd_ne (ne_of_none hb ho), upd_ne (ne_of_none hb ho)]
      exact (up_same hq) _ _ (so _ _ hb)
    exact q2 _ _ sA ⟨o, _, rfl, SqL.of upd_same, (hM.same sA).swp hi hk e1 f1⟩
theorem ok_cleared (T : Txt K mg A) : FnOk P w K mg base CX0 4 A.f_cleared A.fd_cleared ["row", "pivot", "column"] (spCleared K) := by
  have G_minus := ok_minus (P := P) (w := w) (base := base) T
  have G_times := ok_times (P := P) (w := w) (base := base) T
  have G_over := ok_over (P := P) (w := w) (base := base) T
  have nd := sc_cleared.nd
  refine T.F_cleared.ok sc_cleared (fun vs H Q E h => ?_) (fun cdv Ar outer s H vs Q E hr h => ?_)
  · obtain ⟨v, u, r, p, a, b, rfl, _⟩ := h
    rfl
  · obtain ⟨v, u, r, p, a, b, rfl, ⟨rp, rxs, rfl, hr1, hr2⟩, ⟨pp, px, rfl, hp1, hp2⟩, hlen, ha, hl, hne, hb, hbd, k⟩ := h
    refine ⟨_, (pss_cons (ps_if (pt_cmpR (op_eqDK (K := K) rfl hr.units) (pe_ix (ix_listK (K := K) rfl) (pv 0) (pv 2) (fun _ _ => rfl)) (pe_glob (v := .ref A.z_ZERO) (by rfl) T.c_ZERO rfl) (nomark _)) (pss_one (ps_ret (pv 0))) pss_nil) (pss_cons (ps_set (i := 3) nd rfl (Or.inr rfl) (pe_call (E := E0) G_over (hr.mono (by decide)) (by rfl) T.g_over T.F_over.kp T.b_over .nil passL (pa_cons (pe_ix (ix_listK (K := K) rfl) (pv 0) (pv 2) (fun _ _ => rfl)) (pa_cons (pe_ix (ix_listK (K := K) rfl) (pv 1) (pv 2) (fun _ _ => rfl)) pa_nil)))) (pss_one (ps_ret (pe_lc (own := [("value", 4), ("part", 5)])  (tt := tYes) rfl nd (pi_zipK (K := K) rfl (by rfl) T.n_zip (pa_cons (pv 0) (pa_cons (pv 1) pa_nil))) (blkOk_by (N := ["row", "pivot", "column", "share", "value", "part"]) (sc := defScope s_cleared) (by decide +kernel)) (fun _ _ _ _ _ => (pg_tupK (K := K) (n := 2) rfl rfl (pgs_cons (pg_name (i := 4) nd rfl (by first | exact Or.inl rfl | exact Or.inr rfl)) (pgs_cons (pg_name (i := 5) nd rfl (by first | exact Or.inl rfl | exact Or.inr rfl)) pgs_nil)))) (fun _ _ _ _ _ => pts_nil) (fun _ _ _ _ _ => (pe_call (E := E0) G_minus (hr.mono (by decide)) (by rfl) T.g_minus T.F_minus.kp T.b_minus .nil pass0 (pa_cons (pv 4) (pa_cons (pe_call (E := E0) G_times (hr.mono (by decide)) (by rfl) T.g_times T.F_times.kp T.b_times .nil pass0 (pa_cons (pv 3) (pa_cons (pv 5) pa_nil))) pa_nil))))))))), ?_⟩
    walk_at "gs"
    obtain ⟨x, ex, rx⟩ := hr2.ent ha
    obtain ⟨y, ey, ry⟩ := hp2.ent (show a < p.length by omega)
    have hc : ∀ j, Rz.ent (clr r p a) j = Rz.ent r j + (- (Rz.ent r a / Rz.ent p a)) * Rz.ent p j := fun j => ent_clr hlen
    refine g_ixL hr1 (atI_nat ex) ?_
    walk_at "gs"
    refine g_eqRat rx (ratZ T _) ?_
    walk_at "gs"
    refine if_2 (fun e => ?_) (fun e => ?_)
    · have hz := of_decide_eq_true e
      walk_at "gs"
      have e2 : clr r p a = r := by
        unfold clr
        rw [if_pos hz]
      have h2 : RowV K H (.ref rp) (clr r p a) := ⟨rp, rxs, rfl, hr1, by rw [e2]; exact hr2⟩
      exact k _ _ (Same.refl _) h2 (.inl ⟨rfl, e2⟩)
    · have hz := of_decide_eq_false e
      walk_at "gs"
      refine g_ixL hr1 (atI_nat ex) ?_
      walk_at "gs"
      refine g_ixL hp1 (atI_nat ey) ?_
      walk_at "gs"
      refine ⟨_, _, _, _, b, b, rfl, rx, ry, (hbd a ha).1, (hbd a ha).2, by omega, fun z => absurd z hne, fun _ sh H1 s1 hsh => ?_⟩
      walk_at "gs"
      refine g_lcZ ?_
      walk_at "gs"
      refine lc_zip (s1.seq hr1) (s1.seq hp1) (by rw [hr2.len, hp2.len, hlen]) (fun l i acc H' => Same H1 H' ∧ H' l = some (.lst acc) ∧ Rats K H' acc ((clr r p a).take i)) (fun l hl => ⟨up_same hl, upd_same, by rw [List.take_zero]; exact Rats.nil⟩) (fun l i acc H' _ h => ⟨h.1.seq (s1.seq hr1), h.1.seq (s1.seq hp1)⟩) ?_ ?_
      · rintro l i v1 v2 T' acc H2 hl hv1 hv2 ⟨sm2, el, hacc⟩ hT
        have hi : i < r.length := by
          rw [← hr2.len]
          exact (List.getElem?_eq_some_iff.mp hv1).1
        have sT := up_same (H := H2) (o := .tup [v1, v2]) hT
        have sm3 := s1.trans (sm2.trans sT)
        obtain ⟨x', ex', rx'⟩ := hr2.ent hi
        obtain ⟨y', ey', ry'⟩ := hp2.ent (show i < p.length by omega)
        rw [hv1] at ex'
        cases ex'
        rw [hv2] at ey'
        cases ey'
        refine ⟨T', _, rfl, SqT.of upd_same, rfl, _, _, rfl, _, _, rfl, rfl, rfl, ?_⟩
        walk_at "gs"
        refine ⟨_, _, _, _, b + b, b, rfl, (hsh.same sm2).same sT, ry'.same sm3, (hbd a ha).1.div (hbd a ha).2 hne, (hbd i hi).2, by omega, fun w1 H3 s3 hw1 => ?_⟩
        walk_at "gs"
        refine ⟨_, _, _, _, b, b + b + b, rfl, (rx'.same sm3).same s3, hw1, (hbd i hi).1, ((hbd a ha).1.div (hbd a ha).2 hne).mul (hbd i hi).2, by omega, fun w2 H4 s4 hw2 => ?_⟩
        have sA := sT.trans (s3.trans s4)
        have el4 := sA _ _ el
        have hil : i < (clr r p a).length := by
          rw [clr_len hlen]
          exact hi
        refine lcN_of el4 (by rw [hacc.len, List.length_take]; omega) ⟨fun b o h => ?_, upd_same, ?_⟩
        · rw [upd_ne (ne_of_none h hl)]
          exact sA _ _ (sm2 _ _ h)
        · rw [List.take_succ, List.getElem?_eq_getElem hil]
          refine ((hacc.same sA).snoc (q := (clr r p a)[i]) ?_).kp Kp.upd el4
          have e2 := hc i
          unfold Rz.ent at e2
          rw [List.getD_eq_getElem?_getD, List.getElem?_eq_getElem hil, Option.getD_some] at e2
          rw [e2]
          have : (r.getD i 0 + -(r.getD a 0 / p.getD a 0) * p.getD i 0) = r.getD i 0 - r.getD a 0 / p.getD a 0 * p.getD i 0 := by grind
          rw [this]
          exact hw2
      · rintro l acc H2 hl ⟨sm2, el, hacc⟩
        rw [hr2.len, ← clr_len (a := a) hlen, List.take_length] at hacc
        exact k _ _ (s1.trans sm2) ⟨l, acc, rfl, SqL.of el, hacc⟩ (.inr ⟨l, rfl, s1.free hl⟩)
theorem ok_determinant (T : Txt K mg A) : FnOk P w K mg base CX0 5 A.f_determinant A.fd_determinant ["rows"] (spDet K) := by
  have G_times := ok_times (P := P) (w := w) (base := base) T
  have G_opposite := ok_opposite (P := P) (w := w) (base := base) T
  have G_pivot_place := ok_pivot_place (P := P) (w := w) (base := base) T
  have G_swapped := ok_swapped (P := P) (w := w) (base := base) T
  have G_cleared := ok_cleared (P := P) (w := w) (base := base) T
  have nd := sc_determinant.nd
  refine T.F_determinant.ok sc_determinant (fun vs H Q E h => ?_) (fun cdv Ar outer s H vs Q E hr h => ?_)
  · obtain ⟨v, m, n, L, B, kb, rfl, _⟩ := h
    rfl
  · obtain ⟨v, m, n, L, B, kb, rfl, ⟨p, us, rfl, hp, hM⟩, hl, hn, hwd, hsm, hkb, k⟩ := h
    refine ⟨_, (pss_cons (ps_set (i := 1) nd rfl (Or.inl rfl) (pe_glob (v := .ref A.z_ONE) (by rfl) T.c_ONE rfl)) (pss_cons (ps_set (i := 2) nd rfl (Or.inr rfl) (pe_lc (own := [("row", 5)]) (g := gName 5) (tt := tYes) rfl nd (pi_listK (K := K) rfl (pv 0)) (blkOk_by (N := ["rows", "value", "work", "at", "found", "row", "k"]) (sc := defScope s_determinant) (by decide +kernel)) (fun _ _ _ _ _ => pg_name (i := 5) nd rfl (by first | exact Or.inl rfl | exact Or.inr rfl)) (fun _ _ _ _ _ => pts_nil) (fun _ _ _ _ _ => (pe_callTy (zc_listK (K := K) rfl) (by rfl) T.n_list (by decide +kernel) (pa_cons (pv 5) pa_nil))))) (pss_cons (ps_for PassesOwn.never rfl (pi_range1 (by rfl) T.n_range (pa_cons (pe_callB (zc_lenK (K := K) rfl) (by rfl) T.n_len (by decide +kernel) (pa_cons (pv 0) pa_nil)) pa_nil)) (pg_name (i := 3) nd rfl (Or.inr rfl)) (pss_cons (ps_set (i := 4) nd rfl (Or.inl rfl) (pe_call (E := E0) G_pivot_place (hr.mono (by decide)) (by rfl) T.g_pivot_place T.F_pivot_place.kp T.b_pivot_place .nil pass0 (pa_cons (pv 2) (pa_cons (pv 3) pa_nil)))) (pss_cons (ps_if (pt_cmpR zo_isN (pv 4) pe_non (nomark _)) (pss_one (ps_ret (pe_glob (v := .ref A.z_ZERO) (by rfl) T.c_ZERO rfl))) pss_nil) (pss_cutZ (ps_if (pt_cmpR op_ne (pv 4) (pv 3) (nomark _)) (pss_one (ps_set (i := 1) nd rfl (Or.inl rfl) (pe_call (E := E0) G_opposite (hr.mono (by decide)) (by rfl) T.g_opposite T.F_opposite.kp T.b_opposite .nil pass0 (pa_cons (pv 1) pa_nil)))) pss_nil) (pss_cons (ps_set (i := 2) nd rfl (Or.inr rfl) (pe_call (E := E0) G_swapped (hr.mono (by decide)) (by rfl) T.g_swapped T.F_swapped.kp T.b_swapped .nil pass0 (pa_cons (pv 2) (pa_cons (pv 3) (pa_cons (pv 4) pa_nil))))) (pss_cons (ps_set (i := 1) nd rfl (Or.inl rfl) (pe_call (E := E0) G_times (hr.mono (by decide)) (by rfl) T.g_times T.F_times.kp T.b_times .nil pass0 (pa_cons (pv 1) (pa_cons (pe_ix (ix_listK (K := K) rfl) (pe_ix (ix_listK (K := K) rfl) (pv 2) (pv 3) (fun _ _ => rfl)) (pv 3) (fun _ _ => rfl)) pa_nil)))) (pss_one (ps_set (i := 2) nd rfl (Or.inr rfl) (pe_lc (own := [("k", 6), ("row", 5)])  (tt := tYes) rfl nd (pi_enumLK (K := K) rfl (by rfl) T.n_enumerate (pa_cons (pv 2) pa_nil)) (blkOk_by (N := ["rows", "value", "work", "at", "found", "row", "k"]) (sc := defScope s_determinant) (by decide +kernel)) (fun _ _ _ _ _ => (pg_tupK (K := K) (n := 2) rfl rfl (pgs_cons (pg_name (i := 6) nd rfl (by first | exact Or.inl rfl | exact Or.inr rfl)) (pgs_cons (pg_name (i := 5) nd rfl (by first | exact Or.inl rfl | exact Or.inr rfl)) pgs_nil)))) (fun _ _ _ _ _ => pts_nil) (fun _ _ _ _ _ => (pe_ifExp (pt_cmpR op_gt (pv 6) (pv 3) (nomark _)) (pe_call (E := E0) G_cleared (hr.mono (by decide)) (by rfl) T.g_cleared T.F_cleared.kp T.b_cleared .nil pass0 (pa_cons (pv 5) (pa_cons (pe_ix (ix_listK (K := K) rfl) (pv 2) (pv 3) (fun _ _ => rfl)) (pa_cons (pv 3) pa_nil)))) (pv 5)))))))))))) (pss_one (ps_ret (pv 1)))))), ?_⟩
    walk_at "gs"
    refine copy_rows hp hM (by omega) (fun _ => rfl) (fun _ => rfl) fun l0 us0 H1 sm1 hl0 el0 hM1 => ?_
    have hln : (us.length : Int) = (n : Int) := by rw [hM.len, hl]
    walk_at "gs"
    refine g_lenL (sm1.seq hp) ?_
    refine g_rng n hln (by omega) (fun i σ' H' => ∃ (val wv : V) (u3 u4 : Option V) (O W : Mat) (ep : Rat), σ' = [some (.ref p), some val, some wv, u3, u4, none, none] ∧ Same H1 H' ∧ MatV K H' wv W ∧ Gs n n O W i ∧ Wide n W ∧ Small n n L B kb O ∧ (ep = 1 ∨ ep = -1) ∧ det n O = ep * det n m ∧
      RatV K H' val (ep * prodN i fun t => ent (rw' W t) t)) ⟨.ref A.z_ONE, .ref l0, none, none, m, m, 1, rfl, Same.refl _, ⟨l0, us0, rfl, SqL.of el0, hM1⟩, .start hl, hwd, hsm, .inl rfl, by grind, ?_⟩ ?_ ?_
    · rw [show (1 : Rat) * prodN 0 (fun t => ent (rw' m t) t) = 1 by simp only [prodN]; grind]
      exact ⟨_, rfl, T.q_ONE H1⟩
    · rintro i σ' H2 hi ⟨val, wv, u3, u4, O, W, ep, rfl, sm2, hW, hG, hwW, hSm, hep, hdet, hval⟩
      have hWl := hG.lw
      have hep2 : ep * ep = 1 := by
        rcases hep with rfl | rfl <;> grind
      walk_at "gs"
      refine ⟨wv, W, i, rfl, hW, by omega, by omega, fun k hk => by rw [hwW k hk]; exact hi, fun f hf1 hf2 hf3 => ?_, fun hz => ?_⟩
      · have hfn : f < n := by omega
        walk_at "gs"
        refine if_f rfl ?_
        walk_at "gs"
        -- the sign
        refine g_cut (fun σ' H' => ∃ (val' : V) (ep' : Rat), σ' = [some (.ref p), some val', some wv, some (.int (i : Int)), some (.int (f : Int)), none, none] ∧ Same H2 H' ∧ (ep' = 1 ∨ ep' = -1) ∧ det n (swp O i f) = ep' * det n m ∧ RatV K H' val' (ep' * prodN i fun t => ent (rw' W t) t)) ?_ ?_
        · walk_at "gs"
          rw [Rz.dec_int]
          refine if_2 (fun e => ?_) (fun e => ?_)
          · have hne : ¬ (f : Int) = (i : Int) := fun z => by
              rw [decide_eq_true z] at e
              cases e
            walk_at "gs"
            refine ⟨_, _, rfl, hval, fun v' H3 sm3 hv3 => ?_⟩
            walk_at "gs"
            refine ⟨v', -ep, rfl, sm3, ?_, ?_, ?_⟩
            · rcases hep with rfl | rfl
              · exact .inr rfl
              · exact .inl (by grind)
            · rw [det_swap (by omega) hfn hG.lo, hdet]
              grind
            · rw [show -ep * (prodN i fun t => ent (rw' W t) t) = -(ep * prodN i fun t => ent (rw' W t) t) by grind]
              exact hv3
          · have heq : f = i := by
              by_cases z : (f : Int) = (i : Int)
              · omega
              · rw [decide_eq_false z] at e
                cases e
            subst heq
            walk_at "gs"
            refine ⟨val, ep, rfl, Same.refl _, hep, ?_, hval⟩
            rw [swp_self (by rw [hG.lo]; exact hi)]
            exact hdet
        rintro σ' H3 ⟨val', ep', rfl, sm3, hep', hdet', hval'⟩
        have hG2 := hG.swap hf1 hfn
        have hwW2 := hwW.swp (a := i) (f := f) (by omega) (by omega)
        have hSm2 := hSm.swp (a := i) (f := f) hG.lo hi hfn
        have hpiv : ent (rw' (swp W i f) i) i ≠ 0 := by
          rw [rw_swp (by omega) (by omega)]
          by_cases z : i = f
          · rw [if_pos z, z]
            rw [← z] at hf3 ⊢
            exact hf3
          · rw [if_neg z, if_pos rfl]
            exact hf3
        walk_at "gs"
        refine ⟨wv, W, i, f, rfl, hW.same sm3, by omega, by omega, by omega, fun wv2 H4 sm4 hW2 => ?_⟩
        obtain ⟨wp, wus, rfl, hwp, hwM⟩ := hW2
        have hl2 : (swp W i f).length = n := hG2.lw
        obtain ⟨rp, rxs, er, hr1, hr2⟩ := hwM.row (i := i) (by omega)
        obtain ⟨x, ex, rx⟩ := hr2.ent (j := i) (by rw [hwW2 i (by omega)]; exact hi)
        walk_at "gs"
        refine g_ixL hwp (atI_nat er) ?_
        walk_at "gs"
        refine g_ixL hr1 (atI_nat ex) ?_
        walk_at "gs"
        have hprod : (prodN i fun t => ent (rw' W t) t) = prodN i fun t => ent (rw' (swp W i f) t) t := prodN_congr fun t ht => by rw [rw_swp (by omega) (by omega), if_neg (by omega), if_neg (by omega)]
        have bprod := hG2.leadBd hSm2 (m := i) (Nat.le_refl _) (by omega) (by omega)
        have bval : Bd kb (ep' * prodN i fun t => ent (rw' W t) t) := by
          rw [hprod]
          rcases hep' with rfl | rfl
          · rw [Rat.one_mul]
            exact bprod
          · rw [show (-1 : Rat) * (prodN i fun t => ent (rw' (swp W i f) t) t) = - prodN i fun t => ent (rw' (swp W i f) t) t by grind]
            exact bprod.neg
        refine ⟨_, _, _, _, kb, kb + kb, rfl, hval'.same sm4, rx, bval, hG2.bd hSm2 hi hi (by omega), by omega, fun val2 H5 sm5 hval2 => ?_⟩
        have hG3 := hG2.clear hwW2 hi hi hpiv
        have hl3 : (clrG (swp W i f) i).length = n := hG3.lw
        walk_at "gs"
        refine g_lcE ?_
        walk_at "gs"
        refine en_rows (m := swp W i f) (m' := clrG (swp W i f) i) (sm5.seq hwp) (hwM.same sm5) (by omega) (by omega) ?_ ?_
        · intro j v T' H6 Qk sm6 hv hj hT hQ
          have hjn : j < n := by omega
          have sT := up_same (H := H6) (o := .tup [.int (j : Int), v]) hT
          have s56 := sm5.trans (sm6.trans sT)
          refine ⟨T', _, rfl, SqT.of upd_same, rfl, _, _, rfl, _, _, rfl, rfl, rfl, ?_⟩
          walk_at "gs"
          have hrj : rw' (clrG (swp W i f) i) j = if i < j then clr (rw' (swp W i f) j) (rw' (swp W i f) i) i else rw' (swp W i f) j := by
            unfold clrG
            rw [rw_mkM hj]
          have hv5 : RowV K H5 v (rw' (swp W i f) j) := ((hwM.at_ j v hv)).same sm5
          refine if_2 (fun e => ?_) (fun e => ?_)
          · have hij := of_decide_eq_true e
            rw [hrj, if_pos (by omega)] at hQ
            walk_at "gs"
            refine g_ixL (s56.seq hwp) (atI_nat er) ?_
            walk_at "gs"
            refine ⟨v, .ref rp, rw' (swp W i f) j, rw' (swp W i f) i, i, kb + kb, rfl, (hv5.same sm6).same sT, ⟨rp, rxs, rfl, s56.seq hr1, hr2.same s56⟩, by rw [hwW2 j (by omega), hwW2 i (by omega)], by rw [hwW2 j (by omega)]; exact hi, by rw [hwW2 j (by omega)]; omega, hpiv, by omega, fun q hq => ?_, fun w1 H7 sm7 hw1 hm7 => ?_⟩
            · rw [hwW2 j (by omega)] at hq
              exact ⟨hG2.bd hSm2 hjn hq (by omega), hG2.bd hSm2 hi hq (by omega)⟩
            · refine hQ w1 H7 (sT.trans sm7) hw1 ?_
              rcases hm7 with ⟨rfl, z⟩ | ⟨q, rfl, hq⟩
              · rw [z]
                exact .inl hv5
              · exact .inr ⟨q, rfl, sT.free hq⟩
          · have hij := of_decide_eq_false e
            rw [hrj, if_neg (by omega)] at hQ
            walk_at "gs"
            exact hQ v _ sT ((hv5.same sm6).same sT) (.inl hv5)
        · intro l3 us3 H6 sm6 el3 hM3
          refine ⟨val2, .ref l3, _, _, swp O i f, clrG (swp W i f) i, ep', rfl, sm2.trans (sm3.trans (sm4.trans (sm5.trans sm6))), ⟨l3, us3, rfl, SqL.of el3, hM3⟩, hG3, hwW2.clrG (by omega), hSm2, hep', hdet', ?_⟩
          have e1 : (ep' * prodN (i + 1) fun t => ent (rw' (clrG (swp W i f) i) t) t) = (ep' * prodN i fun t => ent (rw' W t) t) * ent (rw' (swp W i f) i) i := by
            simp only [prodN]
            rw [clrG_same (Nat.le_refl _) (by omega), prodN_congr (g := fun t => ent (rw' W t) t) fun t ht => by rw [clrG_same (by omega) (by omega), rw_swp (by omega) (by omega), if_neg (by omega), if_neg (by omega)]]
            grind
          rw [e1]
          exact hval2.same sm6
      · have hd0 := hG.none hi (Nat.le_refl _) fun k hk hkn => hz k hk (by omega)
        have hdm : det n m = 0 := by
          rw [hd0] at hdet
          have : ep * (ep * det n m) = 0 := by
            rw [← hdet]
            grind
          grind
        walk_at "gs"
        refine if_t rfl ?_
        walk_at "gs"
        refine k _ _ (sm1.trans sm2) ?_
        rw [hdm]
        exact ratZ T _
    · rintro σ' H2 ⟨val, wv, u3, u4, O, W, ep, rfl, sm2, hW, hG, hwW, hSm, hep, hdet, hval⟩
      have hep2 : ep * ep = 1 := by
        rcases hep with rfl | rfl <;> grind
      have hld := hG.lead (m := n) (Nat.le_refl _) (Nat.le_refl _) (Nat.le_refl _)
      have hO : det n (mkM n fun t => Rz.sel n id (rw' O t)) = det n O := det_ent fun i j hi hj => by
        rw [rw_mkM hi, ent_sel hj]
        rfl
      walk_at "gs"
      refine k _ _ (sm1.trans sm2) ?_
      rw [← hld, hO, hdet, show ep * (ep * det n m) = det n m by grind] at hval
      exact hval
end

section
variable {P : Program} {w : World} {K : PySem.W.Frag} {mg : Str → Option Value} {base : Heap} {A : Ads}
theorem ok_l_pick (T : Txt K mg A) : FnOk P w K mg base CX0 1 A.f_l_pick A.fd_l_pick ["state", "limit"] spPick := by
  have nd := sc_l_pick.nd
  refine T.F_l_pick.ok sc_l_pick (fun vs H Q E h => ?_) (fun cdv Ar outer s H vs Q E hr h => ?_)
  · obtain ⟨S, c, lim, rfl, _⟩ := h
    rfl
  · obtain ⟨S, c, lim, rfl, ⟨ncS, i, h, n, cs, eS, ec, hi, hh⟩, hl, hl2, k⟩ := h
    refine ⟨_, (pss_cons (ps_asg (pe_op op_add (pe_ix (ix_listK (K := K) rfl) (pv 0) pe_int (fun _ _ => rfl)) pe_int) (pg_sub (pv 0) pe_int set_list)) (pss_cons (ps_if (pt_cmpR op_gt (pe_ix (ix_listK (K := K) rfl) (pv 0) pe_int (fun _ _ => rfl)) pe_int (nomark _)) (pss_cons (ps_set (i := 2) nd rfl (Or.inl rfl) (pe_op op_modN (pe_callTy zc_int (by rfl) T.n_int (by decide +kernel) (pa_cons (pe_ix (ix_listK (K := K) rfl) (pv 0) pe_int (fun _ _ => rfl)) pa_nil)) (pv 1))) (pss_cons (ps_asg (pe_op op_fdivZ (pe_ix (ix_listK (K := K) rfl) (pv 0) pe_int (fun _ _ => rfl)) (pv 1)) (pg_sub (pv 0) pe_int set_list)) (pss_one (ps_ret (pv 2))))) pss_nil) (pss_cons (ps_set (i := 3) nd rfl (Or.inl rfl) pe_int) (pss_cutZ (ps_if (pt_cmpR op_lt (pe_ix (ix_listK (K := K) rfl) (pv 0) pe_int (fun _ _ => rfl)) (pe_callB (zc_lenK (K := K) rfl) (by rfl) T.n_len (by decide +kernel) (pa_cons (pe_ix (ix_listK (K := K) rfl) (pv 0) pe_int (fun _ _ => rfl)) pa_nil)) (nomark _)) (pss_one (ps_set (i := 3) nd rfl (Or.inl rfl) (pe_ix (ix_listK (K := K) rfl) (pe_ix (ix_listK (K := K) rfl) (pv 0) pe_int (fun _ _ => rfl)) (pe_ix (ix_listK (K := K) rfl) (pv 0) pe_int (fun _ _ => rfl)) (fun _ _ => rfl)))) pss_nil) (pss_cons (ps_asg (pe_op op_add (pe_ix (ix_listK (K := K) rfl) (pv 0) pe_int (fun _ _ => rfl)) pe_int) (pg_sub (pv 0) pe_int set_list)) (pss_cons (ps_if (pt_cmpR op_ge (pv 3) (pe_op op_pow pe_int pe_int) (nomark _)) (pss_cons (ps_asg (pe_op op_fdivZ (pv 3) (pv 1)) (pg_sub (pv 0) pe_int set_list)) (pss_one (ps_ret (pe_op op_modN (pe_callTy zc_int (by rfl) T.n_int (by decide +kernel) (pa_cons (pv 3) pa_nil)) (pv 1))))) pss_nil) (pss_cons (ps_set (i := 4) nd rfl (Or.inl rfl) (pe_op op_modN (pe_callTy zc_int (by rfl) T.n_int (by decide +kernel) (pa_cons (pe_op op_add (pe_op op_mul (pe_op op_modN (pe_callTy zc_int (by rfl) T.n_int (by decide +kernel) (pa_cons (pe_op op_add (pe_op op_add (pe_op op_mul (pv 3) pe_int) (pe_op op_mul (pe_ix (ix_listK (K := K) rfl) (pv 0) pe_int (fun _ _ => rfl)) pe_int)) pe_int) pa_nil)) pe_int) pe_int) (pe_ix (ix_listK (K := K) rfl) (pv 0) pe_int (fun _ _ => rfl))) pa_nil)) pe_int)) (pss_one (ps_ret (pe_op op_modN (pe_callTy zc_int (by rfl) T.n_int (by decide +kernel) (pa_cons (pe_op op_fdivZ (pv 4) pe_int) pa_nil)) (pv 1))))))))))), ?_⟩
    have hne : lim ≠ 0 := by omega
    have hcd : ∀ x : Int, CDivZ x lim := fun x => ⟨hne, hl2⟩
    have c1 : H c = some (.lst (cs.map V.int)) := ec
    walk_at "gs"
    refine if_2 (fun e => ?_) (fun e => ?_)
    · walk_at "gs"
      refine g_I (hcd _) ?_
      walk_at "gs"
      refine k _ _ (Int.fmod_nonneg_of_pos _ hl) (Int.fmod_lt_of_pos _ hl) ?_ ?_
      · have h0 : 0 < h := of_decide_eq_true e
        refine ⟨ncS, i, h.fdiv lim, n + 1, cs, upd_same, ?_, hi, ?_⟩
        · rw [upd_ne ncS, upd_ne ncS]
          exact ec
        · rw [Int.fdiv_eq_ediv_of_nonneg _ (by omega)]
          exact Int.ediv_nonneg hh (by omega)
      · rw [upd_upd]
        exact Kp.upd
    · have e0 : h = 0 := by
        have := of_decide_eq_false e
        omega
      subst e0
      walk_at "gs"
      have hS1 : ∀ o : HO, (upd H S o) c = some (.lst (cs.map V.int)) := fun o => by
        rw [upd_ne ncS]
        exact ec
      have hL1 : ∀ o : HO, SqL K (upd H S o) c (cs.map V.int) := fun o => SqL.of (hS1 o)
      refine g_cut (fun σ' H' => ∃ cl : Int, σ' = [some (.ref S), some (.int lim), none, some (.int cl), none] ∧ H' = upd H S (.lst [.ref c, .int i, .int 0, .int (n + 1)])) ?_ ?_
      · walk_at "gs"
        refine g_lenL (hL1 _) ?_
        walk_at "gs"
        refine if_2 (fun e => ?_) (fun e => ?_)
        · have hlt := of_decide_eq_true e
          rw [List.length_map] at hlt
          obtain ⟨j, ej⟩ : ∃ j : Nat, i = (j : Int) := ⟨i.toNat, by omega⟩
          have hj : j < cs.length := by omega
          walk_at "gs"
          refine g_ixL (hL1 _) (v := .int (cs[j])) ?_ ?_
          · rw [ej]
            exact atI_nat (by rw [List.getElem?_map, List.getElem?_eq_getElem hj]; rfl)
          walk_at "gs"
          exact ⟨cs[j], rfl, rfl⟩
        · walk_at "gs"
          exact ⟨0, rfl, rfl⟩
      · rintro σ' H' ⟨cl, rfl, rfl⟩
        walk_at "gs"
        refine if_2 (fun e => ?_) (fun e => ?_)
        · have hbig : (10 : Int) ^ 18 ≤ cl := of_decide_eq_true e
          have hcl : 0 ≤ cl := Int.le_trans (by decide) hbig
          walk_at "gs"
          refine g_I (hcd _) ?_
          walk_at "gs"
          refine k _ _ (Int.fmod_nonneg_of_pos _ hl) (Int.fmod_lt_of_pos _ hl) ?_ ?_
          · refine ⟨ncS, i + 1, cl.fdiv lim, n + 1, cs, upd_same, ?_, by omega, ?_⟩
            · rw [upd_upd, upd_upd]
              exact hS1 _
            · rw [Int.fdiv_eq_ediv_of_nonneg _ (by omega)]
              exact Int.ediv_nonneg hcl (by omega)
          · rw [upd_upd, upd_upd]
            exact Kp.upd
        · walk_at "gs"
          refine k _ _ (Int.fmod_nonneg_of_pos _ hl) (Int.fmod_lt_of_pos _ hl) ?_ ?_
          · refine ⟨ncS, i + 1, 0, n + 1, cs, upd_same, ?_, by omega, by omega⟩
            rw [upd_upd]
            exact hS1 _
          · rw [upd_upd]
            exact Kp.upd
end

section
variable {P : Program} {w : World} {K : PySem.W.Frag} {mg : Str → Option Value} {base : Heap} {A : Ads}
theorem ok_l_gcd (T : Txt K mg A) : FnOk P w K mg base CX0 1 A.f_l_gcd A.fd_l_gcd ["left", "right"] spGcd := by
  have nd := sc_l_gcd.nd
  refine T.F_l_gcd.ok sc_l_gcd (fun vs H Q E h => ?_) (fun cdv Ar outer s H vs Q E hr h => ?_)
  · obtain ⟨a, b, rfl, _⟩ := h
    rfl
  · obtain ⟨a, b, rfl, ha, hb, k⟩ := h
    refine ⟨_, (pss_cons (ps_while PassesOwn.never (pt_cmpR op_ne (pv 1) pe_int (nomark _)) (pss_one (ps_par (i := 0) (j := 1) rfl nd rfl rfl (by decide) rfl rfl (pa_cons (pv 1) (pa_cons (pe_op op_modN (pe_callTy zc_int (by rfl) T.n_int (by decide +kernel) (pa_cons (pv 0) pa_nil)) (pv 1)) pa_nil)) (by rfl)))) (pss_one (ps_ret (pv 0)))), ?_⟩
    walk_at "gs"
    refine g_while (fun m σ H' => ∃ x y : Int, σ = [some (.int x), some (.int y)] ∧ 0 ≤ x ∧ 0 ≤ y ∧ gcdI x y = gcdI a b ∧ H' = H ∧ m = y.natAbs) _ ⟨a, b, rfl, ha, hb, rfl, rfl, rfl⟩ ?_
    rintro m σ H' ⟨x, y, rfl, hx, hy, eg, rfl, rfl⟩
    walk_at "gs"
    refine if_2 (fun e => ⟨_, fun _ _ h => h, ?_⟩) (fun e => ?_)
    · have hne : y ≠ 0 := by
        intro z
        rw [z] at e
        cases e
      walk_at "gs"
      have h1 := Int.fmod_nonneg_of_pos x (show 0 < y by omega)
      have h2 := Int.fmod_lt_of_pos x (show 0 < y by omega)
      exact ⟨_, by omega, y, x.fmod y, rfl, hy, h1, by rw [gcdI_step hx hy hne]; exact eg, rfl, rfl⟩
    · have he : y = 0 := by
        have h1 := of_decide_eq_true (show decide (V.int y = V.int 0) = true by simpa using e)
        exact V.int.inj h1
      subst he
      walk_at "gs"
      rw [gcdI_zero hx] at eg
      rw [eg]
      exact k
theorem ok_l_ratio (T : Txt K mg A) : FnOk P w K mg base CX0 2 A.f_l_ratio A.fd_l_ratio ["top", "bottom"] (spLRatio K) := by
  have G_l_gcd := ok_l_gcd (P := P) (w := w) (base := base) T
  have nd := sc_l_ratio.nd
  refine T.F_l_ratio.ok sc_l_ratio (fun vs H Q E h => ?_) (fun cdv Ar outer s H vs Q E hr h => ?_)
  · obtain ⟨a, b, rfl, _⟩ := h
    rfl
  · obtain ⟨a, b, rfl, hb, hsz, k⟩ := h
    refine ⟨_, (pss_cons (ps_set (i := 2) nd rfl (Or.inl rfl) (pe_call (E := E0) G_l_gcd (hr.mono (by decide)) (by rfl) T.g_l_gcd T.F_l_gcd.kp T.b_l_gcd .nil pass0 (pa_cons (pe_callB zc_abs (by rfl) T.n_abs (by decide +kernel) (pa_cons (pv 0) pa_nil)) (pa_cons (pe_callB zc_abs (by rfl) T.n_abs (by decide +kernel) (pa_cons (pv 1) pa_nil)) pa_nil)))) (pss_cutZ (ps_if (pt_cmpR op_lt (pv 1) pe_int (nomark _)) (pss_one (ps_set (i := 2) nd rfl (Or.inl rfl) (pe_un un_neg (pv 2)))) pss_nil) (pss_one (ps_ret (pe_tup (pa_cons (pe_op op_fdivZ (pv 0) (pv 2)) (pa_cons (pe_op op_fdivZ (pv 1) (pv 2)) pa_nil))))))), ?_⟩
    walk_at "gs"
    refine ⟨_, _, rfl, by split <;> omega, by split <;> omega, ?_⟩
    rw [abs_gcd]
    walk_at "gs"
    refine g_cut (fun σ' H' => σ' = [some (.int a), some (.int b), some (.int (comI a b))] ∧ H' = H) ?_ ?_
    · walk_at "gs"
      refine if_2 (fun e => ?_) (fun e => ?_)
      · walk_at "gs"
        refine ⟨?_, rfl⟩
        have := of_decide_eq_true e
        unfold comI
        rw [if_pos this]
        rfl
      · walk_at "gs"
        refine ⟨?_, rfl⟩
        have := of_decide_eq_false e
        unfold comI
        rw [if_neg this]
        rfl
    · rintro σ' H' ⟨rfl, rfl⟩
      have hc : ∀ x, CDivZ x (comI a b) := fun x => ⟨comI_ne hb, by
        rw [comI_abs]
        exact Nat.lt_of_le_of_lt (gcdI_le hb) hsz⟩
      walk_at "gs"
      refine g_I (hc _) ?_
      walk_at "gs"
      refine g_I (hc _) ?_
      walk_at "gs"
      rw [fdiv_num hb, fdiv_den hb]
      refine g_newT (by show 2 ≤ 1000000; decide) fun p hp => ?_
      exact k _ _ (up_same hp) RatV.new
end

section
variable {P : Program} {w : World} {K : PySem.W.Frag} {mg : Str → Option Value} {base : Heap} {A : Ads}
theorem ok_l_sub (T : Txt K mg A) : FnOk P w K mg base CX0 3 A.f_l_sub A.fd_l_sub ["left", "right"] (spBin K (fun p q => p - q)) := by
  have G_l_ratio := ok_l_ratio (P := P) (w := w) (base := base) T
  have nd := sc_l_sub.nd
  refine T.F_l_sub.ok sc_l_sub (fun vs H Q E h => ?_) (fun cdv Ar outer s H vs Q E hr h => ?_)
  · obtain ⟨x, y, p, q, n, m, rfl, _⟩ := h
    rfl
  · obtain ⟨x, y, p, q, n, m, rfl, ⟨px, rfl, hx⟩, ⟨py, rfl, hy⟩, bp, bq, hnm, k⟩ := h
    refine ⟨_, (pss_one (ps_ret (pe_call (E := E0) G_l_ratio (hr.mono (by decide)) (by rfl) T.g_l_ratio T.F_l_ratio.kp T.b_l_ratio .nil pass0 (pa_cons (pe_op op_sub (pe_op op_mulB (pe_ix (ix_tupK (K := K) rfl) (pv 0) pe_int (fun _ _ => rfl)) (pe_ix (ix_tupK (K := K) rfl) (pv 1) pe_int (fun _ _ => rfl))) (pe_op op_mulB (pe_ix (ix_tupK (K := K) rfl) (pv 1) pe_int (fun _ _ => rfl)) (pe_ix (ix_tupK (K := K) rfl) (pv 0) pe_int (fun _ _ => rfl)))) (pa_cons (pe_op op_mulB (pe_ix (ix_tupK (K := K) rfl) (pv 0) pe_int (fun _ _ => rfl)) (pe_ix (ix_tupK (K := K) rfl) (pv 1) pe_int (fun _ _ => rfl))) pa_nil))))), ?_⟩
    have m0 : CMulB p.num (q.den : Int) := mulB_of (a := n) (b := m) bp.1 bq.2 (by omega)
    have m1 : CMulB q.num (p.den : Int) := mulB_of (a := m) (b := n) bq.1 bp.2 (by omega)
    have m2 : CMulB (p.den : Int) (q.den : Int) := mulB_of (a := n) (b := m) bp.2 bq.2 (by omega)
    walk_at "gs"
    refine ⟨_, _, rfl, den_mul_ne p q, lt9000 (n := n + m) (abs_mul_lt (x := (p.den : Int)) (y := (q.den : Int)) bp.2 bq.2) (by omega), fun v H' sm hv => ?_⟩
    rw [rat_minus] at hv
    exact k v H' sm hv
theorem ok_l_mul (T : Txt K mg A) : FnOk P w K mg base CX0 3 A.f_l_mul A.fd_l_mul ["left", "right"] (spBin K (fun p q => p * q)) := by
  have G_l_ratio := ok_l_ratio (P := P) (w := w) (base := base) T
  have nd := sc_l_mul.nd
  refine T.F_l_mul.ok sc_l_mul (fun vs H Q E h => ?_) (fun cdv Ar outer s H vs Q E hr h => ?_)
  · obtain ⟨x, y, p, q, n, m, rfl, _⟩ := h
    rfl
  · obtain ⟨x, y, p, q, n, m, rfl, ⟨px, rfl, hx⟩, ⟨py, rfl, hy⟩, bp, bq, hnm, k⟩ := h
    refine ⟨_, (pss_one (ps_ret (pe_call (E := E0) G_l_ratio (hr.mono (by decide)) (by rfl) T.g_l_ratio T.F_l_ratio.kp T.b_l_ratio .nil pass0 (pa_cons (pe_op op_mulB (pe_ix (ix_tupK (K := K) rfl) (pv 0) pe_int (fun _ _ => rfl)) (pe_ix (ix_tupK (K := K) rfl) (pv 1) pe_int (fun _ _ => rfl))) (pa_cons (pe_op op_mulB (pe_ix (ix_tupK (K := K) rfl) (pv 0) pe_int (fun _ _ => rfl)) (pe_ix (ix_tupK (K := K) rfl) (pv 1) pe_int (fun _ _ => rfl))) pa_nil))))), ?_⟩
    have m0 : CMulB p.num q.num := mulB_of (a := n) (b := m) bp.1 bq.1 (by omega)
    have m1 : CMulB (p.den : Int) (q.den : Int) := mulB_of (a := n) (b := m) bp.2 bq.2 (by omega)
    walk_at "gs"
    refine ⟨_, _, rfl, den_mul_ne p q, lt9000 (n := n + m) (abs_mul_lt (x := (p.den : Int)) (y := (q.den : Int)) bp.2 bq.2) (by omega), fun v H' sm hv => ?_⟩
    rw [rat_times] at hv
    exact k v H' sm hv
theorem ok_l_div (T : Txt K mg A) : FnOk P w K mg base CX0 3 A.f_l_div A.fd_l_div ["left", "right"] (spDiv K) := by
  have G_l_ratio := ok_l_ratio (P := P) (w := w) (base := base) T
  have nd := sc_l_div.nd
  refine T.F_l_div.ok sc_l_div (fun vs H Q E h => ?_) (fun cdv Ar outer s H vs Q E hr h => ?_)
  · obtain ⟨x, y, p, q, n, m, rfl, _⟩ := h
    rfl
  · obtain ⟨x, y, p, q, n, m, rfl, ⟨px, rfl, hx⟩, ⟨py, rfl, hy⟩, bp, bq, hnm, hq, k⟩ := h
    refine ⟨_, (pss_one (ps_ret (pe_call (E := E0) G_l_ratio (hr.mono (by decide)) (by rfl) T.g_l_ratio T.F_l_ratio.kp T.b_l_ratio .nil pass0 (pa_cons (pe_op op_mulB (pe_ix (ix_tupK (K := K) rfl) (pv 0) pe_int (fun _ _ => rfl)) (pe_ix (ix_tupK (K := K) rfl) (pv 1) pe_int (fun _ _ => rfl))) (pa_cons (pe_op op_mulB (pe_ix (ix_tupK (K := K) rfl) (pv 0) pe_int (fun _ _ => rfl)) (pe_ix (ix_tupK (K := K) rfl) (pv 1) pe_int (fun _ _ => rfl))) pa_nil))))), ?_⟩
    have m0 : CMulB p.num (q.den : Int) := mulB_of (a := n) (b := m) bp.1 bq.2 (by omega)
    have m1 : CMulB (p.den : Int) q.num := mulB_of (a := n) (b := m) bp.2 bq.1 (by omega)
    walk_at "gs"
    refine ⟨_, _, rfl, den_num_ne hq, lt9000 (n := n + m) (abs_mul_lt (x := (p.den : Int)) (y := q.num) bp.2 bq.1) (by omega), fun v H' sm hv => ?_⟩
    rw [rat_over] at hv
    exact k v H' sm hv
end

section
variable {P : Program} {w : World} {K : PySem.W.Frag} {mg : Str → Option Value} {base : Heap} {A : Ads}
theorem ok_minor (T : Txt K mg A) : FnOk P w K mg base CX0 6 A.f_minor A.fd_minor ["table", "heads", "tails"] (spMinor K) := by
  have G_opposite := ok_opposite (P := P) (w := w) (base := base) T
  have G_determinant := ok_determinant (P := P) (w := w) (base := base) T
  have nd := sc_minor.nd
  refine T.F_minor.ok sc_minor (fun vs H Q E h => ?_) (fun cdv Ar outer s H vs Q E hr h => ?_)
  · obtain ⟨v, u, t, m, hs, ts, N, n, L, B, kb, rfl, _⟩ := h
    rfl
  · obtain ⟨v, u, t, m, hs, ts, N, n, L, B, kb, rfl, ⟨p, us, rfl, hp, hM⟩, ⟨q, rfl, hq⟩, ⟨r, rfl, hrr⟩, hS, hN, hF, hn, hn2, hsm, hkb, k⟩ := h
    refine ⟨_, (pss_one (ps_ret (pe_call (E := E0) G_determinant (hr.mono (by decide)) (by rfl) T.g_determinant T.F_determinant.kp T.b_determinant .nil pass0 (pa_cons (pe_lc (own := [("head", 3)]) (g := gName 3) (tt := tYes) rfl nd (pi_tupK (K := K) rfl (pv 1)) (blkOk_by (N := ["table", "heads", "tails", "head", "tail"]) (sc := defScope s_minor) (by decide +kernel)) (fun _ _ _ _ _ => pg_name (i := 3) nd rfl (by first | exact Or.inl rfl | exact Or.inr rfl)) (fun _ _ _ _ _ => pts_nil) (fun _ _ _ _ _ => (pe_lc (own := [("tail", 4)]) (g := gName 4) (tt := tYes) rfl nd (pi_tupK (K := K) rfl (pv 2)) (blkIn (N := ["table", "heads", "tails", "head", "tail"]) rfl (blkOk_by (N := ["table", "heads", "tails", "head", "tail"]) (by decide +kernel))) (fun _ _ _ _ _ => pg_name (i := 4) nd rfl (by first | exact Or.inl rfl | exact Or.inr rfl)) (fun _ _ _ _ _ => pts_nil) (fun _ _ _ _ _ => (pe_call (E := E0) G_opposite (hr.mono (by decide)) (by rfl) T.g_opposite T.F_opposite.kp T.b_opposite .nil pass0 (pa_cons (pe_ix (ix_tupK (K := K) rfl) (pe_ix (ix_tupK (K := K) rfl) (pv 0) (pe_op op_sub (pv 3) pe_int) (fun _ _ => rfl)) (pe_op op_sub (pv 4) pe_int) (fun _ _ => rfl)) pa_nil)))))) pa_nil)))), ?_⟩
    walk_at "gs"
    refine rows_lcT (negM m hs ts) hq (by rw [negM_len, ntS_len]) (by rw [ntS_len]; omega) (fun _ => rfl) ?_ ?_
    · intro i x H1 Q1 sm1 hx kk
      obtain ⟨hd, ehd, rfl⟩ := ntS_at hx
      have hh := hF.hd _ (List.mem_of_getElem? ehd)
      obtain ⟨rp, rxs, er, hr1, hr2⟩ := hM.row (i := hd - 1) (by rw [hS.len]; omega)
      walk_at "gs"
      refine rats_lcT (rw' (negM m hs ts) i) (Same.sqt sm1 hrr) (by rw [rw_negM ehd, List.length_map, ntS_len]) (by rw [ntS_len, ← hF.len]; omega) (fun _ => rfl) ?_ ?_
      · intro j y H2 Q2 sm2 hy kk2
        obtain ⟨tl, etl, rfl⟩ := ntS_at hy
        have ht := hF.tl _ (List.mem_of_getElem? etl)
        obtain ⟨e, ee, re⟩ := hr2.ent (j := tl - 1) (by rw [hS.wide _ (by omega)]; omega)
        have s12 := sm1.trans sm2
        walk_at "gs"
        refine g_ixT (Same.sqt s12 hp) (atI_pred hh.1 er) ?_
        walk_at "gs"
        refine g_ixT (Same.sqt s12 hr1) (atI_pred ht.1 ee) ?_
        walk_at "gs"
        refine ⟨_, _, rfl, re.same s12, fun v' H3 s3 hv => ?_⟩
        refine kk2 v' H3 s3 ?_
        have := ent_negM (m := m) ehd etl
        unfold Rz.ent at this
        rw [this]
        exact hv
      · intro l ys H2 sm2 hl el hrs
        exact kk l ys H2 sm2 hl el hrs
    · intro l us' H1 sm1 hl el hMl
      walk_at "gs"
      refine ⟨.ref l, negM m hs ts, n, L, B, kb, rfl, ⟨l, us', rfl, SqL.of el, hMl⟩, by rw [negM_len, hn], hn2, negM_wide (by rw [← hF.len, hn]), hsm, hkb, fun v' H2 s2 hv => ?_⟩
      exact k v' H2 (sm1.trans s2) hv
end

section
variable {P : Program} {w : World} {K : PySem.W.Frag} {mg : Str → Option Value} {base : Heap} {A : Ads}
theorem ok_l_det (T : Txt K mg A) : FnOk P w K mg base CX0 5 A.f_l_det A.fd_l_det ["rows"] (spDet K) := by
  have G_l_mul := ok_l_mul (P := P) (w := w) (base := base) T
  have G_l_sub := ok_l_sub (P := P) (w := w) (base := base) T
  have G_l_div := ok_l_div (P := P) (w := w) (base := base) T
  have nd := sc_l_det.nd
  refine T.F_l_det.ok sc_l_det (fun vs H Q E h => ?_) (fun cdv Ar outer s H vs Q E hr h => ?_)
  · obtain ⟨v, m, n, L, B, kb, rfl, _⟩ := h
    rfl
  · obtain ⟨v, m, n, L, B, kb, rfl, ⟨p, us, rfl, hp, hM⟩, hl, hn, hwd, hsm, hkb, k⟩ := h
    refine ⟨_, (pss_cutZ (ps_set (i := 0) nd rfl (Or.inr rfl) (pe_lc (own := [("row", 1)]) (g := gName 1) (tt := tYes) rfl nd (pi_listK (K := K) rfl (pv 0)) (blkOk_by (N := ["rows", "row", "whole", "at", "k", "found", "share", "j"]) (sc := defScope s_l_det) (by decide +kernel)) (fun _ _ _ _ _ => pg_name (i := 1) nd rfl (by first | exact Or.inl rfl | exact Or.inr rfl)) (fun _ _ _ _ _ => pts_nil) (fun _ _ _ _ _ => (pe_callTy (zc_listK (K := K) rfl) (by rfl) T.n_list (by decide +kernel) (pa_cons (pv 1) pa_nil))))) (pss_cutZ (ps_set (i := 2) nd rfl (Or.inl rfl) (pe_tup (pa_cons pe_int (pa_cons pe_int pa_nil)))) (pss_cutZ (ps_for PassesOwn.never rfl (pi_range1 (by rfl) T.n_range (pa_cons (pe_callB (zc_lenK (K := K) rfl) (by rfl) T.n_len (by decide +kernel) (pa_cons (pv 0) pa_nil)) pa_nil)) (pg_name (i := 3) nd rfl (Or.inr rfl)) (pss_cutZ (ps_setLc (i := 5) (own := [("k", 4)]) (g := gName 4)  rfl nd rfl rfl (sw_true rfl rfl rfl (by decide +kernel)) (pi_range2 (by rfl) T.n_range (pa_cons (pv 3) (pa_cons (pe_callB (zc_lenK (K := K) rfl) (by rfl) T.n_len (by decide +kernel) (pa_cons (pv 0) pa_nil)) pa_nil))) (blkOk_by (N := ["rows", "row", "whole", "at", "k", "found", "share", "j"]) (sc := defScope s_l_det) (by decide +kernel)) (fun _ _ _ _ _ => pg_name (i := 4) nd rfl (by first | exact Or.inl rfl | exact Or.inr rfl)) (fun _ _ _ _ _ => pts_one (pt_cmpR (op_neDK (K := K) rfl hr.units) (pe_ix (ix_listK (K := K) rfl) (pe_ix (ix_listK (K := K) rfl) (pv 0) (pv 4) (fun _ _ => rfl)) (pv 3) (fun _ _ => rfl)) (pe_tup (pa_cons pe_int (pa_cons pe_int pa_nil))) (nomark _))) (fun _ _ _ _ _ => (pv 4))) (pss_cutZ (ps_if (pt_cmpR (op_eqDK (K := K) rfl hr.units) (pv 5) (pe_lst pa_nil) (nomark _)) (pss_one (ps_ret (pe_tup (pa_cons pe_int (pa_cons pe_int pa_nil))))) pss_nil) (pss_cutZ (ps_if (pt_cmpR op_ne (pe_ix (ix_listK (K := K) rfl) (pv 5) pe_int (fun _ _ => rfl)) (pv 3) (nomark _)) (pss_cutZ (ps_set (i := 1) nd rfl (Or.inl rfl) (pe_ix (ix_listK (K := K) rfl) (pv 0) (pv 3) (fun _ _ => rfl))) (pss_cutZ (ps_asg (pe_ix (ix_listK (K := K) rfl) (pv 0) (pe_ix (ix_listK (K := K) rfl) (pv 5) pe_int (fun _ _ => rfl)) (fun _ _ => rfl)) (pg_sub (pv 0) (pv 3) set_list)) (pss_cutZ (ps_asg (pv 1) (pg_sub (pv 0) (pe_ix (ix_listK (K := K) rfl) (pv 5) pe_int (fun _ _ => rfl)) set_list)) (pss_one (ps_set (i := 2) nd rfl (Or.inl rfl) (pe_tup (pa_cons (pe_un un_neg (pe_ix (ix_tupK (K := K) rfl) (pv 2) pe_int (fun _ _ => rfl))) (pa_cons (pe_ix (ix_tupK (K := K) rfl) (pv 2) pe_int (fun _ _ => rfl)) pa_nil)))))))) pss_nil) (pss_cutZ (ps_set (i := 2) nd rfl (Or.inl rfl) (pe_call (E := E0) G_l_mul (hr.mono (by decide)) (by rfl) T.g_l_mul T.F_l_mul.kp T.b_l_mul .nil pass0 (pa_cons (pv 2) (pa_cons (pe_ix (ix_listK (K := K) rfl) (pe_ix (ix_listK (K := K) rfl) (pv 0) (pv 3) (fun _ _ => rfl)) (pv 3) (fun _ _ => rfl)) pa_nil)))) (pss_one (ps_for PassesOwn.never rfl (pi_range2 (by rfl) T.n_range (pa_cons (pe_op op_add (pv 3) pe_int) (pa_cons (pe_callB (zc_lenK (K := K) rfl) (by rfl) T.n_len (by decide +kernel) (pa_cons (pv 0) pa_nil)) pa_nil))) (pg_name (i := 4) nd rfl (Or.inr rfl)) (pss_cutZ (ps_set (i := 6) nd rfl (Or.inr rfl) (pe_call (E := E0) G_l_div (hr.mono (by decide)) (by rfl) T.g_l_div T.F_l_div.kp T.b_l_div .nil pass0 (pa_cons (pe_ix (ix_listK (K := K) rfl) (pe_ix (ix_listK (K := K) rfl) (pv 0) (pv 4) (fun _ _ => rfl)) (pv 3) (fun _ _ => rfl)) (pa_cons (pe_ix (ix_listK (K := K) rfl) (pe_ix (ix_listK (K := K) rfl) (pv 0) (pv 3) (fun _ _ => rfl)) (pv 3) (fun _ _ => rfl)) pa_nil)))) (pss_one (ps_asg (pe_lc (own := [("j", 7)]) (g := gName 7) (tt := tYes) rfl nd (pi_range1 (by rfl) T.n_range (pa_cons (pe_callB (zc_lenK (K := K) rfl) (by rfl) T.n_len (by decide +kernel) (pa_cons (pv 0) pa_nil)) pa_nil)) (blkOk_by (N := ["rows", "row", "whole", "at", "k", "found", "share", "j"]) (sc := defScope s_l_det) (by decide +kernel)) (fun _ _ _ _ _ => pg_name (i := 7) nd rfl (by first | exact Or.inl rfl | exact Or.inr rfl)) (fun _ _ _ _ _ => pts_nil) (fun _ _ _ _ _ => (pe_call (E := E0) G_l_sub (hr.mono (by decide)) (by rfl) T.g_l_sub T.F_l_sub.kp T.b_l_sub .nil pass0 (pa_cons (pe_ix (ix_listK (K := K) rfl) (pe_ix (ix_listK (K := K) rfl) (pv 0) (pv 4) (fun _ _ => rfl)) (pv 7) (fun _ _ => rfl)) (pa_cons (pe_call (E := E0) G_l_mul (hr.mono (by decide)) (by rfl) T.g_l_mul T.F_l_mul.kp T.b_l_mul .nil pass0 (pa_cons (pv 6) (pa_cons (pe_ix (ix_listK (K := K) rfl) (pe_ix (ix_listK (K := K) rfl) (pv 0) (pv 3) (fun _ _ => rfl)) (pv 7) (fun _ _ => rfl)) pa_nil))) pa_nil))))) (pg_sub (pv 0) (pv 4) set_list))))))))))) (pss_one (ps_ret (pv 2)))))), ?_⟩
    -- rows
    refine g_cut (fun σ' H' => ∃ R us, σ' = [some (.ref R), none, none, none, none, none, none, none] ∧ Same H H' ∧ H R = none ∧ MR K H' R us m) ?_ ?_
    · walk_at "gs"
      refine copy_rowsR hp hM (by omega) (fun _ => rfl) (fun _ => rfl) fun R us0 H1 sm1 hR hMR => ?_
      exact ⟨R, us0, rfl, sm1, hR, hMR⟩
    rintro σ' H1 ⟨R, us0, rfl, sm1, hR, hMR1⟩
    -- whole
    refine g_cut (fun σ' H' => ∃ wv us, σ' = [some (.ref R), none, some wv, none, none, none, none, none] ∧ Same H H' ∧ MR K H' R us m ∧ RatV K H' wv 1) ?_ ?_
    · walk_at "gs"
      refine g_newT (by show 2 ≤ 1000000; decide) fun o ho => ?_
      have so := up_same (o := .tup [.int 1, .int 1]) ho
      exact ⟨.ref o, us0, rfl, sm1.trans so, hMR1.same so, o, rfl, SqT.of upd_same⟩
    rintro σ' H2 ⟨wv, us1, rfl, sm2, hMR2, hwv⟩
    have keepR : ∀ {H' : Hp} {o : HO}, Same H H' → Same H (upd H' R o) := fun e b x eb => by
      rw [upd_ne (ne_of_none eb hR)]
      exact e _ _ eb
    have hln : (us1.length : Int) = (n : Int) := by rw [hMR2.len, hl]
    refine g_cut (fun σ' H' => ∃ wv u1 u3 u4 u5 u6 u7, σ' = [some (.ref R), u1, some wv, u3, u4, u5, u6, u7] ∧ Same H H' ∧ RatV K H' wv (det n m)) ?_ ?_
    · walk_at "gs"
      refine g_lenL (SqL.of hMR2.top) ?_
      refine g_rng n hln (by omega) (fun i σ' H' => ∃ (us : List V) (wv : V) (u1 u3 u4 u5 u6 u7 : Option V) (O W : Mat) (ep : Rat), σ' = [some (.ref R), u1, some wv, u3, u4, u5, u6, u7] ∧ Same H H' ∧ MR K H' R us W ∧ Gs n n O W i ∧ Wide n W ∧ Small n n L B kb O ∧ (ep = 1 ∨ ep = -1) ∧ det n O = ep * det n m ∧
        RatV K H' wv (ep * prodN i fun t => ent (rw' W t) t)) ⟨us1, wv, none, none, none, none, none, none, m, m, 1, rfl, sm2, hMR2, .start hl, hwd, hsm, .inl rfl, by grind, ?_⟩ ?_ ?_
      · rw [show (1 : Rat) * prodN 0 (fun t => ent (rw' m t) t) = 1 by simp only [prodN]; grind]
        exact hwv
      · rintro i σ' H3 hi ⟨us, wv, u1, u3, u4, u5, u6, u7, O, W, ep, rfl, sm3, hMR, hG, hwW, hSm, hep, hdet, hval⟩
        have hWl := hG.lw
        have hep2 : ep * ep = 1 := by
          rcases hep with rfl | rfl <;> grind
        have husl : us.length = n := by rw [hMR.len, hWl]
        walk_at "gs"
        -- found
        refine g_cut (fun σ' H' => ∃ l, σ' = [some (.ref R), u1, some wv, some (.int (i : Int)), u4, some (.ref l), u6, u7] ∧ Same H3 H' ∧ H' l = some (.lst (ntS (passN (fun k => !decide (ent (rw' W k) i = 0)) i (n - i))))) ?_ ?_
        · walk_at "gs"
          refine g_lcR2 ?_
          walk_at "gs"
          refine g_lenL (SqL.of hMR.top) ?_
          rw [show (us.length : Int) = ((n : Nat) : Int) by rw [husl]]
          refine filt_lc (fun k => !decide (ent (rw' W k) i = 0)) (by omega) (by omega) (fun _ => rfl) (fun _ => rfl) ?_ ?_
          · intro k' H4 Qb sm4 h1 h2 kk
            obtain ⟨rp, rxs, er, hr1, hr2⟩ := hMR.l.row (i := k') (by omega)
            obtain ⟨x, ex, rx⟩ := hr2.ent (j := i) (by rw [hwW _ (by omega)]; exact hi)
            walk_at "gs"
            refine g_ixL (sm4.seq (SqL.of hMR.top)) (atI_nat er) ?_
            walk_at "gs"
            refine g_ixL (sm4.seq hr1) (atI_nat ex) ?_
            walk_at "gs"
            refine g_newT (by show 2 ≤ 1000000; decide) fun o ho => ?_
            have so := up_same (o := .tup [.int 0, .int 1]) ho
            refine g_neRat (q := 0) ((rx.same sm4).same so) ⟨o, rfl, SqT.of upd_same⟩ ?_
            walk_at "gs"
            exact kk _ so
          · intro l H4 sm4 hl4 el
            exact ⟨l, rfl, sm4, el⟩
        rintro σ' H4 ⟨fl, rfl, sm4, efl⟩
        have hMR4 := hMR.same sm4
        -- none is found
        cases hup : passN (fun k => !decide (ent (rw' W k) i = 0)) i (n - i) with
        | nil =>
          have hz : ∀ k, i ≤ k → k < n → ent (rw' W k) i = 0 := fun k' h1 h2 => by
            by_cases z : ent (rw' W k') i = 0
            · exact z
            · have : k' ∈ passN (fun k => !decide (ent (rw' W k) i = 0)) i (n - i) := by
                unfold passN
                rw [List.mem_filter, List.mem_map]
                exact ⟨⟨k' - i, List.mem_range.mpr (by omega), by omega⟩, by rw [decide_eq_false z]; rfl⟩
              rw [hup] at this
              cases this
          rw [hup] at efl
          have hd0 := hG.none hi (Nat.le_refl _) hz
          have hdm : det n m = 0 := by
            rw [hd0] at hdet
            have : ep * (ep * det n m) = 0 := by
              rw [← hdet]
              grind
            grind
          refine g_cut (fun σ' H' => False) ?_ ?_
          · walk_at "gs"
            refine g_newL (by show 0 ≤ 1000000; decide) fun z hz => ?_
            refine g_eqNil (ns := []) (SqL.of (up_same hz _ _ efl)) (SqL.of upd_same) ?_
            walk_at "gs"
            refine if_t rfl ?_
            walk_at "gs"
            refine g_newT (by show 2 ≤ 1000000; decide) fun o ho => ?_
            refine k _ _ (sm3.trans (sm4.trans ((up_same hz).trans (up_same ho)))) ?_
            rw [hdm]
            exact ⟨o, rfl, SqT.of upd_same⟩
          · rintro σ' H' h
            exact h.elim
        | cons f rest =>
          rw [hup] at efl
          have hfm : f ∈ passN (fun k => !decide (ent (rw' W k) i = 0)) i (n - i) := by
            rw [hup]
            exact List.mem_cons_self
          obtain ⟨hif, hfn, hfz⟩ : i ≤ f ∧ f < n ∧ ent (rw' W f) i ≠ 0 := by
            unfold passN at hfm
            rw [List.mem_filter, List.mem_map] at hfm
            obtain ⟨⟨d, hd, rfl⟩, h2⟩ := hfm
            have := List.mem_range.mp hd
            refine ⟨by omega, by omega, fun z => ?_⟩
            rw [decide_eq_true z] at h2
            cases h2
          refine g_cut (fun σ' H' => σ' = [some (.ref R), u1, some wv, some (.int (i : Int)), u4, some (.ref fl), u6, u7] ∧ Same H4 H') ?_ ?_
          · walk_at "gs"
            refine g_newL (by show 0 ≤ 1000000; decide) fun z hz => ?_
            have e1 : ntS (f :: rest) = ((f :: rest).map fun n : Nat => (n : Int)).map V.int := by
              unfold ntS
              rw [List.map_map]
              rfl
            refine g_eqNil (ns := (f :: rest).map fun n : Nat => (n : Int)) (by rw [← e1]; exact SqL.of (up_same hz _ _ efl)) (SqL.of upd_same) ?_
            walk_at "gs"
            refine if_f rfl ?_
            walk_at "gs"
            exact ⟨rfl, up_same hz⟩
          rintro σ' H5 ⟨rfl, sm5⟩
          have hMR5 := hMR4.same sm5
          have hG2 := hG.swap hif hfn
          have hwW2 := hwW.swp (a := i) (f := f) (by omega) (by omega)
          have hSm2 := hSm.swp (a := i) (f := f) hG.lo hi hfn
          have hl2 : (swp W i f).length = n := hG2.lw
          have hpiv : ent (rw' (swp W i f) i) i ≠ 0 := by
            rw [rw_swp (by omega) (by omega)]
            by_cases z : i = f
            · rw [if_pos z, z]
              rw [← z] at hfz ⊢
              exact hfz
            · rw [if_neg z, if_pos rfl]
              exact hfz
          have hG3 := hG2.clear hwW2 hi hi hpiv
          -- the rows change places
          refine g_cut (fun σ' H' => ∃ us' wv' u1' ep', σ' = [some (.ref R), u1', some wv', some (.int (i : Int)), u4, some (.ref fl), u6, u7] ∧ Same H H' ∧ MR K H' R us' (swp W i f) ∧ (ep' = 1 ∨ ep' = -1) ∧ det n (swp O i f) = ep' * det n m ∧ RatV K H' wv' (ep' * prodN i fun t => ent (rw' W t) t)) ?_ ?_
          · walk_at "gs"
            have efl5 := sm5 _ _ efl
            have s35 := sm3.trans (sm4.trans sm5)
            refine g_ixL (SqL.of efl5) (atI_nat (j := 0) rfl) ?_
            walk_at "gs"
            rw [Rz.dec_int]
            refine if_2 (fun e => ?_) (fun e => ?_)
            · have hne : f ≠ i := fun z => by
                rw [z, decide_eq_true rfl] at e
                cases e
              have hui : us[i]? = some us[i] := List.getElem?_eq_getElem (by omega)
              have huf : us[f]? = some us[f] := List.getElem?_eq_getElem (by omega)
              walk_at "gs"
              refine g_cut (fun σ' H' => σ' = [some (.ref R), some us[i], some wv, some (.int (i : Int)), u4, some (.ref fl), u6, u7] ∧ H' = H5) ?_ ?_
              · walk_at "gs"
                refine g_ixL (SqL.of hMR5.top) (atI_nat hui) ?_
                exact ⟨rfl, rfl⟩
              rintro σ' H' ⟨rfl, rfl⟩
              have hm1 := hMR5.set (i := i) (by omega) (hMR5.at_ f _ huf)
              have s6 : Same H (upd H' R (.lst (us.set i us[f]))) := keepR s35
              refine g_cut (fun σ' H6 => σ' = [some (.ref R), some us[i], some wv, some (.int (i : Int)), u4, some (.ref fl), u6, u7] ∧ H6 = upd H' R (.lst (us.set i us[f]))) ?_ ?_
              · walk_at "gs"
                refine g_ixL (SqL.of efl5) (atI_nat (j := 0) rfl) ?_
                refine g_ixL (SqL.of hMR5.top) (atI_nat huf) ?_
                walk_at "gs"
                refine g_setL hMR5.top (ixN_of (by omega)) ?_
                exact ⟨rfl, rfl⟩
              rintro σ' H6 ⟨rfl, rfl⟩
              have hflR : fl ≠ R := fun z => by
                rw [z, hMR5.top] at efl5
                have e5 := HO.lst.inj (Option.some.inj efl5)
                have h5 := hMR5.at_ 0 _ (by rw [e5]; rfl)
                obtain ⟨q5, _, e6, _⟩ := h5
                cases e6
              have efl6 : upd H' R (.lst (us.set i us[f])) fl = some (.lst (ntS (f :: rest))) := by
                rw [upd_ne hflR]
                exact efl5
              have hm2 := hm1.set (i := f) (v := us[i]) (row := rw' W i) (by rw [List.length_set]; omega) ((hMR5.at_ i _ hui).upd hMR5.top)
              have s7 : Same H (upd (upd H' R (.lst (us.set i us[f]))) R (.lst ((us.set i us[f]).set f us[i]))) := keepR s6
              refine g_cut (fun σ' H7 => σ' = [some (.ref R), some us[i], some wv, some (.int (i : Int)), u4, some (.ref fl), u6, u7] ∧ H7 = upd (upd H' R (.lst (us.set i us[f]))) R (.lst ((us.set i us[f]).set f us[i]))) ?_ ?_
              · walk_at "gs"
                refine g_ixL (SqL.of efl6) (atI_nat (j := 0) rfl) ?_
                walk_at "gs"
                refine g_setL hm1.top (ixN_of (by rw [List.length_set]; omega)) ?_
                exact ⟨rfl, rfl⟩
              rintro σ' H7 ⟨rfl, rfl⟩
              obtain ⟨wp, rfl, hwp⟩ := hval
              have hw5 : RatV K H' (.ref wp) (ep * prodN i fun t => ent (rw' W t) t) := ⟨wp, rfl, Same.sqt (sm4.trans sm5) hwp⟩
              have hw7 := (hw5.updL (o := .lst (us.set i us[f])) hMR5.top).updL (o := .lst ((us.set i us[f]).set f us[i])) hm1.top
              obtain ⟨_, e7, hw7'⟩ := hw7
              cases e7
              walk_at "gs"
              refine g_newT (by show 2 ≤ 1000000; decide) fun o ho => ?_
              refine ⟨_, .ref o, _, -ep, rfl, s7.trans (up_same ho), hm2.same (up_same ho), ?_, ?_, ?_⟩
              · rcases hep with rfl | rfl
                · exact .inr rfl
                · exact .inl (by grind)
              · rw [det_swap (by omega) hfn hG.lo, hdet]
                grind
              · rw [show -ep * (prodN i fun t => ent (rw' W t) t) = -(ep * prodN i fun t => ent (rw' W t) t) by grind]
                refine ⟨o, rfl, ?_⟩
                rw [Rat.neg_num, Rat.neg_den]
                exact SqT.of upd_same
            · have heq : f = i := by
                by_cases z : (f : Int) = (i : Int)
                · omega
                · rw [decide_eq_false z] at e
                  cases e
              subst heq
              walk_at "gs"
              rw [swp_self (by omega), swp_self (by rw [hG.lo]; exact hi)]
              exact ⟨us, wv, _, ep, rfl, s35, hMR5, hep, hdet, hval.same (sm4.trans sm5)⟩
          rintro σ' H6 ⟨us', wv', u1', ep', rfl, sm6, hMR6, hep', hdet', hval6⟩
          have hus' : us'.length = n := by rw [hMR6.len, hl2]
          obtain ⟨rp, rxs, er, hr1, hr2⟩ := hMR6.l.row (i := i) (by omega)
          obtain ⟨pv, epv, rpv⟩ := hr2.ent (j := i) (by rw [hwW2 i (by omega)]; exact hi)
          have hpb : Bd (kb + kb) (ent (rw' (swp W i f) i) i) := hG2.bd hSm2 hi hi (by omega)
          -- the product
          refine g_cut (fun σ' H' => ∃ wv2, σ' = [some (.ref R), u1', some wv2, some (.int (i : Int)), u4, some (.ref fl), u6, u7] ∧ Same H6 H' ∧ RatV K H' wv2 ((ep' * prodN i fun t => ent (rw' W t) t) * ent (rw' (swp W i f) i) i)) ?_ ?_
          · walk_at "gs"
            refine g_ixL (SqL.of hMR6.top) (atI_nat er) ?_
            walk_at "gs"
            refine g_ixL hr1 (atI_nat epv) ?_
            walk_at "gs"
            have hb1 : Bd kb (ep' * prodN i fun t => ent (rw' W t) t) := by
              have := hG.leadBd hSm (m := i) (Nat.le_refl _) (by omega) (by omega)
              rcases hep' with rfl | rfl
              · rw [Rat.one_mul]
                exact this
              · rw [show (-1 : Rat) * (prodN i fun t => ent (rw' W t) t) = -(prodN i fun t => ent (rw' W t) t) by grind]
                exact this.neg
            refine ⟨_, _, _, _, kb, kb + kb, rfl, hval6, rpv, hb1, hpb, by omega, fun wv2 H7 s7 hw2 => ?_⟩
            exact ⟨wv2, rfl, s7, hw2⟩
          rintro σ' H7 ⟨wv2, rfl, sm7, hw2⟩
          have hMR7 := hMR6.same sm7
          have e1 : (ep' * prodN (i + 1) fun t => ent (rw' (clrG (swp W i f) i) t) t) = (ep' * prodN i fun t => ent (rw' W t) t) * ent (rw' (swp W i f) i) i := by
            simp only [prodN]
            rw [clrG_same (Nat.le_refl _) (by omega), prodN_congr (g := fun t => ent (rw' W t) t) fun t ht => by rw [clrG_same (by omega) (by omega), rw_swp (by omega) (by omega), if_neg (by omega), if_neg (by omega)]]
            grind
          -- the rows below
          have hWk : ∀ t, t < n → (rw' (swp W i f) t).length = n := fun t ht => hwW2 t (by omega)
          walk_at "gs"
          refine g_forR2 ?_
          walk_at "gs"
          refine g_lenL (SqL.of hMR7.top) ?_
          rw [hus', show (i : Int) + 1 = ((i + 1 : Nat) : Int) by omega]
          refine g_rng2 (i + 1) n rfl rfl (by omega) (by omega) (fun k' σ' H' => ∃ us4 u4 u6 u7, σ' = [some (.ref R), u1', some wv2, some (.int (i : Int)), u4, some (.ref fl), u6, u7] ∧ Same H H' ∧ RatV K H' wv2 ((ep' * prodN i fun t => ent (rw' W t) t) * ent (rw' (swp W i f) i) i) ∧
            MR K H' R us4 (mkM n fun t => if i < t ∧ t < k' then clr (rw' (swp W i f) t) (rw' (swp W i f) i) i else rw' (swp W i f) t)) ?_ ?_ ?_
          · refine ⟨us', u4, u6, u7, rfl, sm6.trans sm7, hw2, ?_⟩
            have e2 : (mkM n fun t => if i < t ∧ t < i + 1 then clr (rw' (swp W i f) t) (rw' (swp W i f) i) i else rw' (swp W i f) t) = swp W i f := by
              refine mat_ext (by rw [mkM_len, hl2]) fun t ht => ?_
              rw [mkM_len] at ht
              rw [rw_mkM ht, if_neg (by omega)]
            rw [e2]
            exact hMR7
          · rintro k' σ' H8 hk1 hk2 ⟨us4, w4, w6, w7, rfl, sm8, hw8, hMR8⟩
            have husl8 : us4.length = n := by rw [hMR8.len, mkM_len]
            have hrow : ∀ t, t < n → (t = i ∨ k' ≤ t) → rw' (mkM n fun t => if i < t ∧ t < k' then clr (rw' (swp W i f) t) (rw' (swp W i f) i) i else rw' (swp W i f) t) t = rw' (swp W i f) t := fun t ht h => by
              rw [rw_mkM ht, if_neg (by omega)]
            have hri := hrow i hi (.inl rfl)
            have hrk := hrow k' hk2 (.inr (Nat.le_refl _))
            obtain ⟨ip, ixs, ei, hi1, hi2⟩ := hMR8.l.row (i := i) (by rw [mkM_len]; exact hi)
            obtain ⟨kp, kxs, ek, hk3, hk4⟩ := hMR8.l.row (i := k') (by rw [mkM_len]; exact hk2)
            rw [hri] at hi2
            rw [hrk] at hk4
            obtain ⟨pi, epi, rpi⟩ := hi2.ent (j := i) (by rw [hWk i hi]; exact hi)
            obtain ⟨pk, epk, rpk⟩ := hk4.ent (j := i) (by rw [hWk k' hk2]; exact hi)
            have hkb1 : Bd (kb + kb) (ent (rw' (swp W i f) k') i) := hG2.bd hSm2 hk2 hi (by omega)
            walk_at "gs"
            refine g_cut (fun σ' H' => ∃ sv, σ' = [some (.ref R), u1', some wv2, some (.int (i : Int)), some (.int (k' : Int)), some (.ref fl), some sv, w7] ∧ Same H8 H' ∧ RatV K H' sv (ent (rw' (swp W i f) k') i / ent (rw' (swp W i f) i) i)) ?_ ?_
            · walk_at "gs"
              refine g_ixL (SqL.of hMR8.top) (atI_nat ek) ?_
              walk_at "gs"
              refine g_ixL hk3 (atI_nat epk) ?_
              walk_at "gs"
              refine g_ixL (SqL.of hMR8.top) (atI_nat ei) ?_
              walk_at "gs"
              refine g_ixL hi1 (atI_nat epi) ?_
              walk_at "gs"
              refine ⟨_, _, _, _, kb + kb, kb + kb, rfl, rpk, rpi, hkb1, hpb, by omega, hpiv, fun sv H9 s9 hsv => ?_⟩
              exact ⟨sv, rfl, s9, hsv⟩
            rintro σ' H9 ⟨sv, rfl, sm9, hsv⟩
            have hMR9 := hMR8.same sm9
            have hsb : Bd (kb + kb + (kb + kb)) (ent (rw' (swp W i f) k') i / ent (rw' (swp W i f) i) i) := hkb1.div hpb hpiv
            obtain ⟨r', hr'⟩ : ∃ r' : Rz.Row, r' = (List.range n).map fun j => ent (rw' (swp W i f) k') j - ent (rw' (swp W i f) k') i / ent (rw' (swp W i f) i) i * ent (rw' (swp W i f) i) j := ⟨_, rfl⟩
            have hr'l : r'.length = n := by rw [hr', List.length_map, List.length_range]
            have hr'e : r' = clr (rw' (swp W i f) k') (rw' (swp W i f) i) i := by
              have hcl := clr_len (row := rw' (swp W i f) k') (p := rw' (swp W i f) i) (a := i) (by rw [hWk i hi, hWk k' hk2])
              rw [hWk k' hk2] at hcl
              refine List.ext_getElem (by rw [hr'l, hcl]) fun j h1 h2 => ?_
              have e3 := ent_clr (row := rw' (swp W i f) k') (p := rw' (swp W i f) i) (a := i) (j := j) (by rw [hWk i hi, hWk k' hk2])
              unfold Rz.ent at e3
              rw [List.getD_eq_getElem?_getD, List.getElem?_eq_getElem h2, Option.getD_some] at e3
              rw [e3]
              have h1' : j < n := by
                rw [← hr'l]
                exact h1
              have e4 : r'[j] = ent (rw' (swp W i f) k') j - ent (rw' (swp W i f) k') i / ent (rw' (swp W i f) i) i * ent (rw' (swp W i f) i) j := by
                have : r'[j]? = some (ent (rw' (swp W i f) k') j - ent (rw' (swp W i f) k') i / ent (rw' (swp W i f) i) i * ent (rw' (swp W i f) i) j) := by
                  rw [hr', List.getElem?_map, List.getElem?_range h1']
                  rfl
                rw [List.getElem?_eq_getElem h1] at this
                exact Option.some.inj this
              rw [e4]
              unfold Rz.ent
              grind
            walk_at "gs"
            refine g_lenL (SqL.of hMR9.top) ?_
            refine rats_lcR (K := K) r' (by rw [husl8]) hr'l (by omega) (fun _ => rfl) ?_ ?_
            · intro j H10 Q10 sm10 hj kk
              have s910 := sm9.trans sm10
              obtain ⟨xk, exk, rxk⟩ := hk4.ent (j := j) (by rw [hWk k' hk2]; exact hj)
              obtain ⟨xi, exi, rxi⟩ := hi2.ent (j := j) (by rw [hWk i hi]; exact hj)
              walk_at "gs"
              refine g_ixL (sm10.seq (SqL.of hMR9.top)) (atI_nat ek) ?_
              walk_at "gs"
              refine g_ixL (s910.seq hk3) (atI_nat exk) ?_
              walk_at "gs"
              refine g_ixL (sm10.seq (SqL.of hMR9.top)) (atI_nat ei) ?_
              walk_at "gs"
              refine g_ixL (s910.seq hi1) (atI_nat exi) ?_
              walk_at "gs"
              have hbi : Bd (kb + kb) (ent (rw' (swp W i f) i) j) := hG2.bd hSm2 hi hj (by omega)
              have hbk : Bd (kb + kb) (ent (rw' (swp W i f) k') j) := hG2.bd hSm2 hk2 hj (by omega)
              refine ⟨_, _, _, _, kb + kb + (kb + kb), kb + kb, rfl, hsv.same sm10, rxi.same s910, hsb, hbi, by omega, fun mv H11 s11 hmv => ?_⟩
              walk_at "gs"
              refine ⟨_, _, _, _, kb + kb, kb + kb + (kb + kb) + (kb + kb), rfl, rxk.same (s910.trans s11), hmv, hbk, hsb.mul hbi, by omega, fun dv H12 s12 hdv => ?_⟩
              refine kk dv H12 (s11.trans s12) ?_
              rw [hr', List.getD_eq_getElem?_getD, List.getElem?_map, List.getElem?_range hj]
              exact hdv
            · intro l ys H10 sm10 hl0 el hrs
              have hMR10 := hMR9.same sm10
              have hlR : l ≠ R := (ne_of_none hMR9.top hl0).symm
              walk_at "gs"
              refine g_setL hMR10.top (ixN_of (by omega)) ?_
              refine ⟨us4.set k' (.ref l), _, _, _, rfl, keepR (sm8.trans (sm9.trans sm10)), ((hw8.same sm9).same sm10).updL hMR10.top, ?_⟩
              have h1 := hMR10.set (i := k') (v := .ref l) (row := r') (by rw [mkM_len]; exact hk2) ⟨l, ys, rfl, SqL.of el, hrs, .inl hlR⟩
              have e5 : (mkM n fun t => if i < t ∧ t < k' + 1 then clr (rw' (swp W i f) t) (rw' (swp W i f) i) i else rw' (swp W i f) t) = (mkM n fun t => if i < t ∧ t < k' then clr (rw' (swp W i f) t) (rw' (swp W i f) i) i else rw' (swp W i f) t).set k' r' := by
                refine mat_ext (by rw [List.length_set, mkM_len, mkM_len]) fun t ht => ?_
                rw [mkM_len] at ht
                by_cases z : t = k'
                · subst z
                  rw [rw_set_eq (by rw [mkM_len]; exact ht), rw_mkM ht, if_pos (by omega), hr'e]
                · rw [rw_set_ne (Ne.symm z), rw_mkM ht, rw_mkM ht]
                  by_cases z2 : i < t ∧ t < k'
                  · rw [if_pos z2, if_pos (by omega)]
                  · rw [if_neg z2, if_neg (by omega)]
              rw [e5]
              exact h1
          · rintro σ' H8 ⟨us4, w4, w6, w7, rfl, sm8, hw8, hMR8⟩
            have e6 : (mkM n fun t => if i < t ∧ t < n then clr (rw' (swp W i f) t) (rw' (swp W i f) i) i else rw' (swp W i f) t) = clrG (swp W i f) i := by
              unfold clrG
              refine mat_ext (by rw [mkM_len, mkM_len, hl2]) fun t ht => ?_
              rw [mkM_len] at ht
              rw [rw_mkM ht, rw_mkM (by omega)]
              by_cases z : i < t
              · rw [if_pos z, if_pos ⟨z, ht⟩]
              · rw [if_neg z, if_neg (by omega)]
            rw [e6] at hMR8
            walk_at "gs"
            refine ⟨us4, wv2, _, _, _, _, _, _, swp O i f, clrG (swp W i f) i, ep', rfl, sm8, hMR8, hG3, hwW2.clrG (by omega), hSm2, hep', hdet', ?_⟩
            rw [e1]
            exact hw8
      · rintro σ' H3 ⟨us, wv, u1, u3, u4, u5, u6, u7, O, W, ep, rfl, sm3, hMR, hG, hwW, hSm, hep, hdet, hval⟩
        have hep2 : ep * ep = 1 := by
          rcases hep with rfl | rfl <;> grind
        have hld := hG.lead (m := n) (Nat.le_refl _) (Nat.le_refl _) (Nat.le_refl _)
        have hO : det n (mkM n fun t => Rz.sel n id (rw' O t)) = det n O := det_ent fun i j hi hj => by
          rw [rw_mkM hi, ent_sel hj]
          rfl
        walk_at "gs"
        refine ⟨wv, _, _, _, _, _, _, rfl, sm3, ?_⟩
        rw [← hld, hO, hdet, show ep * (ep * det n m) = det n m by grind] at hval
        exact hval
    · rintro σ' H3 ⟨wv, u1, u3, u4, u5, u6, u7, rfl, sm3, hval⟩
      walk_at "gs"
      exact k _ _ sm3 hval
end

section
variable {P : Program} {w : World} {K : PySem.W.Frag} {mg : Str → Option Value} {base : Heap} {A : Ads}
theorem ok_l_subsets (T : Txt K mg A) : FnOk P w K mg base CX0 1 A.f_l_subsets A.fd_l_subsets ["size", "count"] (spSubs K) := by
  have nd := sc_l_subsets.nd
  refine T.F_l_subsets.ok sc_l_subsets (fun vs H Q E h => ?_) (fun cdv Ar outer s H vs Q E hr h => ?_)
  · obtain ⟨s, c, rfl, _⟩ := h
    rfl
  · obtain ⟨sz, c, rfl, hs, hc, k⟩ := h
    refine ⟨_, (pss_cutZ (ps_set (i := 2) nd rfl (Or.inl rfl) (pe_lst (pa_cons (pe_lst pa_nil) pa_nil))) (pss_cutZ (ps_for PassesOwn.never rfl (pi_range2 (by rfl) T.n_range (pa_cons pe_int (pa_cons (pe_op op_add (pv 0) pe_int) pa_nil))) (pg_name (i := 3) nd rfl (Or.inr rfl)) (pss_one (ps_set (i := 2) nd rfl (Or.inl rfl) (pe_op op_cat (pv 2) (pe_lc (own := [("row", 4)]) (g := gName 4)  rfl nd (pi_listK (K := K) rfl (pv 2)) (blkOk_by (N := ["size", "count", "rows", "k", "row"]) (sc := defScope s_l_subsets) (by decide +kernel)) (fun _ _ _ _ _ => pg_name (i := 4) nd rfl (by first | exact Or.inl rfl | exact Or.inr rfl)) (fun _ _ _ _ _ => pts_one (pt_cmpR op_lt (pe_callB (zc_lenK (K := K) rfl) (by rfl) T.n_len (by decide +kernel) (pa_cons (pv 4) pa_nil)) (pv 1) (nomark _))) (fun _ _ _ _ _ => (pe_op op_cat (pv 4) (pe_lst (pa_cons (pv 3) pa_nil))))))))) (pss_one (ps_ret (pe_lc (own := [("row", 4)]) (g := gName 4)  rfl nd (pi_listK (K := K) rfl (pv 2)) (blkOk_by (N := ["size", "count", "rows", "k", "row"]) (sc := defScope s_l_subsets) (by decide +kernel)) (fun _ _ _ _ _ => pg_name (i := 4) nd rfl (by first | exact Or.inl rfl | exact Or.inr rfl)) (fun _ _ _ _ _ => pts_one (pt_cmpR op_eq (pe_callB (zc_lenK (K := K) rfl) (by rfl) T.n_len (by decide +kernel) (pa_cons (pv 4) pa_nil)) (pv 1) (nomark _))) (fun _ _ _ _ _ => (pv 4))))))), ?_⟩
    refine g_cut (fun σ' H' => ∃ p us, σ' = [some (.int (sz : Int)), some (.int (c : Int)), some (.ref p), none, none] ∧ Same H H' ∧ H' p = some (.lst us) ∧ LLs H' p us (rowsN c 0)) ?_ ?_
    · walk_at "gs"
      refine g_newL (by show 0 ≤ 1000000; decide) fun e he => ?_
      walk_at "gs"
      refine g_newL (by show 1 ≤ 1000000; decide) fun p hp => ?_
      have hne : e ≠ p := ne_of_none (o := .lst []) upd_same hp
      refine ⟨p, _, rfl, (up_same he).trans (up_same hp), upd_same, ?_⟩
      refine LLs.snoc (us := []) (rs := []) (r := []) LLs.nil ?_ hne
      rw [upd_ne hne]
      exact upd_same
    rintro σ' H1 ⟨p0, us0, rfl, sm0, ep0, hL0⟩
    refine g_cut (fun σ' H' => ∃ p us u3, σ' = [some (.int (sz : Int)), some (.int (c : Int)), some (.ref p), u3, none] ∧ Same H H' ∧ H' p = some (.lst us) ∧ LLs H' p us (rowsN c sz)) ?_ ?_
    · walk_at "gs"
      refine g_forR2 ?_
      walk_at "gs"
      refine g_rngZ (lo := 1) sz (by omega) (by decide) (by decide) (by omega) (fun j σ' H' => ∃ p us u3, σ' = [some (.int (sz : Int)), some (.int (c : Int)), some (.ref p), u3, none] ∧ Same H H' ∧ H' p = some (.lst us) ∧ LLs H' p us (rowsN c j)) ⟨p0, us0, none, rfl, sm0, ep0, hL0⟩ ?_ ?_
      · rintro j σ' H2 hj ⟨p, us, u3, rfl, sm2, ep, hL⟩
        have hlen := rowsN_len (c := c) (k := j)
        have hp7 : 2 ^ j ≤ 2 ^ 7 := Nat.pow_le_pow_right (by decide) (by omega)
        have h128 : (2 : Nat) ^ 7 = 128 := by decide
        walk_at "gs"
        have hul : us.length ≤ 128 := by rw [hL.len]; omega
        refine g_lcLstIf (SqL.of ep) (fun D i acc H' => Same H2 H' ∧ H' D = some (.lst acc) ∧ LLs H' D acc ((((rowsN c j).take i).filter fun r => decide (r.length < c)).map (· ++ [j + 1]))) (fun _ => rfl) ?_ ?_ ?_ ?_
        · exact fun D hD => ⟨up_same hD, upd_same, by rw [List.take_zero]; exact LLs.nil⟩
        · exact fun D i acc H' _ h => SqL.of (h.1 _ _ ep)
        · rintro D i x acc H3 hD hx ⟨sm3, eD, hA⟩
          have hil : i < (rowsN c j).length := by
            rw [← hL.len]
            exact (List.getElem?_eq_some_iff.mp hx).1
          have hri := List.getElem?_eq_getElem hil
          obtain ⟨q, rfl, eq, hqp⟩ := hL.at_ i x _ hx hri
          have eq3 := sm3 _ _ eq
          have hrl : (rowsN c j)[i].length ≤ j := rowsN_row _ (List.getElem_mem hil)
          have hal : acc.length ≤ 128 := by
            rw [hA.len, List.length_map]
            have h1 := List.length_filter_le (fun r => decide (r.length < c)) ((rowsN c j).take i)
            rw [List.length_take] at h1
            omega
          walk_at "gs"
          rw [ntS_len]
          refine if_2 (fun e => ?_) (fun e => ?_)
          · have e1 := of_decide_eq_true e
            walk_at "gs"
            refine g_newL (by show 1 ≤ 1000000; decide) fun o ho => ?_
            have so := up_same (o := .lst [V.int (1 + (j : Int))]) ho
            walk_at "gs"
            refine g_cat (so _ _ eq3) upd_same (by rw [ntS_len]; show _ + 1 ≤ _; omega) fun z hz => ?_
            have sz2 := up_same (o := .lst (ntS (rowsN c j)[i] ++ [V.int (1 + (j : Int))])) hz
            have eD5 := sz2 _ _ (so _ _ eD)
            refine lcN_of eD5 (by omega) ⟨fun b ob eb => ?_, upd_same, ?_⟩
            · rw [upd_ne (ne_of_none eb hD)]
              exact sz2 _ _ (so _ _ (sm3 _ _ eb))
            · rw [List.take_succ, hri]
              show LLs _ D _ (List.map _ (List.filter _ (_ ++ [(rowsN c j)[i]])))
              rw [List.filter_append, List.map_append, List.filter_cons_of_pos (by exact decide_eq_true (by omega))]
              have hzD : z ≠ D := (ne_of_none (so _ _ eD) hz).symm
              refine LLs.snoc (((hA.same so).same sz2).upd) ?_ hzD
              rw [upd_ne hzD, upd_same, ntS_app]
              show some (HO.lst (_ ++ [V.int (1 + (j : Int))])) = some (HO.lst (_ ++ [V.int ((j + 1 : Nat) : Int)]))
              rw [show (1 : Int) + (j : Int) = ((j + 1 : Nat) : Int) by omega]
          · have e1 := of_decide_eq_false e
            refine ⟨acc, sm3, eD, ?_⟩
            rw [List.take_succ, hri]
            show LLs _ D _ (List.map _ (List.filter _ (_ ++ [(rowsN c j)[i]])))
            rw [List.filter_append, List.filter_cons_of_neg (by rw [decide_eq_false (by omega)]; decide), List.filter_nil, List.append_nil]
            exact hA
        · rintro D acc H3 hD ⟨sm3, eD, hA⟩
          rw [hL.len, List.take_length] at hA
          have hal : acc.length ≤ 128 := by
            rw [hA.len, List.length_map]
            have h1 := List.length_filter_le (fun r => decide (r.length < c)) (rowsN c j)
            omega
          walk_at "gs"
          refine g_cat (sm3 _ _ ep) eD (by omega) fun z hz => ?_
          have sz2 := up_same (o := .lst (us ++ acc)) hz
          refine ⟨z, _, _, rfl, sm2.trans (sm3.trans sz2), upd_same, ?_⟩
          unfold rowsN
          exact (((hL.same sm3).to hz).app (hA.to hz)).same sz2
      · rintro σ' H2 ⟨p, us, u3, rfl, sm2, ep, hL⟩
        walk_at "gs"
        exact ⟨p, us, u3, rfl, sm2, ep, hL⟩
    rintro σ' H2 ⟨p, us, u3, rfl, sm2, ep, hL⟩
    have hlen := rowsN_len (c := c) (k := sz)
    have hp7 : 2 ^ sz ≤ 2 ^ 7 := Nat.pow_le_pow_right (by decide) (by omega)
    have h128 : (2 : Nat) ^ 7 = 128 := by decide
    have hul : us.length ≤ 128 := by rw [hL.len]; omega
    walk_at "gs"
    refine g_lcLstIf (SqL.of ep) (fun D i acc H' => Same H2 H' ∧ H' D = some (.lst acc) ∧ LLs H' D acc (((rowsN c sz).take i).filter fun r => decide (r.length = c))) (fun _ => rfl) ?_ ?_ ?_ ?_
    · exact fun D hD => ⟨up_same hD, upd_same, by rw [List.take_zero]; exact LLs.nil⟩
    · exact fun D i acc H' _ h => SqL.of (h.1 _ _ ep)
    · rintro D i x acc H3 hD hx ⟨sm3, eD, hA⟩
      have hil : i < (rowsN c sz).length := by
        rw [← hL.len]
        exact (List.getElem?_eq_some_iff.mp hx).1
      have hri := List.getElem?_eq_getElem hil
      obtain ⟨q, rfl, eq, hqp⟩ := hL.at_ i x _ hx hri
      have eq3 := sm3 _ _ eq
      have hal : acc.length ≤ 128 := by
        rw [hA.len]
        have h1 := List.length_filter_le (fun r => decide (r.length = c)) ((rowsN c sz).take i)
        rw [List.length_take] at h1
        omega
      walk_at "gs"
      rw [ntS_len, Rz.dec_int]
      refine if_2 (fun e => ?_) (fun e => ?_)
      · have e1 := of_decide_eq_true e
        walk_at "gs"
        refine lcN_of eD (by omega) ⟨fun b ob eb => ?_, upd_same, ?_⟩
        · rw [upd_ne (ne_of_none eb hD)]
          exact sm3 _ _ eb
        · rw [List.take_succ, hri]
          show LLs _ D _ (List.filter _ (_ ++ [(rowsN c sz)[i]]))
          rw [List.filter_append, List.filter_cons_of_pos (by exact decide_eq_true (by omega))]
          have hqD : q ≠ D := ne_of_none eq hD
          refine LLs.snoc hA.upd ?_ hqD
          rw [upd_ne hqD]
          exact eq3
      · have e1 := of_decide_eq_false e
        refine ⟨acc, sm3, eD, ?_⟩
        rw [List.take_succ, hri]
        show LLs _ D _ (List.filter _ (_ ++ [(rowsN c sz)[i]]))
        rw [List.filter_append, List.filter_cons_of_neg (by rw [decide_eq_false (by omega)]; decide), List.filter_nil, List.append_nil]
        exact hA
    · rintro D acc H3 hD ⟨sm3, eD, hA⟩
      rw [hL.len, List.take_length] at hA
      exact k D acc H3 (sm2.trans sm3) ((sm2.trans (Same.refl _)).free hD) eD hA
theorem ok_l_pairs (T : Txt K mg A) : FnOk P w K mg base CX0 2 A.f_l_pairs A.fd_l_pairs ["rim"] (spPairs K) := by
  have G_l_subsets := ok_l_subsets (P := P) (w := w) (base := base) T
  have nd := sc_l_pairs.nd
  refine T.F_l_pairs.ok sc_l_pairs (fun vs H Q E h => ?_) (fun cdv Ar outer s H vs Q E hr h => ?_)
  · obtain ⟨n, rfl, _⟩ := h
    rfl
  · obtain ⟨n, rfl, hn, k⟩ := h
    refine ⟨_, (pss_cutZ (ps_set (i := 1) nd rfl (Or.inl rfl) (pe_lst pa_nil)) (pss_cutZ (ps_for PassesOwn.never rfl (pi_range2 (by rfl) T.n_range (pa_cons pe_int (pa_cons (pe_op op_add (pe_op op_fdivN (pv 0) pe_int) pe_int) pa_nil))) (pg_name (i := 2) nd rfl (Or.inl rfl)) (pss_one (ps_for PassesOwn.never rfl (pi_listK (K := K) rfl (pe_call (E := E0) G_l_subsets (hr.mono (by decide)) (by rfl) T.g_l_subsets T.F_l_subsets.kp T.b_l_subsets .nil pass0 (pa_cons (pv 0) (pa_cons (pe_op op_mul pe_int (pv 2)) pa_nil)))) (pg_name (i := 3) nd rfl (Or.inl rfl)) (pss_one (ps_for PassesOwn.never rfl (pi_range1 (by rfl) T.n_range (pa_cons (pv 2) pa_nil)) (pg_name (i := 4) nd rfl (Or.inl rfl)) (pss_cutZ (ps_set (i := 5) nd rfl (Or.inl rfl) (pe_op op_cat (pe_slice (sl_listK (K := K) rfl) (pv 3) (po_some (pe_op op_sub (pe_op op_mul pe_int (pv 2)) (pv 4))) po_none) (pe_slice (sl_listK (K := K) rfl) (pv 3) po_none (po_some (pe_op op_sub (pe_op op_mul pe_int (pv 2)) (pv 4)))))) (pss_one (ps_expr (pe_bm PySem.F.plainAttrs_list PySem.F.slot_list_append PySem.F.type_list_append mt_append (pv 1) (pa_cons (pe_tup (pa_cons (pe_callTy (zc_tupleK (K := K) rfl) (by rfl) T.n_tuple (by decide +kernel) (pa_cons (pe_slice (sl_listK (K := K) rfl) (pv 5) po_none (po_some (pv 2))) pa_nil)) (pa_cons (pe_callTy (zc_tupleK (K := K) rfl) (by rfl) T.n_tuple (by decide +kernel) (pa_cons (pe_revLK (K := K) rfl (pe_slice (sl_listK (K := K) rfl) (pv 5) (po_some (pv 2)) po_none)) pa_nil)) pa_nil))) pa_nil)))))))))) (pss_one (ps_ret (pv 1))))), ?_⟩
    refine g_cut (fun σ' H' => ∃ p, σ' = [some (.int (n : Int)), some (.ref p), none, none, none, none] ∧ Same H H' ∧ H p = none ∧ H' p = some (.lst [])) ?_ ?_
    · walk_at "gs"
      refine g_newL (by show 0 ≤ 1000000; decide) fun p hp => ?_
      exact ⟨p, rfl, up_same hp, hp, upd_same⟩
    rintro σ' H1 ⟨p, rfl, sm1, hp, ep1⟩
    have keep : ∀ {H' : Hp} {o : HO}, Same H H' → Same H (upd H' p o) := fun e b x eb => by
      rw [upd_ne (ne_of_none eb hp)]
      exact e _ _ eb
    -- a bound for the length: pairs of at most 7 nodes
    refine g_cut (fun σ' H' => ∃ us u2 u3 u4 u5, σ' = [some (.int (n : Int)), some (.ref p), u2, u3, u4, u5] ∧ Same H H' ∧ H' p = some (.lst us) ∧ PairL H' us (pairsN n)) ?_ ?_
    · walk_at "gs"
      refine g_forR2 ?_
      walk_at "gs"
      have hdiv : (n : Int).fdiv 2 + 1 = 1 + ((n / 2 : Nat) : Int) := by
        rw [Int.fdiv_eq_ediv_of_nonneg _ (by decide)]
        omega
      refine g_rngZ (lo := 1) (n / 2) hdiv (by decide) (by decide) (by omega) (fun i σ' H' => ∃ us u2 u3 u4 u5, σ' = [some (.int (n : Int)), some (.ref p), u2, u3, u4, u5] ∧ Same H H' ∧ H' p = some (.lst us) ∧ PairL H' us (pairsTo n i) ∧ us.length ≤ i * 1000) ⟨[], none, none, none, none, rfl, sm1, ep1, PairL.nil, Nat.zero_le _⟩ ?_ ?_
      · rintro i σ' H2 hi ⟨usO, u2, u3, u4, u5, rfl, sm2, ep2, hP2, hl2⟩
        walk_at "gs"
        rw [show (2 : Int) * (1 + (i : Int)) = ((2 * (i + 1) : Nat) : Int) by omega]
        refine ⟨n, 2 * (i + 1), rfl, hn, by omega, fun L ls H3 sm3 hL eL hLs => ?_⟩
        have hsl := subN_len (s := n) (c := 2 * (i + 1))
        have hp7 : 2 ^ n ≤ 2 ^ 7 := Nat.pow_le_pow_right (by decide) (by omega)
        have h128 : (2 : Nat) ^ 7 = 128 := by decide
        have hLp : L ≠ p := (ne_of_none ep2 hL).symm
        -- over the choices
        refine g_itL (SqL.of eL) (fun j σ' H' => ∃ us u3 u4 u5, σ' = [some (.int (n : Int)), some (.ref p), some (.int (1 + (i : Int))), u3, u4, u5] ∧ Same H H' ∧ Kp p H3 H' ∧ H' p = some (.lst us) ∧ PairL H' us (pairsTo n i ++ ((subN n (2 * (i + 1))).take j).flatMap fun ch => (List.range (i + 1)).map fun s => pairOf ch (i + 1) s) ∧ us.length ≤ i * 1000 + j * (i + 1)) ?_ ?_ ?_ ?_
        · exact ⟨usO, u3, u4, u5, rfl, sm2.trans sm3, Kp.refl _ _, sm3 _ _ ep2, by rw [List.take_zero]; simpa using hP2.same sm3, by omega⟩
        · rintro j σ' H4 _ ⟨us, u3, u4, u5, rfl, _, k4, _⟩
          exact SqL.of (k4 _ _ hLp eL)
        · rintro j x σ' H4 hx ⟨us, u3, u4, u5, rfl, sm4, k4, ep4, hP4, hl4⟩
          have hjl : j < (subN n (2 * (i + 1))).length := by
            rw [← hLs.len]
            exact (List.getElem?_eq_some_iff.mp hx).1
          have hcj := List.getElem?_eq_getElem hjl
          obtain ⟨q, rfl, eq, hqL⟩ := hLs.at_ j x _ hx hcj
          have hcl : (subN n (2 * (i + 1)))[j].length = 2 * (i + 1) := subN_row (List.getElem_mem hjl)
          obtain ⟨ch, hch⟩ : ∃ ch, ch = (subN n (2 * (i + 1)))[j] := ⟨_, rfl⟩
          rw [← hch] at hcj eq hcl
          have hqp : q ≠ p := by
            intro z
            rw [z, sm3 _ _ ep2] at eq
            have e5 := HO.lst.inj (Option.some.inj eq)
            have hlen5 : (ntS ch).length = 2 * (i + 1) := by rw [ntS_len, hcl]
            rw [← e5] at hlen5
            have hu0 := List.getElem?_eq_getElem (l := usO) (i := 0) (by omega)
            have hp0 := List.getElem?_eq_getElem (l := pairsTo n i) (i := 0) (by rw [← hP2.len]; omega)
            obtain ⟨a, _, _, e6, _⟩ := hP2.at_ 0 _ _ hu0 hp0
            have h7 : (ntS ch)[0]? = some (.ref a) := by
              rw [← e5, hu0, e6]
            obtain ⟨_, _, e8⟩ := ntS_at h7
            cases e8
          have eq4 := k4 _ _ hqp eq
          walk_at "gs"
          -- over the shifts
          have e1i : ((1 : Int) + (i : Int)) = ((i + 1 : Nat) : Int) := by omega
          refine g_rng (i + 1) e1i (by omega) (fun s σ' H' => ∃ us u4 u5, σ' = [some (.int (n : Int)), some (.ref p), some (.int (1 + (i : Int))), some (.ref q), u4, u5] ∧ Same H H' ∧ Kp p H3 H' ∧ H' q = some (.lst (ntS ch)) ∧ H' p = some (.lst us) ∧ PairL H' us ((pairsTo n i ++ ((subN n (2 * (i + 1))).take j).flatMap fun ch => (List.range (i + 1)).map fun s => pairOf ch (i + 1) s) ++ (List.range s).map fun s => pairOf ch (i + 1) s) ∧ us.length ≤ i * 1000 + j * (i + 1) + s) ?_ ?_ ?_
          · exact ⟨us, u4, u5, rfl, sm4, k4, eq4, ep4, by simpa using hP4, by omega⟩
          · rintro s σ' H5 hs ⟨us, u4, u5, rfl, sm5, k5, eq5, ep5, hP5, hl5⟩
            have hsub : (2 : Int) * (1 + (i : Int)) - (s : Int) = ((2 * (i + 1) - s : Nat) : Int) := by omega
            walk_at "gs"
            refine g_cut (fun σ' H' => ∃ z, σ' = [some (.int (n : Int)), some (.ref p), some (.int (1 + (i : Int))), some (.ref q), some (.int (s : Int)), some (.ref z)] ∧ Same H5 H' ∧ H' z = some (.lst (ntS (turnOf ch (i + 1) s)))) ?_ ?_
            · walk_at "gs"
              refine g_slice ?_
              walk_at "gs"
              refine g_pYes ?_
              walk_at "gs"
              refine ⟨_, rfl, ?_⟩
              refine g_pNo ?_
              rw [hsub]
              refine g_slL (SqL.of eq5) fun a ha => ?_
              rw [cutV_from (by rw [ntS_len]; omega), ntS_drop]
              have sa := up_same (o := .lst (ntS (ch.drop (2 * (i + 1) - s)))) ha
              refine g_slice ?_
              walk_at "gs"
              refine g_pNo ?_
              refine g_pYes ?_
              walk_at "gs"
              refine ⟨_, rfl, ?_⟩
              rw [hsub]
              refine g_slL (SqL.of (sa _ _ eq5)) fun b hb => ?_
              rw [cutV_to (by rw [ntS_len]; omega), ntS_take]
              have sb := up_same (o := .lst (ntS (ch.take (2 * (i + 1) - s)))) hb
              refine g_cat (sb _ _ upd_same) upd_same (by rw [ntS_len, ntS_len, List.length_drop, List.length_take]; omega) fun z hz => ?_
              refine ⟨z, rfl, sa.trans (sb.trans (up_same hz)), ?_⟩
              rw [upd_same, ← ntS_app]
              rfl
            rintro σ' H6 ⟨z, rfl, sm6, ez⟩
            have htl : (turnOf ch (i + 1) s).length = 2 * (i + 1) := by
              unfold turnOf
              rw [List.length_append, List.length_drop, List.length_take]
              omega
            have eh : ((1 : Int) + (i : Int)) = ((i + 1 : Nat) : Int) := by omega
            walk_at "gs"
            have ep6 := sm6 _ _ ep5
            refine g_bmL (SqL.of ep6) ?_
            walk_at "gs"
            refine g_slice ?_
            walk_at "gs"
            refine g_pNo ?_
            refine g_pYes ?_
            walk_at "gs"
            refine ⟨_, rfl, ?_⟩
            rw [eh]
            refine g_slL (SqL.of ez) fun a ha => ?_
            rw [cutV_to (by rw [ntS_len]; omega), ntS_take]
            have sa := up_same (o := .lst (ntS ((turnOf ch (i + 1) s).take (i + 1)))) ha
            walk_at "gs"
            refine g_tupleL (SqL.of upd_same) fun hd hhd => ?_
            have sh := up_same (o := .tup (ntS ((turnOf ch (i + 1) s).take (i + 1)))) hhd
            walk_at "gs"
            refine g_revL ?_
            refine g_slice ?_
            walk_at "gs"
            refine g_pYes ?_
            walk_at "gs"
            refine ⟨_, rfl, ?_⟩
            refine g_pNo ?_
            refine g_slL (SqL.of (sh _ _ (sa _ _ ez))) fun b hb => ?_
            rw [cutV_from (by rw [ntS_len]; omega), ntS_drop]
            have sb := up_same (o := .lst (ntS ((turnOf ch (i + 1) s).drop (i + 1)))) hb
            refine ⟨b, _, rfl, SqL.of upd_same, fun c hc => ?_⟩
            rw [ntS_rev]
            have sc := up_same (o := .lst (ntS ((turnOf ch (i + 1) s).drop (i + 1)).reverse)) hc
            walk_at "gs"
            refine g_tupleL (SqL.of upd_same) fun tl htl2 => ?_
            have st := up_same (o := .tup (ntS ((turnOf ch (i + 1) s).drop (i + 1)).reverse)) htl2
            walk_at "gs"
            refine g_newT (by show 2 ≤ 1000000; decide) fun o ho => ?_
            have so := up_same (o := .tup [V.ref hd, V.ref tl]) ho
            have sB := sa.trans (sh.trans (sb.trans (sc.trans (st.trans so))))
            have ep7 := sB _ _ ep6
            walk_at "gs"
            have hji : j * (i + 1) ≤ 128 * 7 := Nat.mul_le_mul (by omega) (by omega)
            refine g_append ep7 (by omega) ?_
            have ehd := so _ _ (st _ _ (sc _ _ (sb _ _ (upd_same (H := upd H6 a (.lst (ntS ((turnOf ch (i + 1) s).take (i + 1))))) (a := hd) (o := .tup (ntS ((turnOf ch (i + 1) s).take (i + 1))))))))
            have etl := so _ _ (upd_same (H := upd (upd (upd (upd H6 a (.lst (ntS ((turnOf ch (i + 1) s).take (i + 1))))) hd (.tup (ntS ((turnOf ch (i + 1) s).take (i + 1))))) b (.lst (ntS ((turnOf ch (i + 1) s).drop (i + 1))))) c (.lst (ntS ((turnOf ch (i + 1) s).drop (i + 1)).reverse))) (a := tl) (o := .tup (ntS ((turnOf ch (i + 1) s).drop (i + 1)).reverse)))
            have nep : ∀ {H' : Hp} {q : Addr} {xs ys : List V}, H' q = some (.tup xs) → H' p = some (.lst ys) → q ≠ p := fun a b z => by
              rw [z, b] at a
              cases a
            have hP7 := (hP5.same (sm6.trans sB)).snoc (q := pairOf ch (i + 1) s) upd_same ehd etl
            refine ⟨us ++ [.ref o], _, _, rfl, keep (sm5.trans (sm6.trans sB)), (k5.trans (Kp.of (sm6.trans sB))).trans Kp.upd, ?_, upd_same, ?_, by rw [List.length_append]; show us.length + 1 ≤ _; omega⟩
            · rw [upd_ne hqp]
              exact sB _ _ (sm6 _ _ eq5)
            · rw [List.range_succ (n := s), List.map_append, ← List.append_assoc]
              exact hP7.kp Kp.upd ep7
          · rintro σ' H5 ⟨us, u4, u5, rfl, sm5, k5, eq5, ep5, hP5, hl5⟩
            walk_at "gs"
            refine ⟨us, _, _, _, rfl, sm5, k5, ep5, ?_, by rw [Nat.succ_mul]; omega⟩
            rw [List.take_succ, hcj, List.flatMap_append, ← List.append_assoc]
            simpa using hP5
        · rintro σ' H4 ⟨us, u3, u4, u5, rfl, sm4, k4, ep4, hP4, hl4⟩
          rw [hLs.len, List.take_length] at hP4
          rw [hLs.len] at hl4
          walk_at "gs"
          refine ⟨us, _, _, _, _, rfl, sm4, ep4, by rw [pairsTo_succ]; exact hP4, ?_⟩
          have : (subN n (2 * (i + 1))).length * (i + 1) ≤ 128 * 7 := Nat.mul_le_mul (by omega) (by omega)
          omega
      · rintro σ' H2 ⟨us, u2, u3, u4, u5, rfl, sm2, ep2, hP2, hl2⟩
        walk_at "gs"
        exact ⟨us, _, _, _, _, rfl, sm2, ep2, hP2⟩
    · rintro σ' H2 ⟨us, u2, u3, u4, u5, rfl, sm2, ep2, hP2⟩
      walk_at "gs"
      exact k p us H2 sm2 hp ep2 hP2
end

section
variable {P : Program} {w : World} {K : PySem.W.Frag} {mg : Str → Option Value} {base : Heap} {A : Ads}
theorem ok_l_minor (T : Txt K mg A) : FnOk P w K mg base CX0 6 A.f_l_minor A.fd_l_minor ["table", "heads", "tails"] (spMinor K) := by
  have G_l_det := ok_l_det (P := P) (w := w) (base := base) T
  have nd := sc_l_minor.nd
  refine T.F_l_minor.ok sc_l_minor (fun vs H Q E h => ?_) (fun cdv Ar outer s H vs Q E hr h => ?_)
  · obtain ⟨v, u, t, m, hs, ts, N, n, L, B, kb, rfl, _⟩ := h
    rfl
  · obtain ⟨v, u, t, m, hs, ts, N, n, L, B, kb, rfl, ⟨p, us, rfl, hp, hM⟩, ⟨q, rfl, hq⟩, ⟨r, rfl, hrr⟩, hS, hN, hF, hn, hn2, hsm, hkb, k⟩ := h
    refine ⟨_, (pss_cutZ (ps_set (i := 3) nd rfl (Or.inl rfl) (pe_lst pa_nil)) (pss_cutZ (ps_for PassesOwn.never rfl (pi_tupK (K := K) rfl (pv 1)) (pg_name (i := 4) nd rfl (Or.inr rfl)) (pss_one (ps_expr (pe_bm PySem.F.plainAttrs_list PySem.F.slot_list_append PySem.F.type_list_append mt_append (pv 3) (pa_cons (pe_lc (own := [("j", 5)]) (g := gName 5) (tt := tYes) rfl nd (pi_tupK (K := K) rfl (pv 2)) (blkOk_by (N := ["table", "heads", "tails", "rows", "i", "j"]) (sc := defScope s_l_minor) (by decide +kernel)) (fun _ _ _ _ _ => pg_name (i := 5) nd rfl (by first | exact Or.inl rfl | exact Or.inr rfl)) (fun _ _ _ _ _ => pts_nil) (fun _ _ _ _ _ => (pe_tup (pa_cons (pe_un un_neg (pe_ix (ix_tupK (K := K) rfl) (pe_ix (ix_tupK (K := K) rfl) (pe_ix (ix_tupK (K := K) rfl) (pv 0) (pe_op op_sub (pv 4) pe_int) (fun _ _ => rfl)) (pe_op op_sub (pv 5) pe_int) (fun _ _ => rfl)) pe_int (fun _ _ => rfl))) (pa_cons (pe_ix (ix_tupK (K := K) rfl) (pe_ix (ix_tupK (K := K) rfl) (pe_ix (ix_tupK (K := K) rfl) (pv 0) (pe_op op_sub (pv 4) pe_int) (fun _ _ => rfl)) (pe_op op_sub (pv 5) pe_int) (fun _ _ => rfl)) pe_int (fun _ _ => rfl)) pa_nil))))) pa_nil))))) (pss_one (ps_ret (pe_call (E := E0) G_l_det (hr.mono (by decide)) (by rfl) T.g_l_det T.F_l_det.kp T.b_l_det .nil pass0 (pa_cons (pv 3) pa_nil)))))), ?_⟩
    refine g_cut (fun σ' H' => ∃ R, σ' = [some (.ref p), some (.ref q), some (.ref r), some (.ref R), none, none] ∧ Same H H' ∧ H R = none ∧ MR K H' R [] []) ?_ ?_
    · walk_at "gs"
      refine g_newL (by show 0 ≤ 1000000; decide) fun R hR => ?_
      exact ⟨R, rfl, up_same hR, hR, upd_same, rfl, fun i v z => by simp at z⟩
    rintro σ' H1 ⟨R, rfl, sm1, hR, hMR1⟩
    have keepR : ∀ {H' : Hp} {o : HO}, Same H H' → Same H (upd H' R o) := fun e b x eb => by
      rw [upd_ne (ne_of_none eb hR)]
      exact e _ _ eb
    refine g_cut (fun σ' H' => ∃ us' u4 u5, σ' = [some (.ref p), some (.ref q), some (.ref r), some (.ref R), u4, u5] ∧ Same H H' ∧ MR K H' R us' (negM m hs ts)) ?_ ?_
    · walk_at "gs"
      refine g_itT (Same.sqt sm1 hq) (fun i σ' H' => ∃ us' u4 u5, σ' = [some (.ref p), some (.ref q), some (.ref r), some (.ref R), u4, u5] ∧ Same H H' ∧ MR K H' R us' (negM m (hs.take i) ts)) ⟨[], none, none, rfl, sm1, by rw [List.take_zero]; exact hMR1⟩ (fun i σ' H' _ h => by
        obtain ⟨_, _, _, _, sm, _⟩ := h
        exact Same.sqt sm hq) ?_ ?_
      · rintro i x σ' H2 hx ⟨us', u4, u5, rfl, sm2, hMR2⟩
        obtain ⟨hd, ehd, rfl⟩ := ntS_at hx
        have hh := hF.hd _ (List.mem_of_getElem? ehd)
        have hil : i < hs.length := (List.getElem?_eq_some_iff.mp ehd).1
        obtain ⟨rp, rxs, er, hr1, hr2⟩ := hM.row (i := hd - 1) (by rw [hS.len]; omega)
        walk_at "gs"
        refine g_bmL (SqL.of hMR2.top) ?_
        walk_at "gs"
        refine rats_lcT (ts.map fun j => - ent (rw' m (hd - 1)) (j - 1)) (Same.sqt sm2 hrr) (by rw [List.length_map, ntS_len]) (by rw [ntS_len, ← hF.len]; omega) (fun _ => rfl) ?_ ?_
        · intro j y H3 Q3 sm3 hy kk
          obtain ⟨tl, etl, rfl⟩ := ntS_at hy
          have ht := hF.tl _ (List.mem_of_getElem? etl)
          obtain ⟨e, ee, re⟩ := hr2.ent (j := tl - 1) (by rw [hS.wide _ (by omega)]; omega)
          have s23 := sm2.trans sm3
          obtain ⟨ep, rfl, hep⟩ := re.same s23
          walk_at "gs"
          refine g_ixT (Same.sqt s23 hp) (atI_pred hh.1 er) ?_
          walk_at "gs"
          refine g_ixT (Same.sqt s23 hr1) (atI_pred ht.1 ee) ?_
          walk_at "gs"
          refine g_ixT (Same.sqt s23 hp) (atI_pred hh.1 er) ?_
          walk_at "gs"
          refine g_ixT (Same.sqt s23 hr1) (atI_pred ht.1 ee) ?_
          walk_at "gs"
          refine g_newT (by show 2 ≤ 1000000; decide) fun o ho => ?_
          refine kk _ _ (up_same ho) ⟨o, rfl, ?_⟩
          rw [List.getD_eq_getElem?_getD, List.getElem?_map, etl]
          show SqT K _ o [V.int (- ent (rw' m (hd - 1)) (tl - 1)).num, V.int ((- ent (rw' m (hd - 1)) (tl - 1)).den : Int)]
          rw [Rat.neg_num, Rat.neg_den]
          exact SqT.of upd_same
        · intro l ys H3 sm3 hl el hrs
          have hMR3 := hMR2.same sm3
          have hlR : l ≠ R := (ne_of_none hMR2.top hl).symm
          walk_at "gs"
          refine g_append hMR3.top (by rw [hMR3.len, negM_len, List.length_take]; omega) ?_
          refine ⟨us' ++ [.ref l], _, _, rfl, keepR (sm2.trans sm3), ?_⟩
          have h1 := hMR3.snoc (v := .ref l) ⟨l, ys, rfl, SqL.of el, hrs, .inl hlR⟩
          have e1 : negM m (hs.take (i + 1)) ts = negM m (hs.take i) ts ++ [ts.map fun j => - ent (rw' m (hd - 1)) (j - 1)] := by
            unfold negM
            rw [List.take_succ, ehd, List.map_append]
            rfl
          rw [e1]
          exact h1
      · rintro σ' H2 ⟨us', u4, u5, rfl, sm2, hMR2⟩
        rw [ntS_len, List.take_length] at hMR2
        walk_at "gs"
        exact ⟨us', u4, u5, rfl, sm2, hMR2⟩
    rintro σ' H2 ⟨us', u4, u5, rfl, sm2, hMR2⟩
    walk_at "gs"
    refine ⟨.ref R, negM m hs ts, n, L, B, kb, rfl, hMR2.v, by rw [negM_len, hn], hn2, negM_wide (by rw [← hF.len, hn]), hsm, hkb, fun v' H3 s3 hv => ?_⟩
    exact k v' H3 (sm2.trans s3) hv
end

section
variable {P : Program} {w : World} {K : PySem.W.Frag} {mg : Str → Option Value} {base : Heap} {A : Ads}
theorem ok_l_same (T : Txt K mg A) : ∀ n, FnOk P w K mg base CX0 n A.f_l_same A.fd_l_same ["actual", "due"] (spSame K n)
  | 0 => fn_false fun vs H Q E h => by
    obtain ⟨x, y, _, h, _⟩ := h
    cases h
  | n + 1 => by
    have G_rec := ok_l_same T n
    have nd := sc_l_same.nd
    refine T.F_l_same.ok sc_l_same (fun vs H Q E h => ?_) (fun cdv Ar outer s H vs Q E hr h => ?_)
    · obtain ⟨x, y, rfl, _⟩ := h
      rfl
    · obtain ⟨x, y, rfl, h, k⟩ := h
      refine ⟨_, (pss_cons (ps_if (pt_val (pe_callB (call_isiK' (K := K) rfl) (by rfl) T.n_isinstance (by decide +kernel) (pa_cons (pv 1) (pa_cons (pe_bltn (v := .ty "tuple") (by rfl) T.n_tuple (by decide +kernel) rfl) pa_nil)))) (pss_cons (ps_if (PW.pt (pw_or (pt_not (pt_val (pe_callB (call_isiK' (K := K) rfl) (by rfl) T.n_isinstance (by decide +kernel) (pa_cons (pv 0) (pa_cons (pe_bltn (v := .ty "tuple") (by rfl) T.n_tuple (by decide +kernel) rfl) pa_nil))))) (pw_or1 (pt_cmpR op_ne (pe_callB (zc_lenK (K := K) rfl) (by rfl) T.n_len (by decide +kernel) (pa_cons (pv 0) pa_nil)) (pe_callB (zc_lenK (K := K) rfl) (by rfl) T.n_len (by decide +kernel) (pa_cons (pv 1) pa_nil)) (nomark _))))) (pss_one (ps_ret pe_bl)) pss_nil) (pss_one (ps_ret (pe_callB (cr_allK (K := K) rfl rfl) (by rfl) T.n_all (by decide +kernel) (pa_cons (pe_lc (own := [("k", 2)]) (g := gName 2) (tt := tYes) rfl nd (pi_range1 (by rfl) T.n_range (pa_cons (pe_callB (zc_lenK (K := K) rfl) (by rfl) T.n_len (by decide +kernel) (pa_cons (pv 1) pa_nil)) pa_nil)) (blkOk_by (N := ["actual", "due", "k"]) (sc := defScope s_l_same) (by decide +kernel)) (fun _ _ _ _ _ => pg_name (i := 2) nd rfl (by first | exact Or.inl rfl | exact Or.inr rfl)) (fun _ _ _ _ _ => pts_nil) (fun _ _ _ _ _ => (pe_call (E := E0) G_rec hr (by rfl) T.g_l_same T.F_l_same.kp T.b_l_same .nil pass0 (pa_cons (pe_ix (ix_tupK (K := K) rfl) (pv 0) (pv 2) (fun _ _ => rfl)) (pa_cons (pe_ix (ix_tupK (K := K) rfl) (pv 1) (pv 2) (fun _ _ => rfl)) pa_nil))))) pa_nil))))) pss_nil) (pss_cons (ps_if (pt_val (pe_callB (call_isiK' (K := K) rfl) (by rfl) T.n_isinstance (by decide +kernel) (pa_cons (pv 1) (pa_cons (pe_bltn (v := .ty "list") (by rfl) T.n_list (by decide +kernel) rfl) pa_nil)))) (pss_one (ps_ret (pe_and (pe_callB (call_isiK' (K := K) rfl) (by rfl) T.n_isinstance (by decide +kernel) (pa_cons (pv 0) (pa_cons (pe_bltn (v := .ty "list") (by rfl) T.n_list (by decide +kernel) rfl) pa_nil))) (pe_one (pe_call (E := E0) G_rec hr (by rfl) T.g_l_same T.F_l_same.kp T.b_l_same .nil pass0 (pa_cons (pe_callTy (zc_tupleK (K := K) rfl) (by rfl) T.n_tuple (by decide +kernel) (pa_cons (pv 0) pa_nil)) (pa_cons (pe_callTy (zc_tupleK (K := K) rfl) (by rfl) T.n_tuple (by decide +kernel) (pa_cons (pv 1) pa_nil)) pa_nil))))))) pss_nil) (pss_cons (ps_if (pt_cmpR zo_isN (pv 1) pe_non (nomark _)) (pss_one (ps_ret (pe_cmpR zo_isN (pv 0) pe_non (nomark _)))) pss_nil) (pss_cons (ps_if (pt_val (pe_callB (call_isiK' (K := K) rfl) (by rfl) T.n_isinstance (by decide +kernel) (pa_cons (pv 1) (pa_cons (pe_bltn (v := .ty "bool") (by rfl) T.n_bool (by decide +kernel) rfl) pa_nil)))) (pss_one (ps_ret (pe_and (pe_callB (call_isiK' (K := K) rfl) (by rfl) T.n_isinstance (by decide +kernel) (pa_cons (pv 0) (pa_cons (pe_bltn (v := .ty "bool") (by rfl) T.n_bool (by decide +kernel) rfl) pa_nil))) (pe_one (pe_cmpR op_eq (pv 0) (pv 1) (nomark _)))))) pss_nil) (pss_cons (ps_if (pt_val (pe_callB (call_isiK' (K := K) rfl) (by rfl) T.n_isinstance (by decide +kernel) (pa_cons (pv 1) (pa_cons (pe_bltn (v := .ty "str") (by rfl) T.n_str (by decide +kernel) rfl) pa_nil)))) (pss_one (ps_ret (pe_and (pe_callB (call_isiK' (K := K) rfl) (by rfl) T.n_isinstance (by decide +kernel) (pa_cons (pv 0) (pa_cons (pe_bltn (v := .ty "str") (by rfl) T.n_str (by decide +kernel) rfl) pa_nil))) (pe_one (pe_cmpR op_eq (pv 0) (pv 1) (nomark _)))))) pss_nil) (pss_one (ps_ret (pe_and (pe_callB (call_isiK' (K := K) rfl) (by rfl) T.n_isinstance (by decide +kernel) (pa_cons (pv 0) (pa_cons (pe_bltn (v := .ty "int") (by rfl) T.n_int (by decide +kernel) rfl) pa_nil))) (pe_and (pe_not (pe_callB (call_isiK' (K := K) rfl) (by rfl) T.n_isinstance (by decide +kernel) (pa_cons (pv 0) (pa_cons (pe_bltn (v := .ty "bool") (by rfl) T.n_bool (by decide +kernel) rfl) pa_nil)))) (pe_one (pe_cmpR op_eq (pv 0) (pv 1) (nomark _)))))))))))), ?_⟩
      walk_at "gs"
      cases h with
      | sc hx =>
        cases x with
        | int i =>
          have ty : TyX K H (.int i) (.type "int") := tySc hx
          refine g_isi ty (b := false) (by decide +kernel) ?_
          walk_at "gs"
          refine if_f rfl ?_
          walk_at "gs"
          refine g_isi ty (b := false) (by decide +kernel) ?_
          walk_at "gs"
          refine if_f rfl ?_
          walk_at "gs"
          refine if_f rfl ?_
          walk_at "gs"
          refine g_isi ty (b := false) (by decide +kernel) ?_
          walk_at "gs"
          refine if_f rfl ?_
          walk_at "gs"
          refine g_isi ty (b := false) (by decide +kernel) ?_
          walk_at "gs"
          refine if_f rfl ?_
          walk_at "gs"
          refine g_isi ty (b := true) (by decide +kernel) ?_
          walk_at "gs"
          refine if_t rfl ?_
          walk_at "gs"
          refine g_isi ty (b := false) (by decide +kernel) ?_
          walk_at "gs"
          refine if_t rfl ?_
          walk_at "gs"
          rw [decide_eq_true rfl]
          exact k _ (Same.refl _)
        | bl i =>
          have ty : TyX K H (.bl i) (.type "bool") := tySc hx
          refine g_isi ty (b := false) (by decide +kernel) ?_
          walk_at "gs"
          refine if_f rfl ?_
          walk_at "gs"
          refine g_isi ty (b := false) (by decide +kernel) ?_
          walk_at "gs"
          refine if_f rfl ?_
          walk_at "gs"
          refine if_f rfl ?_
          walk_at "gs"
          refine g_isi ty (b := true) (by decide +kernel) ?_
          walk_at "gs"
          refine if_t rfl ?_
          walk_at "gs"
          refine g_isi ty (b := true) (by decide +kernel) ?_
          walk_at "gs"
          refine if_t rfl ?_
          walk_at "gs"
          rw [decide_eq_true rfl]
          exact k _ (Same.refl _)
        | str i =>
          have ty : TyX K H (.str i) (.type "str") := tySc hx
          refine g_isi ty (b := false) (by decide +kernel) ?_
          walk_at "gs"
          refine if_f rfl ?_
          walk_at "gs"
          refine g_isi ty (b := false) (by decide +kernel) ?_
          walk_at "gs"
          refine if_f rfl ?_
          walk_at "gs"
          refine if_f rfl ?_
          walk_at "gs"
          refine g_isi ty (b := false) (by decide +kernel) ?_
          walk_at "gs"
          refine if_f rfl ?_
          walk_at "gs"
          refine g_isi ty (b := true) (by decide +kernel) ?_
          walk_at "gs"
          refine if_t rfl ?_
          walk_at "gs"
          refine g_isi ty (b := true) (by decide +kernel) ?_
          walk_at "gs"
          refine if_t rfl ?_
          walk_at "gs"
          rw [decide_eq_true rfl]
          exact k _ (Same.refl _)
        | non =>
          have ty : TyX K H (.non) (.type "NoneType") := tySc hx
          refine g_isi ty (b := false) (by decide +kernel) ?_
          walk_at "gs"
          refine if_f rfl ?_
          walk_at "gs"
          refine g_isi ty (b := false) (by decide +kernel) ?_
          walk_at "gs"
          refine if_f rfl ?_
          walk_at "gs"
          refine if_t rfl ?_
          walk_at "gs"
          exact k _ (Same.refl _)
        | byt _ => cases hx
        | flt _ => cases hx
        | ref _ => cases hx
        | ty _ => cases hx
      | @tup _ p q xs ys hx hy hl hb hs =>
        refine g_isi (tyT hy) (b := true) (by decide +kernel) ?_
        walk_at "gs"
        refine if_t rfl ?_
        walk_at "gs"
        refine g_isi (tyT hx) (b := true) (by decide +kernel) ?_
        walk_at "gs"
        refine if_f rfl ?_
        walk_at "gs"
        rw [hl]
        refine if_f (by simp) ?_
        walk_at "gs"
        refine g_lcRng ys.length rfl hb (fun p' i acc H' => Same H H' ∧ H' p' = some (.lst acc) ∧ acc = List.replicate i (.bl true)) (fun _ => rfl) (fun p' hp => ⟨up_same hp, upd_same, rfl⟩) ?_ ?_
        · rintro p' i acc H' hp hi ⟨sm, e, rfl⟩
          have hx' := Same.sqt sm hx
          have hy' := Same.sqt sm hy
          walk_at "gs"
          refine g_ixT hx' (v := xs[i]'(by omega)) (atI_nat (List.getElem?_eq_getElem _)) ?_
          walk_at "gs"
          refine g_ixT hy' (v := ys[i]) (atI_nat (List.getElem?_eq_getElem _)) ?_
          walk_at "gs"
          refine ⟨_, _, rfl, Eqv.same sm (hs i _ _ (List.getElem?_eq_getElem _) (List.getElem?_eq_getElem _)), fun H2 sm2 => ?_⟩
          refine lcN_of (sm2 _ _ e) (by rw [List.length_replicate]; omega) ⟨fun b o h => ?_, upd_same, ?_⟩
          · rw [upd_ne (ne_of_none h hp)]
            exact sm2 _ _ (sm _ _ h)
          · rw [List.replicate_succ']
        · rintro p' acc H' hp ⟨sm, e, rfl⟩
          refine ⟨p', List.replicate ys.length true, rfl, SqL.of ?_, ?_⟩
          · rw [List.map_replicate]
            exact e
          · rw [show (List.replicate ys.length true).all id = true by simp]
            exact k _ sm
      | @lst m p q xs ys hx hy hl hb hs =>
        refine g_isi (tyL hy) (b := false) (by decide +kernel) ?_
        walk_at "gs"
        refine if_f rfl ?_
        walk_at "gs"
        refine g_isi (tyL hy) (b := true) (by decide +kernel) ?_
        walk_at "gs"
        refine if_t rfl ?_
        walk_at "gs"
        refine g_isi (tyL hx) (b := true) (by decide +kernel) ?_
        walk_at "gs"
        refine if_t rfl ?_
        walk_at "gs"
        refine g_tupleL hx fun l1 h1 => ?_
        walk_at "gs"
        refine g_tupleL ((up_same h1).seq hy) fun l2 h2 => ?_
        walk_at "gs"
        refine ⟨_, _, rfl, .tup (Same.sqt (up_same h2) (SqT.of upd_same)) (SqT.of upd_same) hl hb fun i x y e1 e2 => Eqv.same ((up_same h1).trans (up_same h2)) (hs i x y e1 e2), fun H' sm => ?_⟩
        exact k _ (((up_same h1).trans (up_same h2)).trans sm)
end

section
variable {P : Program} {w : World} {K : PySem.W.Frag} {mg : Str → Option Value} {base : Heap} {A : Ads}
theorem ok_law (T : Txt K mg A) : FnOk P w K mg base CX0 7 A.f_law A.fd_law ["script"] (Rz.spLaw K) := by
  have G_l_pick := ok_l_pick (P := P) (w := w) (base := base) T
  have G_l_ratio := ok_l_ratio (P := P) (w := w) (base := base) T
  have G_l_pairs := ok_l_pairs (P := P) (w := w) (base := base) T
  have G_l_minor := ok_l_minor (P := P) (w := w) (base := base) T
  have G_minor := ok_minor (P := P) (w := w) (base := base) T
  have G_l_same := ok_l_same (P := P) (w := w) (base := base) T 3
  have nd := sc_law.nd
  refine T.F_law.ok sc_law (fun vs H Q E h => ?_) (fun cdv Ar outer s H vs Q E hr h => ?_)
  · obtain ⟨a, ns, rfl, _⟩ := h
    rfl
  · obtain ⟨a, ns, rfl, hns, hlen, k⟩ := h
    refine ⟨_, (pss_cutZ (ps_set (i := 1) nd rfl (Or.inl rfl) (pe_lst (pa_cons (pe_callTy (zc_listK (K := K) rfl) (by rfl) T.n_list (by decide +kernel) (pa_cons (pv 0) pa_nil)) (pa_cons pe_int (pa_cons pe_int (pa_cons pe_int pa_nil)))))) (pss_cutZ (ps_set (i := 2) nd rfl (Or.inr rfl) (pe_op op_add pe_int (pe_call (E := E0) G_l_pick (hr.mono (by decide)) (by rfl) T.g_l_pick T.F_l_pick.kp T.b_l_pick .nil pass0 (pa_cons (pv 1) (pa_cons pe_int pa_nil))))) (pss_cutZ (ps_setLc (i := 4) (own := [("k", 3)]) (g := gName 3) (tt := tYes) rfl nd rfl rfl (sw_true rfl rfl rfl (by decide +kernel)) (pi_range1 (by rfl) T.n_range (pa_cons (pv 2) pa_nil)) (blkOk_by (N := ["script", "state", "size", "k", "rows", "i", "j", "value", "row", "table", "pairs", "heads", "tails"]) (sc := defScope s_law) (by decide +kernel)) (fun _ _ _ _ _ => pg_name (i := 3) nd rfl (by first | exact Or.inl rfl | exact Or.inr rfl)) (fun _ _ _ _ _ => pts_nil) (fun _ _ _ _ _ => (pe_op op_rep (pe_lst (pa_cons (pe_tup (pa_cons pe_int (pa_cons pe_int pa_nil))) pa_nil)) (pv 2)))) (pss_cutZ (ps_for PassesOwn.never rfl (pi_range1 (by rfl) T.n_range (pa_cons (pv 2) pa_nil)) (pg_name (i := 5) nd rfl (Or.inl rfl)) (pss_one (ps_for PassesOwn.never rfl (pi_range1 (by rfl) T.n_range (pa_cons (pv 2) pa_nil)) (pg_name (i := 6) nd rfl (Or.inl rfl)) (pss_cutZ (ps_set (i := 7) nd rfl (Or.inl rfl) (pe_call (E := E0) G_l_ratio (hr.mono (by decide)) (by rfl) T.g_l_ratio T.F_l_ratio.kp T.b_l_ratio .nil pass0 (pa_cons (pe_op op_sub (pe_call (E := E0) G_l_pick (hr.mono (by decide)) (by rfl) T.g_l_pick T.F_l_pick.kp T.b_l_pick .nil pass0 (pa_cons (pv 1) (pa_cons pe_int pa_nil))) pe_int) (pa_cons (pe_op op_add pe_int (pe_call (E := E0) G_l_pick (hr.mono (by decide)) (by rfl) T.g_l_pick T.F_l_pick.kp T.b_l_pick .nil pass0 (pa_cons (pv 1) (pa_cons pe_int pa_nil)))) pa_nil)))) (pss_cutZ (ps_set (i := 8) nd rfl (Or.inl rfl) (pe_ix (ix_listK (K := K) rfl) (pv 4) (pv 5) (fun _ _ => rfl))) (pss_one (ps_asg (pv 7) (pg_sub (pv 8) (pv 6) set_list)))))))) (pss_cutZ (ps_set (i := 9) nd rfl (Or.inl rfl) (pe_callTy (zc_tupleK (K := K) rfl) (by rfl) T.n_tuple (by decide +kernel) (pa_cons (pe_lc (own := [("row", 8)]) (g := gName 8) (tt := tYes) rfl nd (pi_listK (K := K) rfl (pv 4)) (blkOk_by (N := ["script", "state", "size", "k", "rows", "i", "j", "value", "row", "table", "pairs", "heads", "tails"]) (sc := defScope s_law) (by decide +kernel)) (fun _ _ _ _ _ => pg_name (i := 8) nd rfl (by first | exact Or.inl rfl | exact Or.inr rfl)) (fun _ _ _ _ _ => pts_nil) (fun _ _ _ _ _ => (pe_callTy (zc_tupleK (K := K) rfl) (by rfl) T.n_tuple (by decide +kernel) (pa_cons (pv 8) pa_nil)))) pa_nil))) (pss_cutZ (ps_set (i := 10) nd rfl (Or.inl rfl) (pe_call (E := E0) G_l_pairs (hr.mono (by decide)) (by rfl) T.g_l_pairs T.F_l_pairs.kp T.b_l_pairs .nil pass0 (pa_cons (pv 2) pa_nil))) (pss_cutZ (ps_for PassesOwn.never rfl (pi_range1 (by rfl) T.n_range (pa_cons (pe_callB (call_min2n rfl) (by rfl) T.n_min (by decide +kernel) (pa_cons (pe_callB (zc_lenK (K := K) rfl) (by rfl) T.n_len (by decide +kernel) (pa_cons (pv 10) pa_nil)) (pa_cons pe_int pa_nil))) pa_nil)) (pg_name (i := 3) nd rfl (Or.inl rfl)) (pss_cutZ (ps_asg (pe_ix (ix_listK (K := K) rfl) (pv 10) (pe_call (E := E0) G_l_pick (hr.mono (by decide)) (by rfl) T.g_l_pick T.F_l_pick.kp T.b_l_pick .nil pass0 (pa_cons (pv 1) (pa_cons (pe_callB (zc_lenK (K := K) rfl) (by rfl) T.n_len (by decide +kernel) (pa_cons (pv 10) pa_nil)) pa_nil))) (fun _ _ => rfl)) (pg_tupK (K := K) rfl rfl (pgs_cons (pg_name (i := 11) nd rfl (Or.inl rfl)) (pgs_cons (pg_name (i := 12) nd rfl (Or.inl rfl)) pgs_nil)))) (pss_one (ps_if (pt_not (pt_val (pe_call (E := E0) G_l_same (hr.mono (by decide)) (by rfl) T.g_l_same T.F_l_same.kp T.b_l_same .nil pass0 (pa_cons (pe_call (E := E0) G_minor (hr.mono (by decide)) (by rfl) T.g_minor T.F_minor.kp T.b_minor .nil pass0 (pa_cons (pv 9) (pa_cons (pv 11) (pa_cons (pv 12) pa_nil)))) (pa_cons (pe_call (E := E0) G_l_minor (hr.mono (by decide)) (by rfl) T.g_l_minor T.F_l_minor.kp T.b_l_minor .nil pass0 (pa_cons (pv 9) (pa_cons (pv 11) (pa_cons (pv 12) pa_nil)))) pa_nil))))) (pss_one (ps_ret pe_bl)) pss_nil)))) (pss_one (ps_ret pe_bl))))))))), ?_⟩
    -- state
    refine g_cut (fun σ' H' => ∃ S c, σ' = [some (.ref a), some (.ref S), none, none, none, none, none, none, none, none, none, none, none] ∧ StAt H' S c) ?_ ?_
    · walk_at "gs"
      refine g_listL hns fun c hc => ?_
      walk_at "gs"
      refine g_newL (by show 4 ≤ 1000000; decide) fun S hS => ?_
      walk_at "gs"
      have ncS : c ≠ S := fun e => by
        rw [← e, upd_same] at hS
        cases hS
      exact ⟨S, c, rfl, ncS, 0, 0, 0, ns, upd_same, by rw [upd_ne ncS]; exact upd_same, by decide, by decide⟩
    rintro σ' H0 ⟨S, c, rfl, hS0⟩
    -- size
    refine g_cut (fun σ' H' => ∃ n : Nat, 2 ≤ n ∧ n ≤ 6 ∧ σ' = [some (.ref a), some (.ref S), some (.int (n : Int)), none, none, none, none, none, none, none, none, none, none] ∧ StAt H' S c) ?_ ?_
    · walk_at "gs"
      refine ⟨S, c, 5, rfl, hS0, by decide, by decide +kernel, fun u H1 u0 u1 hS1 k1 => ?_⟩
      walk_at "gs"
      exact ⟨(2 + u).toNat, by omega, by omega, by rw [show (((2 + u).toNat : Nat) : Int) = 2 + u by omega]; rfl, hS1⟩
    rintro σ' H1 ⟨n, hn2, hn6, rfl, hS1⟩
    -- rows
    refine g_cut (fun σ' H' => ∃ R rs, σ' = [some (.ref a), some (.ref S), some (.int (n : Int)), none, some (.ref R), none, none, none, none, none, none, none, none] ∧ DR K H1 H' S c R rs (zeroM n)) ?_ ?_
    · walk_at "gs"
      refine rows_lcRD (K := K) (zeroM n) rfl mkM_len (by omega) hS1 (fun _ => rfl) ?_ ?_
      · intro i H2 Q2 sm2 hi kk
        walk_at "gs"
        refine g_newT (by show 2 ≤ 1000000; decide) fun o ho => ?_
        have so := up_same (o := .tup [.int 0, .int 1]) ho
        walk_at "gs"
        refine g_newL (by show 1 ≤ 1000000; decide) fun l hl => ?_
        have sl := up_same (o := .lst [V.ref o]) hl
        walk_at "gs"
        refine ⟨l, (n : Int), [V.ref o], rfl, rfl, upd_same, by omega, by omega, by rw [Int.toNat_natCast]; show 1 * n ≤ _; have := sizeLine_eq; omega, fun p hp => ?_⟩
        have sp := up_same (o := .lst (List.replicate (n : Int).toNat [V.ref o]).flatten) hp
        have e1 : (List.replicate (n : Int).toNat [V.ref o]).flatten = List.replicate n (V.ref o) := by
          rw [Int.toNat_natCast]
          simp
        refine kk p (List.replicate n (V.ref o)) _ (so.trans (sl.trans sp)) ((so.trans sl).free hp) (by rw [upd_same, e1]) ?_
        unfold zeroM
        rw [rw_mkM hi]
        exact rats_rep n ⟨o, rfl, Same.sqt sp (Same.sqt sl (SqT.of upd_same))⟩
      · intro l rs H2 hD
        exact ⟨l, rs, rfl, hD⟩
    rintro σ' H2 ⟨R, rs, rfl, hD2⟩
    -- the drawn values
    have hz0 : ∀ i j, i < n → j < n → Sc 12 72 (Rz.ent (rw' (zeroM n) i) j) := fun i j hi hj => by
      unfold zeroM
      rw [rw_mkM hi]
      unfold Rz.ent
      rw [List.getD_eq_getElem?_getD, List.getElem?_replicate, if_pos hj]
      exact Sc.zero
    have hzS : Sq n (zeroM n) := ⟨mkM_len, fun i hi => by unfold zeroM; rw [rw_mkM hi, List.length_replicate]⟩
    refine g_cut (fun σ' H' => ∃ m u3 u5 u6 u7 u8, σ' = [some (.ref a), some (.ref S), some (.int (n : Int)), u3, some (.ref R), u5, u6, u7, u8, none, none, none, none] ∧ DR K H1 H' S c R rs m ∧ Sq n m ∧ ∀ i j, i < n → j < n → Sc 12 72 (Rz.ent (rw' m i) j)) ?_ ?_
    · walk_at "gs"
      refine g_rng n rfl (by omega) (fun i σ' H' => ∃ m u3 u5 u6 u7 u8, σ' = [some (.ref a), some (.ref S), some (.int (n : Int)), u3, some (.ref R), u5, u6, u7, u8, none, none, none, none] ∧ DR K H1 H' S c R rs m ∧ Sq n m ∧ ∀ i j, i < n → j < n → Sc 12 72 (Rz.ent (rw' m i) j)) ⟨zeroM n, none, none, none, none, none, rfl, hD2, hzS, hz0⟩ ?_ ?_
      · rintro i σ' H3 hi ⟨m, u3, u5, u6, u7, u8, rfl, hD3, hS3, hB3⟩
        walk_at "gs"
        refine g_rng n rfl (by omega) (fun j σ' H' => ∃ m u3 u6 u7 u8, σ' = [some (.ref a), some (.ref S), some (.int (n : Int)), u3, some (.ref R), some (.int (i : Int)), u6, u7, u8, none, none, none, none] ∧ DR K H1 H' S c R rs m ∧ Sq n m ∧ ∀ i j, i < n → j < n → Sc 12 72 (Rz.ent (rw' m i) j)) ⟨m, u3, u6, u7, u8, rfl, hD3, hS3, hB3⟩ ?_ ?_
        · rintro j σ' H4 hj ⟨m, u3, u6, u7, u8, rfl, hD4, hS4, hB4⟩
          walk_at "gs"
          refine g_cut (fun σ' H' => ∃ v q, σ' = [some (.ref a), some (.ref S), some (.int (n : Int)), u3, some (.ref R), some (.int (i : Int)), some (.int (j : Int)), some v, u8, none, none, none, none] ∧ DR K H1 H' S c R rs m ∧ RatV K H' v q ∧ Sc 12 72 q) ?_ ?_
          · walk_at "gs"
            refine ⟨S, c, 13, rfl, hD4.st, by decide, by decide +kernel, fun u H5 y0 y1 hS5 k5 => ?_⟩
            walk_at "gs"
            refine ⟨S, c, 4, rfl, hS5, by decide, by decide +kernel, fun z H6 z0 z1 hS6 k6 => ?_⟩
            walk_at "gs"
            refine ⟨_, _, rfl, by omega, pow_mono (a := 5) (by omega) (by decide), fun v H7 s7 hv => ?_⟩
            refine ⟨v, _, rfl, ((hD4.pick hS5 k5).pick hS6 k6).same s7, hv, ?_⟩
            have hz2 : z = 0 ∨ z = 1 ∨ z = 2 ∨ z = 3 := by omega
            have h6 : (u - 6).natAbs ≤ 6 := by omega
            rcases hz2 with rfl | rfl | rfl | rfl
            · exact sc_div (b := 1) (c := 12) (by decide) (by omega)
            · exact sc_div (b := 2) (c := 6) (by decide) (by omega)
            · exact sc_div (b := 3) (c := 4) (by decide) (by omega)
            · exact sc_div (b := 4) (c := 3) (by decide) (by omega)
          rintro σ' H5 ⟨v, q, rfl, hD5, hv5, hq5⟩
          obtain ⟨r, xs, er, ers, ex, hxr⟩ := hD5.get (i := i) (by rw [hS4.len]; exact hi)
          have hxl : xs.length = n := by rw [hxr.len, hS4.wide i hi]
          refine g_cut (fun σ' H' => σ' = [some (.ref a), some (.ref S), some (.int (n : Int)), u3, some (.ref R), some (.int (i : Int)), some (.int (j : Int)), some v, some (.ref r), none, none, none, none] ∧ H' = H5) ?_ ?_
          · walk_at "gs"
            refine g_ixL (SqL.of hD5.top) (atI_nat er) ?_
            exact ⟨rfl, rfl⟩
          rintro σ' H' ⟨rfl, rfl⟩
          walk_at "gs"
          refine g_setL ex (ixN_of (by omega)) ?_
          refine ⟨m.set i ((rw' m i).set j q), u3, _, _, _, rfl, hD5.put ers ex hv5, ⟨by rw [List.length_set]; exact hS4.len, fun i' hi' => ?_⟩, fun i' j' hi' hj' => ?_⟩
          · by_cases e : i = i'
            · subst e
              rw [rw_set_eq (by rw [hS4.len]; exact hi), List.length_set]
              exact hS4.wide i hi
            · rw [rw_set_ne e]
              exact hS4.wide i' hi'
          · by_cases e : i = i'
            · subst e
              rw [rw_set_eq (by rw [hS4.len]; exact hi)]
              by_cases e2 : j = j'
              · subst e2
                rw [ent_set_eq (by rw [hS4.wide i hi]; exact hj)]
                exact hq5
              · rw [ent_set_ne e2]
                exact hB4 i j' hi' hj'
            · rw [rw_set_ne e]
              exact hB4 i' j' hi' hj'
        · rintro σ' H4 ⟨m, u3, u6, u7, u8, rfl, hD4, hS4, hB4⟩
          walk_at "gs"
          exact ⟨m, u3, _, u6, u7, u8, rfl, hD4, hS4, hB4⟩
      · rintro σ' H3 ⟨m, u3, u5, u6, u7, u8, rfl, hD3, hS3, hB3⟩
        walk_at "gs"
        exact ⟨m, u3, u5, u6, u7, u8, rfl, hD3, hS3, hB3⟩
    rintro σ' H3 ⟨m, u3, u5, u6, u7, u8, rfl, hD3, hSq, hSc⟩
    -- table
    refine g_cut (fun σ' H' => ∃ t, σ' = [some (.ref a), some (.ref S), some (.int (n : Int)), u3, some (.ref R), u5, u6, u7, u8, some (.ref t), none, none, none] ∧ StAt H' S c ∧ TabV K H' (.ref t) m) ?_ ?_
    · walk_at "gs"
      refine tab_lc (SqL.of hD3.top) hD3.matL (by rw [hSq.len]; omega) (fun _ => rfl) (fun _ => rfl) fun l us' H4 sm4 hl el hT => ?_
      walk_at "gs"
      refine g_tupleL (SqL.of el) fun t ht => ?_
      have st := up_same (o := .tup us') ht
      exact ⟨t, rfl, (hD3.st.same sm4).same st, t, us', rfl, SqT.of upd_same, hT.same st⟩
    rintro σ' H4 ⟨t, rfl, hS4, hT4⟩
    -- pairs
    obtain ⟨hpo, hp0, hp200⟩ := pairs_ok n (by omega)
    have hp0 := hp0 hn2
    refine g_cut (fun σ' H' => ∃ p us, σ' = [some (.ref a), some (.ref S), some (.int (n : Int)), u3, some (.ref R), u5, u6, u7, u8, some (.ref t), some (.ref p), none, none] ∧ StAt H' S c ∧ TabV K H' (.ref t) m ∧ p ≠ S ∧ H' p = some (.lst us) ∧ PairL H' us (pairsN n)) ?_ ?_
    · walk_at "gs"
      refine ⟨n, rfl, by omega, fun p us H5 sm5 hp ep hP => ?_⟩
      exact ⟨p, us, rfl, hS4.same sm5, hT4.same sm5, hS4.neS hp, ep, hP⟩
    rintro σ' H5 ⟨p, us, rfl, hS5, hT5, hpS, ep5, hP5⟩
    refine g_cut (fun σ' H' => ∃ w3 w11 w12, σ' = [some (.ref a), some (.ref S), some (.int (n : Int)), w3, some (.ref R), u5, u6, u7, u8, some (.ref t), some (.ref p), w11, w12]) ?_ ?_
    · walk_at "gs"
      refine g_min2 ?_
      have hm : ∃ q : Nat, (if (12 : Int) < (us.length : Int) then (12 : Int) else (us.length : Int)) = (q : Int) ∧ q ≤ 12 := by
        split
        · exact ⟨12, rfl, by decide⟩
        · exact ⟨us.length, rfl, by omega⟩
      obtain ⟨q, eq, hq⟩ := hm
      refine g_rng q eq (by omega) (fun i σ' H' => ∃ w3 w11 w12, σ' = [some (.ref a), some (.ref S), some (.int (n : Int)), w3, some (.ref R), u5, u6, u7, u8, some (.ref t), some (.ref p), w11, w12] ∧ StAt H' S c ∧ TabV K H' (.ref t) m ∧ H' p = some (.lst us) ∧ PairL H' us (pairsN n)) ⟨u3, none, none, rfl, hS5, hT5, ep5, hP5⟩ ?_ ?_
      · rintro i σ' H6 hi ⟨w3, w11, w12, rfl, hS6, hT6, ep6, hP6⟩
        have hul : us.length = (pairsN n).length := hP6.len
        walk_at "gs"
        refine g_cut (fun σ' H' => ∃ hd tl q, σ' = [some (.ref a), some (.ref S), some (.int (n : Int)), some (.int (i : Int)), some (.ref R), u5, u6, u7, u8, some (.ref t), some (.ref p), some (.ref hd), some (.ref tl)] ∧ StAt H' S c ∧ TabV K H' (.ref t) m ∧ H' p = some (.lst us) ∧ PairL H' us (pairsN n) ∧ okPair n q = true ∧ H' hd = some (.tup (ntS q.1)) ∧ H' tl = some (.tup (ntS q.2))) ?_ ?_
        · walk_at "gs"
          refine ⟨S, c, (us.length : Int), rfl, hS6, by omega, by rw [hul]; exact pow_mono (a := 20) (by omega) (by decide), fun v H7 v0 v1 hS7 k7 => ?_⟩
          obtain ⟨ys, hys⟩ := hS6.lst
          have ep7 := k7 _ _ hpS ep6
          have hP7 := hP6.kp k7 hys
          have hv : v = ((v.toNat : Nat) : Int) := by omega
          have hvl : v.toNat < us.length := by omega
          have hq := List.getElem?_eq_getElem (l := pairsN n) (i := v.toNat) (by omega)
          obtain ⟨o, hd, tl, eo, e1, e2, e3⟩ := hP7.at_ v.toNat _ _ (List.getElem?_eq_getElem hvl) hq
          rw [hv]
          refine g_ixL (SqL.of ep7) (atI_nat (by rw [List.getElem?_eq_getElem hvl, eo])) ?_
          refine ⟨o, _, rfl, SqT.of e1, rfl, _, _, rfl, _, _, rfl, rfl, hd, tl, _, rfl, hS7, hT6.kp k7 hys, ep7, hP7, List.all_eq_true.mp hpo _ (List.getElem_mem (by omega)), e2, e3⟩
        rintro σ' H7 ⟨hd, tl, q, rfl, hS7, hT7, ep7, hP7, hok, e2, e3⟩
        obtain ⟨hF, hq1, hq3⟩ := pair_fits hok
        have hsm : Small q.1.length q.1.length 12 72 80 (negM m q.1 q.2) := by
          refine negM_small hF rfl hSc (by decide) (by decide) ?_ ?_
          · have : q.1.length = 1 ∨ q.1.length = 2 ∨ q.1.length = 3 := by omega
            rcases this with z | z | z <;> rw [z] <;> decide
          · have : q.1.length = 1 ∨ q.1.length = 2 ∨ q.1.length = 3 := by omega
            rcases this with z | z | z <;> rw [z] <;> decide
        walk_at "gs"
        refine ⟨.ref t, .ref hd, .ref tl, m, q.1, q.2, n, q.1.length, 12, 72, 80, rfl, hT7, ⟨hd, rfl, SqT.of e2⟩, ⟨tl, rfl, SqT.of e3⟩, hSq, by omega, hF, rfl, by omega, hsm, by decide, fun v1 H8 s8 hv1 => ?_⟩
        walk_at "gs"
        refine ⟨.ref t, .ref hd, .ref tl, m, q.1, q.2, n, q.1.length, 12, 72, 80, rfl, hT7.same s8, ⟨hd, rfl, SqT.of (s8 _ _ e2)⟩, ⟨tl, rfl, SqT.of (s8 _ _ e3)⟩, hSq, by omega, hF, rfl, by omega, hsm, by decide, fun v2 H9 s9 hv2 => ?_⟩
        walk_at "gs"
        refine ⟨_, _, rfl, Eqv.rat (n := 1) (hv1.same s9) hv2, fun H10 s10 => ?_⟩
        walk_at "gs"
        refine if_f rfl ?_
        have sA := (s8.trans s9).trans s10
        walk_at "gs"
        exact ⟨_, _, _, rfl, hS7.same sA, hT7.same sA, sA _ _ ep7, hP7.same sA⟩
      · rintro σ' H6 ⟨w3, w11, w12, rfl, _⟩
        walk_at "gs"
        exact ⟨_, _, _, rfl⟩
    rintro σ' H6 ⟨w3, w11, w12, rfl⟩
    walk_at "gs"
    exact k _
end

theorem all_mk {l : PySem.W.OpenLaw} {w : World} {K : PySem.W.Frag} {h : Heap} {mg : Str → Option Value} {fa f_ratio f_minus f_times f_over f_opposite f_determinant f_pivot_place f_swapped f_cleared f_minor f_l_pick f_l_gcd f_l_ratio f_l_sub f_l_mul f_l_div f_l_same f_l_det f_l_minor f_l_subsets f_l_pairs f_law C_RimError C_RatioError z_ZERO z_ONE : Addr} (X : K.In h) (G : h.Ns mainGlobals mg) (hfa : mg "law" = some (.ref fa))
    {od0 an0 od1 an1 od2 an2 od3 an3 od4 an4 od5 an5 od6 an6 od7 an7 od8 an8 od9 an9 od10 an10 od11 an11 od12 an12 od13 an13 od14 an14 od15 an15 od16 an16 od17 an17 od18 an18 od19 an19 od20 an20 od21 an21 : Option Addr} {sl0 sl1 sl2 sl3 sl4 sl5 sl6 sl7 sl8 sl9 sl10 sl11 sl12 sl13 sl14 sl15 sl16 sl17 sl18 sl19 sl20 sl21 : Array (Option Value)} {oc0 kV0 dc0 pm0 cd0 ct0 oc1 kV1 dc1 pm1 cd1 ct1 oc2 kV2 dc2 pm2 cd2 ct2 oc3 kV3 dc3 pm3 cd3 ct3 oc4 kV4 dc4 pm4 cd4 ct4 oc5 kV5 dc5 pm5 cd5 ct5 oc6 kV6 dc6 pm6 cd6 ct6 oc7 kV7 dc7 pm7 cd7 ct7 oc8 kV8 dc8 pm8 cd8 ct8 oc9 kV9 dc9 pm9 cd9 ct9 oc10 kV10 dc10 pm10 cd10 ct10 oc11 kV11 dc11 pm11 cd11 ct11 oc12 kV12 dc12 pm12 cd12 ct12 oc13 kV13 dc13 pm13 cd13 ct13 oc14 kV14 dc14 pm14 cd14 ct14 oc15 kV15 dc15 pm15 cd15 ct15 oc16 kV16 dc16 pm16 cd16 ct16 oc17 kV17 dc17 pm17 cd17 ct17 oc18 kV18 dc18 pm18 cd18 ct18 oc19 kV19 dc19 pm19 cd19 ct19 oc20 kV20 dc20 pm20 cd20 ct20 oc21 kV21 dc21 pm21 cd21 ct21 : Value} {tk0_0 tk0_1 tk1_0 tk1_1 : Tok}
    (a_ratio : PySem.W.nsIn K mainGlobals "ratio" = some (some (.ref f_ratio))) (l_ratio : K.lookup f_ratio = some ⟨oc0, od0, .func (PySem.W.fnOf "ratio" "ratio" (defArgs s_ratio) (defBody s_ratio) (defScope s_ratio) .none kV0 dc0 pm0 an0 cd0 ct0), sl0⟩) (c_ratio : PySem.W.codeIn K cd0 "ratio" = true) (k_ratio : PySem.W.keepIn K (.ref f_ratio) = true)
    (a_minus : PySem.W.nsIn K mainGlobals "minus" = some (some (.ref f_minus))) (l_minus : K.lookup f_minus = some ⟨oc1, od1, .func (PySem.W.fnOf "minus" "minus" (defArgs s_minus) (defBody s_minus) (defScope s_minus) .none kV1 dc1 pm1 an1 cd1 ct1), sl1⟩) (c_minus : PySem.W.codeIn K cd1 "minus" = true) (k_minus : PySem.W.keepIn K (.ref f_minus) = true)
    (a_times : PySem.W.nsIn K mainGlobals "times" = some (some (.ref f_times))) (l_times : K.lookup f_times = some ⟨oc2, od2, .func (PySem.W.fnOf "times" "times" (defArgs s_times) (defBody s_times) (defScope s_times) .none kV2 dc2 pm2 an2 cd2 ct2), sl2⟩) (c_times : PySem.W.codeIn K cd2 "times" = true) (k_times : PySem.W.keepIn K (.ref f_times) = true)
    (a_over : PySem.W.nsIn K mainGlobals "over" = some (some (.ref f_over))) (l_over : K.lookup f_over = some ⟨oc3, od3, .func (PySem.W.fnOf "over" "over" (defArgs s_over) (defBody s_over) (defScope s_over) .none kV3 dc3 pm3 an3 cd3 ct3), sl3⟩) (c_over : PySem.W.codeIn K cd3 "over" = true) (k_over : PySem.W.keepIn K (.ref f_over) = true)
    (a_opposite : PySem.W.nsIn K mainGlobals "opposite" = some (some (.ref f_opposite))) (l_opposite : K.lookup f_opposite = some ⟨oc4, od4, .func (PySem.W.fnOf "opposite" "opposite" (defArgs s_opposite) (defBody s_opposite) (defScope s_opposite) .none kV4 dc4 pm4 an4 cd4 ct4), sl4⟩) (c_opposite : PySem.W.codeIn K cd4 "opposite" = true) (k_opposite : PySem.W.keepIn K (.ref f_opposite) = true)
    (a_determinant : PySem.W.nsIn K mainGlobals "determinant" = some (some (.ref f_determinant))) (l_determinant : K.lookup f_determinant = some ⟨oc5, od5, .func (PySem.W.fnOf "determinant" "determinant" (defArgs s_determinant) (defBody s_determinant) (defScope s_determinant) .none kV5 dc5 pm5 an5 cd5 ct5), sl5⟩) (c_determinant : PySem.W.codeIn K cd5 "determinant" = true) (k_determinant : PySem.W.keepIn K (.ref f_determinant) = true)
    (a_pivot_place : PySem.W.nsIn K mainGlobals "pivot_place" = some (some (.ref f_pivot_place))) (l_pivot_place : K.lookup f_pivot_place = some ⟨oc6, od6, .func (PySem.W.fnOf "pivot_place" "pivot_place" (defArgs s_pivot_place) (defBody s_pivot_place) (defScope s_pivot_place) .none kV6 dc6 pm6 an6 cd6 ct6), sl6⟩) (c_pivot_place : PySem.W.codeIn K cd6 "pivot_place" = true) (k_pivot_place : PySem.W.keepIn K (.ref f_pivot_place) = true)
    (a_swapped : PySem.W.nsIn K mainGlobals "swapped" = some (some (.ref f_swapped))) (l_swapped : K.lookup f_swapped = some ⟨oc7, od7, .func (PySem.W.fnOf "swapped" "swapped" (defArgs s_swapped) (defBody s_swapped) (defScope s_swapped) .none kV7 dc7 pm7 an7 cd7 ct7), sl7⟩) (c_swapped : PySem.W.codeIn K cd7 "swapped" = true) (k_swapped : PySem.W.keepIn K (.ref f_swapped) = true)
    (a_cleared : PySem.W.nsIn K mainGlobals "cleared" = some (some (.ref f_cleared))) (l_cleared : K.lookup f_cleared = some ⟨oc8, od8, .func (PySem.W.fnOf "cleared" "cleared" (defArgs s_cleared) (defBody s_cleared) (defScope s_cleared) .none kV8 dc8 pm8 an8 cd8 ct8), sl8⟩) (c_cleared : PySem.W.codeIn K cd8 "cleared" = true) (k_cleared : PySem.W.keepIn K (.ref f_cleared) = true)
    (a_minor : PySem.W.nsIn K mainGlobals "minor" = some (some (.ref f_minor))) (l_minor : K.lookup f_minor = some ⟨oc9, od9, .func (PySem.W.fnOf "minor" "minor" (defArgs s_minor) (defBody s_minor) (defScope s_minor) .none kV9 dc9 pm9 an9 cd9 ct9), sl9⟩) (c_minor : PySem.W.codeIn K cd9 "minor" = true) (k_minor : PySem.W.keepIn K (.ref f_minor) = true)
    (a_l_pick : PySem.W.nsIn K mainGlobals "_law_pick" = some (some (.ref f_l_pick))) (l_l_pick : K.lookup f_l_pick = some ⟨oc10, od10, .func (PySem.W.fnOf "_law_pick" "_law_pick" (defArgs s_l_pick) (defBody s_l_pick) (defScope s_l_pick) .none kV10 dc10 pm10 an10 cd10 ct10), sl10⟩) (c_l_pick : PySem.W.codeIn K cd10 "_law_pick" = true) (k_l_pick : PySem.W.keepIn K (.ref f_l_pick) = true)
    (a_l_gcd : PySem.W.nsIn K mainGlobals "_law_gcd" = some (some (.ref f_l_gcd))) (l_l_gcd : K.lookup f_l_gcd = some ⟨oc11, od11, .func (PySem.W.fnOf "_law_gcd" "_law_gcd" (defArgs s_l_gcd) (defBody s_l_gcd) (defScope s_l_gcd) .none kV11 dc11 pm11 an11 cd11 ct11), sl11⟩) (c_l_gcd : PySem.W.codeIn K cd11 "_law_gcd" = true) (k_l_gcd : PySem.W.keepIn K (.ref f_l_gcd) = true)
    (a_l_ratio : PySem.W.nsIn K mainGlobals "_law_ratio" = some (some (.ref f_l_ratio))) (l_l_ratio : K.lookup f_l_ratio = some ⟨oc12, od12, .func (PySem.W.fnOf "_law_ratio" "_law_ratio" (defArgs s_l_ratio) (defBody s_l_ratio) (defScope s_l_ratio) .none kV12 dc12 pm12 an12 cd12 ct12), sl12⟩) (c_l_ratio : PySem.W.codeIn K cd12 "_law_ratio" = true) (k_l_ratio : PySem.W.keepIn K (.ref f_l_ratio) = true)
    (a_l_sub : PySem.W.nsIn K mainGlobals "_law_sub" = some (some (.ref f_l_sub))) (l_l_sub : K.lookup f_l_sub = some ⟨oc13, od13, .func (PySem.W.fnOf "_law_sub" "_law_sub" (defArgs s_l_sub) (defBody s_l_sub) (defScope s_l_sub) .none kV13 dc13 pm13 an13 cd13 ct13), sl13⟩) (c_l_sub : PySem.W.codeIn K cd13 "_law_sub" = true) (k_l_sub : PySem.W.keepIn K (.ref f_l_sub) = true)
    (a_l_mul : PySem.W.nsIn K mainGlobals "_law_mul" = some (some (.ref f_l_mul))) (l_l_mul : K.lookup f_l_mul = some ⟨oc14, od14, .func (PySem.W.fnOf "_law_mul" "_law_mul" (defArgs s_l_mul) (defBody s_l_mul) (defScope s_l_mul) .none kV14 dc14 pm14 an14 cd14 ct14), sl14⟩) (c_l_mul : PySem.W.codeIn K cd14 "_law_mul" = true) (k_l_mul : PySem.W.keepIn K (.ref f_l_mul) = true)
    (a_l_div : PySem.W.nsIn K mainGlobals "_law_div" = some (some (.ref f_l_div))) (l_l_div : K.lookup f_l_div = some ⟨oc15, od15, .func (PySem.W.fnOf "_law_div" "_law_div" (defArgs s_l_div) (defBody s_l_div) (defScope s_l_div) .none kV15 dc15 pm15 an15 cd15 ct15), sl15⟩) (c_l_div : PySem.W.codeIn K cd15 "_law_div" = true) (k_l_div : PySem.W.keepIn K (.ref f_l_div) = true)
    (a_l_same : PySem.W.nsIn K mainGlobals "_law_same" = some (some (.ref f_l_same))) (l_l_same : K.lookup f_l_same = some ⟨oc16, od16, .func (PySem.W.fnOf "_law_same" "_law_same" (defArgs s_l_same) (defBody s_l_same) (defScope s_l_same) .none kV16 dc16 pm16 an16 cd16 ct16), sl16⟩) (c_l_same : PySem.W.codeIn K cd16 "_law_same" = true) (k_l_same : PySem.W.keepIn K (.ref f_l_same) = true)
    (a_l_det : PySem.W.nsIn K mainGlobals "_law_det" = some (some (.ref f_l_det))) (l_l_det : K.lookup f_l_det = some ⟨oc17, od17, .func (PySem.W.fnOf "_law_det" "_law_det" (defArgs s_l_det) (defBody s_l_det) (defScope s_l_det) .none kV17 dc17 pm17 an17 cd17 ct17), sl17⟩) (c_l_det : PySem.W.codeIn K cd17 "_law_det" = true) (k_l_det : PySem.W.keepIn K (.ref f_l_det) = true)
    (a_l_minor : PySem.W.nsIn K mainGlobals "_law_minor" = some (some (.ref f_l_minor))) (l_l_minor : K.lookup f_l_minor = some ⟨oc18, od18, .func (PySem.W.fnOf "_law_minor" "_law_minor" (defArgs s_l_minor) (defBody s_l_minor) (defScope s_l_minor) .none kV18 dc18 pm18 an18 cd18 ct18), sl18⟩) (c_l_minor : PySem.W.codeIn K cd18 "_law_minor" = true) (k_l_minor : PySem.W.keepIn K (.ref f_l_minor) = true)
    (a_l_subsets : PySem.W.nsIn K mainGlobals "_law_subsets" = some (some (.ref f_l_subsets))) (l_l_subsets : K.lookup f_l_subsets = some ⟨oc19, od19, .func (PySem.W.fnOf "_law_subsets" "_law_subsets" (defArgs s_l_subsets) (defBody s_l_subsets) (defScope s_l_subsets) .none kV19 dc19 pm19 an19 cd19 ct19), sl19⟩) (c_l_subsets : PySem.W.codeIn K cd19 "_law_subsets" = true) (k_l_subsets : PySem.W.keepIn K (.ref f_l_subsets) = true)
    (a_l_pairs : PySem.W.nsIn K mainGlobals "_law_pairs" = some (some (.ref f_l_pairs))) (l_l_pairs : K.lookup f_l_pairs = some ⟨oc20, od20, .func (PySem.W.fnOf "_law_pairs" "_law_pairs" (defArgs s_l_pairs) (defBody s_l_pairs) (defScope s_l_pairs) .none kV20 dc20 pm20 an20 cd20 ct20), sl20⟩) (c_l_pairs : PySem.W.codeIn K cd20 "_law_pairs" = true) (k_l_pairs : PySem.W.keepIn K (.ref f_l_pairs) = true)
    (a_law : PySem.W.nsIn K mainGlobals "law" = some (some (.ref f_law))) (l_law : K.lookup f_law = some ⟨oc21, od21, .func (PySem.W.fnOf "law" "law" (defArgs s_law) (defBody s_law) (defScope s_law) .none kV21 dc21 pm21 an21 cd21 ct21), sl21⟩) (c_law : PySem.W.codeIn K cd21 "law" = true) (k_law : PySem.W.keepIn K (.ref f_law) = true)
    (a_RimError : PySem.W.nsIn K mainGlobals "RimError" = some (some (.ref C_RimError)))
    (x_RimError : PySem.W.excIn K (C_RimError) [.type "ValueError", .type "Exception", .type "BaseException", .type "object"] "ValueError.__new__" = true)
    (k_RimError : PySem.W.keepIn K (.ref (C_RimError)) = true)
    (bb_RimError : PySem.W.subIn K (.ref (C_RimError)) (.type "BaseException") = some true)
    (t_RimError : PySem.W.typeIn K (.ref (C_RimError)) = some (.type "type"))
    (d_RimError : PySem.W.hasDictIn K (C_RimError) = true)
    (hg_RimError : PySem.W.findIn K (.ref (C_RimError)) "__getattribute__" = some (some (.builtin "BaseException.__getattribute__")))
    (hk_RimError : PySem.W.findIn K (.ref (C_RimError)) "__getattr__" = some none)
    (ha_RimError : PySem.W.findIn K (.ref (C_RimError)) "__class__" = some (some (.builtin "object.__class__")))
    (hm_RimError : PySem.W.mroIn K (C_RimError) (.type "object") = some true)
    (v_RimError : PySem.W.kitOne K (.ref (C_RimError)) (.type "ValueError") = some true)
    (i_RimError_RimError : PySem.W.kitOne K (.ref (C_RimError)) (.ref (C_RimError)) = some true)
    (e_RimError_RimError : PySem.W.exmOne K (.ref (C_RimError)) (.ref (C_RimError)) = some true)
    (i_RatioError_RimError : PySem.W.kitOne K (.ref (C_RimError)) (.ref (C_RatioError)) = some false)
    (e_RatioError_RimError : PySem.W.exmOne K (.ref (C_RimError)) (.ref (C_RatioError)) = some false)
    (a_RatioError : PySem.W.nsIn K mainGlobals "RatioError" = some (some (.ref C_RatioError)))
    (x_RatioError : PySem.W.excIn K (C_RatioError) [.type "ValueError", .type "Exception", .type "BaseException", .type "object"] "ValueError.__new__" = true)
    (k_RatioError : PySem.W.keepIn K (.ref (C_RatioError)) = true)
    (bb_RatioError : PySem.W.subIn K (.ref (C_RatioError)) (.type "BaseException") = some true)
    (t_RatioError : PySem.W.typeIn K (.ref (C_RatioError)) = some (.type "type"))
    (d_RatioError : PySem.W.hasDictIn K (C_RatioError) = true)
    (hg_RatioError : PySem.W.findIn K (.ref (C_RatioError)) "__getattribute__" = some (some (.builtin "BaseException.__getattribute__")))
    (hk_RatioError : PySem.W.findIn K (.ref (C_RatioError)) "__getattr__" = some none)
    (ha_RatioError : PySem.W.findIn K (.ref (C_RatioError)) "__class__" = some (some (.builtin "object.__class__")))
    (hm_RatioError : PySem.W.mroIn K (C_RatioError) (.type "object") = some true)
    (v_RatioError : PySem.W.kitOne K (.ref (C_RatioError)) (.type "ValueError") = some true)
    (i_RimError_RatioError : PySem.W.kitOne K (.ref (C_RatioError)) (.ref (C_RimError)) = some true)
    (e_RimError_RatioError : PySem.W.exmOne K (.ref (C_RatioError)) (.ref (C_RimError)) = some true)
    (i_RatioError_RatioError : PySem.W.kitOne K (.ref (C_RatioError)) (.ref (C_RatioError)) = some true)
    (e_RatioError_RatioError : PySem.W.exmOne K (.ref (C_RatioError)) (.ref (C_RatioError)) = some true)
    (hn_ : PySem.W.specialIn K (.builtin "object.__class__") "__get__" = some (some (.builtin "getset_descriptor.__get__"))) (ht_ : PySem.W.takesIn K (.builtin "object.__class__") = some true)
    {odz0 : Option Addr} {nz0 : Nat} {slz0 : Array (Option Value)} (a_ZERO : PySem.W.nsIn K mainGlobals "ZERO" = some (some (.ref z_ZERO))) (l_ZERO : K.lookup z_ZERO = some ⟨.type "tuple", odz0, .seq #[.int 0 tk0_0, .int 1 tk0_1] nz0, slz0⟩)
    {odz1 : Option Addr} {nz1 : Nat} {slz1 : Array (Option Value)} (a_ONE : PySem.W.nsIn K mainGlobals "ONE" = some (some (.ref z_ONE))) (l_ONE : K.lookup z_ONE = some ⟨.type "tuple", odz1, .seq #[.int 1 tk1_0, .int 1 tk1_1] nz1, slz1⟩)
    (n_abs : PySem.W.nsIn K mainGlobals "abs" = some none)
    (n_all : PySem.W.nsIn K mainGlobals "all" = some none)
    (n_bool : PySem.W.nsIn K mainGlobals "bool" = some none)
    (n_enumerate : PySem.W.nsIn K mainGlobals "enumerate" = some none)
    (n_int : PySem.W.nsIn K mainGlobals "int" = some none)
    (n_isinstance : PySem.W.nsIn K mainGlobals "isinstance" = some none)
    (n_len : PySem.W.nsIn K mainGlobals "len" = some none)
    (n_list : PySem.W.nsIn K mainGlobals "list" = some none)
    (n_min : PySem.W.nsIn K mainGlobals "min" = some none)
    (n_range : PySem.W.nsIn K mainGlobals "range" = some none)
    (n_str : PySem.W.nsIn K mainGlobals "str" = some none)
    (n_tuple : PySem.W.nsIn K mainGlobals "tuple" = some none)
    (n_zip : PySem.W.nsIn K mainGlobals "zip" = some none)
    (g_gcd : PySem.W.nsIn K mainGlobals "gcd" = some (some (.builtin "math.gcd")))
    : ∃ fd : FuncData, (∀ (s : Shared) (v : Value), BindsTo s fd ⟨[v], []⟩ [("script", v)]) ∧ ∀ base : Heap, K.In base → base.Ns mainGlobals mg → FnOk l.prog w K mg base CX0 7 fa fd ["script"] (spLaw K) := by
  have e := hfa.symm.trans (PySem.W.mg_of X G a_law)
  cases e
  have F0 := fun_mk (st := s_ratio) l_ratio c_ratio k_ratio
  have b0 := F0.binds (ps := ["top", "bottom"]) fun _ _ _ _ _ _ us hl => match us, hl with | [_, _], _ => rfl
  have F1 := fun_mk (st := s_minus) l_minus c_minus k_minus
  have b1 := F1.binds (ps := ["left", "right"]) fun _ _ _ _ _ _ us hl => match us, hl with | [_, _], _ => rfl
  have F2 := fun_mk (st := s_times) l_times c_times k_times
  have b2 := F2.binds (ps := ["left", "right"]) fun _ _ _ _ _ _ us hl => match us, hl with | [_, _], _ => rfl
  have F3 := fun_mk (st := s_over) l_over c_over k_over
  have b3 := F3.binds (ps := ["left", "right"]) fun _ _ _ _ _ _ us hl => match us, hl with | [_, _], _ => rfl
  have F4 := fun_mk (st := s_opposite) l_opposite c_opposite k_opposite
  have b4 := F4.binds (ps := ["value"]) fun _ _ _ _ _ _ us hl => match us, hl with | [_], _ => rfl
  have F5 := fun_mk (st := s_determinant) l_determinant c_determinant k_determinant
  have b5 := F5.binds (ps := ["rows"]) fun _ _ _ _ _ _ us hl => match us, hl with | [_], _ => rfl
  have F6 := fun_mk (st := s_pivot_place) l_pivot_place c_pivot_place k_pivot_place
  have b6 := F6.binds (ps := ["rows", "column"]) fun _ _ _ _ _ _ us hl => match us, hl with | [_, _], _ => rfl
  have F7 := fun_mk (st := s_swapped) l_swapped c_swapped k_swapped
  have b7 := F7.binds (ps := ["rows", "one", "other"]) fun _ _ _ _ _ _ us hl => match us, hl with | [_, _, _], _ => rfl
  have F8 := fun_mk (st := s_cleared) l_cleared c_cleared k_cleared
  have b8 := F8.binds (ps := ["row", "pivot", "column"]) fun _ _ _ _ _ _ us hl => match us, hl with | [_, _, _], _ => rfl
  have F9 := fun_mk (st := s_minor) l_minor c_minor k_minor
  have b9 := F9.binds (ps := ["table", "heads", "tails"]) fun _ _ _ _ _ _ us hl => match us, hl with | [_, _, _], _ => rfl
  have F10 := fun_mk (st := s_l_pick) l_l_pick c_l_pick k_l_pick
  have b10 := F10.binds (ps := ["state", "limit"]) fun _ _ _ _ _ _ us hl => match us, hl with | [_, _], _ => rfl
  have F11 := fun_mk (st := s_l_gcd) l_l_gcd c_l_gcd k_l_gcd
  have b11 := F11.binds (ps := ["left", "right"]) fun _ _ _ _ _ _ us hl => match us, hl with | [_, _], _ => rfl
  have F12 := fun_mk (st := s_l_ratio) l_l_ratio c_l_ratio k_l_ratio
  have b12 := F12.binds (ps := ["top", "bottom"]) fun _ _ _ _ _ _ us hl => match us, hl with | [_, _], _ => rfl
  have F13 := fun_mk (st := s_l_sub) l_l_sub c_l_sub k_l_sub
  have b13 := F13.binds (ps := ["left", "right"]) fun _ _ _ _ _ _ us hl => match us, hl with | [_, _], _ => rfl
  have F14 := fun_mk (st := s_l_mul) l_l_mul c_l_mul k_l_mul
  have b14 := F14.binds (ps := ["left", "right"]) fun _ _ _ _ _ _ us hl => match us, hl with | [_, _], _ => rfl
  have F15 := fun_mk (st := s_l_div) l_l_div c_l_div k_l_div
  have b15 := F15.binds (ps := ["left", "right"]) fun _ _ _ _ _ _ us hl => match us, hl with | [_, _], _ => rfl
  have F16 := fun_mk (st := s_l_same) l_l_same c_l_same k_l_same
  have b16 := F16.binds (ps := ["actual", "due"]) fun _ _ _ _ _ _ us hl => match us, hl with | [_, _], _ => rfl
  have F17 := fun_mk (st := s_l_det) l_l_det c_l_det k_l_det
  have b17 := F17.binds (ps := ["rows"]) fun _ _ _ _ _ _ us hl => match us, hl with | [_], _ => rfl
  have F18 := fun_mk (st := s_l_minor) l_l_minor c_l_minor k_l_minor
  have b18 := F18.binds (ps := ["table", "heads", "tails"]) fun _ _ _ _ _ _ us hl => match us, hl with | [_, _, _], _ => rfl
  have F19 := fun_mk (st := s_l_subsets) l_l_subsets c_l_subsets k_l_subsets
  have b19 := F19.binds (ps := ["size", "count"]) fun _ _ _ _ _ _ us hl => match us, hl with | [_, _], _ => rfl
  have F20 := fun_mk (st := s_l_pairs) l_l_pairs c_l_pairs k_l_pairs
  have b20 := F20.binds (ps := ["rim"]) fun _ _ _ _ _ _ us hl => match us, hl with | [_], _ => rfl
  have F21 := fun_mk (st := s_law) l_law c_law k_law
  have b21 := F21.binds (ps := ["script"]) fun _ _ _ _ _ _ us hl => match us, hl with | [_], _ => rfl
  have T : Txt K mg { f_ratio := f_ratio, fd_ratio := _, f_minus := f_minus, fd_minus := _, f_times := f_times, fd_times := _, f_over := f_over, fd_over := _, f_opposite := f_opposite, fd_opposite := _, f_determinant := f_determinant, fd_determinant := _, f_pivot_place := f_pivot_place, fd_pivot_place := _, f_swapped := f_swapped, fd_swapped := _, f_cleared := f_cleared, fd_cleared := _, f_minor := f_minor, fd_minor := _, f_l_pick := f_l_pick, fd_l_pick := _, f_l_gcd := f_l_gcd, fd_l_gcd := _, f_l_ratio := f_l_ratio, fd_l_ratio := _, f_l_sub := f_l_sub, fd_l_sub := _, f_l_mul := f_l_mul, fd_l_mul := _, f_l_div := f_l_div, fd_l_div := _, f_l_same := f_l_same, fd_l_same := _, f_l_det := f_l_det, fd_l_det := _, f_l_minor := f_l_minor, fd_l_minor := _, f_l_subsets := f_l_subsets, fd_l_subsets := _, f_l_pairs := f_l_pairs, fd_l_pairs := _, f_law := fa, fd_law := _, C_RimError := C_RimError, C_RatioError := C_RatioError, z_ZERO := z_ZERO, z_ONE := z_ONE } := { g_ratio := PySem.W.mg_of X G a_ratio, F_ratio := F0, b_ratio := b0, g_minus := PySem.W.mg_of X G a_minus, F_minus := F1, b_minus := b1, g_times := PySem.W.mg_of X G a_times, F_times := F2, b_times := b2, g_over := PySem.W.mg_of X G a_over, F_over := F3, b_over := b3, g_opposite := PySem.W.mg_of X G a_opposite, F_opposite := F4, b_opposite := b4, g_determinant := PySem.W.mg_of X G a_determinant, F_determinant := F5, b_determinant := b5, g_pivot_place := PySem.W.mg_of X G a_pivot_place, F_pivot_place := F6, b_pivot_place := b6, g_swapped := PySem.W.mg_of X G a_swapped, F_swapped := F7, b_swapped := b7, g_cleared := PySem.W.mg_of X G a_cleared, F_cleared := F8, b_cleared := b8, g_minor := PySem.W.mg_of X G a_minor, F_minor := F9, b_minor := b9, g_l_pick := PySem.W.mg_of X G a_l_pick, F_l_pick := F10, b_l_pick := b10, g_l_gcd := PySem.W.mg_of X G a_l_gcd, F_l_gcd := F11, b_l_gcd := b11, g_l_ratio := PySem.W.mg_of X G a_l_ratio, F_l_ratio := F12, b_l_ratio := b12, g_l_sub := PySem.W.mg_of X G a_l_sub, F_l_sub := F13, b_l_sub := b13, g_l_mul := PySem.W.mg_of X G a_l_mul, F_l_mul := F14, b_l_mul := b14, g_l_div := PySem.W.mg_of X G a_l_div, F_l_div := F15, b_l_div := b15, g_l_same := PySem.W.mg_of X G a_l_same, F_l_same := F16, b_l_same := b16, g_l_det := PySem.W.mg_of X G a_l_det, F_l_det := F17, b_l_det := b17, g_l_minor := PySem.W.mg_of X G a_l_minor, F_l_minor := F18, b_l_minor := b18, g_l_subsets := PySem.W.mg_of X G a_l_subsets, F_l_subsets := F19, b_l_subsets := b19, g_l_pairs := PySem.W.mg_of X G a_l_pairs, F_l_pairs := F20, b_l_pairs := b20, g_law := PySem.W.mg_of X G a_law, F_law := F21, b_law := b21, g_RimError := PySem.W.mg_of X G a_RimError, x_RimError := x_RimError, k_RimError := k_RimError, bb_RimError := bb_RimError, t_RimError := t_RimError, d_RimError := d_RimError, hg_RimError := hg_RimError, hk_RimError := hk_RimError, ha_RimError := ha_RimError, hm_RimError := hm_RimError, v_RimError := v_RimError, i_RimError_RimError := i_RimError_RimError, e_RimError_RimError := e_RimError_RimError, i_RatioError_RimError := i_RatioError_RimError, e_RatioError_RimError := e_RatioError_RimError, g_RatioError := PySem.W.mg_of X G a_RatioError, x_RatioError := x_RatioError, k_RatioError := k_RatioError, bb_RatioError := bb_RatioError, t_RatioError := t_RatioError, d_RatioError := d_RatioError, hg_RatioError := hg_RatioError, hk_RatioError := hk_RatioError, ha_RatioError := ha_RatioError, hm_RatioError := hm_RatioError, v_RatioError := v_RatioError, i_RimError_RatioError := i_RimError_RatioError, e_RimError_RatioError := e_RimError_RatioError, i_RatioError_RatioError := i_RatioError_RatioError, e_RatioError_RatioError := e_RatioError_RatioError, c_ZERO := PySem.W.mg_of X G a_ZERO, q_ZERO := fun _ => .inr ⟨_, _, _, l_ZERO, rfl, rfl, (by show 2 ≤ sizeLine; decide), (.cons ⟨_, rfl⟩ (.cons ⟨_, rfl⟩ (.nil)))⟩, c_ONE := PySem.W.mg_of X G a_ONE, q_ONE := fun _ => .inr ⟨_, _, _, l_ONE, rfl, rfl, (by show 2 ≤ sizeLine; decide), (.cons ⟨_, rfl⟩ (.cons ⟨_, rfl⟩ (.nil)))⟩, n_abs := PySem.W.mg_none_of X G n_abs, n_all := PySem.W.mg_none_of X G n_all, n_bool := PySem.W.mg_none_of X G n_bool, n_enumerate := PySem.W.mg_none_of X G n_enumerate, n_int := PySem.W.mg_none_of X G n_int, n_isinstance := PySem.W.mg_none_of X G n_isinstance, n_len := PySem.W.mg_none_of X G n_len, n_list := PySem.W.mg_none_of X G n_list, n_min := PySem.W.mg_none_of X G n_min, n_range := PySem.W.mg_none_of X G n_range, n_str := PySem.W.mg_none_of X G n_str, n_tuple := PySem.W.mg_none_of X G n_tuple, n_zip := PySem.W.mg_none_of X G n_zip, g_gcd := PySem.W.mg_of X G g_gcd, hn_ := hn_, ht_ := ht_ }
  exact ⟨_, fun s v => .of_eq rfl, fun base _ _ => ok_law T⟩
end K11
open PySem PySem.W PyProof.Rows
set_option maxRecDepth 100000 in
set_option maxHeartbeats 0 in
theorem PySem.Challenge.cw_rimohms_k11_minors_holds : PySem.Challenge.rw_rimohms_k11_minors.Holds := by
  w_on; o_law; k_head; (case hw => w_witness2)
  k_fill
  refine L2.walk_of (l := PySem.Challenge.rw_rimohms_k11_minors) (n := 63) (k := 7) (x := "script") (CX := fun _ => L2.CX0) (sp := fun w => Rz.spLaw _) rfl (by decide) rfl ⟨rfl, by decide, by decide⟩ (fun w h Y => PySem.W.kIn_of Y) ?F (fun _ _ a ns hl _ hS => ⟨a, ns, rfl, hS, hl, fun _ => rfl⟩) (fun _ _ _ _ _ h => h)
  case F =>
    intro w mg fa h KX G hmg
    refine' K11.all_mk KX G hmg ?a_ratio ?l_ratio ?c_ratio ?k_ratio ?a_minus ?l_minus ?c_minus ?k_minus ?a_times ?l_times ?c_times ?k_times ?a_over ?l_over ?c_over ?k_over ?a_opposite ?l_opposite ?c_opposite ?k_opposite ?a_determinant ?l_determinant ?c_determinant ?k_determinant ?a_pivot_place ?l_pivot_place ?c_pivot_place ?k_pivot_place ?a_swapped ?l_swapped ?c_swapped ?k_swapped ?a_cleared ?l_cleared ?c_cleared ?k_cleared ?a_minor ?l_minor ?c_minor ?k_minor ?a_l_pick ?l_l_pick ?c_l_pick ?k_l_pick ?a_l_gcd ?l_l_gcd ?c_l_gcd ?k_l_gcd ?a_l_ratio ?l_l_ratio ?c_l_ratio ?k_l_ratio ?a_l_sub ?l_l_sub ?c_l_sub ?k_l_sub ?a_l_mul ?l_l_mul ?c_l_mul ?k_l_mul ?a_l_div ?l_l_div ?c_l_div ?k_l_div ?a_l_same ?l_l_same ?c_l_same ?k_l_same ?a_l_det ?l_l_det ?c_l_det ?k_l_det ?a_l_minor ?l_l_minor ?c_l_minor ?k_l_minor ?a_l_subsets ?l_l_subsets ?c_l_subsets ?k_l_subsets ?a_l_pairs ?l_l_pairs ?c_l_pairs ?k_l_pairs ?a_law ?l_law ?c_law ?k_law ?a_RimError ?x_RimError ?k_RimError ?bb_RimError ?t_RimError ?d_RimError ?hg_RimError ?hk_RimError ?ha_RimError ?hm_RimError ?v_RimError ?i_RimError_RimError ?e_RimError_RimError ?i_RatioError_RimError ?e_RatioError_RimError ?a_RatioError ?x_RatioError ?k_RatioError ?bb_RatioError ?t_RatioError ?d_RatioError ?hg_RatioError ?hk_RatioError ?ha_RatioError ?hm_RatioError ?v_RatioError ?i_RimError_RatioError ?e_RimError_RatioError ?i_RatioError_RatioError ?e_RatioError_RatioError ?hn_ ?ht_ ?a_ZERO ?l_ZERO ?a_ONE ?l_ONE ?n_abs ?n_all ?n_bool ?n_enumerate ?n_int ?n_isinstance ?n_len ?n_list ?n_min ?n_range ?n_str ?n_tuple ?n_zip ?g_gcd
    (case a_RimError => first | k_is | rfl)
    (case a_RatioError => first | k_is | rfl)
    (case a_ratio => first | k_is | rfl)
    (case l_ratio => first | k_is | rfl)
    (case c_ratio => first | k_is | rfl)
    (case k_ratio => first | k_is | rfl)
    (case a_minus => first | k_is | rfl)
    (case l_minus => first | k_is | rfl)
    (case c_minus => first | k_is | rfl)
    (case k_minus => first | k_is | rfl)
    (case a_times => first | k_is | rfl)
    (case l_times => first | k_is | rfl)
    (case c_times => first | k_is | rfl)
    (case k_times => first | k_is | rfl)
    (case a_over => first | k_is | rfl)
    (case l_over => first | k_is | rfl)
    (case c_over => first | k_is | rfl)
    (case k_over => first | k_is | rfl)
    (case a_opposite => first | k_is | rfl)
    (case l_opposite => first | k_is | rfl)
    (case c_opposite => first | k_is | rfl)
    (case k_opposite => first | k_is | rfl)
    (case a_determinant => first | k_is | rfl)
    (case l_determinant => first | k_is | rfl)
    (case c_determinant => first | k_is | rfl)
    (case k_determinant => first | k_is | rfl)
    (case a_pivot_place => first | k_is | rfl)
    (case l_pivot_place => first | k_is | rfl)
    (case c_pivot_place => first | k_is | rfl)
    (case k_pivot_place => first | k_is | rfl)
    (case a_swapped => first | k_is | rfl)
    (case l_swapped => first | k_is | rfl)
    (case c_swapped => first | k_is | rfl)
    (case k_swapped => first | k_is | rfl)
    (case a_cleared => first | k_is | rfl)
    (case l_cleared => first | k_is | rfl)
    (case c_cleared => first | k_is | rfl)
    (case k_cleared => first | k_is | rfl)
    (case a_minor => first | k_is | rfl)
    (case l_minor => first | k_is | rfl)
    (case c_minor => first | k_is | rfl)
    (case k_minor => first | k_is | rfl)
    (case a_l_pick => first | k_is | rfl)
    (case l_l_pick => first | k_is | rfl)
    (case c_l_pick => first | k_is | rfl)
    (case k_l_pick => first | k_is | rfl)
    (case a_l_gcd => first | k_is | rfl)
    (case l_l_gcd => first | k_is | rfl)
    (case c_l_gcd => first | k_is | rfl)
    (case k_l_gcd => first | k_is | rfl)
    (case a_l_ratio => first | k_is | rfl)
    (case l_l_ratio => first | k_is | rfl)
    (case c_l_ratio => first | k_is | rfl)
    (case k_l_ratio => first | k_is | rfl)
    (case a_l_sub => first | k_is | rfl)
    (case l_l_sub => first | k_is | rfl)
    (case c_l_sub => first | k_is | rfl)
    (case k_l_sub => first | k_is | rfl)
    (case a_l_mul => first | k_is | rfl)
    (case l_l_mul => first | k_is | rfl)
    (case c_l_mul => first | k_is | rfl)
    (case k_l_mul => first | k_is | rfl)
    (case a_l_div => first | k_is | rfl)
    (case l_l_div => first | k_is | rfl)
    (case c_l_div => first | k_is | rfl)
    (case k_l_div => first | k_is | rfl)
    (case a_l_same => first | k_is | rfl)
    (case l_l_same => first | k_is | rfl)
    (case c_l_same => first | k_is | rfl)
    (case k_l_same => first | k_is | rfl)
    (case a_l_det => first | k_is | rfl)
    (case l_l_det => first | k_is | rfl)
    (case c_l_det => first | k_is | rfl)
    (case k_l_det => first | k_is | rfl)
    (case a_l_minor => first | k_is | rfl)
    (case l_l_minor => first | k_is | rfl)
    (case c_l_minor => first | k_is | rfl)
    (case k_l_minor => first | k_is | rfl)
    (case a_l_subsets => first | k_is | rfl)
    (case l_l_subsets => first | k_is | rfl)
    (case c_l_subsets => first | k_is | rfl)
    (case k_l_subsets => first | k_is | rfl)
    (case a_l_pairs => first | k_is | rfl)
    (case l_l_pairs => first | k_is | rfl)
    (case c_l_pairs => first | k_is | rfl)
    (case k_l_pairs => first | k_is | rfl)
    (case a_law => first | k_is | rfl)
    (case l_law => first | k_is | rfl)
    (case c_law => first | k_is | rfl)
    (case k_law => first | k_is | rfl)
    (case x_RimError => k_exc)
    (case k_RimError => first | k_is | rfl)
    (case bb_RimError => first | k_is | rfl)
    (case t_RimError => first | k_is | rfl)
    (case d_RimError => first | k_is | rfl)
    (case hg_RimError => first | k_is | rfl)
    (case hk_RimError => first | k_is | rfl)
    (case ha_RimError => first | k_is | rfl)
    (case hm_RimError => first | k_is | rfl)
    (case v_RimError => first | k_is | rfl)
    (case i_RimError_RimError => first | k_is | rfl)
    (case e_RimError_RimError => first | k_is | rfl)
    (case i_RatioError_RimError => first | k_is | rfl)
    (case e_RatioError_RimError => first | k_is | rfl)
    (case x_RatioError => k_exc)
    (case k_RatioError => first | k_is | rfl)
    (case bb_RatioError => first | k_is | rfl)
    (case t_RatioError => first | k_is | rfl)
    (case d_RatioError => first | k_is | rfl)
    (case hg_RatioError => first | k_is | rfl)
    (case hk_RatioError => first | k_is | rfl)
    (case ha_RatioError => first | k_is | rfl)
    (case hm_RatioError => first | k_is | rfl)
    (case v_RatioError => first | k_is | rfl)
    (case i_RimError_RatioError => first | k_is | rfl)
    (case e_RimError_RatioError => first | k_is | rfl)
    (case i_RatioError_RatioError => first | k_is | rfl)
    (case e_RatioError_RatioError => first | k_is | rfl)
    (case hn_ => first | k_is | rfl)
    (case ht_ => first | k_is | rfl)
    (case a_ZERO => first | k_is | rfl)
    (case l_ZERO => first | k_is | rfl)
    (case a_ONE => first | k_is | rfl)
    (case l_ONE => first | k_is | rfl)
    (case n_abs => first | k_is | rfl)
    (case n_all => first | k_is | rfl)
    (case n_bool => first | k_is | rfl)
    (case n_enumerate => first | k_is | rfl)
    (case n_int => first | k_is | rfl)
    (case n_isinstance => first | k_is | rfl)
    (case n_len => first | k_is | rfl)
    (case n_list => first | k_is | rfl)
    (case n_min => first | k_is | rfl)
    (case n_range => first | k_is | rfl)
    (case n_str => first | k_is | rfl)
    (case n_tuple => first | k_is | rfl)
    (case n_zip => first | k_is | rfl)
    (case g_gcd => first | k_is | rfl)
#print axioms PySem.Challenge.cw_rimohms_k11_minors_holds
