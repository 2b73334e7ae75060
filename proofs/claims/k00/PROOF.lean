import PyProof.Rows.All
import Wide.All
import OpenK.AllK
import Wide.FinOn
import HandS.ForMost
import HandS.ForExc
import HandS.Gcd
import HandS.Wide
import HandS.IsInst
import HandS.ExcIs
import HandS.CallLocal
import HandS.CallSlots
import PySem.Challenge.RW_rimohms_k00_ratios
set_option Elab.async false
set_option linter.all false
set_option maxRecDepth 100000
set_option maxHeartbeats 8000000
namespace Rz
open PySem PySem.Spec PyProof.Rows L2

/-! ### numbers -/
def CMulB (i j : Int) : Prop := ∃ a b : Nat, i.natAbs < 2 ^ a ∧ j.natAbs < 2 ^ b ∧ a + b ≤ 100000000
theorem CMulB.ok {i j : Int} (h : CMulB i j) : IntMulOk i j := by
  obtain ⟨a, b, h1, h2, h3⟩ := h
  have key : ∀ (x : Int) (n : Nat), x.natAbs < 2 ^ n → Builtin.Int.intBits x ≤ n := fun x n hx => by
    unfold Builtin.Int.intBits
    split
    · omega
    · rename_i h0
      have hne : x.natAbs ≠ 0 := fun z => h0 (by
        have : x = 0 := Int.natAbs_eq_zero.mp z
        rw [this]
        rfl)
      have := (Nat.log2_lt hne).mpr hx
      omega
  have k1 := key i a h1
  have k2 := key j b h2
  have e : bitsLine = 134217728 := by decide
  unfold IntMulOk
  intro z
  rw [Bool.and_eq_true] at z
  have z2 := z.2
  unfold Builtin.Int.intTooBig at z2
  have z3 := of_decide_eq_true z2
  rw [e] at z3
  omega
section
variable {X : Cx}
theorem op_mulB : OpR X (binaryOp .Mult) (rI CMulB fun i j => .int (i * j)) := opI fun _ _ _ _ _ _ _ hc q => mul_int q hc.ok
/-- // by a divisor of less than 9000 bits, of either sign -/
def CDivZ (_ j : Int) : Prop := j ≠ 0 ∧ j.natAbs < 2 ^ 9000
theorem op_fdivZ : OpR X (binaryOp .FloorDiv) (rI CDivZ fun i j => .int (i.fdiv j)) := opI fun i j _ _ _ _ _ hc q =>
  floordiv_int hc.1 q (.inl (PyProof.noPylong_of_log2 ((Nat.log2_lt (fun z => hc.1 (Int.natAbs_eq_zero.mp z))).mpr hc.2)))
end

/-! ### a statement, then the rest, with a word between them -/
def tCutZ (t u : TS) : TS := fun D σ H => ∃ Mid : L2.St → Hp → Prop, t { D with nx := Mid } σ H ∧ ∀ σ' H', Mid σ' H' → u D σ' H'
section
variable {X : Cx}
theorem pss_cutZ {st : Stmt} {rest : List Stmt} {t u : TS} (h1 : PS X st t) (h2 : PSs X rest u) : PSs X (st :: rest) (tCutZ t u) := by
  refine ⟨fun pins s σ H D I h => ?_⟩
  obtain ⟨Mid, hm, hu⟩ := h
  refine wpAny_execs_cons (thn (h1.run pins s σ H { D with nx := Mid } I hm) fun f s1 q => ?_)
  cases f with
  | next =>
    obtain ⟨σ', H', I', q⟩ := q
    exact h2.run pins s1 σ' H' D I' (hu σ' H' q)
  | ret v => exact q
  | brk => exact q
  | cont => exact q
end
theorem g_cut {t u : TS} {D : Ends} {σ : L2.St} {H : Hp} (Mid : L2.St → Hp → Prop) (h1 : t { D with nx := Mid } σ H) (h2 : ∀ σ' H', Mid σ' H' → u D σ' H') : tCutZ t u D σ H := ⟨Mid, h1, h2⟩
/-! ### built-in calls by named relations -/
def rInt1 : List V → Hp → VK → Prop := fun xs H Q => (∃ i, xs = [.int i] ∧ Q (.int i) H) ∨ ∃ k, xs = [.bl k] ∧ Q (.int (if k then 1 else 0)) H
def rAbs : List V → Hp → VK → Prop := fun xs H Q => ∃ i, xs = [.int i] ∧ Q (.int (if i < 0 then -i else i)) H
def rLenQ (K : PySem.W.Frag) : List V → Hp → VK → Prop := fun xs H Q => ∃ p ys, xs = [.ref p] ∧ (SqL K H p ys ∨ SqT K H p ys) ∧ Q (.int ys.length) H
def rListOf (K : PySem.W.Frag) : List V → Hp → VK → Prop := fun xs H Q => ∃ p ys, xs = [.ref p] ∧ (SqL K H p ys ∨ SqT K H p ys) ∧ ∀ l, H l = none → Q (.ref l) (upd H l (.lst ys))
def rTupleOf (K : PySem.W.Frag) : List V → Hp → VK → Prop := fun xs H Q => ∃ p ys, xs = [.ref p] ∧ ((SqL K H p ys ∧ ∀ l, H l = none → Q (.ref l) (upd H l (.tup ys))) ∨ (SqT K H p ys ∧ Q (.ref p) H))
def rIsNz : R2 := fun x y H Q => y = .non ∧ Q (.bl (decide (x = .non))) H
def rNotNz : R2 := fun x y H Q => y = .non ∧ Q (.bl (!decide (x = .non))) H
section
variable {X : Cx}
theorem zo_isN : OpR X (compareOp .Is) rIsNz := op_isN
theorem zo_notN : OpR X (compareOp .IsNot) rNotNz := op_notN
end
def rNewT (Q : VK) : List V → Hp → Prop := fun xs H1 => xs.length ≤ sizeLine ∧ ∀ p, H1 p = none → Q (.ref p) (upd H1 p (.tup xs))
def rNewL (Q : VK) : List V → Hp → Prop := fun xs H1 => xs.length ≤ sizeLine ∧ ∀ p, H1 p = none → Q (.ref p) (upd H1 p (.lst xs))
/-- a call of a local name that holds a def, where what is raised is wished for -/
def tCallLS (i : Nat) (f : Addr) (sp : Sp) (E : L2.St → XK) (t : TA) : TE := fun σ H Q => σ[i]? = some (some (.ref f)) ∧ t σ H fun vs H1 => sp vs H1 Q (E σ)
section
variable {X : Cx} {CX : CXT} {k i : Nat} {f : Addr} {fd : FuncData} {ps : List Str} {sp : Sp} {E : L2.St → XK} {x : Str} {p pos : Pos} {e : Expr} {es : List Expr} {t : TA}
theorem pe_callLS (F : FnOk X.prog X.w X.K X.mg X.base CX k f fd ps sp) (hr : Room k X.A) (hN : X.N[i]? = some x) (hv : Vis X.env.scope x) (hk : PySem.W.keepIn X.K (.ref f) = true) (hb : L2.Binds X.K fd ps []) (hx : ∀ σ, PassesAt CX X σ (E σ)) (ha : PA X (e :: es) t)
    (hdb : (x == ("__debug__" : Str)) = false := by decide) (hcd : (x == ("__classdict__" : Str)) = false := by decide)
    (he : starEach (e :: es) X.env = (false, eval e X.env) :: starEach es X.env := by rfl) (hpl : (backTo pos (starEach es X.env)).any (·.1) = false := by rfl) : PE X (.Call (.Name x p) (e :: es) [] pos) (tCallLS i f sp E t) := by
  refine ⟨fun pins s σ H Q I h => ?_⟩
  obtain ⟨hs, ht⟩ := h
  refine wpAny_Call_Name_kw (thn ((pe_var (pos := p) hN hv hdb hcd).run pins s σ H (fun v H1 => v = .ref f ∧ H1 = H) I ⟨.ref f, hs, rfl, rfl⟩) fun u s1 ⟨v, H1, I1, r1, q1⟩ => ?_)
  obtain ⟨rfl, rfl⟩ := q1
  cases r1
  refine PySem.W.callWith_K (h₀ := X.base) I.ok.mod.kin hk (thn (ha.run pos pins s1 σ _ _ I1 ht) fun us s2 ⟨vs, H2, I2, r, q⟩ => ⟨I2.kIn, ?_⟩) he hpl
  exact run_fnS F hr hb (hx σ) I2 r q
end
/-- isinstance(e, c), e the exception that a suite holds -/
def rIsEG (K : PySem.W.Frag) (cls : Value) (d : Option Addr) (a : Addr) : List V → Hp → VK → Prop := fun xs H Q => ∃ D, cls = .ref D ∧ d = none ∧ ExcC K D ∧ rIsE K D a xs H Q
theorem call_isEG {X : Cx} {a : Addr} {oe : Obj} {cls : Value} {d : Option Addr} {pn : List (Addr × Obj)} (hz : Zc cls d oe) (hf : ∃ vs, oe.data = .fields vs) : CallR (X.suite a ((a, oe) :: pn)) (.builtin "isinstance") (rIsEG X.K cls d a) := by
  intro pins s σ H xs us Q I r h
  obtain ⟨D, rfl, rfl, C, h⟩ := h
  exact call_isE C hz hf pins s σ H xs us Q I r h
def rTwo (P : V → V → Hp → Prop) : List V → Hp → Prop := fun vs H1 => ∃ v w, vs = [v, w] ∧ P v w H1
section
variable {X : Cx}
theorem zc_int : CallR X (.type "int") rInt1 := call_int1
theorem zc_abs : CallR X (.builtin "abs") rAbs := call_abs
theorem zc_len : CallR X (.builtin "len") (rLenQ X.K) := call_len_seq
theorem zc_list : CallR X (.type "list") (rListOf X.K) := call_list_of
theorem zc_tuple : CallR X (.type "tuple") (rTupleOf X.K) := call_tuple_of
end
/-! ### rules with the written part by name -/
section
variable {X : Cx} {K : PySem.W.Frag}
theorem ix_tupK (h : X.K = K) : IxR X (rIxT K) := h ▸ ix_tup
theorem ix_listK (h : X.K = K) : IxR X (rIxL K) := h ▸ ix_list
theorem zc_lenK (h : X.K = K) : CallR X (.builtin "len") (rLenQ K) := h ▸ zc_len
theorem zc_listK (h : X.K = K) : CallR X (.type "list") (rListOf K) := h ▸ zc_list
theorem zc_tupleK (h : X.K = K) : CallR X (.type "tuple") (rTupleOf K) := h ▸ zc_tuple
theorem call_isiK' (h : X.K = K) : CallR X (.builtin "isinstance") (rIsi K) := h ▸ call_isi
theorem cr_allK (h : X.K = K) (hc : X.calm = true) : CallR X (.builtin "all") (rAll K) := h ▸ cr_all hc
theorem cr_anyK (h : X.K = K) (hc : X.calm = true) : CallR X (.builtin "any") (rAny K) := h ▸ cr_any hc
theorem sl_tupK (h : X.K = K) : SlR X (rSlT K) := h ▸ sl_tup
theorem sl_listK (h : X.K = K) : SlR X (rSlL K) := h ▸ sl_list
theorem op_catTK (h : X.K = K) : OpR X (binaryOp .Add) (rCatT K) := h ▸ op_catT
theorem op_inK (h : X.K = K) : OpR X (compareOp .In) (rIn K false) := h ▸ op_in_seq
theorem op_ninK (h : X.K = K) : OpR X (compareOp .NotIn) (rIn K true) := h ▸ op_notIn_seq
theorem op_eqDK (h : X.K = K) (hu : X.A.units + 64 < cLine) : OpR X (compareOp .Eq) (rEqD K) := h ▸ op_eqD hu
theorem op_neDK (h : X.K = K) (hu : X.A.units + 64 < cLine) : OpR X (compareOp .NotEq) (rNeD K) := h ▸ op_neD hu
theorem mt_indexK (h : X.K = K) : MtR X "list.index" (rIndex K) := h ▸ mt_index
theorem pi_listK {tg l : Expr} {tl : TE} (h : X.K = K) (hl : PE X l tl) : PI X tg l (iList K tl) := h ▸ pi_list hl
theorem pi_tupK {tg l : Expr} {tl : TE} (h : X.K = K) (hl : PE X l tl) : PI X tg l (iTup K tl) := h ▸ pi_tup hl
theorem pg_lstK {pos : Pos} {es : List Expr} {k : Nat} {t : TGs} {n : Nat} (hK : X.K = K) (hc : X.calm = true) (h : PGs X es t) (hn : (assignEach es X.env).length = n := by rfl) (hst : (assignEach es X.env).findIdx? (·.1) = none := by rfl) : PG X (.Tuple es k pos) (gLst K n t) := hK ▸ pg_lst hc h hn hst
theorem pg_tupK {pos : Pos} {es : List Expr} {k : Nat} {t : TGs} {n : Nat} (hK : X.K = K) (hc : X.calm = true) (h : PGs X es t) (hn : (assignEach es X.env).length = n := by rfl) (hst : (assignEach es X.env).findIdx? (·.1) = none := by rfl) : PG X (.Tuple es k pos) (gTup K n t) := hK ▸ pg_tup hc h hn hst
end
/-! ### steps: the head of a reading -/
section
variable {t u : TS} {D : Ends} {σ : L2.St} {H : Hp} {te ta tb : TE} {g : TG} {i : Nat} {v x y : V} {Q : VK} {r : R2} {tt c : TT} {tas : TA}
theorem g_seq (h : t { D with nx := u D } σ H) : tSeq t u D σ H := h
theorem g_asg (h : te σ H fun x H1 => g x σ H1 D.nx) : tAsg te g D σ H := h
theorem g_name {Q : L2.St → Hp → Prop} (h : Q (σ.set i (some v)) H) : gName i v σ H Q := h
theorem g_var (e : σ[i]? = some (some v)) (h : Q v H) : tVar i σ H Q := ⟨v, e, h⟩
theorem g_c (h : Q v H) : tC v σ H Q := h
theorem g_op (h : ta σ H fun x H1 => tb σ H1 fun y H2 => r x y H2 Q) : tOp r ta tb σ H Q := h
theorem g_un {r : V → Hp → VK → Prop} (h : ta σ H fun x H1 => r x H1 Q) : tUn r ta σ H Q := h
theorem g_I {C : Int → Int → Prop} {f : Int → Int → V} {a b : Int} (hc : C a b) (h : Q (f a b) H) : rI C f (.int a) (.int b) H Q := ⟨a, b, rfl, rfl, hc, h⟩
theorem g_I0 {f : Int → Int → V} {a b : Int} (h : Q (f a b) H) : rI0 f (.int a) (.int b) H Q := ⟨a, b, rfl, rfl, h⟩
theorem g_U {f : Int → V} {a : Int} (h : Q (f a) H) : rU f (.int a) H Q := ⟨a, rfl, h⟩
theorem g_ret (h : te σ H D.rt) : tRet te D σ H := h
theorem g_drop (h : te σ H fun _ H1 => D.nx σ H1) : tDrop te D σ H := h
theorem g_next (h : D.nx σ H) : tNext D σ H := h
theorem g_ifs (h : c σ H fun b H1 => if b = true then t D σ H1 else u D σ H1) : tIfS c t u D σ H := h
theorem g_test {Q : Bool → Hp → Prop} (h : te σ H fun x H' => ∃ k, x = .bl k ∧ Q k H') : tTest te σ H Q := h
theorem g_B {Q : Bool → Hp → Prop} (h : te σ H fun x H' => ∃ k, x = .bl k ∧ Q k H') : tB te σ H Q := h
theorem g_bl {P : Bool → Prop} {b : Bool} (h : P b) : ∃ k, V.bl b = .bl k ∧ P k := ⟨b, rfl, h⟩
theorem g_and {a b : TT} {Q : Bool → Hp → Prop} (h : a σ H fun c H1 => if c = true then b σ H1 Q else Q false H1) : tAnd a b σ H Q := h
theorem g_or {a b : TT} {Q : Bool → Hp → Prop} (h : a σ H fun c H1 => if c = true then Q true H1 else b σ H1 Q) : tOr a b σ H Q := h
theorem g_not {a : TT} {Q : Bool → Hp → Prop} (h : a σ H fun c H1 => Q (!c) H1) : tNot a σ H Q := h
theorem g_andV (h : ta σ H fun x H1 => ∃ c, x = .bl c ∧ if c = true then tb σ H1 Q else Q (.bl false) H1) : tAndV ta tb σ H Q := h
theorem g_orV (h : ta σ H fun x H1 => ∃ c, x = .bl c ∧ if c = true then Q (.bl true) H1 else tb σ H1 Q) : tOrV ta tb σ H Q := h
theorem g_notV (h : ta σ H fun x H1 => ∃ c, x = .bl c ∧ Q (.bl (!c)) H1) : tNotV ta σ H Q := h
theorem g_ifE (h : tt σ H fun c H1 => if c = true then ta σ H1 Q else tb σ H1 Q) : tIf tt ta tb σ H Q := h
theorem g_call {sp : Sp} {dvs : List V} {E : XK} (h : tas σ H fun vs H1 => sp (vs ++ dvs) H1 Q E) : tCall sp dvs E tas σ H Q := h
theorem g_cb {r : List V → Hp → VK → Prop} (h : tas σ H fun vs H1 => r vs H1 Q) : tCB r tas σ H Q := h
theorem g_nil {Q : List V → Hp → Prop} (h : Q [] H) : tNil σ H Q := h
theorem g_cons {tr : TA} {Q : List V → Hp → Prop} (h : ta σ H fun x H1 => tr σ H1 fun xs H2 => Q (x :: xs) H2) : tCons ta tr σ H Q := h
theorem g_tup (h : tas σ H (rNewT Q)) : tTup tas σ H Q := h
theorem g_lst (h : tas σ H (rNewL Q)) : tLst tas σ H Q := h
theorem g_par {i j : Nat} (h : tas σ H (rTwo fun v w H1 => D.nx ((σ.set i (some v)).set j (some w)) H1)) : tPar i j tas D σ H := h
theorem g_two {P : V → V → Hp → Prop} {a b : V} (h : P a b H) : rTwo P [a, b] H := ⟨a, b, rfl, h⟩
theorem g_isN (h : Q (.bl (decide (x = .non))) H) : rIsNz x .non H Q := ⟨rfl, h⟩
theorem g_notN (h : Q (.bl (!decide (x = .non))) H) : rNotNz x .non H Q := ⟨rfl, h⟩
theorem g_isi {K : PySem.W.Frag} {a b' : String} {b : Bool} (ty : TyX K H x (.type a)) (e : kitB a b' = some b) (h : Q (.bl b) H) : rIsi K [x, .ty b'] H Q := ⟨x, .ty b', .type a, .type b', b, rfl, .ty b', ty, kit_ty e, h⟩
theorem g_isE {K : PySem.W.Frag} {D a : Addr} {c : V} {cv : Value} {b : Bool} (C : ExcC K D) (hc : ∀ u, RelV c u → u = cv) (e : PySem.W.kitOne K (.ref D) cv = some b) (h : Q (.bl b) H) : rIsEG K (.ref D) none a [.ref a, c] H Q := ⟨D, rfl, rfl, C, c, cv, b, rfl, hc, e, h⟩
theorem g_callLS {i : Nat} {f : Addr} {sp : Sp} {E : L2.St → XK} (e : σ[i]? = some (some (.ref f))) (h : tas σ H fun vs H1 => sp vs H1 Q (E σ)) : tCallLS i f sp E tas σ H Q := ⟨e, h⟩
theorem g_eq (s : scal x y = true) (h : Q (.bl (decide (x = y))) H) : rEq x y H Q := ⟨s, h⟩
theorem g_ne (s : scal x y = true) (h : Q (.bl (!decide (x = y))) H) : rNe x y H Q := ⟨s, h⟩
theorem g_ixT {K : PySem.W.Frag} {p : Addr} {xs : List V} {i : Int} (h : SqT K H p xs) (e : atI xs i = some v) (q : Q v H) : rIxT K (.ref p) (.int i) H Q := ⟨p, xs, i, v, rfl, rfl, h, e, q⟩
theorem g_ixL {K : PySem.W.Frag} {p : Addr} {xs : List V} {i : Int} (h : SqL K H p xs) (e : atI xs i = some v) (q : Q v H) : rIxL K (.ref p) (.int i) H Q := ⟨p, xs, i, v, rfl, rfl, h, e, q⟩
theorem g_sub {to ti : TE} {t : TSet} {Q : L2.St → Hp → Prop} (h : to σ H fun o H1 => ti σ H1 fun i H2 => t o i v H2 fun H3 => Q σ H3) : gSub to ti t v σ H Q := h
theorem g_setL {p : Addr} {xs : List V} {k : Int} {j : Nat} {Q : Hp → Prop} (h : H p = some (.lst xs)) (e : ixN xs.length k = some j) (q : Q (upd H p (.lst (xs.set j v)))) : rSetL (.ref p) (.int k) v H Q := ⟨p, xs, k, j, rfl, rfl, h, e, q⟩
theorem g_int1 {a : Int} (h : Q (.int a) H) : rInt1 [.int a] H Q := .inl ⟨a, rfl, h⟩
theorem g_int1b {a : Bool} (h : Q (.int (if a then 1 else 0)) H) : rInt1 [.bl a] H Q := .inr ⟨a, rfl, h⟩
theorem g_abs {a : Int} (h : Q (.int (if a < 0 then -a else a)) H) : rAbs [.int a] H Q := ⟨a, rfl, h⟩
theorem g_lenL {K : PySem.W.Frag} {p : Addr} {xs : List V} (h : SqL K H p xs) (q : Q (.int xs.length) H) : rLenQ K [.ref p] H Q := ⟨p, xs, rfl, .inl h, q⟩
theorem g_lenT {K : PySem.W.Frag} {p : Addr} {xs : List V} (h : SqT K H p xs) (q : Q (.int xs.length) H) : rLenQ K [.ref p] H Q := ⟨p, xs, rfl, .inr h, q⟩
theorem g_listL {K : PySem.W.Frag} {p : Addr} {xs : List V} (h : SqL K H p xs) (q : ∀ l, H l = none → Q (.ref l) (upd H l (.lst xs))) : rListOf K [.ref p] H Q := ⟨p, xs, rfl, .inl h, q⟩
theorem g_listT {K : PySem.W.Frag} {p : Addr} {xs : List V} (h : SqT K H p xs) (q : ∀ l, H l = none → Q (.ref l) (upd H l (.lst xs))) : rListOf K [.ref p] H Q := ⟨p, xs, rfl, .inr h, q⟩
theorem g_tupleL {K : PySem.W.Frag} {p : Addr} {xs : List V} (h : SqL K H p xs) (q : ∀ l, H l = none → Q (.ref l) (upd H l (.tup xs))) : rTupleOf K [.ref p] H Q := ⟨p, xs, rfl, .inl ⟨h, q⟩⟩
theorem g_tupleT {K : PySem.W.Frag} {p : Addr} {xs : List V} (h : SqT K H p xs) (q : Q (.ref p) H) : rTupleOf K [.ref p] H Q := ⟨p, xs, rfl, .inr ⟨h, q⟩⟩
theorem if_t {A B : Prop} {b : Bool} (e : b = true) (h : A) : if b = true then A else B := by rw [if_pos e]; exact h
theorem if_f {A B : Prop} {b : Bool} (e : b = false) (h : B) : if b = true then A else B := by rw [if_neg (by rw [e]; exact Bool.false_ne_true)]; exact h
theorem if_2 {A B : Prop} {b : Bool} (h1 : b = true → A) (h2 : b = false → B) : if b = true then A else B := by
  cases b with
  | true => exact if_t rfl (h1 rfl)
  | false => exact if_f rfl (h2 rfl)
end

/-! ### loops and comprehensions, by named parts -/
def forW (g : TG) (tb : TS) (D : Ends) (σ : L2.St) : It → Hp → Prop := fun J H1 => ∃ W : Nat → Nat → L2.St → Hp → Prop, (∃ m, W 0 m σ H1) ∧ ∀ i m σ H, W i m σ H →
  (J.stop i H ∧ D.nx σ H) ∨ (J.go i H ∧ ∃ N : L2.St → Hp → Prop, (∀ σ' H', N σ' H' → ∃ m', m' < m ∧ W (i + 1) m' σ' H') ∧ ∀ x H', J.yld i H x H' → g x σ H' fun σ2 H2 => tb { D with nx := N, ct := N, bk := D.nx } σ2 H2)
def lcW (g : TG) (tt : TT) (te : TE) (vs : List Nat) (σ : L2.St) (Q : VK) : It → Hp → Prop := fun J H1 => ∀ D, H1 D = none → ∃ W : Nat → Nat → Hp → Prop, (∃ m, W 0 m (upd H1 D (.lst []))) ∧ ∀ i m H, W i m H →
      (J.stop i H ∧ Q (.ref D) H) ∨ (J.go i H ∧ ∃ Nx : Hp → Prop, (∀ H', Nx H' → ∃ m', m' < m ∧ W (i + 1) m' H') ∧ ∀ x H', J.yld i H x H' → g x (wipe σ vs) H' fun σ2 H2 => wipe σ2 vs = wipe σ vs ∧ tt σ2 H2 fun b H3 =>
        if b = true then te σ2 H3 fun y H4 => ∃ acc, H4 D = some (.lst acc) ∧ acc.length < sizeLine ∧ Nx (upd H4 D (.lst (acc ++ [y]))) else Nx H3)
def rRng1 (R : It → Hp → Prop) : List V → Hp → Prop := fun vs H1 => ∃ j : Int, vs = [.int j] ∧ -(2 ^ 62) ≤ j ∧ j < 2 ^ 62 ∧ R (Itr 0 j.toNat) H1
def rItL (K : PySem.W.Frag) (R : It → Hp → Prop) : V → Hp → Prop := fun x H1 => ∃ a, x = .ref a ∧ (∃ xs, SqL K H1 a xs) ∧ R (Itl K a) H1
def rItT (K : PySem.W.Frag) (R : It → Hp → Prop) : V → Hp → Prop := fun x H1 => ∃ a, x = .ref a ∧ (∃ xs, SqT K H1 a xs) ∧ R (Itt K a) H1
section
variable {K : PySem.W.Frag} {D : Ends} {σ : L2.St} {H : Hp} {g : TG} {tb : TS} {ta : TA} {te tl : TE} {tt : TT} {vs : List Nat} {Q : VK} {c : TT}
theorem g_forR1 (h : ta σ H (rRng1 (forW g tb D σ))) : tFor (iRng1 ta) g tb D σ H := h
theorem g_forL (h : tl σ H (rItL K (forW g tb D σ))) : tFor (iList K tl) g tb D σ H := h
theorem g_forT (h : tl σ H (rItT K (forW g tb D σ))) : tFor (iTup K tl) g tb D σ H := h
theorem g_lcR1 (h : ta σ H (rRng1 (lcW g tt te vs σ Q))) : tLc (iRng1 ta) g tt te vs σ H Q := h
theorem g_lcL (h : tl σ H (rItL K (lcW g tt te vs σ Q))) : tLc (iList K tl) g tt te vs σ H Q := h
theorem g_lcT (h : tl σ H (rItT K (lcW g tt te vs σ Q))) : tLc (iTup K tl) g tt te vs σ H Q := h
theorem g_rng {j : Int} (n : Nat) (e : j = (n : Int)) (hb : n < 1000000) (Pv : Nat → L2.St → Hp → Prop) (h0 : Pv 0 σ H)
    (hs : ∀ (i : Nat) σ H, i < n → Pv i σ H → g (.int (i : Int)) σ H fun σ2 H2 => tb { D with nx := Pv (i + 1), ct := Pv (i + 1), bk := D.nx } σ2 H2) (hd : ∀ σ H, Pv n σ H → D.nx σ H) :
    rRng1 (forW g tb D σ) [.int j] H := by
  subst e
  refine ⟨(n : Int), rfl, by omega, by omega, ?_⟩
  rw [Int.toNat_natCast]
  refine for_range (lo := 0) (n := n) Pv h0 (fun i σ H hi p => ?_) hd
  have := hs i σ H hi p
  rw [show (0 : Int) + (i : Int) = (i : Int) by omega]
  exact this
theorem g_itL {a : Addr} {xs : List V} (h : SqL K H a xs) (Pv : Nat → L2.St → Hp → Prop) (h0 : Pv 0 σ H) (hl : ∀ i σ H, i ≤ xs.length → Pv i σ H → SqL K H a xs)
    (hs : ∀ i x σ H, xs[i]? = some x → Pv i σ H → g x σ H fun σ2 H2 => tb { D with nx := Pv (i + 1), ct := Pv (i + 1), bk := D.nx } σ2 H2) (hd : ∀ σ H, Pv xs.length σ H → D.nx σ H) : rItL K (forW g tb D σ) (.ref a) H :=
  ⟨a, rfl, ⟨xs, h⟩, for_list Pv h0 hl hs hd⟩
theorem g_itT {a : Addr} {xs : List V} (h : SqT K H a xs) (Pv : Nat → L2.St → Hp → Prop) (h0 : Pv 0 σ H) (hl : ∀ i σ H, i ≤ xs.length → Pv i σ H → SqT K H a xs)
    (hs : ∀ i x σ H, xs[i]? = some x → Pv i σ H → g x σ H fun σ2 H2 => tb { D with nx := Pv (i + 1), ct := Pv (i + 1), bk := D.nx } σ2 H2) (hd : ∀ σ H, Pv xs.length σ H → D.nx σ H) : rItT K (forW g tb D σ) (.ref a) H :=
  ⟨a, rfl, ⟨xs, h⟩, for_tup Pv h0 hl hs hd⟩
/-- behind a turn of a comprehension: y is laid behind what the new list at p holds -/
def lcN (Pv : Nat → List V → Hp → Prop) (p : Addr) (i : Nat) : VK := fun y H4 => ∃ acc, H4 p = some (.lst acc) ∧ acc.length < sizeLine ∧ ∃ acc2, Pv (i + 1) acc2 (upd H4 p (.lst (acc ++ [y])))
theorem lcN_of {Pv : Nat → List V → Hp → Prop} {p : Addr} {i : Nat} {y : V} {H4 : Hp} {acc : List V} (h : H4 p = some (.lst acc)) (hl : acc.length ≤ 1000000) (q : Pv (i + 1) (acc ++ [y]) (upd H4 p (.lst (acc ++ [y])))) : lcN Pv p i y H4 :=
  ⟨acc, h, by have := sizeLine_eq; omega, _, q⟩
/-- a comprehension over a range, no test -/
theorem g_lcRng {j : Int} {i₀ : Nat} (n : Nat) (e : j = (n : Int)) (hb : n < 1000000) (Pv : Addr → Nat → List V → Hp → Prop) (hw : ∀ x, wipe ((wipe σ vs).set i₀ (some x)) vs = wipe σ vs)
    (h0 : ∀ p, H p = none → Pv p 0 [] (upd H p (.lst [])))
    (hs : ∀ p (i : Nat) acc H', H p = none → i < n → Pv p i acc H' → te ((wipe σ vs).set i₀ (some (.int (i : Int)))) H' (lcN (Pv p) p i))
    (hd : ∀ p acc H', H p = none → Pv p n acc H' → Q (.ref p) H') : rRng1 (lcW (gName i₀) tYes te vs σ Q) [.int j] H := by
  subst e
  refine ⟨(n : Int), rfl, by omega, by omega, fun p hp => ?_⟩
  rw [Int.toNat_natCast]
  refine lc_range (lo := 0) (n := n) (fun i H' => ∃ acc, Pv p i acc H') ⟨[], h0 p hp⟩ (fun i H' hi ⟨acc, q⟩ => ?_) (fun H' ⟨acc, q⟩ => hd p acc H' hp q)
  rw [show (0 : Int) + (i : Int) = (i : Int) by omega]
  exact ⟨hw _, hs p i acc H' hp hi q⟩
theorem g_lcLst {a : Addr} {xs : List V} {i₀ : Nat} (h : SqL K H a xs) (Pv : Addr → Nat → List V → Hp → Prop) (hw : ∀ x, wipe ((wipe σ vs).set i₀ (some x)) vs = wipe σ vs)
    (h0 : ∀ p, H p = none → Pv p 0 [] (upd H p (.lst []))) (hl : ∀ p i acc H', H p = none → Pv p i acc H' → SqL K H' a xs)
    (hs : ∀ p (i : Nat) x acc H', H p = none → xs[i]? = some x → Pv p i acc H' → te ((wipe σ vs).set i₀ (some x)) H' (lcN (Pv p) p i))
    (hd : ∀ p acc H', H p = none → Pv p xs.length acc H' → Q (.ref p) H') : rItL K (lcW (gName i₀) tYes te vs σ Q) (.ref a) H := by
  refine ⟨a, rfl, ⟨xs, h⟩, fun p hp => ?_⟩
  refine lc_list (K := K) (xs := xs) (fun i H' => ∃ acc, Pv p i acc H') ⟨[], h0 p hp⟩ (fun i H' _ ⟨acc, q⟩ => hl p i acc H' hp q) (fun i x H' hi ⟨acc, q⟩ => ?_) (fun H' ⟨acc, q⟩ => hd p acc H' hp q)
  exact ⟨hw _, hs p i x acc H' hp hi q⟩
theorem g_lcTup {a : Addr} {xs : List V} {i₀ : Nat} (h : SqT K H a xs) (Pv : Addr → Nat → List V → Hp → Prop) (hw : ∀ x, wipe ((wipe σ vs).set i₀ (some x)) vs = wipe σ vs)
    (h0 : ∀ p, H p = none → Pv p 0 [] (upd H p (.lst []))) (hl : ∀ p i acc H', H p = none → Pv p i acc H' → SqT K H' a xs)
    (hs : ∀ p (i : Nat) x acc H', H p = none → xs[i]? = some x → Pv p i acc H' → te ((wipe σ vs).set i₀ (some x)) H' (lcN (Pv p) p i))
    (hd : ∀ p acc H', H p = none → Pv p xs.length acc H' → Q (.ref p) H') : rItT K (lcW (gName i₀) tYes te vs σ Q) (.ref a) H := by
  refine ⟨a, rfl, ⟨xs, h⟩, fun p hp => ?_⟩
  refine lc_tup (K := K) (xs := xs) (fun i H' => ∃ acc, Pv p i acc H') ⟨[], h0 p hp⟩ (fun i H' _ ⟨acc, q⟩ => hl p i acc H' hp q) (fun i x H' hi ⟨acc, q⟩ => ?_) (fun H' ⟨acc, q⟩ => hd p acc H' hp q)
  exact ⟨hw _, hs p i x acc H' hp hi q⟩
theorem g_while (W : Nat → L2.St → Hp → Prop) (m : Nat) (h0 : W m σ H) (hs : ∀ m σ H, W m σ H → c σ H fun b H1 => if b = true then ∃ N : L2.St → Hp → Prop, (∀ σ' H', N σ' H' → ∃ m', m' < m ∧ W m' σ' H') ∧ tb { D with nx := N, ct := N, bk := D.nx } σ H1 else D.nx σ H1) :
    tWhile c tb D σ H := ⟨W, ⟨m, h0⟩, hs⟩
end

/-! ### heaps -/
theorem up_same {H : Hp} {p : Addr} {o : HO} (h : H p = none) : Same H (upd H p o) := fun b x e => by
  rw [upd_ne (ne_of_none e h)]
  exact e
/-- all but what stands at S is kept -/
def Kp (S : Addr) (H H' : Hp) : Prop := ∀ b o, b ≠ S → H b = some o → H' b = some o
theorem Kp.refl (S : Addr) (H : Hp) : Kp S H H := fun _ _ _ e => e
theorem Kp.trans {S : Addr} {H H1 H2 : Hp} (a : Kp S H H1) (b : Kp S H1 H2) : Kp S H H2 := fun c o n e => b c o n (a c o n e)
theorem Kp.of {S : Addr} {H H' : Hp} (a : Same H H') : Kp S H H' := fun c o _ e => a c o e
theorem Kp.upd {S : Addr} {H : Hp} {o : HO} : Kp S H (upd H S o) := fun b x n e => by
  rw [upd_ne n]
  exact e
/-- the newest object laid past what is asked for -/
theorem ua {H : Hp} {p q : Addr} {o u : HO} (h : H p = some o) (n : H q = none) : upd H q u p = some o := by
  rw [upd_ne (ne_of_none h n)]
  exact h
theorem Same.sqt {K : PySem.W.Frag} {H H' : Hp} {a : Addr} {xs : List V} (e : Same H H') (h : SqT K H a xs) : SqT K H' a xs := by
  rcases h with (h | ⟨o, h⟩) | h
  · exact .inl (.inl (e _ _ h))
  · exact .inl (.inr ⟨o, e _ _ h⟩)
  · exact .inr h
theorem Kp.sqt {K : PySem.W.Frag} {S : Addr} {H H' : Hp} {a : Addr} {xs ys : List V} (e : Kp S H H') (hS : H S = some (.lst ys)) (h : SqT K H a xs) : SqT K H' a xs := by
  rcases h with (h | ⟨o, h⟩) | h
  · exact .inl (.inl (e _ _ (ne_of h hS (fun z => nomatch z)) h))
  · exact .inl (.inr ⟨o, e _ _ (ne_of h hS (fun z => nomatch z)) h⟩)
  · exact .inr h
theorem Kp.free {S p : Addr} {H H' : Hp} {o : HO} (e : Kp S H H') (hS : H S = some o) (hp : H' p = none) (hp2 : p ≠ S) : H p = none := by
  cases h1 : H p with
  | none => rfl
  | some o =>
    rw [e p o hp2 h1] at hp
    cases hp

/-! ### a displayed tuple, a displayed list -/
theorem g_newT {xs : List V} {Q : VK} {H : Hp} (hl : xs.length ≤ 1000000) (h : ∀ p, H p = none → Q (.ref p) (upd H p (.tup xs))) : rNewT Q xs H := ⟨by have := sizeLine_eq; omega, h⟩
theorem g_newL {xs : List V} {Q : VK} {H : Hp} (hl : xs.length ≤ 1000000) (h : ∀ p, H p = none → Q (.ref p) (upd H p (.lst xs))) : rNewL Q xs H := ⟨by have := sizeLine_eq; omega, h⟩
/-! ### a ratio -/
def RatV (K : PySem.W.Frag) (H : Hp) (v : V) (q : Rat) : Prop := ∃ p, v = .ref p ∧ SqT K H p [.int q.num, .int (q.den : Int)]
theorem RatV.same {K : PySem.W.Frag} {H H' : Hp} {v : V} {q : Rat} (h : RatV K H v q) (e : Same H H') : RatV K H' v q := by
  obtain ⟨p, rfl, h⟩ := h
  exact ⟨p, rfl, Same.sqt e h⟩
theorem RatV.kp {K : PySem.W.Frag} {S : Addr} {ys : List V} {H H' : Hp} {v : V} {q : Rat} (h : RatV K H v q) (e : Kp S H H') (hS : H S = some (.lst ys)) : RatV K H' v q := by
  obtain ⟨p, rfl, h⟩ := h
  exact ⟨p, rfl, Kp.sqt e hS h⟩
theorem RatV.new {K : PySem.W.Frag} {H : Hp} {p : Addr} {q : Rat} : RatV K (upd H p (.tup [.int q.num, .int (q.den : Int)])) (.ref p) q := ⟨p, rfl, SqT.of upd_same⟩
/-- both parts below 2 ^ n -/
def Bd (n : Nat) (q : Rat) : Prop := q.num.natAbs < 2 ^ n ∧ q.den < 2 ^ n
end Rz

namespace Rz
open PySem PySem.Spec PyProof.Rows L2

/-! ### ratios: integers' words and Rat's -/
def gcdI (a b : Int) : Int := (Nat.gcd a.natAbs b.natAbs : Nat)
def comI (a b : Int) : Int := if b < 0 then -gcdI a b else gcdI a b
theorem gcdI_pos {a b : Int} (hb : b ≠ 0) : 0 < gcdI a b := by
  unfold gcdI
  have : 0 < Nat.gcd a.natAbs b.natAbs := Nat.gcd_pos_of_pos_right _ (by omega)
  omega
theorem gcdI_dvd_l (a b : Int) : gcdI a b ∣ a := Int.ofNat_dvd_left.mpr (Nat.gcd_dvd_left _ _)
theorem gcdI_dvd_r (a b : Int) : gcdI a b ∣ b := Int.ofNat_dvd_left.mpr (Nat.gcd_dvd_right _ _)
theorem gcdI_le {a b : Int} (hb : b ≠ 0) : (gcdI a b).natAbs ≤ b.natAbs := by
  unfold gcdI
  have := Nat.gcd_le_right a.natAbs (n := b.natAbs) (by omega)
  omega
theorem comI_ne {a b : Int} (hb : b ≠ 0) : comI a b ≠ 0 := by
  have := gcdI_pos (a := a) hb
  unfold comI
  split <;> omega
theorem comI_abs (a b : Int) : (comI a b).natAbs = (gcdI a b).natAbs := by
  unfold comI
  split <;> omega
theorem gcd_int (a b : Int) : ((Int.gcd b a : Nat) : Int) = gcdI a b := by
  unfold gcdI
  rw [Int.gcd_eq_natAbs_gcd_natAbs, Nat.gcd_comm]
theorem fdiv_num {a b : Int} (hb : b ≠ 0) : a.fdiv (comI a b) = (Rat.divInt a b).num := by
  have hg := gcdI_pos (a := a) hb
  have hd := gcdI_dvd_l a b
  rw [Rat.num_divInt, gcd_int]
  unfold comI
  split
  · rename_i h
    rw [Int.fdiv_neg (by omega), if_pos hd, Int.sign_eq_neg_one_of_neg h, Int.fdiv_eq_ediv_of_nonneg _ (by omega)]
    rw [Int.neg_mul, Int.one_mul, Int.neg_ediv_of_dvd hd]
  · rename_i h
    rw [Int.sign_eq_one_of_pos (by omega), Int.one_mul, Int.fdiv_eq_ediv_of_nonneg _ (by omega)]
theorem fdiv_den {a b : Int} (hb : b ≠ 0) : b.fdiv (comI a b) = ((Rat.divInt a b).den : Int) := by
  have hg := gcdI_pos (a := a) hb
  have hd := gcdI_dvd_r a b
  rw [Rat.den_divInt, if_neg hb, Int.natCast_ediv, gcd_int]
  unfold comI
  split
  · rename_i h
    rw [Int.fdiv_neg (by omega), if_pos hd, Int.fdiv_eq_ediv_of_nonneg _ (by omega)]
    have : (b.natAbs : Int) = -b := by omega
    rw [this, Int.neg_ediv_of_dvd hd]
  · rename_i h
    rw [Int.fdiv_eq_ediv_of_nonneg _ (by omega)]
    have : (b.natAbs : Int) = b := by omega
    rw [this]
theorem num_le {a b : Int} : (Rat.divInt a b).num.natAbs ≤ a.natAbs := by
  by_cases hb : b = 0
  · rw [hb, Rat.divInt_zero]
    exact Nat.zero_le _
  · rw [← fdiv_num hb]
    have hd := gcdI_dvd_l a b
    obtain ⟨k, e⟩ := hd
    have hg := gcdI_pos (a := a) hb
    have e2 : comI a b ∣ a := by
      unfold comI
      split
      · exact Int.neg_dvd.mpr (gcdI_dvd_l a b)
      · exact gcdI_dvd_l a b
    rw [Int.fdiv_eq_ediv_of_dvd e2]
    exact Int.natAbs_ediv_le_natAbs _ _
theorem den_le {a b : Int} (hb : b ≠ 0) : (Rat.divInt a b).den ≤ b.natAbs := by
  rw [Rat.den_divInt, if_neg hb]
  exact Nat.div_le_self _ _
theorem rat_plus (p q : Rat) : Rat.divInt (p.num * (q.den : Int) + q.num * (p.den : Int)) ((p.den : Int) * (q.den : Int)) = p + q := by
  rw [Rat.add_def', ← Rat.divInt_ofNat, Int.natCast_mul]
theorem rat_minus (p q : Rat) : Rat.divInt (p.num * (q.den : Int) - q.num * (p.den : Int)) ((p.den : Int) * (q.den : Int)) = p - q := by
  rw [Rat.sub_def', ← Rat.divInt_ofNat, Int.natCast_mul]
theorem rat_times (p q : Rat) : Rat.divInt (p.num * q.num) ((p.den : Int) * (q.den : Int)) = p * q := by
  rw [Rat.mul_def', ← Rat.divInt_ofNat, Int.natCast_mul]
theorem rat_over (p q : Rat) : Rat.divInt (p.num * (q.den : Int)) ((p.den : Int) * q.num) = p / q := by
  rw [Rat.div_def, Rat.inv_def]
  conv => rhs; rw [← Rat.num_divInt_den p]
  rw [Rat.divInt_mul_divInt]
theorem den_pos (q : Rat) : (0 : Int) < (q.den : Int) := by
  have := q.den_pos
  omega
theorem den_mul_ne (p q : Rat) : (p.den : Int) * (q.den : Int) ≠ 0 := by
  have := Int.mul_pos (den_pos p) (den_pos q)
  omega
theorem pow_mul_lt {x y : Nat} {a b : Nat} (h1 : x < 2 ^ a) (h2 : y < 2 ^ b) : x * y < 2 ^ (a + b) := by
  rw [Nat.pow_add]
  exact Nat.mul_lt_mul'' h1 h2
theorem pow_mono {x a b : Nat} (h : x < 2 ^ a) (l : a ≤ b) : x < 2 ^ b := Nat.lt_of_lt_of_le h (Nat.pow_le_pow_right (by decide) l)
theorem Bd.mono {a b : Nat} {q : Rat} (h : Bd a q) (l : a ≤ b) : Bd b q := ⟨pow_mono h.1 l, pow_mono h.2 l⟩
theorem abs_mul_lt {x y : Int} {a b : Nat} (h1 : x.natAbs < 2 ^ a) (h2 : y.natAbs < 2 ^ b) : (x * y).natAbs < 2 ^ (a + b) := by
  rw [Int.natAbs_mul]
  exact pow_mul_lt h1 h2
theorem abs_add_lt {x y : Int} {a : Nat} (h1 : x.natAbs < 2 ^ a) (h2 : y.natAbs < 2 ^ a) : (x + y).natAbs < 2 ^ (a + 1) := by
  rw [Nat.pow_succ]
  omega
theorem abs_sub_lt {x y : Int} {a : Nat} (h1 : x.natAbs < 2 ^ a) (h2 : y.natAbs < 2 ^ a) : (x - y).natAbs < 2 ^ (a + 1) := by
  rw [Nat.pow_succ]
  omega
theorem Bd.add {a b : Nat} {p q : Rat} (h : Bd a p) (k : Bd b q) : Bd (a + b + 1) (p + q) := by
  rw [← rat_plus]
  have e1 := abs_mul_lt (x := p.num) (y := (q.den : Int)) h.1 k.2
  have e2 := abs_mul_lt (x := q.num) (y := (p.den : Int)) k.1 h.2
  rw [Nat.add_comm b a] at e2
  refine ⟨Nat.lt_of_le_of_lt num_le (abs_add_lt e1 e2), Nat.lt_of_le_of_lt (den_le (den_mul_ne p q)) ?_⟩
  exact pow_mono (abs_mul_lt (x := (p.den : Int)) (y := (q.den : Int)) h.2 k.2) (by omega)
theorem Bd.sub {a b : Nat} {p q : Rat} (h : Bd a p) (k : Bd b q) : Bd (a + b + 1) (p - q) := by
  rw [← rat_minus]
  have e1 := abs_mul_lt (x := p.num) (y := (q.den : Int)) h.1 k.2
  have e2 := abs_mul_lt (x := q.num) (y := (p.den : Int)) k.1 h.2
  rw [Nat.add_comm b a] at e2
  refine ⟨Nat.lt_of_le_of_lt num_le (abs_sub_lt e1 e2), Nat.lt_of_le_of_lt (den_le (den_mul_ne p q)) ?_⟩
  exact pow_mono (abs_mul_lt (x := (p.den : Int)) (y := (q.den : Int)) h.2 k.2) (by omega)
theorem Bd.mul {a b : Nat} {p q : Rat} (h : Bd a p) (k : Bd b q) : Bd (a + b) (p * q) := by
  rw [← rat_times]
  exact ⟨Nat.lt_of_le_of_lt num_le (abs_mul_lt h.1 k.1), Nat.lt_of_le_of_lt (den_le (den_mul_ne p q)) (abs_mul_lt (x := (p.den : Int)) (y := (q.den : Int)) h.2 k.2)⟩
theorem Bd.div {a b : Nat} {p q : Rat} (h : Bd a p) (k : Bd b q) (hq : q ≠ 0) : Bd (a + b) (p / q) := by
  have hn : q.num ≠ 0 := fun z => hq (Rat.num_eq_zero.mp z)
  have hm : (p.den : Int) * q.num ≠ 0 := Int.mul_ne_zero (by have := den_pos p; omega) hn
  rw [← rat_over]
  exact ⟨Nat.lt_of_le_of_lt num_le (abs_mul_lt (x := p.num) (y := (q.den : Int)) h.1 k.2), Nat.lt_of_le_of_lt (den_le hm) (abs_mul_lt (x := (p.den : Int)) (y := q.num) h.2 k.1)⟩
theorem Bd.neg {a : Nat} {p : Rat} (h : Bd a p) : Bd a (-p) := by
  refine ⟨?_, ?_⟩
  · rw [Rat.neg_num, Int.natAbs_neg]
    exact h.1
  · rw [Rat.neg_den]
    exact h.2
theorem Bd.of {n : Nat} {a b : Int} (h : a.natAbs < 2 ^ n) (k : b.natAbs < 2 ^ n) (hb : b ≠ 0) : Bd n (Rat.divInt a b) := ⟨Nat.lt_of_le_of_lt num_le h, Nat.lt_of_le_of_lt (den_le hb) k⟩
theorem Bd.zero : Bd 1 0 := ⟨by decide, by decide⟩
theorem Bd.one : Bd 1 1 := ⟨by decide, by decide⟩
theorem mulB_of {x y : Int} {a b : Nat} (h1 : x.natAbs < 2 ^ a) (h2 : y.natAbs < 2 ^ b) (h : a + b ≤ 8000) : CMulB x y := ⟨a, b, h1, h2, by omega⟩
theorem lt9000 {x : Nat} {n : Nat} (h : x < 2 ^ n) (l : n ≤ 9000) : x < 2 ^ 9000 := pow_mono h l

/-! ### the same data -/
def isSc : V → Bool
  | .int _ => true
  | .bl _ => true
  | .str _ => true
  | .non => true
  | _ => false
inductive Eqv (K : PySem.W.Frag) (H : Hp) : Nat → V → V → Prop
  | sc {n : Nat} {x : V} (h : isSc x = true) : Eqv K H (n + 1) x x
  | tup {n : Nat} {p q : Addr} {xs ys : List V} (hx : SqT K H p xs) (hy : SqT K H q ys) (hl : xs.length = ys.length) (hb : ys.length < 1000000) (h : ∀ (i : Nat) (x y : V), xs[i]? = some x → ys[i]? = some y → Eqv K H n x y) : Eqv K H (n + 1) (.ref p) (.ref q)
  | lst {n : Nat} {p q : Addr} {xs ys : List V} (hx : SqL K H p xs) (hy : SqL K H q ys) (hl : xs.length = ys.length) (hb : ys.length < 1000000) (h : ∀ (i : Nat) (x y : V), xs[i]? = some x → ys[i]? = some y → Eqv K H n x y) : Eqv K H (n + 2) (.ref p) (.ref q)
theorem Eqv.same {K : PySem.W.Frag} {H H' : Hp} {n : Nat} {x y : V} (e : Same H H') (h : Eqv K H n x y) : Eqv K H' n x y := by
  induction h with
  | sc h => exact .sc h
  | tup hx hy hl hb h ih => exact .tup (Same.sqt e hx) (Same.sqt e hy) hl hb ih
  | lst hx hy hl hb h ih => exact .lst (e.seq hx) (e.seq hy) hl hb ih
theorem Eqv.rat {K : PySem.W.Frag} {H : Hp} {n : Nat} {x y : V} {q : Rat} (h : RatV K H x q) (k : RatV K H y q) : Eqv K H (n + 2) x y := by
  obtain ⟨p, rfl, h⟩ := h
  obtain ⟨p', rfl, k⟩ := k
  refine .tup h k rfl (by show 2 < 1000000; decide) fun i x y e1 e2 => ?_
  rw [e1] at e2
  cases e2
  match i, e1 with
  | 0, e1 => cases e1; exact .sc rfl
  | 1, e1 => cases e1; exact .sc rfl
  | i + 2, e1 => simp at e1
theorem tyT {K : PySem.W.Frag} {H : Hp} {p : Addr} {xs : List V} (h : SqT K H p xs) : TyX K H (.ref p) (.type "tuple") := by
  rcases h with (h | ⟨o, h⟩) | ⟨o, its, n, h, hc, _⟩
  · exact .base (.tup h)
  · exact .fTuple h
  · exact .kTuple h hc
theorem tyL {K : PySem.W.Frag} {H : Hp} {p : Addr} {xs : List V} (h : SqL K H p xs) : TyX K H (.ref p) (.type "list") := by
  rcases h with (h | ⟨o, h⟩) | ⟨o, its, n, h, hc, _⟩
  · exact .base (.lst h)
  · exact .base (.frz h)
  · exact .kList h hc
def tyS : V → String
  | .int _ => "int"
  | .bl _ => "bool"
  | .str _ => "str"
  | _ => "NoneType"
theorem tySc {K : PySem.W.Frag} {H : Hp} {x : V} (h : isSc x = true) : TyX K H x (.type (tyS x)) := by
  cases x with
  | int i => exact .base (.int i)
  | bl i => exact .base (.bl i)
  | str i => exact .base (.str i)
  | non => exact .base .non
  | byt _ => cases h
  | flt _ => cases h
  | ref _ => cases h
  | ty _ => cases h
end Rz

namespace K00
open PySem PySem.Spec PyProof.Rows L2 Rz
local macro_rules | `(tactic| walk_at "g") => `(tactic| with_reducible first
  | refine g_seq ?_ | refine g_asg ?_ | refine g_name ?_ | refine g_ret ?_ | refine g_drop ?_ | refine g_next ?_ | refine g_op ?_ | refine g_un ?_ | refine g_c ?_
  | refine g_ifs ?_ | refine g_test ?_ | refine g_B ?_ | refine g_bl ?_ | refine g_and ?_ | refine g_or ?_ | refine g_not ?_ | refine g_andV ?_ | refine g_orV ?_ | refine g_notV ?_ | refine g_ifE ?_
  | refine g_call ?_ | refine g_cb ?_ | refine g_nil ?_ | refine g_cons ?_ | refine g_tup ?_ | refine g_lst ?_ | refine g_par ?_ | refine g_two ?_ | refine g_I0 ?_ | refine g_U ?_ | refine g_sub ?_ | refine g_int1 ?_ | refine g_int1b ?_ | refine g_abs ?_ | refine g_forR1 ?_ | refine g_forL ?_ | refine g_forT ?_ | refine g_lcR1 ?_ | refine g_lcL ?_ | refine g_lcT ?_ | refine g_isN ?_ | refine g_notN ?_)
local macro_rules | `(tactic| walk_at "gv") => `(tactic| ((with_reducible refine' g_var ?hv ?_); (case hv => rfl)))
local macro_rules | `(tactic| walk_at "gm") => `(tactic| ((with_reducible refine g_I ?hc ?_); (case hc => first | exact .inr ⟨by decide, by decide⟩ | exact .inl ⟨by decide, by decide⟩ | exact ⟨by decide, by decide, by decide⟩ | exact ⟨by decide, by decide +kernel⟩ | decide | assumption)))
local macro_rules | `(tactic| walk_at "ge") => `(tactic| first | ((with_reducible refine g_eq ?hs ?_); (case hs => rfl)) | ((with_reducible refine g_ne ?hs ?_); (case hs => rfl)))
local macro_rules | `(tactic| walk_at "gx") => `(tactic| first
  | ((with_reducible refine' g_ixT ?h ?e ?_); (case h => first | assumption | exact SqT.of upd_same | exact SqT.of (by assumption)); (case e => rfl))
  | ((with_reducible refine' g_ixL ?h ?e ?_); (case h => first | assumption | exact SqL.of upd_same | exact SqL.of (by assumption)); (case e => rfl))
  | ((with_reducible refine' g_setL ?h ?e ?_); (case h => first | assumption | exact upd_same); (case e => rfl)))
local macro_rules | `(tactic| walk_at "gl") => `(tactic| first
  | ((with_reducible refine' g_lenT ?h ?_); (case h => first | assumption | exact SqT.of upd_same | exact SqT.of (by assumption)))
  | ((with_reducible refine' g_lenL ?h ?_); (case h => first | assumption | exact SqL.of upd_same | exact SqL.of (by assumption))))
local macro_rules | `(tactic| walk_at "gs") => `(tactic| repeat (first | walk_at "g" | walk_at "gv" | walk_at "gm" | walk_at "ge" | walk_at "gx" | walk_at "gl"))

def topS (i : Nat) : Stmt := PySem.Challenge.pw_rimohms_k00_ratios.main.body.getD i (.Pass ⟨0, 0, 0, 0⟩)
abbrev s_ratio : Stmt := topS 6
abbrev s_plus : Stmt := topS 7
abbrev s_minus : Stmt := topS 8
abbrev s_times : Stmt := topS 9
abbrev s_over : Stmt := topS 10
abbrev s_opposite : Stmt := topS 11
abbrev s_less : Stmt := topS 12
abbrev s_total : Stmt := topS 13
abbrev s_is_ratio : Stmt := topS 14
abbrev s_l_pick : Stmt := topS 16
abbrev s_l_gcd : Stmt := topS 17
abbrev s_l_ratio : Stmt := topS 18
abbrev s_l_add : Stmt := topS 19
abbrev s_l_sub : Stmt := topS 20
abbrev s_l_mul : Stmt := topS 21
abbrev s_l_div : Stmt := topS 22
abbrev s_l_same : Stmt := topS 23
abbrev s_l_whole : Stmt := topS 24
abbrev s_l_told : Stmt := topS 25
abbrev s_law : Stmt := topS 26
theorem sc_ratio : FnScope ["top", "bottom", "common"] ["top", "bottom"] (defScope s_ratio) := ⟨rfl, rfl, rfl, by decide +kernel, rfl, by decide +kernel, by decide +kernel⟩
theorem sc_plus : FnScope ["left", "right"] ["left", "right"] (defScope s_plus) := ⟨rfl, rfl, rfl, by decide +kernel, rfl, by decide +kernel, by decide +kernel⟩
theorem sc_minus : FnScope ["left", "right"] ["left", "right"] (defScope s_minus) := ⟨rfl, rfl, rfl, by decide +kernel, rfl, by decide +kernel, by decide +kernel⟩
theorem sc_times : FnScope ["left", "right"] ["left", "right"] (defScope s_times) := ⟨rfl, rfl, rfl, by decide +kernel, rfl, by decide +kernel, by decide +kernel⟩
theorem sc_over : FnScope ["left", "right"] ["left", "right"] (defScope s_over) := ⟨rfl, rfl, rfl, by decide +kernel, rfl, by decide +kernel, by decide +kernel⟩
theorem sc_opposite : FnScope ["value"] ["value"] (defScope s_opposite) := ⟨rfl, rfl, rfl, by decide +kernel, rfl, by decide +kernel, by decide +kernel⟩
theorem sc_less : FnScope ["left", "right"] ["left", "right"] (defScope s_less) := ⟨rfl, rfl, rfl, by decide +kernel, rfl, by decide +kernel, by decide +kernel⟩
theorem sc_total : FnScope ["values", "found", "value"] ["values"] (defScope s_total) := ⟨rfl, rfl, rfl, by decide +kernel, rfl, by decide +kernel, by decide +kernel⟩
theorem sc_is_ratio : FnScope ["value"] ["value"] (defScope s_is_ratio) := ⟨rfl, rfl, rfl, by decide +kernel, rfl, by decide +kernel, by decide +kernel⟩
theorem sc_l_pick : FnScope ["state", "limit", "value", "cell", "mixed"] ["state", "limit"] (defScope s_l_pick) := ⟨rfl, rfl, rfl, by decide +kernel, rfl, by decide +kernel, by decide +kernel⟩
theorem sc_l_gcd : FnScope ["left", "right"] ["left", "right"] (defScope s_l_gcd) := ⟨rfl, rfl, rfl, by decide +kernel, rfl, by decide +kernel, by decide +kernel⟩
theorem sc_l_ratio : FnScope ["top", "bottom", "common"] ["top", "bottom"] (defScope s_l_ratio) := ⟨rfl, rfl, rfl, by decide +kernel, rfl, by decide +kernel, by decide +kernel⟩
theorem sc_l_add : FnScope ["left", "right"] ["left", "right"] (defScope s_l_add) := ⟨rfl, rfl, rfl, by decide +kernel, rfl, by decide +kernel, by decide +kernel⟩
theorem sc_l_sub : FnScope ["left", "right"] ["left", "right"] (defScope s_l_sub) := ⟨rfl, rfl, rfl, by decide +kernel, rfl, by decide +kernel, by decide +kernel⟩
theorem sc_l_mul : FnScope ["left", "right"] ["left", "right"] (defScope s_l_mul) := ⟨rfl, rfl, rfl, by decide +kernel, rfl, by decide +kernel, by decide +kernel⟩
theorem sc_l_div : FnScope ["left", "right"] ["left", "right"] (defScope s_l_div) := ⟨rfl, rfl, rfl, by decide +kernel, rfl, by decide +kernel, by decide +kernel⟩
theorem sc_l_same : FnScope ["actual", "due", "k"] ["actual", "due"] (defScope s_l_same) := ⟨rfl, rfl, rfl, by decide +kernel, rfl, by decide +kernel, by decide +kernel⟩
theorem sc_l_whole : FnScope ["state", "choice"] ["state"] (defScope s_l_whole) := ⟨rfl, rfl, rfl, by decide +kernel, rfl, by decide +kernel, by decide +kernel⟩
theorem sc_l_told : FnScope ["function", "left", "right", "e"] ["function", "left", "right"] (defScope s_l_told) := ⟨rfl, rfl, rfl, by decide +kernel, rfl, by decide +kernel, by decide +kernel⟩
theorem sc_law : FnScope ["script", "state", "a", "b", "c", "d", "one", "two", "values", "due", "value", "k"] ["script"] (defScope s_law) := ⟨rfl, rfl, rfl, by decide +kernel, rfl, by decide +kernel, by decide +kernel⟩
structure Ads where
  f_ratio : Addr
  fd_ratio : FuncData
  f_plus : Addr
  fd_plus : FuncData
  f_minus : Addr
  fd_minus : FuncData
  f_times : Addr
  fd_times : FuncData
  f_over : Addr
  fd_over : FuncData
  f_opposite : Addr
  fd_opposite : FuncData
  f_less : Addr
  fd_less : FuncData
  f_total : Addr
  fd_total : FuncData
  f_is_ratio : Addr
  fd_is_ratio : FuncData
  f_l_pick : Addr
  fd_l_pick : FuncData
  f_l_gcd : Addr
  fd_l_gcd : FuncData
  f_l_ratio : Addr
  fd_l_ratio : FuncData
  f_l_add : Addr
  fd_l_add : FuncData
  f_l_sub : Addr
  fd_l_sub : FuncData
  f_l_mul : Addr
  fd_l_mul : FuncData
  f_l_div : Addr
  fd_l_div : FuncData
  f_l_same : Addr
  fd_l_same : FuncData
  f_l_whole : Addr
  fd_l_whole : FuncData
  f_l_told : Addr
  fd_l_told : FuncData
  f_law : Addr
  fd_law : FuncData
  C_RimError : Addr
  C_RatioError : Addr
  z_ZERO : Addr
structure Txt (K : PySem.W.Frag) (mg : Str → Option Value) (A : Ads) : Prop where
  g_ratio : mg "ratio" = some (.ref A.f_ratio)
  F_ratio : Fun K "ratio" "ratio" s_ratio A.f_ratio A.fd_ratio
  b_ratio : L2.Binds K A.fd_ratio ["top", "bottom"] []
  g_plus : mg "plus" = some (.ref A.f_plus)
  F_plus : Fun K "plus" "plus" s_plus A.f_plus A.fd_plus
  b_plus : L2.Binds K A.fd_plus ["left", "right"] []
  g_minus : mg "minus" = some (.ref A.f_minus)
  F_minus : Fun K "minus" "minus" s_minus A.f_minus A.fd_minus
  b_minus : L2.Binds K A.fd_minus ["left", "right"] []
  g_times : mg "times" = some (.ref A.f_times)
  F_times : Fun K "times" "times" s_times A.f_times A.fd_times
  b_times : L2.Binds K A.fd_times ["left", "right"] []
  g_over : mg "over" = some (.ref A.f_over)
  F_over : Fun K "over" "over" s_over A.f_over A.fd_over
  b_over : L2.Binds K A.fd_over ["left", "right"] []
  g_opposite : mg "opposite" = some (.ref A.f_opposite)
  F_opposite : Fun K "opposite" "opposite" s_opposite A.f_opposite A.fd_opposite
  b_opposite : L2.Binds K A.fd_opposite ["value"] []
  g_less : mg "less" = some (.ref A.f_less)
  F_less : Fun K "less" "less" s_less A.f_less A.fd_less
  b_less : L2.Binds K A.fd_less ["left", "right"] []
  g_total : mg "total" = some (.ref A.f_total)
  F_total : Fun K "total" "total" s_total A.f_total A.fd_total
  b_total : L2.Binds K A.fd_total ["values"] []
  g_is_ratio : mg "is_ratio" = some (.ref A.f_is_ratio)
  F_is_ratio : Fun K "is_ratio" "is_ratio" s_is_ratio A.f_is_ratio A.fd_is_ratio
  b_is_ratio : L2.Binds K A.fd_is_ratio ["value"] []
  g_l_pick : mg "_law_pick" = some (.ref A.f_l_pick)
  F_l_pick : Fun K "_law_pick" "_law_pick" s_l_pick A.f_l_pick A.fd_l_pick
  b_l_pick : L2.Binds K A.fd_l_pick ["state", "limit"] []
  g_l_gcd : mg "_law_gcd" = some (.ref A.f_l_gcd)
  F_l_gcd : Fun K "_law_gcd" "_law_gcd" s_l_gcd A.f_l_gcd A.fd_l_gcd
  b_l_gcd : L2.Binds K A.fd_l_gcd ["left", "right"] []
  g_l_ratio : mg "_law_ratio" = some (.ref A.f_l_ratio)
  F_l_ratio : Fun K "_law_ratio" "_law_ratio" s_l_ratio A.f_l_ratio A.fd_l_ratio
  b_l_ratio : L2.Binds K A.fd_l_ratio ["top", "bottom"] []
  g_l_add : mg "_law_add" = some (.ref A.f_l_add)
  F_l_add : Fun K "_law_add" "_law_add" s_l_add A.f_l_add A.fd_l_add
  b_l_add : L2.Binds K A.fd_l_add ["left", "right"] []
  g_l_sub : mg "_law_sub" = some (.ref A.f_l_sub)
  F_l_sub : Fun K "_law_sub" "_law_sub" s_l_sub A.f_l_sub A.fd_l_sub
  b_l_sub : L2.Binds K A.fd_l_sub ["left", "right"] []
  g_l_mul : mg "_law_mul" = some (.ref A.f_l_mul)
  F_l_mul : Fun K "_law_mul" "_law_mul" s_l_mul A.f_l_mul A.fd_l_mul
  b_l_mul : L2.Binds K A.fd_l_mul ["left", "right"] []
  g_l_div : mg "_law_div" = some (.ref A.f_l_div)
  F_l_div : Fun K "_law_div" "_law_div" s_l_div A.f_l_div A.fd_l_div
  b_l_div : L2.Binds K A.fd_l_div ["left", "right"] []
  g_l_same : mg "_law_same" = some (.ref A.f_l_same)
  F_l_same : Fun K "_law_same" "_law_same" s_l_same A.f_l_same A.fd_l_same
  b_l_same : L2.Binds K A.fd_l_same ["actual", "due"] []
  g_l_whole : mg "_law_whole" = some (.ref A.f_l_whole)
  F_l_whole : Fun K "_law_whole" "_law_whole" s_l_whole A.f_l_whole A.fd_l_whole
  b_l_whole : L2.Binds K A.fd_l_whole ["state"] []
  g_l_told : mg "_law_told" = some (.ref A.f_l_told)
  F_l_told : Fun K "_law_told" "_law_told" s_l_told A.f_l_told A.fd_l_told
  b_l_told : L2.Binds K A.fd_l_told ["function", "left", "right"] []
  g_law : mg "law" = some (.ref A.f_law)
  F_law : Fun K "law" "law" s_law A.f_law A.fd_law
  b_law : L2.Binds K A.fd_law ["script"] []
  g_RimError : mg "RimError" = some (.ref A.C_RimError)
  x_RimError : PySem.W.excIn K (A.C_RimError) [.type "ValueError", .type "Exception", .type "BaseException", .type "object"] "ValueError.__new__" = true
  k_RimError : PySem.W.keepIn K (.ref (A.C_RimError)) = true
  bb_RimError : PySem.W.subIn K (.ref (A.C_RimError)) (.type "BaseException") = some true
  t_RimError : PySem.W.typeIn K (.ref (A.C_RimError)) = some (.type "type")
  d_RimError : PySem.W.hasDictIn K (A.C_RimError) = true
  hg_RimError : PySem.W.findIn K (.ref (A.C_RimError)) "__getattribute__" = some (some (.builtin "BaseException.__getattribute__"))
  hk_RimError : PySem.W.findIn K (.ref (A.C_RimError)) "__getattr__" = some none
  ha_RimError : PySem.W.findIn K (.ref (A.C_RimError)) "__class__" = some (some (.builtin "object.__class__"))
  hm_RimError : PySem.W.mroIn K (A.C_RimError) (.type "object") = some true
  v_RimError : PySem.W.kitOne K (.ref (A.C_RimError)) (.type "ValueError") = some true
  i_RimError_RimError : PySem.W.kitOne K (.ref (A.C_RimError)) (.ref (A.C_RimError)) = some true
  e_RimError_RimError : PySem.W.exmOne K (.ref (A.C_RimError)) (.ref (A.C_RimError)) = some true
  i_RatioError_RimError : PySem.W.kitOne K (.ref (A.C_RimError)) (.ref (A.C_RatioError)) = some false
  e_RatioError_RimError : PySem.W.exmOne K (.ref (A.C_RimError)) (.ref (A.C_RatioError)) = some false
  g_RatioError : mg "RatioError" = some (.ref A.C_RatioError)
  x_RatioError : PySem.W.excIn K (A.C_RatioError) [.type "ValueError", .type "Exception", .type "BaseException", .type "object"] "ValueError.__new__" = true
  k_RatioError : PySem.W.keepIn K (.ref (A.C_RatioError)) = true
  bb_RatioError : PySem.W.subIn K (.ref (A.C_RatioError)) (.type "BaseException") = some true
  t_RatioError : PySem.W.typeIn K (.ref (A.C_RatioError)) = some (.type "type")
  d_RatioError : PySem.W.hasDictIn K (A.C_RatioError) = true
  hg_RatioError : PySem.W.findIn K (.ref (A.C_RatioError)) "__getattribute__" = some (some (.builtin "BaseException.__getattribute__"))
  hk_RatioError : PySem.W.findIn K (.ref (A.C_RatioError)) "__getattr__" = some none
  ha_RatioError : PySem.W.findIn K (.ref (A.C_RatioError)) "__class__" = some (some (.builtin "object.__class__"))
  hm_RatioError : PySem.W.mroIn K (A.C_RatioError) (.type "object") = some true
  v_RatioError : PySem.W.kitOne K (.ref (A.C_RatioError)) (.type "ValueError") = some true
  i_RimError_RatioError : PySem.W.kitOne K (.ref (A.C_RatioError)) (.ref (A.C_RimError)) = some true
  e_RimError_RatioError : PySem.W.exmOne K (.ref (A.C_RatioError)) (.ref (A.C_RimError)) = some true
  i_RatioError_RatioError : PySem.W.kitOne K (.ref (A.C_RatioError)) (.ref (A.C_RatioError)) = some true
  e_RatioError_RatioError : PySem.W.exmOne K (.ref (A.C_RatioError)) (.ref (A.C_RatioError)) = some true
  c_ZERO : mg "ZERO" = some (.ref A.z_ZERO)
  q_ZERO : ∀ H, SqT K H A.z_ZERO [.int 0, .int 1]
  n_ValueError : mg "ValueError" = none
  n_abs : mg "abs" = none
  n_all : mg "all" = none
  n_bool : mg "bool" = none
  n_int : mg "int" = none
  n_isinstance : mg "isinstance" = none
  n_len : mg "len" = none
  n_list : mg "list" = none
  n_range : mg "range" = none
  n_str : mg "str" = none
  n_tuple : mg "tuple" = none
  g_gcd : mg "gcd" = some (.builtin "math.gcd")
  hn_ : PySem.W.specialIn K (.builtin "object.__class__") "__get__" = some (some (.builtin "getset_descriptor.__get__"))
  ht_ : PySem.W.takesIn K (.builtin "object.__class__") = some true
/-! ### promises -/
def StAt (H : Hp) (S c : Addr) : Prop := c ≠ S ∧ ∃ (i h n : Int) (cs : List Int), H S = some (.lst [.ref c, .int i, .int h, .int n]) ∧ H c = some (.lst (cs.map V.int)) ∧ 0 ≤ i ∧ 0 ≤ h
theorem StAt.upd {H : Hp} {S c p : Addr} {o : HO} (h : StAt H S c) (h1 : p ≠ S) (h2 : p ≠ c) : StAt (upd H p o) S c := by
  obtain ⟨n, i, x, m, cs, e1, e2, e3⟩ := h
  exact ⟨n, i, x, m, cs, by rw [upd_ne h1.symm]; exact e1, by rw [upd_ne h2.symm]; exact e2, e3⟩
theorem StAt.same {H H' : Hp} {S c : Addr} (h : StAt H S c) (e : Same H H') : StAt H' S c := by
  obtain ⟨n, i, x, m, cs, e1, e2, e3⟩ := h
  exact ⟨n, i, x, m, cs, e _ _ e1, e _ _ e2, e3⟩
theorem StAt.neS {H : Hp} {S c p : Addr} (h : StAt H S c) (hp : H p = none) : p ≠ S := by
  obtain ⟨n, i, x, m, cs, e1, e2, e3⟩ := h
  exact (ne_of_none e1 hp).symm
theorem StAt.nec {H : Hp} {S c p : Addr} (h : StAt H S c) (hp : H p = none) : p ≠ c := by
  obtain ⟨n, i, x, m, cs, e1, e2, e3⟩ := h
  exact (ne_of_none e2 hp).symm
theorem StAt.lst {H : Hp} {S c : Addr} (h : StAt H S c) : ∃ ys, H S = some (.lst ys) := by
  obtain ⟨n, i, x, m, cs, e1, e2, e3⟩ := h
  exact ⟨_, e1⟩
theorem RatV.st {K : PySem.W.Frag} {H H' : Hp} {S c : Addr} {v : V} {q : Rat} (h : RatV K H v q) (e : Kp S H H') (hS : StAt H S c) : RatV K H' v q := by
  obtain ⟨ys, hy⟩ := hS.lst
  exact h.kp e hy
def spPick : Sp := fun vs H Q _ => ∃ (S c : Addr) (lim : Int), vs = [.ref S, .int lim] ∧ StAt H S c ∧ 0 < lim ∧ lim.natAbs < 2 ^ 9000 ∧ ∀ v H', 0 ≤ v → v < lim → StAt H' S c → Kp S H H' → Q (.int v) H'
def spGcd : Sp := fun vs H Q _ => ∃ a b : Int, vs = [.int a, .int b] ∧ 0 ≤ a ∧ 0 ≤ b ∧ Q (.int (gcdI a b)) H
def spLRatio (K : PySem.W.Frag) : Sp := fun vs H Q _ => ∃ a b : Int, vs = [.int a, .int b] ∧ b ≠ 0 ∧ b.natAbs < 2 ^ 9000 ∧ ∀ v H', Same H H' → RatV K H' v (Rat.divInt a b) → Q v H'
def spBin (K : PySem.W.Frag) (f : Rat → Rat → Rat) : Sp := fun vs H Q _ => ∃ (x y : V) (p q : Rat) (n m : Nat), vs = [x, y] ∧ RatV K H x p ∧ RatV K H y q ∧ Bd n p ∧ Bd m q ∧ n + m ≤ 8000 ∧ ∀ v H', Same H H' → RatV K H' v (f p q) → Q v H'
section
variable {P : Program} {w : World} {K : PySem.W.Frag} {mg : Str → Option Value} {base : Heap} {A : Ads}
theorem ok_l_pick (T : Txt K mg A) : FnOk P w K mg base CX0 1 A.f_l_pick A.fd_l_pick ["state", "limit"] spPick := by
  have nd := sc_l_pick.nd
  refine T.F_l_pick.ok sc_l_pick (fun vs H Q E h => ?_) (fun cdv Ar outer s H vs Q E hr h => ?_)
  · obtain ⟨S, c, lim, rfl, _⟩ := h
    rfl
  · obtain ⟨S, c, lim, rfl, ⟨ncS, i, h, n, cs, eS, ec, hi, hh⟩, hl, hl2, k⟩ := h
    refine ⟨_, (pss_cons (ps_asg (pe_op op_add (pe_ix (ix_listK (K := K) rfl) (pv 0) pe_int (fun _ _ => rfl)) pe_int) (pg_sub (pv 0) pe_int set_list)) (pss_cons (ps_if (pt_cmpR op_gt (pe_ix (ix_listK (K := K) rfl) (pv 0) pe_int (fun _ _ => rfl)) pe_int (nomark _)) (pss_cons (ps_set (i := 2) nd rfl (Or.inl rfl) (pe_op op_modN (pe_callTy zc_int (by rfl) T.n_int (by decide +kernel) (pa_cons (pe_ix (ix_listK (K := K) rfl) (pv 0) pe_int (fun _ _ => rfl)) pa_nil)) (pv 1))) (pss_cons (ps_asg (pe_op op_fdivZ (pe_ix (ix_listK (K := K) rfl) (pv 0) pe_int (fun _ _ => rfl)) (pv 1)) (pg_sub (pv 0) pe_int set_list)) (pss_one (ps_ret (pv 2))))) pss_nil) (pss_cons (ps_set (i := 3) nd rfl (Or.inl rfl) pe_int) (pss_cutZ (ps_if (pt_cmpR op_lt (pe_ix (ix_listK (K := K) rfl) (pv 0) pe_int (fun _ _ => rfl)) (pe_callB (zc_lenK (K := K) rfl) (by rfl) T.n_len (by decide +kernel) (pa_cons (pe_ix (ix_listK (K := K) rfl) (pv 0) pe_int (fun _ _ => rfl)) pa_nil)) (nomark _)) (pss_one (ps_set (i := 3) nd rfl (Or.inl rfl) (pe_ix (ix_listK (K := K) rfl) (pe_ix (ix_listK (K := K) rfl) (pv 0) pe_int (fun _ _ => rfl)) (pe_ix (ix_listK (K := K) rfl) (pv 0) pe_int (fun _ _ => rfl)) (fun _ _ => rfl)))) pss_nil) (pss_cons (ps_asg (pe_op op_add (pe_ix (ix_listK (K := K) rfl) (pv 0) pe_int (fun _ _ => rfl)) pe_int) (pg_sub (pv 0) pe_int set_list)) (pss_cons (ps_if (pt_cmpR op_ge (pv 3) (pe_op op_pow pe_int pe_int) (nomark _)) (pss_cons (ps_asg (pe_op op_fdivZ (pv 3) (pv 1)) (pg_sub (pv 0) pe_int set_list)) (pss_one (ps_ret (pe_op op_modN (pe_callTy zc_int (by rfl) T.n_int (by decide +kernel) (pa_cons (pv 3) pa_nil)) (pv 1))))) pss_nil) (pss_cons (ps_set (i := 4) nd rfl (Or.inl rfl) (pe_op op_modN (pe_callTy zc_int (by rfl) T.n_int (by decide +kernel) (pa_cons (pe_op op_add (pe_op op_mul (pe_op op_modN (pe_callTy zc_int (by rfl) T.n_int (by decide +kernel) (pa_cons (pe_op op_add (pe_op op_add (pe_op op_mul (pv 3) pe_int) (pe_op op_mul (pe_ix (ix_listK (K := K) rfl) (pv 0) pe_int (fun _ _ => rfl)) pe_int)) pe_int) pa_nil)) pe_int) pe_int) (pe_ix (ix_listK (K := K) rfl) (pv 0) pe_int (fun _ _ => rfl))) pa_nil)) pe_int)) (pss_one (ps_ret (pe_op op_modN (pe_callTy zc_int (by rfl) T.n_int (by decide +kernel) (pa_cons (pe_op op_fdivZ (pv 4) pe_int) pa_nil)) (pv 1))))))))))), ?_⟩
    have hne : lim ≠ 0 := by omega
    have hcd : ∀ x : Int, CDivZ x lim := fun x => ⟨hne, hl2⟩
    have c1 : H c = some (.lst (cs.map V.int)) := ec
    walk_at "gs"
    refine if_2 (fun e => ?_) (fun e => ?_)
    · walk_at "gs"
      refine g_I (hcd _) ?_
      walk_at "gs"
      refine k _ _ (Int.fmod_nonneg_of_pos _ hl) (Int.fmod_lt_of_pos _ hl) ?_ ?_
      · have h0 : 0 < h := of_decide_eq_true e
        refine ⟨ncS, i, h.fdiv lim, n + 1, cs, upd_same, ?_, hi, ?_⟩
        · rw [upd_ne ncS, upd_ne ncS]
          exact ec
        · rw [Int.fdiv_eq_ediv_of_nonneg _ (by omega)]
          exact Int.ediv_nonneg hh (by omega)
      · rw [upd_upd]
        exact Kp.upd
    · have e0 : h = 0 := by
        have := of_decide_eq_false e
        omega
      subst e0
      walk_at "gs"
      have hS1 : ∀ o : HO, (upd H S o) c = some (.lst (cs.map V.int)) := fun o => by
        rw [upd_ne ncS]
        exact ec
      have hL1 : ∀ o : HO, SqL K (upd H S o) c (cs.map V.int) := fun o => SqL.of (hS1 o)
      refine g_cut (fun σ' H' => ∃ cl : Int, σ' = [some (.ref S), some (.int lim), none, some (.int cl), none] ∧ H' = upd H S (.lst [.ref c, .int i, .int 0, .int (n + 1)])) ?_ ?_
      · walk_at "gs"
        refine g_lenL (hL1 _) ?_
        walk_at "gs"
        refine if_2 (fun e => ?_) (fun e => ?_)
        · have hlt := of_decide_eq_true e
          rw [List.length_map] at hlt
          obtain ⟨j, ej⟩ : ∃ j : Nat, i = (j : Int) := ⟨i.toNat, by omega⟩
          have hj : j < cs.length := by omega
          walk_at "gs"
          refine g_ixL (hL1 _) (v := .int (cs[j])) ?_ ?_
          · rw [ej]
            exact atI_nat (by rw [List.getElem?_map, List.getElem?_eq_getElem hj]; rfl)
          walk_at "gs"
          exact ⟨cs[j], rfl, rfl⟩
        · walk_at "gs"
          exact ⟨0, rfl, rfl⟩
      · rintro σ' H' ⟨cl, rfl, rfl⟩
        walk_at "gs"
        refine if_2 (fun e => ?_) (fun e => ?_)
        · have hbig : (10 : Int) ^ 18 ≤ cl := of_decide_eq_true e
          have hcl : 0 ≤ cl := Int.le_trans (by decide) hbig
          walk_at "gs"
          refine g_I (hcd _) ?_
          walk_at "gs"
          refine k _ _ (Int.fmod_nonneg_of_pos _ hl) (Int.fmod_lt_of_pos _ hl) ?_ ?_
          · refine ⟨ncS, i + 1, cl.fdiv lim, n + 1, cs, upd_same, ?_, by omega, ?_⟩
            · rw [upd_upd, upd_upd]
              exact hS1 _
            · rw [Int.fdiv_eq_ediv_of_nonneg _ (by omega)]
              exact Int.ediv_nonneg hcl (by omega)
          · rw [upd_upd, upd_upd]
            exact Kp.upd
        · walk_at "gs"
          refine k _ _ (Int.fmod_nonneg_of_pos _ hl) (Int.fmod_lt_of_pos _ hl) ?_ ?_
          · refine ⟨ncS, i + 1, 0, n + 1, cs, upd_same, ?_, by omega, by omega⟩
            rw [upd_upd]
            exact hS1 _
          · rw [upd_upd]
            exact Kp.upd
theorem gcdI_step {a b : Int} (ha : 0 ≤ a) (hb : 0 ≤ b) (h : b ≠ 0) : gcdI b (a.fmod b) = gcdI a b := by
  have e1 : a.fmod b = ((a.toNat % b.toNat : Nat) : Int) := by
    rw [Int.fmod_eq_emod_of_nonneg _ hb, Int.natCast_emod, Int.toNat_of_nonneg ha, Int.toNat_of_nonneg hb]
  unfold gcdI
  rw [e1, Int.natAbs_natCast]
  have e2 : a.natAbs = a.toNat := by omega
  have e3 : b.natAbs = b.toNat := by omega
  rw [e2, e3]
  congr 1
  conv => rhs; rw [Nat.gcd_comm, Nat.gcd_rec]
  rw [Nat.gcd_comm]
theorem gcdI_zero {a : Int} (ha : 0 ≤ a) : gcdI a 0 = a := by
  unfold gcdI
  rw [Int.natAbs_zero, Nat.gcd_zero_right]
  omega
theorem ok_l_gcd (T : Txt K mg A) : FnOk P w K mg base CX0 1 A.f_l_gcd A.fd_l_gcd ["left", "right"] spGcd := by
  have nd := sc_l_gcd.nd
  refine T.F_l_gcd.ok sc_l_gcd (fun vs H Q E h => ?_) (fun cdv Ar outer s H vs Q E hr h => ?_)
  · obtain ⟨a, b, rfl, _⟩ := h
    rfl
  · obtain ⟨a, b, rfl, ha, hb, k⟩ := h
    refine ⟨_, (pss_cons (ps_while PassesOwn.never (pt_cmpR op_ne (pv 1) pe_int (nomark _)) (pss_one (ps_par (i := 0) (j := 1) rfl nd rfl rfl (by decide) rfl rfl (pa_cons (pv 1) (pa_cons (pe_op op_modN (pe_callTy zc_int (by rfl) T.n_int (by decide +kernel) (pa_cons (pv 0) pa_nil)) (pv 1)) pa_nil)) (by rfl)))) (pss_one (ps_ret (pv 0)))), ?_⟩
    walk_at "gs"
    refine g_while (fun m σ H' => ∃ x y : Int, σ = [some (.int x), some (.int y)] ∧ 0 ≤ x ∧ 0 ≤ y ∧ gcdI x y = gcdI a b ∧ H' = H ∧ m = y.natAbs) _ ⟨a, b, rfl, ha, hb, rfl, rfl, rfl⟩ ?_
    rintro m σ H' ⟨x, y, rfl, hx, hy, eg, rfl, rfl⟩
    walk_at "gs"
    refine if_2 (fun e => ⟨_, fun _ _ h => h, ?_⟩) (fun e => ?_)
    · have hne : y ≠ 0 := by
        intro z
        rw [z] at e
        cases e
      walk_at "gs"
      have h1 := Int.fmod_nonneg_of_pos x (show 0 < y by omega)
      have h2 := Int.fmod_lt_of_pos x (show 0 < y by omega)
      exact ⟨_, by omega, y, x.fmod y, rfl, hy, h1, by rw [gcdI_step hx hy hne]; exact eg, rfl, rfl⟩
    · have he : y = 0 := by
        have h1 := of_decide_eq_true (show decide (V.int y = V.int 0) = true by simpa using e)
        exact V.int.inj h1
      subst he
      walk_at "gs"
      rw [gcdI_zero hx] at eg
      rw [eg]
      exact k
theorem abs_gcd (a b : Int) : gcdI (if a < 0 then -a else a) (if b < 0 then -b else b) = gcdI a b := by
  unfold gcdI
  have e1 : (if a < 0 then -a else a).natAbs = a.natAbs := by split <;> omega
  have e2 : (if b < 0 then -b else b).natAbs = b.natAbs := by split <;> omega
  rw [e1, e2]
theorem ok_l_ratio (T : Txt K mg A) : FnOk P w K mg base CX0 2 A.f_l_ratio A.fd_l_ratio ["top", "bottom"] (spLRatio K) := by
  have G_l_gcd := ok_l_gcd (P := P) (w := w) (base := base) T
  have nd := sc_l_ratio.nd
  refine T.F_l_ratio.ok sc_l_ratio (fun vs H Q E h => ?_) (fun cdv Ar outer s H vs Q E hr h => ?_)
  · obtain ⟨a, b, rfl, _⟩ := h
    rfl
  · obtain ⟨a, b, rfl, hb, hsz, k⟩ := h
    refine ⟨_, (pss_cons (ps_set (i := 2) nd rfl (Or.inl rfl) (pe_call (E := E0) G_l_gcd (hr.mono (by decide)) (by rfl) T.g_l_gcd T.F_l_gcd.kp T.b_l_gcd .nil pass0 (pa_cons (pe_callB zc_abs (by rfl) T.n_abs (by decide +kernel) (pa_cons (pv 0) pa_nil)) (pa_cons (pe_callB zc_abs (by rfl) T.n_abs (by decide +kernel) (pa_cons (pv 1) pa_nil)) pa_nil)))) (pss_cutZ (ps_if (pt_cmpR op_lt (pv 1) pe_int (nomark _)) (pss_one (ps_set (i := 2) nd rfl (Or.inl rfl) (pe_un un_neg (pv 2)))) pss_nil) (pss_one (ps_ret (pe_tup (pa_cons (pe_op op_fdivZ (pv 0) (pv 2)) (pa_cons (pe_op op_fdivZ (pv 1) (pv 2)) pa_nil))))))), ?_⟩
    walk_at "gs"
    refine ⟨_, _, rfl, by split <;> omega, by split <;> omega, ?_⟩
    rw [abs_gcd]
    walk_at "gs"
    refine g_cut (fun σ' H' => σ' = [some (.int a), some (.int b), some (.int (comI a b))] ∧ H' = H) ?_ ?_
    · walk_at "gs"
      refine if_2 (fun e => ?_) (fun e => ?_)
      · walk_at "gs"
        refine ⟨?_, rfl⟩
        have := of_decide_eq_true e
        unfold comI
        rw [if_pos this]
        rfl
      · walk_at "gs"
        refine ⟨?_, rfl⟩
        have := of_decide_eq_false e
        unfold comI
        rw [if_neg this]
        rfl
    · rintro σ' H' ⟨rfl, rfl⟩
      have hc : ∀ x, CDivZ x (comI a b) := fun x => ⟨comI_ne hb, by
        rw [comI_abs]
        exact Nat.lt_of_le_of_lt (gcdI_le hb) hsz⟩
      walk_at "gs"
      refine g_I (hc _) ?_
      walk_at "gs"
      refine g_I (hc _) ?_
      walk_at "gs"
      rw [fdiv_num hb, fdiv_den hb]
      refine g_newT (by show 2 ≤ 1000000; decide) fun p hp => ?_
      exact k _ _ (up_same hp) RatV.new
theorem ok_l_add (T : Txt K mg A) : FnOk P w K mg base CX0 3 A.f_l_add A.fd_l_add ["left", "right"] (spBin K (fun p q => p + q)) := by
  have G_l_ratio := ok_l_ratio (P := P) (w := w) (base := base) T
  have nd := sc_l_add.nd
  refine T.F_l_add.ok sc_l_add (fun vs H Q E h => ?_) (fun cdv Ar outer s H vs Q E hr h => ?_)
  · obtain ⟨x, y, p, q, n, m, rfl, _⟩ := h
    rfl
  · obtain ⟨x, y, p, q, n, m, rfl, ⟨px, rfl, hx⟩, ⟨py, rfl, hy⟩, bp, bq, hnm, k⟩ := h
    refine ⟨_, (pss_one (ps_ret (pe_call (E := E0) G_l_ratio (hr.mono (by decide)) (by rfl) T.g_l_ratio T.F_l_ratio.kp T.b_l_ratio .nil pass0 (pa_cons (pe_op op_add (pe_op op_mulB (pe_ix (ix_tupK (K := K) rfl) (pv 0) pe_int (fun _ _ => rfl)) (pe_ix (ix_tupK (K := K) rfl) (pv 1) pe_int (fun _ _ => rfl))) (pe_op op_mulB (pe_ix (ix_tupK (K := K) rfl) (pv 1) pe_int (fun _ _ => rfl)) (pe_ix (ix_tupK (K := K) rfl) (pv 0) pe_int (fun _ _ => rfl)))) (pa_cons (pe_op op_mulB (pe_ix (ix_tupK (K := K) rfl) (pv 0) pe_int (fun _ _ => rfl)) (pe_ix (ix_tupK (K := K) rfl) (pv 1) pe_int (fun _ _ => rfl))) pa_nil))))), ?_⟩
    have m0 : CMulB p.num (q.den : Int) := mulB_of (a := n) (b := m) bp.1 bq.2 (by omega)
    have m1 : CMulB q.num (p.den : Int) := mulB_of (a := m) (b := n) bq.1 bp.2 (by omega)
    have m2 : CMulB (p.den : Int) (q.den : Int) := mulB_of (a := n) (b := m) bp.2 bq.2 (by omega)
    walk_at "gs"
    refine ⟨_, _, rfl, den_mul_ne p q, lt9000 (n := n + m) (abs_mul_lt (x := (p.den : Int)) (y := (q.den : Int)) bp.2 bq.2) (by omega), fun v H' sm hv => ?_⟩
    rw [rat_plus] at hv
    exact k v H' sm hv
theorem ok_l_sub (T : Txt K mg A) : FnOk P w K mg base CX0 3 A.f_l_sub A.fd_l_sub ["left", "right"] (spBin K (fun p q => p - q)) := by
  have G_l_ratio := ok_l_ratio (P := P) (w := w) (base := base) T
  have nd := sc_l_sub.nd
  refine T.F_l_sub.ok sc_l_sub (fun vs H Q E h => ?_) (fun cdv Ar outer s H vs Q E hr h => ?_)
  · obtain ⟨x, y, p, q, n, m, rfl, _⟩ := h
    rfl
  · obtain ⟨x, y, p, q, n, m, rfl, ⟨px, rfl, hx⟩, ⟨py, rfl, hy⟩, bp, bq, hnm, k⟩ := h
    refine ⟨_, (pss_one (ps_ret (pe_call (E := E0) G_l_ratio (hr.mono (by decide)) (by rfl) T.g_l_ratio T.F_l_ratio.kp T.b_l_ratio .nil pass0 (pa_cons (pe_op op_sub (pe_op op_mulB (pe_ix (ix_tupK (K := K) rfl) (pv 0) pe_int (fun _ _ => rfl)) (pe_ix (ix_tupK (K := K) rfl) (pv 1) pe_int (fun _ _ => rfl))) (pe_op op_mulB (pe_ix (ix_tupK (K := K) rfl) (pv 1) pe_int (fun _ _ => rfl)) (pe_ix (ix_tupK (K := K) rfl) (pv 0) pe_int (fun _ _ => rfl)))) (pa_cons (pe_op op_mulB (pe_ix (ix_tupK (K := K) rfl) (pv 0) pe_int (fun _ _ => rfl)) (pe_ix (ix_tupK (K := K) rfl) (pv 1) pe_int (fun _ _ => rfl))) pa_nil))))), ?_⟩
    have m0 : CMulB p.num (q.den : Int) := mulB_of (a := n) (b := m) bp.1 bq.2 (by omega)
    have m1 : CMulB q.num (p.den : Int) := mulB_of (a := m) (b := n) bq.1 bp.2 (by omega)
    have m2 : CMulB (p.den : Int) (q.den : Int) := mulB_of (a := n) (b := m) bp.2 bq.2 (by omega)
    walk_at "gs"
    refine ⟨_, _, rfl, den_mul_ne p q, lt9000 (n := n + m) (abs_mul_lt (x := (p.den : Int)) (y := (q.den : Int)) bp.2 bq.2) (by omega), fun v H' sm hv => ?_⟩
    rw [rat_minus] at hv
    exact k v H' sm hv
theorem ok_l_mul (T : Txt K mg A) : FnOk P w K mg base CX0 3 A.f_l_mul A.fd_l_mul ["left", "right"] (spBin K (fun p q => p * q)) := by
  have G_l_ratio := ok_l_ratio (P := P) (w := w) (base := base) T
  have nd := sc_l_mul.nd
  refine T.F_l_mul.ok sc_l_mul (fun vs H Q E h => ?_) (fun cdv Ar outer s H vs Q E hr h => ?_)
  · obtain ⟨x, y, p, q, n, m, rfl, _⟩ := h
    rfl
  · obtain ⟨x, y, p, q, n, m, rfl, ⟨px, rfl, hx⟩, ⟨py, rfl, hy⟩, bp, bq, hnm, k⟩ := h
    refine ⟨_, (pss_one (ps_ret (pe_call (E := E0) G_l_ratio (hr.mono (by decide)) (by rfl) T.g_l_ratio T.F_l_ratio.kp T.b_l_ratio .nil pass0 (pa_cons (pe_op op_mulB (pe_ix (ix_tupK (K := K) rfl) (pv 0) pe_int (fun _ _ => rfl)) (pe_ix (ix_tupK (K := K) rfl) (pv 1) pe_int (fun _ _ => rfl))) (pa_cons (pe_op op_mulB (pe_ix (ix_tupK (K := K) rfl) (pv 0) pe_int (fun _ _ => rfl)) (pe_ix (ix_tupK (K := K) rfl) (pv 1) pe_int (fun _ _ => rfl))) pa_nil))))), ?_⟩
    have m0 : CMulB p.num q.num := mulB_of (a := n) (b := m) bp.1 bq.1 (by omega)
    have m1 : CMulB (p.den : Int) (q.den : Int) := mulB_of (a := n) (b := m) bp.2 bq.2 (by omega)
    walk_at "gs"
    refine ⟨_, _, rfl, den_mul_ne p q, lt9000 (n := n + m) (abs_mul_lt (x := (p.den : Int)) (y := (q.den : Int)) bp.2 bq.2) (by omega), fun v H' sm hv => ?_⟩
    rw [rat_times] at hv
    exact k v H' sm hv
def spDiv (K : PySem.W.Frag) : Sp := fun vs H Q _ => ∃ (x y : V) (p q : Rat) (n m : Nat), vs = [x, y] ∧ RatV K H x p ∧ RatV K H y q ∧ Bd n p ∧ Bd m q ∧ n + m ≤ 8000 ∧ q ≠ 0 ∧ ∀ v H', Same H H' → RatV K H' v (p / q) → Q v H'
theorem den_num_ne {p q : Rat} (h : q ≠ 0) : (p.den : Int) * q.num ≠ 0 := Int.mul_ne_zero (by have := den_pos p; omega) fun z => h (Rat.num_eq_zero.mp z)
theorem ok_l_div (T : Txt K mg A) : FnOk P w K mg base CX0 3 A.f_l_div A.fd_l_div ["left", "right"] (spDiv K) := by
  have G_l_ratio := ok_l_ratio (P := P) (w := w) (base := base) T
  have nd := sc_l_div.nd
  refine T.F_l_div.ok sc_l_div (fun vs H Q E h => ?_) (fun cdv Ar outer s H vs Q E hr h => ?_)
  · obtain ⟨x, y, p, q, n, m, rfl, _⟩ := h
    rfl
  · obtain ⟨x, y, p, q, n, m, rfl, ⟨px, rfl, hx⟩, ⟨py, rfl, hy⟩, bp, bq, hnm, hq, k⟩ := h
    refine ⟨_, (pss_one (ps_ret (pe_call (E := E0) G_l_ratio (hr.mono (by decide)) (by rfl) T.g_l_ratio T.F_l_ratio.kp T.b_l_ratio .nil pass0 (pa_cons (pe_op op_mulB (pe_ix (ix_tupK (K := K) rfl) (pv 0) pe_int (fun _ _ => rfl)) (pe_ix (ix_tupK (K := K) rfl) (pv 1) pe_int (fun _ _ => rfl))) (pa_cons (pe_op op_mulB (pe_ix (ix_tupK (K := K) rfl) (pv 0) pe_int (fun _ _ => rfl)) (pe_ix (ix_tupK (K := K) rfl) (pv 1) pe_int (fun _ _ => rfl))) pa_nil))))), ?_⟩
    have m0 : CMulB p.num (q.den : Int) := mulB_of (a := n) (b := m) bp.1 bq.2 (by omega)
    have m1 : CMulB (p.den : Int) q.num := mulB_of (a := n) (b := m) bp.2 bq.1 (by omega)
    walk_at "gs"
    refine ⟨_, _, rfl, den_num_ne hq, lt9000 (n := n + m) (abs_mul_lt (x := (p.den : Int)) (y := q.num) bp.2 bq.1) (by omega), fun v H' sm hv => ?_⟩
    rw [rat_over] at hv
    exact k v H' sm hv
end
/-! ### the program's ratios -/
section
variable {P : Program} {w : World} {K : PySem.W.Frag} {mg : Str → Option Value} {base : Heap} {A : Ads}
def spRatio (K : PySem.W.Frag) (C : Addr) : Sp := fun vs H Q E => ∃ a b : Int, vs = [.int a, .int b] ∧ b.natAbs < 2 ^ 9000 ∧ (b = 0 → E (.ref C) none H) ∧ (b ≠ 0 → ∀ v H', Same H H' → RatV K H' v (Rat.divInt a b) → Q v H')
theorem ok_ratio (T : Txt K mg A) : FnOk P w K mg base (L2.CX P w) 1 A.f_ratio A.fd_ratio ["top", "bottom"] (spRatio K A.C_RatioError) := by
  have nd := sc_ratio.nd
  refine T.F_ratio.okX sc_ratio (fun vs H Q E h => ?_) (fun cdv Ar outer s H vs Q E hr h => ?_)
  · obtain ⟨a, b, rfl, _⟩ := h
    rfl
  · obtain ⟨a, b, rfl, hsz, k0, k1⟩ := h
    refine ⟨_, (pss_cons (ps_if (pt_cmpR op_eq (pv 1) pe_int (nomark _)) (pss_one (ps_raise rfl (takes_of rfl rfl rfl rfl) (pmk_own PySem.F.excBase_ValueError T.x_RatioError T.g_RatioError T.k_RatioError (raises_own T.bb_RatioError T.t_RatioError) (by exact rfl)))) pss_nil) (pss_cons (ps_set (i := 2) nd rfl (Or.inl rfl) (pe_callBfun cr_gcd (by rfl) T.g_gcd (pa_cons (pv 0) (pa_cons (pv 1) pa_nil)))) (pss_cutZ (ps_if (pt_cmpR op_lt (pv 1) pe_int (nomark _)) (pss_one (ps_set (i := 2) nd rfl (Or.inl rfl) (pe_un un_neg (pv 2)))) pss_nil) (pss_one (ps_ret (pe_tup (pa_cons (pe_op op_fdivZ (pv 0) (pv 2)) (pa_cons (pe_op op_fdivZ (pv 1) (pv 2)) pa_nil)))))))), ?_⟩
    walk_at "gs"
    refine if_2 (fun e => ?_) (fun e => ?_)
    · exact k0 (V.int.inj (of_decide_eq_true e))
    · have hb : b ≠ 0 := fun z => by
        rw [z] at e
        cases e
      walk_at "gs"
      refine ⟨_, _, rfl, ?_⟩
      walk_at "gs"
      refine g_cut (fun σ' H' => σ' = [some (.int a), some (.int b), some (.int (comI a b))] ∧ H' = H) ?_ ?_
      · walk_at "gs"
        refine if_2 (fun e => ?_) (fun e => ?_)
        · walk_at "gs"
          refine ⟨?_, rfl⟩
          have := of_decide_eq_true e
          unfold comI
          rw [if_pos this]
          rfl
        · walk_at "gs"
          refine ⟨?_, rfl⟩
          have := of_decide_eq_false e
          unfold comI
          rw [if_neg this]
          rfl
      · rintro σ' H' ⟨rfl, rfl⟩
        have hc : ∀ x, CDivZ x (comI a b) := fun x => ⟨comI_ne hb, by
          rw [comI_abs]
          exact Nat.lt_of_le_of_lt (gcdI_le hb) hsz⟩
        walk_at "gs"
        refine g_I (hc _) ?_
        walk_at "gs"
        refine g_I (hc _) ?_
        walk_at "gs"
        rw [fdiv_num hb, fdiv_den hb]
        refine g_newT (by show 2 ≤ 1000000; decide) fun p hp => ?_
        exact k1 hb _ _ (up_same hp) RatV.new
theorem ok_plus (T : Txt K mg A) : FnOk P w K mg base CX0 2 A.f_plus A.fd_plus ["left", "right"] (spBin K (fun p q => p + q)) := by
  have G_ratio := ok_ratio (P := P) (w := w) (base := base) T
  have nd := sc_plus.nd
  refine T.F_plus.ok sc_plus (fun vs H Q E h => ?_) (fun cdv Ar outer s H vs Q E hr h => ?_)
  · obtain ⟨x, y, p, q, n, m, rfl, _⟩ := h
    rfl
  · obtain ⟨x, y, p, q, n, m, rfl, ⟨px, rfl, hx⟩, ⟨py, rfl, hy⟩, bp, bq, hnm, k⟩ := h
    refine ⟨_, (pss_one (ps_ret (pe_call (E := E0) G_ratio (hr.mono (by decide)) (by rfl) T.g_ratio T.F_ratio.kp T.b_ratio .nil passL (pa_cons (pe_op op_add (pe_op op_mulB (pe_ix (ix_tupK (K := K) rfl) (pv 0) pe_int (fun _ _ => rfl)) (pe_ix (ix_tupK (K := K) rfl) (pv 1) pe_int (fun _ _ => rfl))) (pe_op op_mulB (pe_ix (ix_tupK (K := K) rfl) (pv 1) pe_int (fun _ _ => rfl)) (pe_ix (ix_tupK (K := K) rfl) (pv 0) pe_int (fun _ _ => rfl)))) (pa_cons (pe_op op_mulB (pe_ix (ix_tupK (K := K) rfl) (pv 0) pe_int (fun _ _ => rfl)) (pe_ix (ix_tupK (K := K) rfl) (pv 1) pe_int (fun _ _ => rfl))) pa_nil))))), ?_⟩
    have m0 : CMulB p.num (q.den : Int) := mulB_of (a := n) (b := m) bp.1 bq.2 (by omega)
    have m1 : CMulB q.num (p.den : Int) := mulB_of (a := m) (b := n) bq.1 bp.2 (by omega)
    have m2 : CMulB (p.den : Int) (q.den : Int) := mulB_of (a := n) (b := m) bp.2 bq.2 (by omega)
    walk_at "gs"
    refine ⟨_, _, rfl, lt9000 (n := n + m) (abs_mul_lt (x := (p.den : Int)) (y := (q.den : Int)) bp.2 bq.2) (by omega), fun z => absurd z (den_mul_ne p q), fun _ v H' sm hv => ?_⟩
    rw [rat_plus] at hv
    exact k v H' sm hv
theorem ok_minus (T : Txt K mg A) : FnOk P w K mg base CX0 2 A.f_minus A.fd_minus ["left", "right"] (spBin K (fun p q => p - q)) := by
  have G_ratio := ok_ratio (P := P) (w := w) (base := base) T
  have nd := sc_minus.nd
  refine T.F_minus.ok sc_minus (fun vs H Q E h => ?_) (fun cdv Ar outer s H vs Q E hr h => ?_)
  · obtain ⟨x, y, p, q, n, m, rfl, _⟩ := h
    rfl
  · obtain ⟨x, y, p, q, n, m, rfl, ⟨px, rfl, hx⟩, ⟨py, rfl, hy⟩, bp, bq, hnm, k⟩ := h
    refine ⟨_, (pss_one (ps_ret (pe_call (E := E0) G_ratio (hr.mono (by decide)) (by rfl) T.g_ratio T.F_ratio.kp T.b_ratio .nil passL (pa_cons (pe_op op_sub (pe_op op_mulB (pe_ix (ix_tupK (K := K) rfl) (pv 0) pe_int (fun _ _ => rfl)) (pe_ix (ix_tupK (K := K) rfl) (pv 1) pe_int (fun _ _ => rfl))) (pe_op op_mulB (pe_ix (ix_tupK (K := K) rfl) (pv 1) pe_int (fun _ _ => rfl)) (pe_ix (ix_tupK (K := K) rfl) (pv 0) pe_int (fun _ _ => rfl)))) (pa_cons (pe_op op_mulB (pe_ix (ix_tupK (K := K) rfl) (pv 0) pe_int (fun _ _ => rfl)) (pe_ix (ix_tupK (K := K) rfl) (pv 1) pe_int (fun _ _ => rfl))) pa_nil))))), ?_⟩
    have m0 : CMulB p.num (q.den : Int) := mulB_of (a := n) (b := m) bp.1 bq.2 (by omega)
    have m1 : CMulB q.num (p.den : Int) := mulB_of (a := m) (b := n) bq.1 bp.2 (by omega)
    have m2 : CMulB (p.den : Int) (q.den : Int) := mulB_of (a := n) (b := m) bp.2 bq.2 (by omega)
    walk_at "gs"
    refine ⟨_, _, rfl, lt9000 (n := n + m) (abs_mul_lt (x := (p.den : Int)) (y := (q.den : Int)) bp.2 bq.2) (by omega), fun z => absurd z (den_mul_ne p q), fun _ v H' sm hv => ?_⟩
    rw [rat_minus] at hv
    exact k v H' sm hv
theorem ok_times (T : Txt K mg A) : FnOk P w K mg base CX0 2 A.f_times A.fd_times ["left", "right"] (spBin K (fun p q => p * q)) := by
  have G_ratio := ok_ratio (P := P) (w := w) (base := base) T
  have nd := sc_times.nd
  refine T.F_times.ok sc_times (fun vs H Q E h => ?_) (fun cdv Ar outer s H vs Q E hr h => ?_)
  · obtain ⟨x, y, p, q, n, m, rfl, _⟩ := h
    rfl
  · obtain ⟨x, y, p, q, n, m, rfl, ⟨px, rfl, hx⟩, ⟨py, rfl, hy⟩, bp, bq, hnm, k⟩ := h
    refine ⟨_, (pss_one (ps_ret (pe_call (E := E0) G_ratio (hr.mono (by decide)) (by rfl) T.g_ratio T.F_ratio.kp T.b_ratio .nil passL (pa_cons (pe_op op_mulB (pe_ix (ix_tupK (K := K) rfl) (pv 0) pe_int (fun _ _ => rfl)) (pe_ix (ix_tupK (K := K) rfl) (pv 1) pe_int (fun _ _ => rfl))) (pa_cons (pe_op op_mulB (pe_ix (ix_tupK (K := K) rfl) (pv 0) pe_int (fun _ _ => rfl)) (pe_ix (ix_tupK (K := K) rfl) (pv 1) pe_int (fun _ _ => rfl))) pa_nil))))), ?_⟩
    have m0 : CMulB p.num q.num := mulB_of (a := n) (b := m) bp.1 bq.1 (by omega)
    have m1 : CMulB (p.den : Int) (q.den : Int) := mulB_of (a := n) (b := m) bp.2 bq.2 (by omega)
    walk_at "gs"
    refine ⟨_, _, rfl, lt9000 (n := n + m) (abs_mul_lt (x := (p.den : Int)) (y := (q.den : Int)) bp.2 bq.2) (by omega), fun z => absurd z (den_mul_ne p q), fun _ v H' sm hv => ?_⟩
    rw [rat_times] at hv
    exact k v H' sm hv
end
/-! ### whole numbers drawn, the same data -/
section
variable {P : Program} {w : World} {K : PySem.W.Frag} {mg : Str → Option Value} {base : Heap} {A : Ads}
def spSame (K : PySem.W.Frag) (n : Nat) : Sp := fun vs H Q _ => ∃ x y, vs = [x, y] ∧ Eqv K H n x y ∧ ∀ H', Same H H' → Q (.bl true) H'
theorem fn_false {f : Addr} {fd : FuncData} {ps : List Str} {k : Nat} {sp : Sp} (h : ∀ vs H Q E, ¬ sp vs H Q E) : FnOk P w K mg base CX0 k f fd ps sp := ⟨fun vs H Q E q => absurd q (h vs H Q E), fun A outer s H args us vs Q E _ _ _ _ q => absurd q (h vs H Q E)⟩
theorem ok_l_same (T : Txt K mg A) : ∀ n, FnOk P w K mg base CX0 n A.f_l_same A.fd_l_same ["actual", "due"] (spSame K n)
  | 0 => fn_false fun vs H Q E h => by
    obtain ⟨x, y, _, h, _⟩ := h
    cases h
  | n + 1 => by
    have G_rec := ok_l_same T n
    have nd := sc_l_same.nd
    refine T.F_l_same.ok sc_l_same (fun vs H Q E h => ?_) (fun cdv Ar outer s H vs Q E hr h => ?_)
    · obtain ⟨x, y, rfl, _⟩ := h
      rfl
    · obtain ⟨x, y, rfl, h, k⟩ := h
      refine ⟨_, (pss_cons (ps_if (pt_val (pe_callB (call_isiK' (K := K) rfl) (by rfl) T.n_isinstance (by decide +kernel) (pa_cons (pv 1) (pa_cons (pe_bltn (v := .ty "tuple") (by rfl) T.n_tuple (by decide +kernel) rfl) pa_nil)))) (pss_cons (ps_if (PW.pt (pw_or (pt_not (pt_val (pe_callB (call_isiK' (K := K) rfl) (by rfl) T.n_isinstance (by decide +kernel) (pa_cons (pv 0) (pa_cons (pe_bltn (v := .ty "tuple") (by rfl) T.n_tuple (by decide +kernel) rfl) pa_nil))))) (pw_or1 (pt_cmpR op_ne (pe_callB (zc_lenK (K := K) rfl) (by rfl) T.n_len (by decide +kernel) (pa_cons (pv 0) pa_nil)) (pe_callB (zc_lenK (K := K) rfl) (by rfl) T.n_len (by decide +kernel) (pa_cons (pv 1) pa_nil)) (nomark _))))) (pss_one (ps_ret pe_bl)) pss_nil) (pss_one (ps_ret (pe_callB (cr_allK (K := K) rfl rfl) (by rfl) T.n_all (by decide +kernel) (pa_cons (pe_lc (own := [("k", 2)]) (g := gName 2) (tt := tYes) rfl nd (pi_range1 (by rfl) T.n_range (pa_cons (pe_callB (zc_lenK (K := K) rfl) (by rfl) T.n_len (by decide +kernel) (pa_cons (pv 1) pa_nil)) pa_nil)) (blkOk_by (N := ["actual", "due", "k"]) (sc := defScope s_l_same) (by decide +kernel)) (fun _ _ _ _ _ => pg_name (i := 2) nd rfl (by first | exact Or.inl rfl | exact Or.inr rfl)) (fun _ _ _ _ _ => pts_nil) (fun _ _ _ _ _ => (pe_call (E := E0) G_rec hr (by rfl) T.g_l_same T.F_l_same.kp T.b_l_same .nil pass0 (pa_cons (pe_ix (ix_tupK (K := K) rfl) (pv 0) (pv 2) (fun _ _ => rfl)) (pa_cons (pe_ix (ix_tupK (K := K) rfl) (pv 1) (pv 2) (fun _ _ => rfl)) pa_nil))))) pa_nil))))) pss_nil) (pss_cons (ps_if (pt_val (pe_callB (call_isiK' (K := K) rfl) (by rfl) T.n_isinstance (by decide +kernel) (pa_cons (pv 1) (pa_cons (pe_bltn (v := .ty "list") (by rfl) T.n_list (by decide +kernel) rfl) pa_nil)))) (pss_one (ps_ret (pe_and (pe_callB (call_isiK' (K := K) rfl) (by rfl) T.n_isinstance (by decide +kernel) (pa_cons (pv 0) (pa_cons (pe_bltn (v := .ty "list") (by rfl) T.n_list (by decide +kernel) rfl) pa_nil))) (pe_one (pe_call (E := E0) G_rec hr (by rfl) T.g_l_same T.F_l_same.kp T.b_l_same .nil pass0 (pa_cons (pe_callTy (zc_tupleK (K := K) rfl) (by rfl) T.n_tuple (by decide +kernel) (pa_cons (pv 0) pa_nil)) (pa_cons (pe_callTy (zc_tupleK (K := K) rfl) (by rfl) T.n_tuple (by decide +kernel) (pa_cons (pv 1) pa_nil)) pa_nil))))))) pss_nil) (pss_cons (ps_if (pt_cmpR zo_isN (pv 1) pe_non (nomark _)) (pss_one (ps_ret (pe_cmpR zo_isN (pv 0) pe_non (nomark _)))) pss_nil) (pss_cons (ps_if (pt_val (pe_callB (call_isiK' (K := K) rfl) (by rfl) T.n_isinstance (by decide +kernel) (pa_cons (pv 1) (pa_cons (pe_bltn (v := .ty "bool") (by rfl) T.n_bool (by decide +kernel) rfl) pa_nil)))) (pss_one (ps_ret (pe_and (pe_callB (call_isiK' (K := K) rfl) (by rfl) T.n_isinstance (by decide +kernel) (pa_cons (pv 0) (pa_cons (pe_bltn (v := .ty "bool") (by rfl) T.n_bool (by decide +kernel) rfl) pa_nil))) (pe_one (pe_cmpR op_eq (pv 0) (pv 1) (nomark _)))))) pss_nil) (pss_cons (ps_if (pt_val (pe_callB (call_isiK' (K := K) rfl) (by rfl) T.n_isinstance (by decide +kernel) (pa_cons (pv 1) (pa_cons (pe_bltn (v := .ty "str") (by rfl) T.n_str (by decide +kernel) rfl) pa_nil)))) (pss_one (ps_ret (pe_and (pe_callB (call_isiK' (K := K) rfl) (by rfl) T.n_isinstance (by decide +kernel) (pa_cons (pv 0) (pa_cons (pe_bltn (v := .ty "str") (by rfl) T.n_str (by decide +kernel) rfl) pa_nil))) (pe_one (pe_cmpR op_eq (pv 0) (pv 1) (nomark _)))))) pss_nil) (pss_one (ps_ret (pe_and (pe_callB (call_isiK' (K := K) rfl) (by rfl) T.n_isinstance (by decide +kernel) (pa_cons (pv 0) (pa_cons (pe_bltn (v := .ty "int") (by rfl) T.n_int (by decide +kernel) rfl) pa_nil))) (pe_and (pe_not (pe_callB (call_isiK' (K := K) rfl) (by rfl) T.n_isinstance (by decide +kernel) (pa_cons (pv 0) (pa_cons (pe_bltn (v := .ty "bool") (by rfl) T.n_bool (by decide +kernel) rfl) pa_nil)))) (pe_one (pe_cmpR op_eq (pv 0) (pv 1) (nomark _)))))))))))), ?_⟩
      walk_at "gs"
      cases h with
      | sc hx =>
        cases x with
        | int i =>
          have ty : TyX K H (.int i) (.type "int") := tySc hx
          refine g_isi ty (b := false) (by decide +kernel) ?_
          walk_at "gs"
          refine if_f rfl ?_
          walk_at "gs"
          refine g_isi ty (b := false) (by decide +kernel) ?_
          walk_at "gs"
          refine if_f rfl ?_
          walk_at "gs"
          refine if_f rfl ?_
          walk_at "gs"
          refine g_isi ty (b := false) (by decide +kernel) ?_
          walk_at "gs"
          refine if_f rfl ?_
          walk_at "gs"
          refine g_isi ty (b := false) (by decide +kernel) ?_
          walk_at "gs"
          refine if_f rfl ?_
          walk_at "gs"
          refine g_isi ty (b := true) (by decide +kernel) ?_
          walk_at "gs"
          refine if_t rfl ?_
          walk_at "gs"
          refine g_isi ty (b := false) (by decide +kernel) ?_
          walk_at "gs"
          refine if_t rfl ?_
          walk_at "gs"
          rw [decide_eq_true rfl]
          exact k _ (Same.refl _)
        | bl i =>
          have ty : TyX K H (.bl i) (.type "bool") := tySc hx
          refine g_isi ty (b := false) (by decide +kernel) ?_
          walk_at "gs"
          refine if_f rfl ?_
          walk_at "gs"
          refine g_isi ty (b := false) (by decide +kernel) ?_
          walk_at "gs"
          refine if_f rfl ?_
          walk_at "gs"
          refine if_f rfl ?_
          walk_at "gs"
          refine g_isi ty (b := true) (by decide +kernel) ?_
          walk_at "gs"
          refine if_t rfl ?_
          walk_at "gs"
          refine g_isi ty (b := true) (by decide +kernel) ?_
          walk_at "gs"
          refine if_t rfl ?_
          walk_at "gs"
          rw [decide_eq_true rfl]
          exact k _ (Same.refl _)
        | str i =>
          have ty : TyX K H (.str i) (.type "str") := tySc hx
          refine g_isi ty (b := false) (by decide +kernel) ?_
          walk_at "gs"
          refine if_f rfl ?_
          walk_at "gs"
          refine g_isi ty (b := false) (by decide +kernel) ?_
          walk_at "gs"
          refine if_f rfl ?_
          walk_at "gs"
          refine if_f rfl ?_
          walk_at "gs"
          refine g_isi ty (b := false) (by decide +kernel) ?_
          walk_at "gs"
          refine if_f rfl ?_
          walk_at "gs"
          refine g_isi ty (b := true) (by decide +kernel) ?_
          walk_at "gs"
          refine if_t rfl ?_
          walk_at "gs"
          refine g_isi ty (b := true) (by decide +kernel) ?_
          walk_at "gs"
          refine if_t rfl ?_
          walk_at "gs"
          rw [decide_eq_true rfl]
          exact k _ (Same.refl _)
        | non =>
          have ty : TyX K H (.non) (.type "NoneType") := tySc hx
          refine g_isi ty (b := false) (by decide +kernel) ?_
          walk_at "gs"
          refine if_f rfl ?_
          walk_at "gs"
          refine g_isi ty (b := false) (by decide +kernel) ?_
          walk_at "gs"
          refine if_f rfl ?_
          walk_at "gs"
          refine if_t rfl ?_
          walk_at "gs"
          exact k _ (Same.refl _)
        | byt _ => cases hx
        | flt _ => cases hx
        | ref _ => cases hx
        | ty _ => cases hx
      | @tup _ p q xs ys hx hy hl hb hs =>
        refine g_isi (tyT hy) (b := true) (by decide +kernel) ?_
        walk_at "gs"
        refine if_t rfl ?_
        walk_at "gs"
        refine g_isi (tyT hx) (b := true) (by decide +kernel) ?_
        walk_at "gs"
        refine if_f rfl ?_
        walk_at "gs"
        rw [hl]
        refine if_f (by simp) ?_
        walk_at "gs"
        refine g_lcRng ys.length rfl hb (fun p' i acc H' => Same H H' ∧ H' p' = some (.lst acc) ∧ acc = List.replicate i (.bl true)) (fun _ => rfl) (fun p' hp => ⟨up_same hp, upd_same, rfl⟩) ?_ ?_
        · rintro p' i acc H' hp hi ⟨sm, e, rfl⟩
          have hx' := Same.sqt sm hx
          have hy' := Same.sqt sm hy
          walk_at "gs"
          refine g_ixT hx' (v := xs[i]'(by omega)) (atI_nat (List.getElem?_eq_getElem _)) ?_
          walk_at "gs"
          refine g_ixT hy' (v := ys[i]) (atI_nat (List.getElem?_eq_getElem _)) ?_
          walk_at "gs"
          refine ⟨_, _, rfl, Eqv.same sm (hs i _ _ (List.getElem?_eq_getElem _) (List.getElem?_eq_getElem _)), fun H2 sm2 => ?_⟩
          refine lcN_of (sm2 _ _ e) (by rw [List.length_replicate]; omega) ⟨fun b o h => ?_, upd_same, ?_⟩
          · rw [upd_ne (ne_of_none h hp)]
            exact sm2 _ _ (sm _ _ h)
          · rw [List.replicate_succ']
        · rintro p' acc H' hp ⟨sm, e, rfl⟩
          refine ⟨p', List.replicate ys.length true, rfl, SqL.of ?_, ?_⟩
          · rw [List.map_replicate]
            exact e
          · rw [show (List.replicate ys.length true).all id = true by simp]
            exact k _ sm
      | @lst m p q xs ys hx hy hl hb hs =>
        refine g_isi (tyL hy) (b := false) (by decide +kernel) ?_
        walk_at "gs"
        refine if_f rfl ?_
        walk_at "gs"
        refine g_isi (tyL hy) (b := true) (by decide +kernel) ?_
        walk_at "gs"
        refine if_t rfl ?_
        walk_at "gs"
        refine g_isi (tyL hx) (b := true) (by decide +kernel) ?_
        walk_at "gs"
        refine if_t rfl ?_
        walk_at "gs"
        refine g_tupleL hx fun l1 h1 => ?_
        walk_at "gs"
        refine g_tupleL ((up_same h1).seq hy) fun l2 h2 => ?_
        walk_at "gs"
        refine ⟨_, _, rfl, .tup (Same.sqt (up_same h2) (SqT.of upd_same)) (SqT.of upd_same) hl hb fun i x y e1 e2 => Eqv.same ((up_same h1).trans (up_same h2)) (hs i x y e1 e2), fun H' sm => ?_⟩
        exact k _ (((up_same h1).trans (up_same h2)).trans sm)
end
section
variable {P : Program} {w : World} {K : PySem.W.Frag} {mg : Str → Option Value} {base : Heap} {A : Ads}
def spWhole : Sp := fun vs H Q _ => ∃ S c : Addr, vs = [.ref S] ∧ StAt H S c ∧ ∀ (v : Int) H', v.natAbs < 2 ^ 50 → StAt H' S c → Kp S H H' → Q (.int v) H'
theorem ok_l_whole (T : Txt K mg A) : FnOk P w K mg base CX0 2 A.f_l_whole A.fd_l_whole ["state"] spWhole := by
  have G_l_pick := ok_l_pick (P := P) (w := w) (base := base) T
  have nd := sc_l_whole.nd
  refine T.F_l_whole.ok sc_l_whole (fun vs H Q E h => ?_) (fun cdv Ar outer s H vs Q E hr h => ?_)
  · obtain ⟨S, c, rfl, _⟩ := h
    rfl
  · obtain ⟨S, c, rfl, hS, k⟩ := h
    refine ⟨_, (pss_cons (ps_set (i := 1) nd rfl (Or.inl rfl) (pe_call (E := E0) G_l_pick (hr.mono (by decide)) (by rfl) T.g_l_pick T.F_l_pick.kp T.b_l_pick .nil pass0 (pa_cons (pv 0) (pa_cons pe_int pa_nil)))) (pss_cons (ps_if (pt_cmpR op_eq (pv 1) pe_int (nomark _)) (pss_one (ps_ret (pe_op op_sub (pe_call (E := E0) G_l_pick (hr.mono (by decide)) (by rfl) T.g_l_pick T.F_l_pick.kp T.b_l_pick .nil pass0 (pa_cons (pv 0) (pa_cons (pe_op op_mul pe_int (pe_op op_pow pe_int pe_int)) pa_nil))) (pe_op op_pow pe_int pe_int)))) pss_nil) (pss_one (ps_ret (pe_op op_sub (pe_call (E := E0) G_l_pick (hr.mono (by decide)) (by rfl) T.g_l_pick T.F_l_pick.kp T.b_l_pick .nil pass0 (pa_cons (pv 0) (pa_cons pe_int pa_nil))) pe_int))))), ?_⟩
    walk_at "gs"
    refine ⟨S, c, 3, rfl, hS, by decide, by decide +kernel, fun v H1 v0 v1 hS1 k1 => ?_⟩
    walk_at "gs"
    refine if_2 (fun e => ?_) (fun e => ?_)
    · walk_at "gs"
      refine ⟨S, c, _, rfl, hS1, by decide, by decide +kernel, fun u H2 u0 u1 hS2 k2 => ?_⟩
      walk_at "gs"
      refine k _ _ ?_ hS2 (k1.trans k2)
      have e1 : (10 : Int) ^ (Int.toNat 15) = 1000000000000000 := by decide
      have u1' : u < 2 * (10 : Int) ^ (Int.toNat 15) := u1
      show (u - (10 : Int) ^ (Int.toNat 15)).natAbs < 2 ^ 50
      rw [e1] at u1' ⊢
      omega
    · walk_at "gs"
      refine ⟨S, c, 25, rfl, hS1, by decide, by decide +kernel, fun u H2 u0 u1 hS2 k2 => ?_⟩
      walk_at "gs"
      refine k _ _ ?_ hS2 (k1.trans k2)
      omega
def spOver (K : PySem.W.Frag) (C : Addr) : Sp := fun vs H Q E => ∃ (x y : V) (p q : Rat) (n m : Nat), vs = [x, y] ∧ RatV K H x p ∧ RatV K H y q ∧ Bd n p ∧ Bd m q ∧ n + m ≤ 8000 ∧ (q = 0 → E (.ref C) none H) ∧ (q ≠ 0 → ∀ v H', Same H H' → RatV K H' v (p / q) → Q v H')
theorem ok_over (T : Txt K mg A) : FnOk P w K mg base (L2.CX P w) 2 A.f_over A.fd_over ["left", "right"] (spOver K A.C_RatioError) := by
  have G_ratio := ok_ratio (P := P) (w := w) (base := base) T
  have nd := sc_over.nd
  refine T.F_over.okX sc_over (fun vs H Q E h => ?_) (fun cdv Ar outer s H vs Q E hr h => ?_)
  · obtain ⟨x, y, p, q, n, m, rfl, _⟩ := h
    rfl
  · obtain ⟨x, y, p, q, n, m, rfl, ⟨px, rfl, hx⟩, ⟨py, rfl, hy⟩, bp, bq, hnm, k0, k1⟩ := h
    refine ⟨_, (pss_one (ps_ret (pe_call (E := E) G_ratio (hr.mono (by decide)) (by rfl) T.g_ratio T.F_ratio.kp T.b_ratio .nil (passes_call (takes_of rfl rfl rfl rfl) (fun _ _ _ _ h => h)) (pa_cons (pe_op op_mulB (pe_ix (ix_tupK (K := K) rfl) (pv 0) pe_int (fun _ _ => rfl)) (pe_ix (ix_tupK (K := K) rfl) (pv 1) pe_int (fun _ _ => rfl))) (pa_cons (pe_op op_mulB (pe_ix (ix_tupK (K := K) rfl) (pv 0) pe_int (fun _ _ => rfl)) (pe_ix (ix_tupK (K := K) rfl) (pv 1) pe_int (fun _ _ => rfl))) pa_nil))))), ?_⟩
    have m0 : CMulB p.num (q.den : Int) := mulB_of (a := n) (b := m) bp.1 bq.2 (by omega)
    have m1 : CMulB (p.den : Int) q.num := mulB_of (a := n) (b := m) bp.2 bq.1 (by omega)
    walk_at "gs"
    refine ⟨_, _, rfl, lt9000 (n := n + m) (abs_mul_lt (x := (p.den : Int)) (y := q.num) bp.2 bq.1) (by omega), fun z => ?_, fun z v H' sm hv => ?_⟩
    · refine k0 ?_
      rcases Int.mul_eq_zero.mp z with z | z
      · have := den_pos p
        omega
      · exact Rat.num_eq_zero.mp z
    · rw [rat_over] at hv
      refine k1 (fun z2 => z ?_) v H' sm hv
      rw [z2]
      exact Int.mul_zero _
def spNeg (K : PySem.W.Frag) : Sp := fun vs H Q _ => ∃ (x : V) (p : Rat), vs = [x] ∧ RatV K H x p ∧ ∀ v H', Same H H' → RatV K H' v (-p) → Q v H'
theorem ok_opposite (T : Txt K mg A) : FnOk P w K mg base CX0 1 A.f_opposite A.fd_opposite ["value"] (spNeg K) := by
  have nd := sc_opposite.nd
  refine T.F_opposite.ok sc_opposite (fun vs H Q E h => ?_) (fun cdv Ar outer s H vs Q E hr h => ?_)
  · obtain ⟨x, p, rfl, _⟩ := h
    rfl
  · obtain ⟨x, p, rfl, ⟨px, rfl, hx⟩, k⟩ := h
    refine ⟨_, (pss_one (ps_ret (pe_tup (pa_cons (pe_un un_neg (pe_ix (ix_tupK (K := K) rfl) (pv 0) pe_int (fun _ _ => rfl))) (pa_cons (pe_ix (ix_tupK (K := K) rfl) (pv 0) pe_int (fun _ _ => rfl)) pa_nil))))), ?_⟩
    walk_at "gs"
    refine g_newT (by show 2 ≤ 1000000; decide) fun p hp => ?_
    refine k _ _ (up_same hp) ⟨p, rfl, SqT.of ?_⟩
    rw [Rat.neg_num, Rat.neg_den]
    exact upd_same
def spLess (K : PySem.W.Frag) : Sp := fun vs H Q _ => ∃ (x y : V) (p q : Rat) (n m : Nat), vs = [x, y] ∧ RatV K H x p ∧ RatV K H y q ∧ Bd n p ∧ Bd m q ∧ n + m ≤ 8000 ∧ Q (.bl (decide (p.num * (q.den : Int) < q.num * (p.den : Int)))) H
theorem ok_less (T : Txt K mg A) : FnOk P w K mg base CX0 1 A.f_less A.fd_less ["left", "right"] (spLess K) := by
  have nd := sc_less.nd
  refine T.F_less.ok sc_less (fun vs H Q E h => ?_) (fun cdv Ar outer s H vs Q E hr h => ?_)
  · obtain ⟨x, y, p, q, n, m, rfl, _⟩ := h
    rfl
  · obtain ⟨x, y, p, q, n, m, rfl, ⟨px, rfl, hx⟩, ⟨py, rfl, hy⟩, bp, bq, hnm, k⟩ := h
    refine ⟨_, (pss_one (ps_ret (pe_cmpR op_lt (pe_op op_mulB (pe_ix (ix_tupK (K := K) rfl) (pv 0) pe_int (fun _ _ => rfl)) (pe_ix (ix_tupK (K := K) rfl) (pv 1) pe_int (fun _ _ => rfl))) (pe_op op_mulB (pe_ix (ix_tupK (K := K) rfl) (pv 1) pe_int (fun _ _ => rfl)) (pe_ix (ix_tupK (K := K) rfl) (pv 0) pe_int (fun _ _ => rfl))) (nomark _)))), ?_⟩
    have m0 : CMulB p.num (q.den : Int) := mulB_of (a := n) (b := m) bp.1 bq.2 (by omega)
    have m1 : CMulB q.num (p.den : Int) := mulB_of (a := m) (b := n) bq.1 bp.2 (by omega)
    walk_at "gs"
    exact k
def spIsRatio (K : PySem.W.Frag) : Sp := fun vs H Q _ => ∃ (p : Addr) (a b : Int), vs = [.ref p] ∧ SqT K H p [.int a, .int b] ∧ Q (.bl (decide (0 < b) && decide (gcdI a b = 1))) H
theorem ok_is_ratio (T : Txt K mg A) : FnOk P w K mg base CX0 1 A.f_is_ratio A.fd_is_ratio ["value"] (spIsRatio K) := by
  have nd := sc_is_ratio.nd
  refine T.F_is_ratio.ok sc_is_ratio (fun vs H Q E h => ?_) (fun cdv Ar outer s H vs Q E hr h => ?_)
  · obtain ⟨p, a, b, rfl, _⟩ := h
    rfl
  · obtain ⟨p, a, b, rfl, hx, k⟩ := h
    refine ⟨_, (pss_one (ps_ret (pe_and (pe_cmpR op_gt (pe_ix (ix_tupK (K := K) rfl) (pv 0) pe_int (fun _ _ => rfl)) pe_int (nomark _)) (pe_one (pe_cmpR op_eq (pe_callBfun cr_gcd (by rfl) T.g_gcd (pa_cons (pe_ix (ix_tupK (K := K) rfl) (pv 0) pe_int (fun _ _ => rfl)) (pa_cons (pe_ix (ix_tupK (K := K) rfl) (pv 0) pe_int (fun _ _ => rfl)) pa_nil))) pe_int (nomark _)))))), ?_⟩
    walk_at "gs"
    refine if_2 (fun e => ?_) (fun e => ?_)
    · rw [e, Bool.true_and] at k
      walk_at "gs"
      refine ⟨_, _, rfl, ?_⟩
      walk_at "gs"
      have e2 : decide (V.int ((Nat.gcd a.natAbs b.natAbs : Nat) : Int) = V.int 1) = decide (gcdI a b = 1) := by
        unfold gcdI
        by_cases h : ((Nat.gcd a.natAbs b.natAbs : Nat) : Int) = 1
        · rw [h, decide_eq_true rfl, decide_eq_true rfl]
        · rw [decide_eq_false h, decide_eq_false fun z => h (V.int.inj z)]
      rw [e2]
      exact k
    · rw [e, Bool.false_and] at k
      exact k
/-- the sum of ratios, from the left -/
def sumR (qs : List Rat) : Rat := qs.foldl (fun a b => a + b) 0
theorem sumR_snoc (qs : List Rat) (q : Rat) : sumR (qs ++ [q]) = sumR qs + q := by
  unfold sumR
  rw [List.foldl_append]
  rfl
theorem fold_bd {n : Nat} : ∀ (qs : List Rat) (b : Rat) (m : Nat), Bd m b → (∀ q ∈ qs, Bd n q) → Bd (m + qs.length * (n + 1)) (qs.foldl (fun a b => a + b) b)
  | [], b, m, h, _ => by
    rw [List.length_nil, Nat.zero_mul]
    exact h
  | q :: qs, b, m, h, k => by
    have h1 := Bd.add h (k q List.mem_cons_self)
    refine (fold_bd qs (b + q) (m + n + 1) h1 fun x hx => k x (List.mem_cons_of_mem _ hx)).mono ?_
    rw [List.length_cons, Nat.succ_mul]
    omega
theorem sumR_bd {n : Nat} (qs : List Rat) (h : ∀ q ∈ qs, Bd n q) : Bd (1 + qs.length * (n + 1)) (sumR qs) := fold_bd qs 0 1 Bd.zero h
theorem sumR_take {qs : List Rat} {i : Nat} {q : Rat} (h : qs[i]? = some q) : sumR (qs.take (i + 1)) = sumR (qs.take i) + q := by
  rw [List.take_add_one, h]
  exact sumR_snoc _ _
def spTotal (K : PySem.W.Frag) : Sp := fun vs H Q _ => ∃ (a : Addr) (xs : List V) (qs : List Rat) (n : Nat), vs = [.ref a] ∧ SqL K H a xs ∧ xs.length = qs.length ∧ (∀ (i : Nat) x q, xs[i]? = some x → qs[i]? = some q → RatV K H x q) ∧ (∀ q ∈ qs, Bd n q) ∧ 1 + qs.length * (n + 1) + n ≤ 8000 ∧
  ∀ v H', Same H H' → RatV K H' v (sumR qs) → Q v H'
theorem ok_total (T : Txt K mg A) : FnOk P w K mg base CX0 3 A.f_total A.fd_total ["values"] (spTotal K) := by
  have G_plus := ok_plus (P := P) (w := w) (base := base) T
  have nd := sc_total.nd
  refine T.F_total.ok sc_total (fun vs H Q E h => ?_) (fun cdv Ar outer s H vs Q E hr h => ?_)
  · obtain ⟨a, xs, qs, n, rfl, _⟩ := h
    rfl
  · obtain ⟨a, xs, qs, n, rfl, hxs, hl, hr', hb, hsz, k⟩ := h
    refine ⟨_, (pss_cons (ps_set (i := 1) nd rfl (Or.inl rfl) (pe_glob (v := .ref A.z_ZERO) (by rfl) T.c_ZERO rfl)) (pss_cons (ps_for PassesOwn.never rfl (pi_listK (K := K) rfl (pv 0)) (pg_name (i := 2) nd rfl (Or.inl rfl)) (pss_one (ps_set (i := 1) nd rfl (Or.inl rfl) (pe_call (E := E0) G_plus (hr.mono (by decide)) (by rfl) T.g_plus T.F_plus.kp T.b_plus .nil pass0 (pa_cons (pv 1) (pa_cons (pv 2) pa_nil)))))) (pss_one (ps_ret (pv 1))))), ?_⟩
    walk_at "gs"
    refine g_itL hxs (fun i σ' H' => ∃ v u, σ' = [some (.ref a), some v, u] ∧ Same H H' ∧ RatV K H' v (sumR (qs.take i))) ⟨.ref A.z_ZERO, none, rfl, Same.refl _, A.z_ZERO, rfl, T.q_ZERO H⟩ (fun i σ' H' _ ⟨v, u, _, sm, _⟩ => sm.seq hxs) ?_ ?_
    · rintro i x σ' H' hi ⟨v, u, rfl, sm, hv⟩
      have hlt : i < qs.length := by
        have := (List.getElem?_eq_some_iff.mp hi).1
        omega
      have hq : qs[i]? = some qs[i] := List.getElem?_eq_getElem hlt
      walk_at "gs"
      refine ⟨v, x, sumR (qs.take i), qs[i], 1 + qs.length * (n + 1), n, rfl, hv, (hr' i x _ hi hq).same sm, ?_, hb _ (List.getElem_mem hlt), hsz, fun w H2 sm2 hw => ?_⟩
      · refine (sumR_bd (qs.take i) fun q hq => hb q (List.mem_of_mem_take hq)).mono ?_
        have : (qs.take i).length ≤ qs.length := by
          rw [List.length_take]
          omega
        have := Nat.mul_le_mul_right (n + 1) this
        omega
      · walk_at "gs"
        refine ⟨w, some x, rfl, sm.trans sm2, ?_⟩
        rw [sumR_take hq]
        exact hw
    · rintro σ' H' ⟨v, u, rfl, sm, hv⟩
      walk_at "gs"
      rw [hl, List.take_length] at hv
      exact k v H' sm hv
/-- told: the def at f, and what it tells -/
def spTold (K : PySem.W.Frag) (C f : Addr) (spF : Sp) : Sp := fun vs H Q _ => ∃ x y, vs = [.ref f, x, y] ∧ spF [x, y] H (fun v H' => ∀ p, H' p = none → Q (.ref p) (upd H' p (.tup [.str "told", v])))
  (fun cls d H' => cls = .ref C ∧ d = none ∧ ∀ p, H' p = none → Q (.ref p) (upd H' p (.tup [.str "refused"])))
theorem ok_l_told (T : Txt K mg A) {k : Nat} {f : Addr} {fd : FuncData} {ps : List Str} {spF : Sp} (F : FnOk P w K mg base (L2.CX P w) k f fd ps spF) (hkF : PySem.W.keepIn K (.ref f) = true) (hbF : L2.Binds K fd ps [])
    (mono : ∀ vs H Q Q' E E', (∀ v H, Q v H → Q' v H) → (∀ c d H, E c d H → E' c d H) → spF vs H Q E → spF vs H Q' E') :
    FnOk P w K mg base CX0 (k + 1) A.f_l_told A.fd_l_told ["function", "left", "right"] (spTold K A.C_RatioError f spF) := by
  have nd := sc_l_told.nd
  refine T.F_l_told.ok sc_l_told (fun vs H Q E h => ?_) (fun cdv Ar outer s H vs Q E hr h => ?_)
  · obtain ⟨x, y, rfl, _⟩ := h
    rfl
  · obtain ⟨x, y, rfl, h⟩ := h
    refine ⟨_, (pss_one (ps_try_as (i := 3) (Wout := fun _ _ _ _ => False) rfl rfl nd rfl rfl ⟨rfl, by decide, Or.inl T.g_RatioError⟩ takes0 (fun W pn xe tk _ => (pss_one (ps_ret (pe_tup (pa_cons pe_str (pa_cons (pe_callLS (i := 0) F hr rfl (Or.inl rfl) hkF hbF (fun σ => passAt tk σ) (pa_cons (pv 1) (pa_cons (pv 2) pa_nil))) pa_nil)))))) (fun a oe cls d pn hz hf => (pss_cons (ps_if (PW.pt (pw_and (pt_val (pe_callB (call_isEG hz hf) (by rfl) T.n_isinstance (by decide +kernel) (pa_cons (pv 3) (pa_cons (pe_glob (v := .ref A.C_RimError) (by rfl) T.g_RimError rfl) pa_nil)))) (pw_and1 (pt_val (pe_callB (call_isEG hz hf) (by rfl) T.n_isinstance (by decide +kernel) (pa_cons (pv 3) (pa_cons (pe_bltn (v := .ty "ValueError") (by rfl) T.n_ValueError (by decide +kernel) rfl) pa_nil))))))) (pss_one (ps_ret (pe_tup (pa_cons pe_str pa_nil)))) pss_nil) (pss_one (ps_ret (pe_tup (pa_cons pe_str pa_nil)))))))), ?_⟩
    walk_at "gs"
    refine g_callLS rfl ?_
    walk_at "gs"
    refine mono _ _ _ _ _ _ (fun v H1 q => ?_) (fun c d H1 q => ?_) h
    · walk_at "gs"
      exact ⟨by show 2 ≤ sizeLine; decide, q⟩
    · obtain ⟨rfl, rfl, q⟩ := q
      refine ⟨true, T.e_RatioError_RatioError, fun _ a0 ha => ?_, fun z => nomatch z⟩
      have EC : ExcC K A.C_RatioError := ⟨T.hg_RatioError, T.hk_RatioError, T.bb_RatioError, T.d_RatioError, T.ha_RatioError, T.hn_, T.ht_, T.hm_RatioError⟩
      walk_at "gs"
      refine g_isE EC (fun u h => h) T.i_RimError_RatioError ?_
      walk_at "gs"
      refine if_t rfl ?_
      walk_at "gs"
      refine g_isE EC (fun u h => h) T.v_RatioError ?_
      walk_at "gs"
      refine if_t rfl ?_
      walk_at "gs"
      exact ⟨by show 1 ≤ sizeLine; decide, q⟩
end

section
variable {P : Program} {w : World} {K : PySem.W.Frag} {mg : Str → Option Value} {base : Heap} {A : Ads}
def spLaw (K : PySem.W.Frag) : Sp := fun vs H Q _ => ∃ (a : Addr) (ns : List Int), vs = [.ref a] ∧ SqL K H a (ns.map V.int) ∧ ns.length ≤ 63 ∧ ∀ H', Q (.bl true) H'
theorem mono_ratio {C : Addr} : ∀ vs H Q Q' E E', (∀ v H, Q v H → Q' v H) → (∀ c d H, E c d H → E' c d H) → spRatio K C vs H Q E → spRatio K C vs H Q' E' := by
  rintro vs H Q Q' E E' hQ hE ⟨a, b, rfl, h1, h2, h3⟩
  exact ⟨a, b, rfl, h1, fun z => hE _ _ _ (h2 z), fun z v H' sm hv => hQ _ _ (h3 z v H' sm hv)⟩
theorem mono_over {C : Addr} : ∀ vs H Q Q' E E', (∀ v H, Q v H → Q' v H) → (∀ c d H, E c d H → E' c d H) → spOver K C vs H Q E → spOver K C vs H Q' E' := by
  rintro vs H Q Q' E E' hQ hE ⟨x, y, p, q, n, m, rfl, h1, h2, h3, h4, h5, h6, h7⟩
  exact ⟨x, y, p, q, n, m, rfl, h1, h2, h3, h4, h5, fun z => hE _ _ _ (h6 z), fun z v H' sm hv => hQ _ _ (h7 z v H' sm hv)⟩
theorem dec_int (a b : Int) : decide (V.int a = V.int b) = decide (a = b) := by
  by_cases h : a = b
  · rw [h, decide_eq_true rfl, decide_eq_true rfl]
  · rw [decide_eq_false h, decide_eq_false fun z => h (V.int.inj z)]
theorem RatV.updL {K : PySem.W.Frag} {H : Hp} {p : Addr} {v : V} {q : Rat} {ys : List V} {o : HO} (h : RatV K H v q) (e : H p = some (.lst ys)) : RatV K (upd H p o) v q := h.kp Kp.upd e
/-- the i-th of xs stands for the i-th of qs -/
structure Rats (K : PySem.W.Frag) (H : Hp) (xs : List V) (qs : List Rat) : Prop where
  len : xs.length = qs.length
  at_ : ∀ (i : Nat) x q, xs[i]? = some x → qs[i]? = some q → RatV K H x q
theorem Rats.nil {K : PySem.W.Frag} {H : Hp} : Rats K H [] [] := ⟨rfl, fun i x q h => by simp at h⟩
theorem Rats.same {K : PySem.W.Frag} {H H' : Hp} {xs : List V} {qs : List Rat} (h : Rats K H xs qs) (e : Same H H') : Rats K H' xs qs := ⟨h.len, fun i x q a b => (h.at_ i x q a b).same e⟩
theorem Rats.kp {K : PySem.W.Frag} {S : Addr} {ys : List V} {H H' : Hp} {xs : List V} {qs : List Rat} (h : Rats K H xs qs) (e : Kp S H H') (hS : H S = some (.lst ys)) : Rats K H' xs qs := ⟨h.len, fun i x q a b => (h.at_ i x q a b).kp e hS⟩
theorem Rats.snoc {K : PySem.W.Frag} {H : Hp} {xs : List V} {qs : List Rat} {x : V} {q : Rat} (h : Rats K H xs qs) (k : RatV K H x q) : Rats K H (xs ++ [x]) (qs ++ [q]) := by
  refine ⟨by rw [List.length_append, List.length_append, h.len]; rfl, fun i x' q' a b => ?_⟩
  by_cases hi : i < xs.length
  · rw [List.getElem?_append_left hi] at a
    rw [List.getElem?_append_left (h.len ▸ hi)] at b
    exact h.at_ i x' q' a b
  · rw [List.getElem?_append_right (by omega)] at a
    rw [List.getElem?_append_right (by rw [← h.len]; omega), ← h.len] at b
    by_cases h0 : i - xs.length = 0
    · rw [h0] at a b
      cases a
      cases b
      exact k
    · obtain ⟨j, hj⟩ : ∃ j, i - xs.length = j + 1 := ⟨i - xs.length - 1, by omega⟩
      rw [hj] at a
      simp at a
/-- the frame of law -/
def fl (a S : Addr) (za zb zc zd : Int) (o t v d u : Option V) : L2.St := [some (.ref a), some (.ref S), some (.int za), some (.int zb), some (.int zc), some (.int zd), o, t, v, d, u, none]
theorem divInt_den_ne {a b : Int} (hb : b ≠ 0) : Rat.divInt a b = Rat.divInt a b := rfl
theorem bd_of {a b : Int} (ha : a.natAbs < 2 ^ 50) (hb : b.natAbs < 2 ^ 50) (h : b ≠ 0) : Bd 50 (Rat.divInt a b) := Bd.of ha hb h
theorem four {zs : List Int} (h : zs.length = 4) : ∃ a b c d, zs = [a, b, c, d] := by
  match zs, h with
  | [a, b, c, d], _ => exact ⟨a, b, c, d, rfl⟩
theorem lt50 {a : Int} (h : a.natAbs < 2 ^ 50) : a.natAbs < 2 ^ 9000 := pow_mono h (by decide)
theorem ok_law (T : Txt K mg A) : FnOk P w K mg base CX0 6 A.f_law A.fd_law ["script"] (spLaw K) := by
  have G_l_pick := ok_l_pick (P := P) (w := w) (base := base) T
  have G_l_gcd := ok_l_gcd (P := P) (w := w) (base := base) T
  have G_l_whole := ok_l_whole (P := P) (w := w) (base := base) T
  have G_l_same := ok_l_same (P := P) (w := w) (base := base) T 3
  have G_l_ratio := ok_l_ratio (P := P) (w := w) (base := base) T
  have G_l_add := ok_l_add (P := P) (w := w) (base := base) T
  have G_l_sub := ok_l_sub (P := P) (w := w) (base := base) T
  have G_l_mul := ok_l_mul (P := P) (w := w) (base := base) T
  have G_l_div := ok_l_div (P := P) (w := w) (base := base) T
  have G_plus := ok_plus (P := P) (w := w) (base := base) T
  have G_minus := ok_minus (P := P) (w := w) (base := base) T
  have G_times := ok_times (P := P) (w := w) (base := base) T
  have G_opposite := ok_opposite (P := P) (w := w) (base := base) T
  have G_less := ok_less (P := P) (w := w) (base := base) T
  have G_is_ratio := ok_is_ratio (P := P) (w := w) (base := base) T
  have G_total := ok_total (P := P) (w := w) (base := base) T
  have G_told_ratio := ok_l_told T (ok_ratio (P := P) (w := w) (base := base) T) T.F_ratio.kp T.b_ratio mono_ratio
  have G_told_over := ok_l_told T (ok_over (P := P) (w := w) (base := base) T) T.F_over.kp T.b_over mono_over
  have nd := sc_law.nd
  refine T.F_law.ok sc_law (fun vs H Q E h => ?_) (fun cdv Ar outer s H vs Q E hr h => ?_)
  · obtain ⟨a, ns, rfl, _⟩ := h
    rfl
  · obtain ⟨a, ns, rfl, hns, hlen, k⟩ := h
    refine ⟨_, (pss_cutZ (ps_set (i := 1) nd rfl (Or.inr rfl) (pe_lst (pa_cons (pe_callTy (zc_listK (K := K) rfl) (by rfl) T.n_list (by decide +kernel) (pa_cons (pv 0) pa_nil)) (pa_cons pe_int (pa_cons pe_int (pa_cons pe_int pa_nil)))))) (pss_cutZ (ps_asg (pe_lc (own := [("k", 11)]) (g := gName 11) (tt := tYes) rfl nd (pi_range1 (by rfl) T.n_range (pa_cons pe_int pa_nil)) (blkOk_by (N := ["script", "state", "a", "b", "c", "d", "one", "two", "values", "due", "value", "k"]) (sc := defScope s_law) (by decide +kernel)) (fun _ _ _ _ _ => pg_name (i := 11) nd rfl (by first | exact Or.inl rfl | exact Or.inr rfl)) (fun _ _ _ _ _ => pts_nil) (fun _ _ _ _ _ => (pe_call (E := E0) G_l_whole (hr.mono (by decide)) (by rfl) T.g_l_whole T.F_l_whole.kp T.b_l_whole .nil pass0 (pa_cons (pv 1) pa_nil)))) (pg_lstK (K := K) rfl rfl (pgs_cons (pg_name (i := 2) nd rfl (Or.inl rfl)) (pgs_cons (pg_name (i := 3) nd rfl (Or.inl rfl)) (pgs_cons (pg_name (i := 4) nd rfl (Or.inl rfl)) (pgs_cons (pg_name (i := 5) nd rfl (Or.inl rfl)) pgs_nil)))))) (pss_cutZ (ps_if (pt_not (pt_val (pe_call (E := E0) G_l_same (hr.mono (by decide)) (by rfl) T.g_l_same T.F_l_same.kp T.b_l_same .nil pass0 (pa_cons (pe_call (E := E0) G_told_ratio (hr.mono (by decide)) (by rfl) T.g_l_told T.F_l_told.kp T.b_l_told .nil pass0 (pa_cons (pe_glob (v := .ref A.f_ratio) (by rfl) T.g_ratio rfl) (pa_cons (pv 2) (pa_cons (pv 3) pa_nil)))) (pa_cons (pe_ifExp (pt_cmpR op_eq (pv 3) pe_int (nomark _)) (pe_tup (pa_cons pe_str pa_nil)) (pe_tup (pa_cons pe_str (pa_cons (pe_call (E := E0) G_l_ratio (hr.mono (by decide)) (by rfl) T.g_l_ratio T.F_l_ratio.kp T.b_l_ratio .nil pass0 (pa_cons (pv 2) (pa_cons (pv 3) pa_nil))) pa_nil)))) pa_nil))))) (pss_one (ps_ret pe_bl)) pss_nil) (pss_cutZ (ps_set (i := 6) nd rfl (Or.inl rfl) (pe_call (E := E0) G_l_ratio (hr.mono (by decide)) (by rfl) T.g_l_ratio T.F_l_ratio.kp T.b_l_ratio .nil pass0 (pa_cons (pv 2) (pa_cons (pe_ifExp (pt_cmpR op_ne (pv 3) pe_int (nomark _)) (pv 3) pe_int) pa_nil)))) (pss_cutZ (ps_set (i := 7) nd rfl (Or.inl rfl) (pe_call (E := E0) G_l_ratio (hr.mono (by decide)) (by rfl) T.g_l_ratio T.F_l_ratio.kp T.b_l_ratio .nil pass0 (pa_cons (pv 4) (pa_cons (pe_ifExp (pt_cmpR op_ne (pv 5) pe_int (nomark _)) (pv 5) pe_int) pa_nil)))) (pss_cutZ (ps_if (PW.pt (pw_or (pt_not (pt_val (pe_call (E := E0) G_l_same (hr.mono (by decide)) (by rfl) T.g_l_same T.F_l_same.kp T.b_l_same .nil pass0 (pa_cons (pe_call (E := E0) G_plus (hr.mono (by decide)) (by rfl) T.g_plus T.F_plus.kp T.b_plus .nil pass0 (pa_cons (pv 6) (pa_cons (pv 7) pa_nil))) (pa_cons (pe_call (E := E0) G_l_add (hr.mono (by decide)) (by rfl) T.g_l_add T.F_l_add.kp T.b_l_add .nil pass0 (pa_cons (pv 6) (pa_cons (pv 7) pa_nil))) pa_nil))))) (pw_or1 (pt_not (pt_val (pe_call (E := E0) G_l_same (hr.mono (by decide)) (by rfl) T.g_l_same T.F_l_same.kp T.b_l_same .nil pass0 (pa_cons (pe_call (E := E0) G_minus (hr.mono (by decide)) (by rfl) T.g_minus T.F_minus.kp T.b_minus .nil pass0 (pa_cons (pv 6) (pa_cons (pv 7) pa_nil))) (pa_cons (pe_call (E := E0) G_l_sub (hr.mono (by decide)) (by rfl) T.g_l_sub T.F_l_sub.kp T.b_l_sub .nil pass0 (pa_cons (pv 6) (pa_cons (pv 7) pa_nil))) pa_nil)))))))) (pss_one (ps_ret pe_bl)) pss_nil) (pss_cutZ (ps_if (PW.pt (pw_or (pt_not (pt_val (pe_call (E := E0) G_l_same (hr.mono (by decide)) (by rfl) T.g_l_same T.F_l_same.kp T.b_l_same .nil pass0 (pa_cons (pe_call (E := E0) G_times (hr.mono (by decide)) (by rfl) T.g_times T.F_times.kp T.b_times .nil pass0 (pa_cons (pv 6) (pa_cons (pv 7) pa_nil))) (pa_cons (pe_call (E := E0) G_l_mul (hr.mono (by decide)) (by rfl) T.g_l_mul T.F_l_mul.kp T.b_l_mul .nil pass0 (pa_cons (pv 6) (pa_cons (pv 7) pa_nil))) pa_nil))))) (pw_or1 (pt_not (pt_val (pe_call (E := E0) G_l_same (hr.mono (by decide)) (by rfl) T.g_l_same T.F_l_same.kp T.b_l_same .nil pass0 (pa_cons (pe_call (E := E0) G_opposite (hr.mono (by decide)) (by rfl) T.g_opposite T.F_opposite.kp T.b_opposite .nil pass0 (pa_cons (pv 6) pa_nil)) (pa_cons (pe_tup (pa_cons (pe_un un_neg (pe_ix (ix_tupK (K := K) rfl) (pv 6) pe_int (fun _ _ => rfl))) (pa_cons (pe_ix (ix_tupK (K := K) rfl) (pv 6) pe_int (fun _ _ => rfl)) pa_nil))) pa_nil)))))))) (pss_one (ps_ret pe_bl)) pss_nil) (pss_cutZ (ps_if (pt_not (pt_val (pe_call (E := E0) G_l_same (hr.mono (by decide)) (by rfl) T.g_l_same T.F_l_same.kp T.b_l_same .nil pass0 (pa_cons (pe_call (E := E0) G_told_over (hr.mono (by decide)) (by rfl) T.g_l_told T.F_l_told.kp T.b_l_told .nil pass0 (pa_cons (pe_glob (v := .ref A.f_over) (by rfl) T.g_over rfl) (pa_cons (pv 6) (pa_cons (pv 7) pa_nil)))) (pa_cons (pe_ifExp (pt_cmpR op_eq (pe_ix (ix_tupK (K := K) rfl) (pv 7) pe_int (fun _ _ => rfl)) pe_int (nomark _)) (pe_tup (pa_cons pe_str pa_nil)) (pe_tup (pa_cons pe_str (pa_cons (pe_call (E := E0) G_l_div (hr.mono (by decide)) (by rfl) T.g_l_div T.F_l_div.kp T.b_l_div .nil pass0 (pa_cons (pv 6) (pa_cons (pv 7) pa_nil))) pa_nil)))) pa_nil))))) (pss_one (ps_ret pe_bl)) pss_nil) (pss_cutZ (ps_if (PW.pt (pw_or (pt_not (pt_val (pe_call (E := E0) G_l_same (hr.mono (by decide)) (by rfl) T.g_l_same T.F_l_same.kp T.b_l_same .nil pass0 (pa_cons (pe_call (E := E0) G_less (hr.mono (by decide)) (by rfl) T.g_less T.F_less.kp T.b_less .nil pass0 (pa_cons (pv 6) (pa_cons (pv 7) pa_nil))) (pa_cons (pe_cmpR op_lt (pe_op op_mulB (pe_ix (ix_tupK (K := K) rfl) (pv 6) pe_int (fun _ _ => rfl)) (pe_ix (ix_tupK (K := K) rfl) (pv 7) pe_int (fun _ _ => rfl))) (pe_op op_mulB (pe_ix (ix_tupK (K := K) rfl) (pv 7) pe_int (fun _ _ => rfl)) (pe_ix (ix_tupK (K := K) rfl) (pv 6) pe_int (fun _ _ => rfl))) (nomark _)) pa_nil))))) (pw_or1 (pt_val (pe_call (E := E0) G_less (hr.mono (by decide)) (by rfl) T.g_less T.F_less.kp T.b_less .nil pass0 (pa_cons (pv 6) (pa_cons (pv 6) pa_nil))))))) (pss_one (ps_ret pe_bl)) pss_nil) (pss_cutZ (ps_if (pt_not (pt_val (pe_call (E := E0) G_l_same (hr.mono (by decide)) (by rfl) T.g_l_same T.F_l_same.kp T.b_l_same .nil pass0 (pa_cons (pe_call (E := E0) G_is_ratio (hr.mono (by decide)) (by rfl) T.g_is_ratio T.F_is_ratio.kp T.b_is_ratio .nil pass0 (pa_cons (pe_tup (pa_cons (pv 2) (pa_cons (pv 3) pa_nil))) pa_nil)) (pa_cons (pe_and (pe_cmpR op_gt (pv 3) pe_int (nomark _)) (pe_one (pe_cmpR op_eq (pe_call (E := E0) G_l_gcd (hr.mono (by decide)) (by rfl) T.g_l_gcd T.F_l_gcd.kp T.b_l_gcd .nil pass0 (pa_cons (pe_callB zc_abs (by rfl) T.n_abs (by decide +kernel) (pa_cons (pv 2) pa_nil)) (pa_cons (pe_callB zc_abs (by rfl) T.n_abs (by decide +kernel) (pa_cons (pv 3) pa_nil)) pa_nil))) pe_int (nomark _)))) pa_nil))))) (pss_one (ps_ret pe_bl)) pss_nil) (pss_cutZ (ps_setLc (i := 8) (own := [("k", 11)]) (g := gName 11) (tt := tYes) rfl nd rfl rfl (sw_true rfl rfl rfl (by decide +kernel)) (pi_range1 (by rfl) T.n_range (pa_cons (pe_call (E := E0) G_l_pick (hr.mono (by decide)) (by rfl) T.g_l_pick T.F_l_pick.kp T.b_l_pick .nil pass0 (pa_cons (pv 1) (pa_cons pe_int pa_nil))) pa_nil)) (blkOk_by (N := ["script", "state", "a", "b", "c", "d", "one", "two", "values", "due", "value", "k"]) (sc := defScope s_law) (by decide +kernel)) (fun _ _ _ _ _ => pg_name (i := 11) nd rfl (by first | exact Or.inl rfl | exact Or.inr rfl)) (fun _ _ _ _ _ => pts_nil) (fun _ _ _ _ _ => (pe_call (E := E0) G_l_ratio (hr.mono (by decide)) (by rfl) T.g_l_ratio T.F_l_ratio.kp T.b_l_ratio .nil pass0 (pa_cons (pe_call (E := E0) G_l_whole (hr.mono (by decide)) (by rfl) T.g_l_whole T.F_l_whole.kp T.b_l_whole .nil pass0 (pa_cons (pv 1) pa_nil)) (pa_cons (pe_op op_add pe_int (pe_call (E := E0) G_l_pick (hr.mono (by decide)) (by rfl) T.g_l_pick T.F_l_pick.kp T.b_l_pick .nil pass0 (pa_cons (pv 1) (pa_cons pe_int pa_nil)))) pa_nil))))) (pss_cutZ (ps_set (i := 9) nd rfl (Or.inl rfl) (pe_tup (pa_cons pe_int (pa_cons pe_int pa_nil)))) (pss_cutZ (ps_for PassesOwn.never rfl (pi_listK (K := K) rfl (pv 8)) (pg_name (i := 10) nd rfl (Or.inl rfl)) (pss_one (ps_set (i := 9) nd rfl (Or.inl rfl) (pe_call (E := E0) G_l_add (hr.mono (by decide)) (by rfl) T.g_l_add T.F_l_add.kp T.b_l_add .nil pass0 (pa_cons (pv 9) (pa_cons (pv 10) pa_nil)))))) (pss_one (ps_ret (pe_call (E := E0) G_l_same (hr.mono (by decide)) (by rfl) T.g_l_same T.F_l_same.kp T.b_l_same .nil pass0 (pa_cons (pe_call (E := E0) G_total (hr.mono (by decide)) (by rfl) T.g_total T.F_total.kp T.b_total .nil pass0 (pa_cons (pe_callTy (zc_listK (K := K) rfl) (by rfl) T.n_list (by decide +kernel) (pa_cons (pv 8) pa_nil)) pa_nil)) (pa_cons (pv 9) pa_nil)))))))))))))))))), ?_⟩
    -- state = [list(script), 0, 0, 0]
    refine g_cut (fun σ' H' => ∃ S c, σ' = [some (.ref a), some (.ref S), none, none, none, none, none, none, none, none, none, none] ∧ StAt H' S c) ?_ ?_
    · walk_at "gs"
      refine g_listL hns fun c hc => ?_
      walk_at "gs"
      refine g_newL (by show 4 ≤ 1000000; decide) fun S hS => ?_
      walk_at "gs"
      have ncS : c ≠ S := fun e => by
        rw [← e, upd_same] at hS
        cases hS
      exact ⟨S, c, rfl, ncS, 0, 0, 0, ns, upd_same, by rw [upd_ne ncS]; exact upd_same, by decide, by decide⟩
    rintro σ' H0 ⟨S, c, rfl, hS0⟩
    -- a, b, c, d = ..
    refine g_cut (fun σ' H' => ∃ za zb zc zd : Int, σ' = fl a S za zb zc zd none none none none none ∧ StAt H' S c ∧ za.natAbs < 2 ^ 50 ∧ zb.natAbs < 2 ^ 50 ∧ zc.natAbs < 2 ^ 50 ∧ zd.natAbs < 2 ^ 50) ?_ ?_
    · walk_at "gs"
      refine g_lcRng 4 rfl (by decide) (fun p i acc H' => StAt H' S c ∧ H' p = some (.lst acc) ∧ ∃ zs : List Int, zs.length = i ∧ acc = zs.map V.int ∧ ∀ z ∈ zs, z.natAbs < 2 ^ 50) (fun _ => rfl)
        (fun p hp => ⟨hS0.upd (hS0.neS hp) (hS0.nec hp), upd_same, [], rfl, rfl, fun z hz => nomatch hz⟩) ?_ ?_
      · rintro p i acc H1 hp hi ⟨hS1, e1, zs, hz, rfl, hb⟩
        walk_at "gs"
        refine ⟨S, c, rfl, hS1, fun z H2 hz2 hS2 k2 => ?_⟩
        refine lcN_of (k2 p _ (hS0.neS hp) e1) (by rw [List.length_map]; omega) ⟨hS2.upd (hS0.neS hp) (hS0.nec hp), upd_same, zs ++ [z], ?_, ?_, ?_⟩
        · rw [List.length_append, hz]
          rfl
        · rw [List.map_append]
          rfl
        · intro y hy
          rcases List.mem_append.mp hy with hy | hy
          · exact hb y hy
          · rw [List.mem_singleton.mp hy]
            exact hz2
      · rintro p acc H1 hp ⟨hS1, e1, zs, hz, rfl, hb⟩
        obtain ⟨za, zb, zc, zd, rfl⟩ := four hz
        refine ⟨p, _, rfl, SqL.of e1, rfl, _, _, rfl, _, _, rfl, _, _, rfl, _, _, rfl, rfl, ?_⟩
        exact ⟨za, zb, zc, zd, rfl, hS1, hb _ (by simp), hb _ (by simp), hb _ (by simp), hb _ (by simp)⟩
    rintro σ' H1 ⟨za, zb, zc, zd, rfl, hS1, ha, hb, hc, hd⟩
    -- told(ratio, a, b)
    refine g_cut (fun σ' H' => σ' = fl a S za zb zc zd none none none none none ∧ StAt H' S c) ?_ ?_
    · walk_at "gs"
      refine ⟨_, _, rfl, za, zb, rfl, lt50 hb, fun z => ⟨rfl, rfl, fun p hp => ?_⟩, fun z v H2 sm hv p hp => ?_⟩
      · walk_at "gs"
        refine if_t (by rw [z]; rfl) ?_
        walk_at "gs"
        refine g_newT (by show 1 ≤ 1000000; decide) fun p2 hp2 => ?_
        walk_at "gs"
        refine ⟨_, _, rfl, .tup (Same.sqt (up_same hp2) (SqT.of upd_same)) (SqT.of upd_same) rfl (by show 1 < 1000000; decide) fun i x y e1 e2 => ?_, fun H3 sm3 => ?_⟩
        · rw [e1] at e2
          cases e2
          match i, e1 with
          | 0, e1 =>
            cases e1
            exact .sc rfl
          | i + 1, e1 => simp at e1
        · walk_at "gs"
          refine if_f rfl ?_
          walk_at "gs"
          exact ⟨rfl, (hS1.same ((up_same hp).trans (up_same hp2))).same sm3⟩
      · walk_at "gs"
        refine if_f (decide_eq_false fun q => z (V.int.inj q)) ?_
        walk_at "gs"
        refine ⟨_, _, rfl, z, lt50 hb, fun v2 H3 sm3 hv2 => ?_⟩
        walk_at "gs"
        refine g_newT (by show 2 ≤ 1000000; decide) fun p2 hp2 => ?_
        walk_at "gs"
        have s1 : Same H2 (upd H3 p2 (.tup [.str "told", v2])) := (up_same hp).trans (sm3.trans (up_same hp2))
        refine ⟨_, _, rfl, .tup (Same.sqt (sm3.trans (up_same hp2)) (SqT.of upd_same)) (SqT.of upd_same) rfl (by show 2 < 1000000; decide) fun i x y e1 e2 => ?_, fun H4 sm4 => ?_⟩
        · match i, e1, e2 with
          | 0, e1, e2 =>
            cases e1
            cases e2
            exact .sc rfl
          | 1, e1, e2 =>
            cases e1
            cases e2
            exact Eqv.rat (n := 0) (hv.same s1) (hv2.same (up_same hp2))
          | i + 2, e1, e2 => simp at e1
        · walk_at "gs"
          refine if_f rfl ?_
          walk_at "gs"
          exact ⟨rfl, ((hS1.same sm).same s1).same sm4⟩
    rintro σ' H2 ⟨rfl, hS2⟩
    -- one
    refine g_cut (fun σ' H' => ∃ v p, σ' = fl a S za zb zc zd (some v) none none none none ∧ StAt H' S c ∧ RatV K H' v p ∧ Bd 50 p) ?_ ?_
    · walk_at "gs"
      refine if_2 (fun e => ?_) (fun e => ?_)
      · have hne : zb ≠ 0 := fun z => by
          rw [z] at e
          cases e
        walk_at "gs"
        refine ⟨_, _, rfl, hne, lt50 hb, fun v H3 sm hv => ?_⟩
        walk_at "gs"
        exact ⟨v, _, rfl, hS2.same sm, hv, bd_of ha hb hne⟩
      · walk_at "gs"
        refine ⟨_, _, rfl, by decide, by decide +kernel, fun v H3 sm hv => ?_⟩
        walk_at "gs"
        exact ⟨v, _, rfl, hS2.same sm, hv, bd_of ha (by decide) (by decide)⟩
    rintro σ' H3 ⟨v1, p1, rfl, hS3, hv1, hp1⟩
    refine g_cut (fun σ' H' => ∃ v p, σ' = fl a S za zb zc zd (some v1) (some v) none none none ∧ StAt H' S c ∧ RatV K H' v1 p1 ∧ RatV K H' v p ∧ Bd 50 p) ?_ ?_
    · walk_at "gs"
      refine if_2 (fun e => ?_) (fun e => ?_)
      · have hne : zd ≠ 0 := fun z => by
          rw [z] at e
          cases e
        walk_at "gs"
        refine ⟨_, _, rfl, hne, lt50 hd, fun v H3 sm hv => ?_⟩
        walk_at "gs"
        exact ⟨v, _, rfl, hS3.same sm, hv1.same sm, hv, bd_of hc hd hne⟩
      · walk_at "gs"
        refine ⟨_, _, rfl, by decide, by decide +kernel, fun v H3 sm hv => ?_⟩
        walk_at "gs"
        exact ⟨v, _, rfl, hS3.same sm, hv1.same sm, hv, bd_of hc (by decide) (by decide)⟩
    rintro σ' H4 ⟨v2, p2, rfl, hS4, hw1, hw2, hp2⟩
    have F : ∀ (H5 : Hp) (D : Ends) (R : Prop), R → R := fun _ _ _ h => h
    -- plus, minus
    refine g_cut (fun σ' H' => σ' = fl a S za zb zc zd (some v1) (some v2) none none none ∧ Same H4 H') ?_ ?_
    · walk_at "gs"
      refine ⟨_, _, _, _, 50, 50, rfl, hw1, hw2, hp1, hp2, by decide, fun u1 G1 s1 hu1 => ?_⟩
      walk_at "gs"
      refine ⟨_, _, _, _, 50, 50, rfl, hw1.same s1, hw2.same s1, hp1, hp2, by decide, fun u2 G2 s2 hu2 => ?_⟩
      walk_at "gs"
      refine ⟨_, _, rfl, Eqv.rat (n := 1) (hu1.same s2) hu2, fun G3 s3 => ?_⟩
      have t3 := (s1.trans s2).trans s3
      walk_at "gs"
      refine if_f rfl ?_
      walk_at "gs"
      refine ⟨_, _, _, _, 50, 50, rfl, hw1.same t3, hw2.same t3, hp1, hp2, by decide, fun u1 G4 s4 hu1 => ?_⟩
      walk_at "gs"
      refine ⟨_, _, _, _, 50, 50, rfl, (hw1.same t3).same s4, (hw2.same t3).same s4, hp1, hp2, by decide, fun u2 G5 s5 hu2 => ?_⟩
      walk_at "gs"
      refine ⟨_, _, rfl, Eqv.rat (n := 1) (hu1.same s5) hu2, fun G6 s6 => ?_⟩
      walk_at "gs"
      refine if_f rfl ?_
      walk_at "gs"
      exact ⟨rfl, ((t3.trans s4).trans s5).trans s6⟩
    rintro σ' H5 ⟨rfl, m5⟩
    -- times, opposite
    refine g_cut (fun σ' H' => σ' = fl a S za zb zc zd (some v1) (some v2) none none none ∧ Same H4 H') ?_ ?_
    · walk_at "gs"
      refine ⟨_, _, _, _, 50, 50, rfl, hw1.same m5, hw2.same m5, hp1, hp2, by decide, fun u1 G1 s1 hu1 => ?_⟩
      walk_at "gs"
      refine ⟨_, _, _, _, 50, 50, rfl, (hw1.same m5).same s1, (hw2.same m5).same s1, hp1, hp2, by decide, fun u2 G2 s2 hu2 => ?_⟩
      walk_at "gs"
      refine ⟨_, _, rfl, Eqv.rat (n := 1) (hu1.same s2) hu2, fun G3 s3 => ?_⟩
      have t3 := ((m5.trans s1).trans s2).trans s3
      walk_at "gs"
      refine if_f rfl ?_
      walk_at "gs"
      refine ⟨_, _, rfl, hw1.same t3, fun u1 G4 s4 hu1 => ?_⟩
      obtain ⟨q1, rfl, hq1⟩ := hw1
      have hq4 := Same.sqt (t3.trans s4) hq1
      walk_at "gs"
      refine g_newT (by show 2 ≤ 1000000; decide) fun p hp => ?_
      walk_at "gs"
      refine ⟨_, _, rfl, Eqv.rat (n := 1) (hu1.same (up_same hp)) ⟨p, rfl, SqT.of ?_⟩, fun G6 s6 => ?_⟩
      · rw [Rat.neg_num, Rat.neg_den]
        exact upd_same
      walk_at "gs"
      refine if_f rfl ?_
      walk_at "gs"
      exact ⟨rfl, ((t3.trans s4).trans (up_same hp)).trans s6⟩
    rintro σ' H6 ⟨rfl, m6⟩
    -- told(over, one, two)
    refine g_cut (fun σ' H' => σ' = fl a S za zb zc zd (some v1) (some v2) none none none ∧ Same H4 H') ?_ ?_
    · have hq6 := hw2.same m6
      obtain ⟨q2, rfl, hq2⟩ := hw2
      walk_at "gs"
      refine ⟨_, _, rfl, _, _, p1, p2, 50, 50, rfl, hw1.same m6, hq6, hp1, hp2, by decide, fun z => ⟨rfl, rfl, fun p hp => ?_⟩, fun z v G1 s1 hv p hp => ?_⟩
      · walk_at "gs"
        have hq7 := Same.sqt (m6.trans (up_same (o := .tup [.str "refused"]) hp)) hq2
        walk_at "gs"
        refine if_t (by rw [z]; rfl) ?_
        walk_at "gs"
        refine g_newT (by show 1 ≤ 1000000; decide) fun p2 hp2 => ?_
        walk_at "gs"
        refine ⟨_, _, rfl, .tup (Same.sqt (up_same hp2) (SqT.of upd_same)) (SqT.of upd_same) rfl (by show 1 < 1000000; decide) fun i x y e1 e2 => ?_, fun H3 sm3 => ?_⟩
        · rw [e1] at e2
          cases e2
          match i, e1 with
          | 0, e1 =>
            cases e1
            exact .sc rfl
          | i + 1, e1 => simp at e1
        · walk_at "gs"
          refine if_f rfl ?_
          walk_at "gs"
          exact ⟨rfl, (m6.trans ((up_same hp).trans (up_same hp2))).trans sm3⟩
      · have hq7 := Same.sqt ((m6.trans s1).trans (up_same (o := .tup [.str "told", v]) hp)) hq2
        walk_at "gs"
        refine if_f (decide_eq_false fun q => z (Rat.num_eq_zero.mp (V.int.inj q))) ?_
        walk_at "gs"
        refine ⟨_, _, p1, p2, 50, 50, rfl, hw1.same ((m6.trans s1).trans (up_same hp)), ⟨q2, rfl, hq7⟩, hp1, hp2, by decide, z, fun v2 H3 sm3 hv2 => ?_⟩
        walk_at "gs"
        refine g_newT (by show 2 ≤ 1000000; decide) fun p2 hp2 => ?_
        walk_at "gs"
        have s1' : Same G1 (upd H3 p2 (.tup [.str "told", v2])) := (up_same hp).trans (sm3.trans (up_same hp2))
        refine ⟨_, _, rfl, .tup (Same.sqt (sm3.trans (up_same hp2)) (SqT.of upd_same)) (SqT.of upd_same) rfl (by show 2 < 1000000; decide) fun i x y e1 e2 => ?_, fun H4 sm4 => ?_⟩
        · match i, e1, e2 with
          | 0, e1, e2 =>
            cases e1
            cases e2
            exact .sc rfl
          | 1, e1, e2 =>
            cases e1
            cases e2
            exact Eqv.rat (n := 0) (hv.same s1') (hv2.same (up_same hp2))
          | i + 2, e1, e2 => simp at e1
        · walk_at "gs"
          refine if_f rfl ?_
          walk_at "gs"
          exact ⟨rfl, ((m6.trans s1).trans s1').trans sm4⟩
    rintro σ' H7 ⟨rfl, m7⟩
    -- less
    refine g_cut (fun σ' H' => σ' = fl a S za zb zc zd (some v1) (some v2) none none none ∧ Same H4 H') ?_ ?_
    · have hr1 := hw1.same m7
      have hr2 := hw2.same m7
      obtain ⟨q1, rfl, hq1⟩ := hw1
      obtain ⟨q2, rfl, hq2⟩ := hw2
      have h71 := Same.sqt m7 hq1
      have h72 := Same.sqt m7 hq2
      have c0 : CMulB p1.num (p2.den : Int) := mulB_of (a := 50) (b := 50) hp1.1 hp2.2 (by decide)
      have c1 : CMulB p2.num (p1.den : Int) := mulB_of (a := 50) (b := 50) hp2.1 hp1.2 (by decide)
      walk_at "gs"
      refine ⟨_, _, _, _, 50, 50, rfl, hr1, hr2, hp1, hp2, by decide, ?_⟩
      walk_at "gs"
      refine ⟨_, _, rfl, .sc rfl, fun G1 s1 => ?_⟩
      walk_at "gs"
      refine if_f rfl ?_
      walk_at "gs"
      refine ⟨_, _, _, _, 50, 50, rfl, hr1.same s1, hr1.same s1, hp1, hp1, by decide, ?_⟩
      walk_at "gs"
      refine if_f (decide_eq_false (Int.lt_irrefl _)) ?_
      walk_at "gs"
      exact ⟨rfl, m7.trans s1⟩
    rintro σ' H8 ⟨rfl, m8⟩
    -- is_ratio
    refine g_cut (fun σ' H' => σ' = fl a S za zb zc zd (some v1) (some v2) none none none ∧ Same H4 H') ?_ ?_
    · walk_at "gs"
      refine g_newT (by show 2 ≤ 1000000; decide) fun p hp => ?_
      walk_at "gs"
      refine ⟨p, za, zb, rfl, SqT.of upd_same, ?_⟩
      walk_at "gs"
      refine if_2 (fun e => ?_) (fun e => ?_)
      · rw [e, Bool.true_and]
        walk_at "gs"
        refine ⟨_, _, rfl, by split <;> omega, by split <;> omega, ?_⟩
        rw [abs_gcd]
        walk_at "gs"
        rw [dec_int]
        refine ⟨_, _, rfl, .sc rfl, fun G1 s1 => ?_⟩
        walk_at "gs"
        refine if_f rfl ?_
        walk_at "gs"
        exact ⟨rfl, (m8.trans (up_same hp)).trans s1⟩
      · rw [e, Bool.false_and]
        walk_at "gs"
        refine ⟨_, _, rfl, .sc rfl, fun G1 s1 => ?_⟩
        walk_at "gs"
        refine if_f rfl ?_
        walk_at "gs"
        exact ⟨rfl, (m8.trans (up_same hp)).trans s1⟩
    rintro σ' H9 ⟨rfl, m9⟩
    have hS9 := hS4.same m9
    -- values
    refine g_cut (fun σ' H' => ∃ (l : Addr) (xs : List V) (qs : List Rat), σ' = fl a S za zb zc zd (some v1) (some v2) (some (.ref l)) none none ∧ H' l = some (.lst xs) ∧ Rats K H' xs qs ∧ (∀ q ∈ qs, Bd 50 q) ∧ qs.length ≤ 5) ?_ ?_
    · walk_at "gs"
      refine ⟨S, c, 6, rfl, hS9, by decide, by decide +kernel, fun v G1 z0 z1 hS10 k10 => ?_⟩
      walk_at "gs"
      refine g_lcRng v.toNat (by omega) (by omega) (fun p i acc H' => StAt H' S c ∧ H' p = some (.lst acc) ∧ ∃ qs : List Rat, qs.length = i ∧ Rats K H' acc qs ∧ ∀ q ∈ qs, Bd 50 q) (fun _ => rfl)
        (fun p hp => ⟨hS10.upd (hS10.neS hp) (hS10.nec hp), upd_same, [], rfl, Rats.nil, fun z hz => nomatch hz⟩) ?_ ?_
      · rintro p i acc G2 hp hi ⟨hS11, e1, qs, hz, hq, hb⟩
        walk_at "gs"
        refine ⟨S, c, rfl, hS11, fun z G3 hz2 hS12 k12 => ?_⟩
        walk_at "gs"
        refine ⟨S, c, 9, rfl, hS12, by decide, by decide +kernel, fun u G4 u0 u1 hS13 k13 => ?_⟩
        walk_at "gs"
        have hne : 1 + u ≠ 0 := by omega
        have hu : (1 + u).natAbs < 2 ^ 50 := by omega
        refine ⟨_, _, rfl, hne, lt50 hu, fun w G5 s5 hw => ?_⟩
        have e5 : G5 p = some (.lst acc) := s5 _ _ (k13 p _ (hS10.neS hp) (k12 p _ (hS10.neS hp) e1))
        obtain ⟨ys, hys⟩ := hS11.lst
        have hq5 := (hq.kp (k12.trans k13) hys).same s5
        refine lcN_of e5 (by have := hq.len; omega) ⟨(hS13.same s5).upd (hS10.neS hp) (hS10.nec hp), upd_same, qs ++ [_], ?_, (hq5.snoc hw).kp Kp.upd e5, ?_⟩
        · rw [List.length_append, hz]
          rfl
        · intro y hy
          rcases List.mem_append.mp hy with hy | hy
          · exact hb y hy
          · rw [List.mem_singleton.mp hy]
            exact bd_of hz2 hu hne
      · rintro p acc G2 hp ⟨hS11, e1, qs, hz, hq, hb⟩
        exact ⟨p, acc, qs, rfl, e1, hq, hb, by omega⟩
    rintro σ' H10 ⟨l, xs, qs, rfl, el, hq, hqb, hq5⟩
    -- due = (0, 1)
    refine g_cut (fun σ' H' => ∃ d, σ' = fl a S za zb zc zd (some v1) (some v2) (some (.ref l)) (some d) none ∧ Same H10 H' ∧ RatV K H' d 0) ?_ ?_
    · walk_at "gs"
      refine g_newT (by show 2 ≤ 1000000; decide) fun p hp => ?_
      walk_at "gs"
      exact ⟨.ref p, rfl, up_same hp, p, rfl, SqT.of upd_same⟩
    rintro σ' H11 ⟨d, rfl, m11, hd0⟩
    -- the loop
    have hxs : ∀ H', Same H10 H' → SqL K H' l xs := fun H' sm => SqL.of (sm _ _ el)
    refine g_cut (fun σ' H' => ∃ d u, σ' = fl a S za zb zc zd (some v1) (some v2) (some (.ref l)) (some d) u ∧ Same H10 H' ∧ RatV K H' d (sumR qs)) ?_ ?_
    · walk_at "gs"
      refine g_itL (hxs _ m11) (fun i σ' H' => ∃ d u, σ' = fl a S za zb zc zd (some v1) (some v2) (some (.ref l)) (some d) u ∧ Same H10 H' ∧ RatV K H' d (sumR (qs.take i))) ⟨d, none, rfl, m11, hd0⟩ (fun i σ' H' _ ⟨v, u, _, sm, _⟩ => hxs _ sm) ?_ ?_
      · rintro i x σ' H' hi ⟨v, u, rfl, sm, hv⟩
        have hlt : i < qs.length := by
          have := (List.getElem?_eq_some_iff.mp hi).1
          have := hq.len
          omega
        have hqi : qs[i]? = some qs[i] := List.getElem?_eq_getElem hlt
        walk_at "gs"
        refine ⟨v, x, sumR (qs.take i), qs[i], 1 + 5 * (50 + 1), 50, rfl, hv, (hq.at_ i x _ hi hqi).same sm, ?_, hqb _ (List.getElem_mem hlt), by decide, fun w H2 sm2 hw => ?_⟩
        · refine (sumR_bd (qs.take i) fun q hq => hqb q (List.mem_of_mem_take hq)).mono ?_
          have : (qs.take i).length ≤ 5 := by
            rw [List.length_take]
            omega
          omega
        · walk_at "gs"
          refine ⟨w, some x, rfl, sm.trans sm2, ?_⟩
          rw [sumR_take hqi]
          exact hw
      · rintro σ' H' ⟨v, u, rfl, sm, hv⟩
        rw [hq.len, List.take_length] at hv
        exact ⟨v, u, rfl, sm, hv⟩
    rintro σ' H12 ⟨d, u, rfl, m12, hd12⟩
    -- the end
    walk_at "gs"
    refine g_listL (hxs _ m12) fun l2 hl2 => ?_
    walk_at "gs"
    refine ⟨l2, xs, qs, 50, rfl, SqL.of upd_same, hq.len, fun i x q a b => ((hq.at_ i x q a b).same m12).same (up_same hl2), hqb, by omega, fun w G1 s1 hw => ?_⟩
    walk_at "gs"
    refine ⟨_, _, rfl, Eqv.rat (n := 1) hw ((hd12.same (up_same hl2)).same s1), fun G2 s2 => ?_⟩
    exact k G2
end

theorem all_mk {l : PySem.W.OpenLaw} {w : World} {K : PySem.W.Frag} {h : Heap} {mg : Str → Option Value} {fa f_ratio f_plus f_minus f_times f_over f_opposite f_less f_total f_is_ratio f_l_pick f_l_gcd f_l_ratio f_l_add f_l_sub f_l_mul f_l_div f_l_same f_l_whole f_l_told f_law C_RimError C_RatioError z_ZERO : Addr} (X : K.In h) (G : h.Ns mainGlobals mg) (hfa : mg "law" = some (.ref fa))
    {od0 an0 od1 an1 od2 an2 od3 an3 od4 an4 od5 an5 od6 an6 od7 an7 od8 an8 od9 an9 od10 an10 od11 an11 od12 an12 od13 an13 od14 an14 od15 an15 od16 an16 od17 an17 od18 an18 od19 an19 : Option Addr} {sl0 sl1 sl2 sl3 sl4 sl5 sl6 sl7 sl8 sl9 sl10 sl11 sl12 sl13 sl14 sl15 sl16 sl17 sl18 sl19 : Array (Option Value)} {oc0 kV0 dc0 pm0 cd0 ct0 oc1 kV1 dc1 pm1 cd1 ct1 oc2 kV2 dc2 pm2 cd2 ct2 oc3 kV3 dc3 pm3 cd3 ct3 oc4 kV4 dc4 pm4 cd4 ct4 oc5 kV5 dc5 pm5 cd5 ct5 oc6 kV6 dc6 pm6 cd6 ct6 oc7 kV7 dc7 pm7 cd7 ct7 oc8 kV8 dc8 pm8 cd8 ct8 oc9 kV9 dc9 pm9 cd9 ct9 oc10 kV10 dc10 pm10 cd10 ct10 oc11 kV11 dc11 pm11 cd11 ct11 oc12 kV12 dc12 pm12 cd12 ct12 oc13 kV13 dc13 pm13 cd13 ct13 oc14 kV14 dc14 pm14 cd14 ct14 oc15 kV15 dc15 pm15 cd15 ct15 oc16 kV16 dc16 pm16 cd16 ct16 oc17 kV17 dc17 pm17 cd17 ct17 oc18 kV18 dc18 pm18 cd18 ct18 oc19 kV19 dc19 pm19 cd19 ct19 : Value} {tk0_0 tk0_1 : Tok}
    (a_ratio : PySem.W.nsIn K mainGlobals "ratio" = some (some (.ref f_ratio))) (l_ratio : K.lookup f_ratio = some ⟨oc0, od0, .func (PySem.W.fnOf "ratio" "ratio" (defArgs s_ratio) (defBody s_ratio) (defScope s_ratio) .none kV0 dc0 pm0 an0 cd0 ct0), sl0⟩) (c_ratio : PySem.W.codeIn K cd0 "ratio" = true) (k_ratio : PySem.W.keepIn K (.ref f_ratio) = true)
    (a_plus : PySem.W.nsIn K mainGlobals "plus" = some (some (.ref f_plus))) (l_plus : K.lookup f_plus = some ⟨oc1, od1, .func (PySem.W.fnOf "plus" "plus" (defArgs s_plus) (defBody s_plus) (defScope s_plus) .none kV1 dc1 pm1 an1 cd1 ct1), sl1⟩) (c_plus : PySem.W.codeIn K cd1 "plus" = true) (k_plus : PySem.W.keepIn K (.ref f_plus) = true)
    (a_minus : PySem.W.nsIn K mainGlobals "minus" = some (some (.ref f_minus))) (l_minus : K.lookup f_minus = some ⟨oc2, od2, .func (PySem.W.fnOf "minus" "minus" (defArgs s_minus) (defBody s_minus) (defScope s_minus) .none kV2 dc2 pm2 an2 cd2 ct2), sl2⟩) (c_minus : PySem.W.codeIn K cd2 "minus" = true) (k_minus : PySem.W.keepIn K (.ref f_minus) = true)
    (a_times : PySem.W.nsIn K mainGlobals "times" = some (some (.ref f_times))) (l_times : K.lookup f_times = some ⟨oc3, od3, .func (PySem.W.fnOf "times" "times" (defArgs s_times) (defBody s_times) (defScope s_times) .none kV3 dc3 pm3 an3 cd3 ct3), sl3⟩) (c_times : PySem.W.codeIn K cd3 "times" = true) (k_times : PySem.W.keepIn K (.ref f_times) = true)
    (a_over : PySem.W.nsIn K mainGlobals "over" = some (some (.ref f_over))) (l_over : K.lookup f_over = some ⟨oc4, od4, .func (PySem.W.fnOf "over" "over" (defArgs s_over) (defBody s_over) (defScope s_over) .none kV4 dc4 pm4 an4 cd4 ct4), sl4⟩) (c_over : PySem.W.codeIn K cd4 "over" = true) (k_over : PySem.W.keepIn K (.ref f_over) = true)
    (a_opposite : PySem.W.nsIn K mainGlobals "opposite" = some (some (.ref f_opposite))) (l_opposite : K.lookup f_opposite = some ⟨oc5, od5, .func (PySem.W.fnOf "opposite" "opposite" (defArgs s_opposite) (defBody s_opposite) (defScope s_opposite) .none kV5 dc5 pm5 an5 cd5 ct5), sl5⟩) (c_opposite : PySem.W.codeIn K cd5 "opposite" = true) (k_opposite : PySem.W.keepIn K (.ref f_opposite) = true)
    (a_less : PySem.W.nsIn K mainGlobals "less" = some (some (.ref f_less))) (l_less : K.lookup f_less = some ⟨oc6, od6, .func (PySem.W.fnOf "less" "less" (defArgs s_less) (defBody s_less) (defScope s_less) .none kV6 dc6 pm6 an6 cd6 ct6), sl6⟩) (c_less : PySem.W.codeIn K cd6 "less" = true) (k_less : PySem.W.keepIn K (.ref f_less) = true)
    (a_total : PySem.W.nsIn K mainGlobals "total" = some (some (.ref f_total))) (l_total : K.lookup f_total = some ⟨oc7, od7, .func (PySem.W.fnOf "total" "total" (defArgs s_total) (defBody s_total) (defScope s_total) .none kV7 dc7 pm7 an7 cd7 ct7), sl7⟩) (c_total : PySem.W.codeIn K cd7 "total" = true) (k_total : PySem.W.keepIn K (.ref f_total) = true)
    (a_is_ratio : PySem.W.nsIn K mainGlobals "is_ratio" = some (some (.ref f_is_ratio))) (l_is_ratio : K.lookup f_is_ratio = some ⟨oc8, od8, .func (PySem.W.fnOf "is_ratio" "is_ratio" (defArgs s_is_ratio) (defBody s_is_ratio) (defScope s_is_ratio) .none kV8 dc8 pm8 an8 cd8 ct8), sl8⟩) (c_is_ratio : PySem.W.codeIn K cd8 "is_ratio" = true) (k_is_ratio : PySem.W.keepIn K (.ref f_is_ratio) = true)
    (a_l_pick : PySem.W.nsIn K mainGlobals "_law_pick" = some (some (.ref f_l_pick))) (l_l_pick : K.lookup f_l_pick = some ⟨oc9, od9, .func (PySem.W.fnOf "_law_pick" "_law_pick" (defArgs s_l_pick) (defBody s_l_pick) (defScope s_l_pick) .none kV9 dc9 pm9 an9 cd9 ct9), sl9⟩) (c_l_pick : PySem.W.codeIn K cd9 "_law_pick" = true) (k_l_pick : PySem.W.keepIn K (.ref f_l_pick) = true)
    (a_l_gcd : PySem.W.nsIn K mainGlobals "_law_gcd" = some (some (.ref f_l_gcd))) (l_l_gcd : K.lookup f_l_gcd = some ⟨oc10, od10, .func (PySem.W.fnOf "_law_gcd" "_law_gcd" (defArgs s_l_gcd) (defBody s_l_gcd) (defScope s_l_gcd) .none kV10 dc10 pm10 an10 cd10 ct10), sl10⟩) (c_l_gcd : PySem.W.codeIn K cd10 "_law_gcd" = true) (k_l_gcd : PySem.W.keepIn K (.ref f_l_gcd) = true)
    (a_l_ratio : PySem.W.nsIn K mainGlobals "_law_ratio" = some (some (.ref f_l_ratio))) (l_l_ratio : K.lookup f_l_ratio = some ⟨oc11, od11, .func (PySem.W.fnOf "_law_ratio" "_law_ratio" (defArgs s_l_ratio) (defBody s_l_ratio) (defScope s_l_ratio) .none kV11 dc11 pm11 an11 cd11 ct11), sl11⟩) (c_l_ratio : PySem.W.codeIn K cd11 "_law_ratio" = true) (k_l_ratio : PySem.W.keepIn K (.ref f_l_ratio) = true)
    (a_l_add : PySem.W.nsIn K mainGlobals "_law_add" = some (some (.ref f_l_add))) (l_l_add : K.lookup f_l_add = some ⟨oc12, od12, .func (PySem.W.fnOf "_law_add" "_law_add" (defArgs s_l_add) (defBody s_l_add) (defScope s_l_add) .none kV12 dc12 pm12 an12 cd12 ct12), sl12⟩) (c_l_add : PySem.W.codeIn K cd12 "_law_add" = true) (k_l_add : PySem.W.keepIn K (.ref f_l_add) = true)
    (a_l_sub : PySem.W.nsIn K mainGlobals "_law_sub" = some (some (.ref f_l_sub))) (l_l_sub : K.lookup f_l_sub = some ⟨oc13, od13, .func (PySem.W.fnOf "_law_sub" "_law_sub" (defArgs s_l_sub) (defBody s_l_sub) (defScope s_l_sub) .none kV13 dc13 pm13 an13 cd13 ct13), sl13⟩) (c_l_sub : PySem.W.codeIn K cd13 "_law_sub" = true) (k_l_sub : PySem.W.keepIn K (.ref f_l_sub) = true)
    (a_l_mul : PySem.W.nsIn K mainGlobals "_law_mul" = some (some (.ref f_l_mul))) (l_l_mul : K.lookup f_l_mul = some ⟨oc14, od14, .func (PySem.W.fnOf "_law_mul" "_law_mul" (defArgs s_l_mul) (defBody s_l_mul) (defScope s_l_mul) .none kV14 dc14 pm14 an14 cd14 ct14), sl14⟩) (c_l_mul : PySem.W.codeIn K cd14 "_law_mul" = true) (k_l_mul : PySem.W.keepIn K (.ref f_l_mul) = true)
    (a_l_div : PySem.W.nsIn K mainGlobals "_law_div" = some (some (.ref f_l_div))) (l_l_div : K.lookup f_l_div = some ⟨oc15, od15, .func (PySem.W.fnOf "_law_div" "_law_div" (defArgs s_l_div) (defBody s_l_div) (defScope s_l_div) .none kV15 dc15 pm15 an15 cd15 ct15), sl15⟩) (c_l_div : PySem.W.codeIn K cd15 "_law_div" = true) (k_l_div : PySem.W.keepIn K (.ref f_l_div) = true)
    (a_l_same : PySem.W.nsIn K mainGlobals "_law_same" = some (some (.ref f_l_same))) (l_l_same : K.lookup f_l_same = some ⟨oc16, od16, .func (PySem.W.fnOf "_law_same" "_law_same" (defArgs s_l_same) (defBody s_l_same) (defScope s_l_same) .none kV16 dc16 pm16 an16 cd16 ct16), sl16⟩) (c_l_same : PySem.W.codeIn K cd16 "_law_same" = true) (k_l_same : PySem.W.keepIn K (.ref f_l_same) = true)
    (a_l_whole : PySem.W.nsIn K mainGlobals "_law_whole" = some (some (.ref f_l_whole))) (l_l_whole : K.lookup f_l_whole = some ⟨oc17, od17, .func (PySem.W.fnOf "_law_whole" "_law_whole" (defArgs s_l_whole) (defBody s_l_whole) (defScope s_l_whole) .none kV17 dc17 pm17 an17 cd17 ct17), sl17⟩) (c_l_whole : PySem.W.codeIn K cd17 "_law_whole" = true) (k_l_whole : PySem.W.keepIn K (.ref f_l_whole) = true)
    (a_l_told : PySem.W.nsIn K mainGlobals "_law_told" = some (some (.ref f_l_told))) (l_l_told : K.lookup f_l_told = some ⟨oc18, od18, .func (PySem.W.fnOf "_law_told" "_law_told" (defArgs s_l_told) (defBody s_l_told) (defScope s_l_told) .none kV18 dc18 pm18 an18 cd18 ct18), sl18⟩) (c_l_told : PySem.W.codeIn K cd18 "_law_told" = true) (k_l_told : PySem.W.keepIn K (.ref f_l_told) = true)
    (a_law : PySem.W.nsIn K mainGlobals "law" = some (some (.ref f_law))) (l_law : K.lookup f_law = some ⟨oc19, od19, .func (PySem.W.fnOf "law" "law" (defArgs s_law) (defBody s_law) (defScope s_law) .none kV19 dc19 pm19 an19 cd19 ct19), sl19⟩) (c_law : PySem.W.codeIn K cd19 "law" = true) (k_law : PySem.W.keepIn K (.ref f_law) = true)
    (a_RimError : PySem.W.nsIn K mainGlobals "RimError" = some (some (.ref C_RimError)))
    (x_RimError : PySem.W.excIn K (C_RimError) [.type "ValueError", .type "Exception", .type "BaseException", .type "object"] "ValueError.__new__" = true)
    (k_RimError : PySem.W.keepIn K (.ref (C_RimError)) = true)
    (bb_RimError : PySem.W.subIn K (.ref (C_RimError)) (.type "BaseException") = some true)
    (t_RimError : PySem.W.typeIn K (.ref (C_RimError)) = some (.type "type"))
    (d_RimError : PySem.W.hasDictIn K (C_RimError) = true)
    (hg_RimError : PySem.W.findIn K (.ref (C_RimError)) "__getattribute__" = some (some (.builtin "BaseException.__getattribute__")))
    (hk_RimError : PySem.W.findIn K (.ref (C_RimError)) "__getattr__" = some none)
    (ha_RimError : PySem.W.findIn K (.ref (C_RimError)) "__class__" = some (some (.builtin "object.__class__")))
    (hm_RimError : PySem.W.mroIn K (C_RimError) (.type "object") = some true)
    (v_RimError : PySem.W.kitOne K (.ref (C_RimError)) (.type "ValueError") = some true)
    (i_RimError_RimError : PySem.W.kitOne K (.ref (C_RimError)) (.ref (C_RimError)) = some true)
    (e_RimError_RimError : PySem.W.exmOne K (.ref (C_RimError)) (.ref (C_RimError)) = some true)
    (i_RatioError_RimError : PySem.W.kitOne K (.ref (C_RimError)) (.ref (C_RatioError)) = some false)
    (e_RatioError_RimError : PySem.W.exmOne K (.ref (C_RimError)) (.ref (C_RatioError)) = some false)
    (a_RatioError : PySem.W.nsIn K mainGlobals "RatioError" = some (some (.ref C_RatioError)))
    (x_RatioError : PySem.W.excIn K (C_RatioError) [.type "ValueError", .type "Exception", .type "BaseException", .type "object"] "ValueError.__new__" = true)
    (k_RatioError : PySem.W.keepIn K (.ref (C_RatioError)) = true)
    (bb_RatioError : PySem.W.subIn K (.ref (C_RatioError)) (.type "BaseException") = some true)
    (t_RatioError : PySem.W.typeIn K (.ref (C_RatioError)) = some (.type "type"))
    (d_RatioError : PySem.W.hasDictIn K (C_RatioError) = true)
    (hg_RatioError : PySem.W.findIn K (.ref (C_RatioError)) "__getattribute__" = some (some (.builtin "BaseException.__getattribute__")))
    (hk_RatioError : PySem.W.findIn K (.ref (C_RatioError)) "__getattr__" = some none)
    (ha_RatioError : PySem.W.findIn K (.ref (C_RatioError)) "__class__" = some (some (.builtin "object.__class__")))
    (hm_RatioError : PySem.W.mroIn K (C_RatioError) (.type "object") = some true)
    (v_RatioError : PySem.W.kitOne K (.ref (C_RatioError)) (.type "ValueError") = some true)
    (i_RimError_RatioError : PySem.W.kitOne K (.ref (C_RatioError)) (.ref (C_RimError)) = some true)
    (e_RimError_RatioError : PySem.W.exmOne K (.ref (C_RatioError)) (.ref (C_RimError)) = some true)
    (i_RatioError_RatioError : PySem.W.kitOne K (.ref (C_RatioError)) (.ref (C_RatioError)) = some true)
    (e_RatioError_RatioError : PySem.W.exmOne K (.ref (C_RatioError)) (.ref (C_RatioError)) = some true)
    (hn_ : PySem.W.specialIn K (.builtin "object.__class__") "__get__" = some (some (.builtin "getset_descriptor.__get__"))) (ht_ : PySem.W.takesIn K (.builtin "object.__class__") = some true)
    {odz0 : Option Addr} {nz0 : Nat} {slz0 : Array (Option Value)} (a_ZERO : PySem.W.nsIn K mainGlobals "ZERO" = some (some (.ref z_ZERO))) (l_ZERO : K.lookup z_ZERO = some ⟨.type "tuple", odz0, .seq #[.int 0 tk0_0, .int 1 tk0_1] nz0, slz0⟩)
    (n_ValueError : PySem.W.nsIn K mainGlobals "ValueError" = some none)
    (n_abs : PySem.W.nsIn K mainGlobals "abs" = some none)
    (n_all : PySem.W.nsIn K mainGlobals "all" = some none)
    (n_bool : PySem.W.nsIn K mainGlobals "bool" = some none)
    (n_int : PySem.W.nsIn K mainGlobals "int" = some none)
    (n_isinstance : PySem.W.nsIn K mainGlobals "isinstance" = some none)
    (n_len : PySem.W.nsIn K mainGlobals "len" = some none)
    (n_list : PySem.W.nsIn K mainGlobals "list" = some none)
    (n_range : PySem.W.nsIn K mainGlobals "range" = some none)
    (n_str : PySem.W.nsIn K mainGlobals "str" = some none)
    (n_tuple : PySem.W.nsIn K mainGlobals "tuple" = some none)
    (g_gcd : PySem.W.nsIn K mainGlobals "gcd" = some (some (.builtin "math.gcd")))
    : ∃ fd : FuncData, (∀ (s : Shared) (v : Value), BindsTo s fd ⟨[v], []⟩ [("script", v)]) ∧ ∀ base : Heap, K.In base → base.Ns mainGlobals mg → FnOk l.prog w K mg base CX0 6 fa fd ["script"] (spLaw K) := by
  have e := hfa.symm.trans (PySem.W.mg_of X G a_law)
  cases e
  have F0 := fun_mk (st := s_ratio) l_ratio c_ratio k_ratio
  have b0 := F0.binds (ps := ["top", "bottom"]) fun _ _ _ _ _ _ us hl => match us, hl with | [_, _], _ => rfl
  have F1 := fun_mk (st := s_plus) l_plus c_plus k_plus
  have b1 := F1.binds (ps := ["left", "right"]) fun _ _ _ _ _ _ us hl => match us, hl with | [_, _], _ => rfl
  have F2 := fun_mk (st := s_minus) l_minus c_minus k_minus
  have b2 := F2.binds (ps := ["left", "right"]) fun _ _ _ _ _ _ us hl => match us, hl with | [_, _], _ => rfl
  have F3 := fun_mk (st := s_times) l_times c_times k_times
  have b3 := F3.binds (ps := ["left", "right"]) fun _ _ _ _ _ _ us hl => match us, hl with | [_, _], _ => rfl
  have F4 := fun_mk (st := s_over) l_over c_over k_over
  have b4 := F4.binds (ps := ["left", "right"]) fun _ _ _ _ _ _ us hl => match us, hl with | [_, _], _ => rfl
  have F5 := fun_mk (st := s_opposite) l_opposite c_opposite k_opposite
  have b5 := F5.binds (ps := ["value"]) fun _ _ _ _ _ _ us hl => match us, hl with | [_], _ => rfl
  have F6 := fun_mk (st := s_less) l_less c_less k_less
  have b6 := F6.binds (ps := ["left", "right"]) fun _ _ _ _ _ _ us hl => match us, hl with | [_, _], _ => rfl
  have F7 := fun_mk (st := s_total) l_total c_total k_total
  have b7 := F7.binds (ps := ["values"]) fun _ _ _ _ _ _ us hl => match us, hl with | [_], _ => rfl
  have F8 := fun_mk (st := s_is_ratio) l_is_ratio c_is_ratio k_is_ratio
  have b8 := F8.binds (ps := ["value"]) fun _ _ _ _ _ _ us hl => match us, hl with | [_], _ => rfl
  have F9 := fun_mk (st := s_l_pick) l_l_pick c_l_pick k_l_pick
  have b9 := F9.binds (ps := ["state", "limit"]) fun _ _ _ _ _ _ us hl => match us, hl with | [_, _], _ => rfl
  have F10 := fun_mk (st := s_l_gcd) l_l_gcd c_l_gcd k_l_gcd
  have b10 := F10.binds (ps := ["left", "right"]) fun _ _ _ _ _ _ us hl => match us, hl with | [_, _], _ => rfl
  have F11 := fun_mk (st := s_l_ratio) l_l_ratio c_l_ratio k_l_ratio
  have b11 := F11.binds (ps := ["top", "bottom"]) fun _ _ _ _ _ _ us hl => match us, hl with | [_, _], _ => rfl
  have F12 := fun_mk (st := s_l_add) l_l_add c_l_add k_l_add
  have b12 := F12.binds (ps := ["left", "right"]) fun _ _ _ _ _ _ us hl => match us, hl with | [_, _], _ => rfl
  have F13 := fun_mk (st := s_l_sub) l_l_sub c_l_sub k_l_sub
  have b13 := F13.binds (ps := ["left", "right"]) fun _ _ _ _ _ _ us hl => match us, hl with | [_, _], _ => rfl
  have F14 := fun_mk (st := s_l_mul) l_l_mul c_l_mul k_l_mul
  have b14 := F14.binds (ps := ["left", "right"]) fun _ _ _ _ _ _ us hl => match us, hl with | [_, _], _ => rfl
  have F15 := fun_mk (st := s_l_div) l_l_div c_l_div k_l_div
  have b15 := F15.binds (ps := ["left", "right"]) fun _ _ _ _ _ _ us hl => match us, hl with | [_, _], _ => rfl
  have F16 := fun_mk (st := s_l_same) l_l_same c_l_same k_l_same
  have b16 := F16.binds (ps := ["actual", "due"]) fun _ _ _ _ _ _ us hl => match us, hl with | [_, _], _ => rfl
  have F17 := fun_mk (st := s_l_whole) l_l_whole c_l_whole k_l_whole
  have b17 := F17.binds (ps := ["state"]) fun _ _ _ _ _ _ us hl => match us, hl with | [_], _ => rfl
  have F18 := fun_mk (st := s_l_told) l_l_told c_l_told k_l_told
  have b18 := F18.binds (ps := ["function", "left", "right"]) fun _ _ _ _ _ _ us hl => match us, hl with | [_, _, _], _ => rfl
  have F19 := fun_mk (st := s_law) l_law c_law k_law
  have b19 := F19.binds (ps := ["script"]) fun _ _ _ _ _ _ us hl => match us, hl with | [_], _ => rfl
  have T : Txt K mg { f_ratio := f_ratio, fd_ratio := _, f_plus := f_plus, fd_plus := _, f_minus := f_minus, fd_minus := _, f_times := f_times, fd_times := _, f_over := f_over, fd_over := _, f_opposite := f_opposite, fd_opposite := _, f_less := f_less, fd_less := _, f_total := f_total, fd_total := _, f_is_ratio := f_is_ratio, fd_is_ratio := _, f_l_pick := f_l_pick, fd_l_pick := _, f_l_gcd := f_l_gcd, fd_l_gcd := _, f_l_ratio := f_l_ratio, fd_l_ratio := _, f_l_add := f_l_add, fd_l_add := _, f_l_sub := f_l_sub, fd_l_sub := _, f_l_mul := f_l_mul, fd_l_mul := _, f_l_div := f_l_div, fd_l_div := _, f_l_same := f_l_same, fd_l_same := _, f_l_whole := f_l_whole, fd_l_whole := _, f_l_told := f_l_told, fd_l_told := _, f_law := fa, fd_law := _, C_RimError := C_RimError, C_RatioError := C_RatioError, z_ZERO := z_ZERO } := { g_ratio := PySem.W.mg_of X G a_ratio, F_ratio := F0, b_ratio := b0, g_plus := PySem.W.mg_of X G a_plus, F_plus := F1, b_plus := b1, g_minus := PySem.W.mg_of X G a_minus, F_minus := F2, b_minus := b2, g_times := PySem.W.mg_of X G a_times, F_times := F3, b_times := b3, g_over := PySem.W.mg_of X G a_over, F_over := F4, b_over := b4, g_opposite := PySem.W.mg_of X G a_opposite, F_opposite := F5, b_opposite := b5, g_less := PySem.W.mg_of X G a_less, F_less := F6, b_less := b6, g_total := PySem.W.mg_of X G a_total, F_total := F7, b_total := b7, g_is_ratio := PySem.W.mg_of X G a_is_ratio, F_is_ratio := F8, b_is_ratio := b8, g_l_pick := PySem.W.mg_of X G a_l_pick, F_l_pick := F9, b_l_pick := b9, g_l_gcd := PySem.W.mg_of X G a_l_gcd, F_l_gcd := F10, b_l_gcd := b10, g_l_ratio := PySem.W.mg_of X G a_l_ratio, F_l_ratio := F11, b_l_ratio := b11, g_l_add := PySem.W.mg_of X G a_l_add, F_l_add := F12, b_l_add := b12, g_l_sub := PySem.W.mg_of X G a_l_sub, F_l_sub := F13, b_l_sub := b13, g_l_mul := PySem.W.mg_of X G a_l_mul, F_l_mul := F14, b_l_mul := b14, g_l_div := PySem.W.mg_of X G a_l_div, F_l_div := F15, b_l_div := b15, g_l_same := PySem.W.mg_of X G a_l_same, F_l_same := F16, b_l_same := b16, g_l_whole := PySem.W.mg_of X G a_l_whole, F_l_whole := F17, b_l_whole := b17, g_l_told := PySem.W.mg_of X G a_l_told, F_l_told := F18, b_l_told := b18, g_law := PySem.W.mg_of X G a_law, F_law := F19, b_law := b19, g_RimError := PySem.W.mg_of X G a_RimError, x_RimError := x_RimError, k_RimError := k_RimError, bb_RimError := bb_RimError, t_RimError := t_RimError, d_RimError := d_RimError, hg_RimError := hg_RimError, hk_RimError := hk_RimError, ha_RimError := ha_RimError, hm_RimError := hm_RimError, v_RimError := v_RimError, i_RimError_RimError := i_RimError_RimError, e_RimError_RimError := e_RimError_RimError, i_RatioError_RimError := i_RatioError_RimError, e_RatioError_RimError := e_RatioError_RimError, g_RatioError := PySem.W.mg_of X G a_RatioError, x_RatioError := x_RatioError, k_RatioError := k_RatioError, bb_RatioError := bb_RatioError, t_RatioError := t_RatioError, d_RatioError := d_RatioError, hg_RatioError := hg_RatioError, hk_RatioError := hk_RatioError, ha_RatioError := ha_RatioError, hm_RatioError := hm_RatioError, v_RatioError := v_RatioError, i_RimError_RatioError := i_RimError_RatioError, e_RimError_RatioError := e_RimError_RatioError, i_RatioError_RatioError := i_RatioError_RatioError, e_RatioError_RatioError := e_RatioError_RatioError, c_ZERO := PySem.W.mg_of X G a_ZERO, q_ZERO := fun _ => .inr ⟨_, _, _, l_ZERO, rfl, rfl, (by show 2 ≤ sizeLine; decide), (.cons ⟨_, rfl⟩ (.cons ⟨_, rfl⟩ (.nil)))⟩, n_ValueError := PySem.W.mg_none_of X G n_ValueError, n_abs := PySem.W.mg_none_of X G n_abs, n_all := PySem.W.mg_none_of X G n_all, n_bool := PySem.W.mg_none_of X G n_bool, n_int := PySem.W.mg_none_of X G n_int, n_isinstance := PySem.W.mg_none_of X G n_isinstance, n_len := PySem.W.mg_none_of X G n_len, n_list := PySem.W.mg_none_of X G n_list, n_range := PySem.W.mg_none_of X G n_range, n_str := PySem.W.mg_none_of X G n_str, n_tuple := PySem.W.mg_none_of X G n_tuple, g_gcd := PySem.W.mg_of X G g_gcd, hn_ := hn_, ht_ := ht_ }
  exact ⟨_, fun s v => .of_eq rfl, fun base _ _ => ok_law T⟩
end K00
open PySem PySem.W PyProof.Rows
set_option maxRecDepth 100000 in
set_option maxHeartbeats 0 in
theorem PySem.Challenge.cw_rimohms_k00_ratios_holds : PySem.Challenge.rw_rimohms_k00_ratios.Holds := by
  w_on; o_law; k_head; (case hw => w_witness2)
  k_fill
  refine L2.walk_of (l := PySem.Challenge.rw_rimohms_k00_ratios) (n := 63) (k := 6) (x := "script") (CX := fun _ => L2.CX0) (sp := fun w => K00.spLaw _) rfl (by decide) rfl ⟨rfl, by decide, by decide⟩ (fun w h Y => PySem.W.kIn_of Y) ?F (fun _ _ a ns hl _ hS => ⟨a, ns, rfl, hS, hl, fun _ => rfl⟩) (fun _ _ _ _ _ h => h)
  case F =>
    intro w mg fa h KX G hmg
    refine' K00.all_mk KX G hmg ?a_ratio ?l_ratio ?c_ratio ?k_ratio ?a_plus ?l_plus ?c_plus ?k_plus ?a_minus ?l_minus ?c_minus ?k_minus ?a_times ?l_times ?c_times ?k_times ?a_over ?l_over ?c_over ?k_over ?a_opposite ?l_opposite ?c_opposite ?k_opposite ?a_less ?l_less ?c_less ?k_less ?a_total ?l_total ?c_total ?k_total ?a_is_ratio ?l_is_ratio ?c_is_ratio ?k_is_ratio ?a_l_pick ?l_l_pick ?c_l_pick ?k_l_pick ?a_l_gcd ?l_l_gcd ?c_l_gcd ?k_l_gcd ?a_l_ratio ?l_l_ratio ?c_l_ratio ?k_l_ratio ?a_l_add ?l_l_add ?c_l_add ?k_l_add ?a_l_sub ?l_l_sub ?c_l_sub ?k_l_sub ?a_l_mul ?l_l_mul ?c_l_mul ?k_l_mul ?a_l_div ?l_l_div ?c_l_div ?k_l_div ?a_l_same ?l_l_same ?c_l_same ?k_l_same ?a_l_whole ?l_l_whole ?c_l_whole ?k_l_whole ?a_l_told ?l_l_told ?c_l_told ?k_l_told ?a_law ?l_law ?c_law ?k_law ?a_RimError ?x_RimError ?k_RimError ?bb_RimError ?t_RimError ?d_RimError ?hg_RimError ?hk_RimError ?ha_RimError ?hm_RimError ?v_RimError ?i_RimError_RimError ?e_RimError_RimError ?i_RatioError_RimError ?e_RatioError_RimError ?a_RatioError ?x_RatioError ?k_RatioError ?bb_RatioError ?t_RatioError ?d_RatioError ?hg_RatioError ?hk_RatioError ?ha_RatioError ?hm_RatioError ?v_RatioError ?i_RimError_RatioError ?e_RimError_RatioError ?i_RatioError_RatioError ?e_RatioError_RatioError ?hn_ ?ht_ ?a_ZERO ?l_ZERO ?n_ValueError ?n_abs ?n_all ?n_bool ?n_int ?n_isinstance ?n_len ?n_list ?n_range ?n_str ?n_tuple ?g_gcd
    (case a_RimError => first | k_is | rfl)
    (case a_RatioError => first | k_is | rfl)
    (case a_ratio => first | k_is | rfl)
    (case l_ratio => first | k_is | rfl)
    (case c_ratio => first | k_is | rfl)
    (case k_ratio => first | k_is | rfl)
    (case a_plus => first | k_is | rfl)
    (case l_plus => first | k_is | rfl)
    (case c_plus => first | k_is | rfl)
    (case k_plus => first | k_is | rfl)
    (case a_minus => first | k_is | rfl)
    (case l_minus => first | k_is | rfl)
    (case c_minus => first | k_is | rfl)
    (case k_minus => first | k_is | rfl)
    (case a_times => first | k_is | rfl)
    (case l_times => first | k_is | rfl)
    (case c_times => first | k_is | rfl)
    (case k_times => first | k_is | rfl)
    (case a_over => first | k_is | rfl)
    (case l_over => first | k_is | rfl)
    (case c_over => first | k_is | rfl)
    (case k_over => first | k_is | rfl)
    (case a_opposite => first | k_is | rfl)
    (case l_opposite => first | k_is | rfl)
    (case c_opposite => first | k_is | rfl)
    (case k_opposite => first | k_is | rfl)
    (case a_less => first | k_is | rfl)
    (case l_less => first | k_is | rfl)
    (case c_less => first | k_is | rfl)
    (case k_less => first | k_is | rfl)
    (case a_total => first | k_is | rfl)
    (case l_total => first | k_is | rfl)
    (case c_total => first | k_is | rfl)
    (case k_total => first | k_is | rfl)
    (case a_is_ratio => first | k_is | rfl)
    (case l_is_ratio => first | k_is | rfl)
    (case c_is_ratio => first | k_is | rfl)
    (case k_is_ratio => first | k_is | rfl)
    (case a_l_pick => first | k_is | rfl)
    (case l_l_pick => first | k_is | rfl)
    (case c_l_pick => first | k_is | rfl)
    (case k_l_pick => first | k_is | rfl)
    (case a_l_gcd => first | k_is | rfl)
    (case l_l_gcd => first | k_is | rfl)
    (case c_l_gcd => first | k_is | rfl)
    (case k_l_gcd => first | k_is | rfl)
    (case a_l_ratio => first | k_is | rfl)
    (case l_l_ratio => first | k_is | rfl)
    (case c_l_ratio => first | k_is | rfl)
    (case k_l_ratio => first | k_is | rfl)
    (case a_l_add => first | k_is | rfl)
    (case l_l_add => first | k_is | rfl)
    (case c_l_add => first | k_is | rfl)
    (case k_l_add => first | k_is | rfl)
    (case a_l_sub => first | k_is | rfl)
    (case l_l_sub => first | k_is | rfl)
    (case c_l_sub => first | k_is | rfl)
    (case k_l_sub => first | k_is | rfl)
    (case a_l_mul => first | k_is | rfl)
    (case l_l_mul => first | k_is | rfl)
    (case c_l_mul => first | k_is | rfl)
    (case k_l_mul => first | k_is | rfl)
    (case a_l_div => first | k_is | rfl)
    (case l_l_div => first | k_is | rfl)
    (case c_l_div => first | k_is | rfl)
    (case k_l_div => first | k_is | rfl)
    (case a_l_same => first | k_is | rfl)
    (case l_l_same => first | k_is | rfl)
    (case c_l_same => first | k_is | rfl)
    (case k_l_same => first | k_is | rfl)
    (case a_l_whole => first | k_is | rfl)
    (case l_l_whole => first | k_is | rfl)
    (case c_l_whole => first | k_is | rfl)
    (case k_l_whole => first | k_is | rfl)
    (case a_l_told => first | k_is | rfl)
    (case l_l_told => first | k_is | rfl)
    (case c_l_told => first | k_is | rfl)
    (case k_l_told => first | k_is | rfl)
    (case a_law => first | k_is | rfl)
    (case l_law => first | k_is | rfl)
    (case c_law => first | k_is | rfl)
    (case k_law => first | k_is | rfl)
    (case x_RimError => k_exc)
    (case k_RimError => first | k_is | rfl)
    (case bb_RimError => first | k_is | rfl)
    (case t_RimError => first | k_is | rfl)
    (case d_RimError => first | k_is | rfl)
    (case hg_RimError => first | k_is | rfl)
    (case hk_RimError => first | k_is | rfl)
    (case ha_RimError => first | k_is | rfl)
    (case hm_RimError => first | k_is | rfl)
    (case v_RimError => first | k_is | rfl)
    (case i_RimError_RimError => first | k_is | rfl)
    (case e_RimError_RimError => first | k_is | rfl)
    (case i_RatioError_RimError => first | k_is | rfl)
    (case e_RatioError_RimError => first | k_is | rfl)
    (case x_RatioError => k_exc)
    (case k_RatioError => first | k_is | rfl)
    (case bb_RatioError => first | k_is | rfl)
    (case t_RatioError => first | k_is | rfl)
    (case d_RatioError => first | k_is | rfl)
    (case hg_RatioError => first | k_is | rfl)
    (case hk_RatioError => first | k_is | rfl)
    (case ha_RatioError => first | k_is | rfl)
    (case hm_RatioError => first | k_is | rfl)
    (case v_RatioError => first | k_is | rfl)
    (case i_RimError_RatioError => first | k_is | rfl)
    (case e_RimError_RatioError => first | k_is | rfl)
    (case i_RatioError_RatioError => first | k_is | rfl)
    (case e_RatioError_RatioError => first | k_is | rfl)
    (case hn_ => first | k_is | rfl)
    (case ht_ => first | k_is | rfl)
    (case a_ZERO => first | k_is | rfl)
    (case l_ZERO => first | k_is | rfl)
    (case n_ValueError => first | k_is | rfl)
    (case n_abs => first | k_is | rfl)
    (case n_all => first | k_is | rfl)
    (case n_bool => first | k_is | rfl)
    (case n_int => first | k_is | rfl)
    (case n_isinstance => first | k_is | rfl)
    (case n_len => first | k_is | rfl)
    (case n_list => first | k_is | rfl)
    (case n_range => first | k_is | rfl)
    (case n_str => first | k_is | rfl)
    (case n_tuple => first | k_is | rfl)
    (case g_gcd => first | k_is | rfl)
#print axioms PySem.Challenge.cw_rimohms_k00_ratios_holds
