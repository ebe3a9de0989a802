import PyProof.Rows.All
import Wide.All
import OpenK.AllK
import Wide.FinOn
import HandS.ForMost
import HandS.IsInst
import HandS.Wide
import HandS.Style
import HandS.Walk
import HandS.StrMore
import PyProof.StrBlock2
import PyProof.EqAt
import PyProof.NeKinds
import HandS.Property
import HandS.Gcd
import HandS.OwnEq
import HandS.Defaults
import HandS.Codes
import HandS.Ends
import PyProof.ReprRoads
import HandS.Exc
import HandS.ExcInit
import HandS.ExcOwn
import HandS.WordsExc
import HandS.Lambda
import KE.KExcIs
import KE.KTryMore
import HandS.MakeKwOnly
import HandS.MakeKw
import HandS.Deep
import HandS.NoneIn
import HandS.Strs
import HandS.FStr
import HandS.RaiseMore
import HandS.EndTab
import KE.KNestM
import HandS.ExcIs
import KE.KLam
import PySem.Challenge.RW_lineorigins_k09_versions
set_option Elab.async false
set_option linter.all false
set_option maxRecDepth 100000
set_option maxHeartbeats 4000000
namespace Pk
open PySem PySem.Spec PyProof.Rows L2

theorem same_upd {H : Hp} {p : Addr} {o : HO} (h : H p = none) : Same H (upd H p o) := fun b x e => by
  rw [upd_ne (ne_of_none e h)]
  exact e
theorem Same.get {H H' : Hp} {a : Addr} {o : HO} (e : Same H H') (h : H a = some o) : H' a = some o := e a o h
/-- a new object, the heap behind it forgotten but for what stands -/
theorem al {H : Hp} {o : HO} {Q : VK} (h : ∀ p H', H p = none → Same H H' → H' p = some o → Q (.ref p) H') : ∀ p, H p = none → Q (.ref p) (upd H p o) :=
  fun p hp => h p _ hp (same_upd hp) upd_same

/-! ### the written part by its name -/
section
variable {X : Cx} {K : PySem.W.Frag}
theorem pi_listK (hK : X.K = K) {tg l : Expr} {tl : TE} (hl : PE X l tl) : PI X tg l (iList K tl) := hK ▸ pi_list hl
theorem pi_tupK (hK : X.K = K) {tg l : Expr} {tl : TE} (hl : PE X l tl) : PI X tg l (iTup K tl) := hK ▸ pi_tup hl
end
/-! ### a thing walked in one of two ways -/
theorem pi_or {X : Cx} {tg l : Expr} {w1 w2 : TI} (a : PI X tg l w1) (b : PI X tg l w2) : PI X tg l (fun σ H R => w1 σ H R ∨ w2 σ H R) :=
  ⟨fun pins s σ H R I h => h.elim (a.run pins s σ H R I) (b.run pins s σ H R I)⟩
theorem pe_alt {X : Cx} {e : Expr} {t1 t2 : TE} (a : PE X e t1) (b : PE X e t2) : PE X e (fun σ H Q => t1 σ H Q ∨ t2 σ H Q) :=
  ⟨fun pins s σ H Q I h => h.elim (a.run pins s σ H Q I) (b.run pins s σ H Q I)⟩

/-! ### operators of more than one kind -/
def rAddX (K : PySem.W.Frag) : R2 := fun x y H Q => rI0 (fun i j => .int (i + j)) x y H Q ∨ ((∃ i j, x = .str i ∧ y = .str j ∧ i.length + j.length ≤ sizeLine ∧ Q (.str (i ++ j)) H) ∨ (rCat x y H Q ∨ rCatT K x y H Q))
theorem op_addX {X : Cx} : OpR X (binaryOp .Add) (rAddX X.K) := op_add.or (op_add_str.or (op_cat.or op_catT))
def rEqN : R2 := fun x y H Q => ∃ a b xs ys, x = .ref a ∧ y = .ref b ∧ H a = some (.lst xs) ∧ H b = some (.lst ys) ∧ xs.length ≠ ys.length ∧ Q (.bl false) H
theorem op_eqN {X : Cx} (hu : X.A.units < cLine) : OpR X (compareOp .Eq) rEqN := by
  intro pins s σ H x y v u Q I rx ry h
  obtain ⟨a, b, xs, ys, rfl, rfl, ha, hb, hn, q⟩ := h
  cases (show v = Value.ref a from rx)
  cases (show u = Value.ref b from ry)
  obtain ⟨is, r1, p1, _⟩ := I.list (SqL.of ha)
  obtain ⟨js, r2, p2, _⟩ := I.list (SqL.of hb)
  obtain ⟨o1, n1, e1, c1, _, d1⟩ := p1
  obtain ⟨o2, n2, e2, c2, _, d2⟩ := p2
  refine SeqAt.eq_list_lengthsAt ⟨o1, e1, c1, n1, d1⟩ ⟨o2, e2, c2, n2, d2⟩ ?_ hu ⟨.bl false, H, I, rfl, q⟩
  have l1 := r1.length
  have l2 := r2.length
  simp only [bne_iff_ne, List.size_toArray]
  omega
def rNeN : R2 := fun x y H Q => ∃ a b xs ys, x = .ref a ∧ y = .ref b ∧ H a = some (.lst xs) ∧ H b = some (.lst ys) ∧ xs.length ≠ ys.length ∧ Q (.bl true) H
theorem op_neN {X : Cx} (hu : X.A.units < cLine) : OpR X (compareOp .NotEq) rNeN := by
  intro pins s σ H x y v u Q I rx ry h
  obtain ⟨a, b, xs, ys, rfl, rfl, ha, hb, hn, q⟩ := h
  cases (show v = Value.ref a from rx)
  cases (show u = Value.ref b from ry)
  obtain ⟨is, r1, p1, _⟩ := I.list (SqL.of ha)
  obtain ⟨js, r2, p2, _⟩ := I.list (SqL.of hb)
  obtain ⟨o1, n1, e1, c1, _, d1⟩ := p1
  obtain ⟨o2, n2, e2, c2, _, d2⟩ := p2
  refine SeqAt.RcNeAt.lists_lengths ⟨o1, e1, c1, n1, d1⟩ ⟨o2, e2, c2, n2, d2⟩ ?_ hu X.prog X.w X.xe (EP X pins σ Q) ⟨.bl true, H, I, rfl, q⟩
  have l1 := r1.length
  have l2 := r2.length
  simp only [bne_iff_ne, List.size_toArray]
  omega
def rEqX (K : PySem.W.Frag) : R2 := fun x y H Q => rEq x y H Q ∨ (rEqD K x y H Q ∨ rEqN x y H Q)
theorem op_eqX {X : Cx} (hu : X.A.units + 64 < cLine) : OpR X (compareOp .Eq) (rEqX X.K) := op_eq.or ((op_eqD hu).or (op_eqN (by omega)))
def rNeX (K : PySem.W.Frag) : R2 := fun x y H Q => rNe x y H Q ∨ (rNeD K x y H Q ∨ rNeN x y H Q)
theorem op_neX {X : Cx} (hu : X.A.units + 64 < cLine) : OpR X (compareOp .NotEq) (rNeX X.K) := op_ne.or ((op_neD hu).or (op_neN (by omega)))

def rMuX : R2 := fun x y H Q => rI CMul (fun i j => .int (i * j)) x y H Q ∨ rI CMulW (fun i j => .int (i * j)) x y H Q
theorem op_muI {X : Cx} : OpR X (binaryOp .Mult) rMuX := op_mul.or op_mulW
/-- a text, several times -/
def rRepS : R2 := fun x y H Q => ∃ z k, x = .str z ∧ y = .int k ∧ MulOk z k ∧ Q (.str (Txt.mul z k)) H
theorem op_repS {X : Cx} : OpR X (binaryOp .Mult) rRepS := by
  intro pins s σ H x y v u Q I rx ry h
  obtain ⟨z, k, rfl, rfl, ok, q⟩ := h
  obtain ⟨t, rfl⟩ := rx
  obtain ⟨t2, rfl⟩ := ry
  exact PySem.SB.mul ok fun t' k' => ⟨.str (Txt.mul z k), H, I.tok _, ⟨_, rfl⟩, q⟩
def rMuXX : R2 := fun x y H Q => rMuX x y H Q ∨ (rRepS x y H Q ∨ rRep x y H Q)
theorem op_muX {X : Cx} : OpR X (binaryOp .Mult) rMuXX := op_muI.or (op_repS.or op_rep)
def rLtX : R2 := fun x y H Q => rI0 (fun i j => .bl (decide (i < j))) x y H Q ∨ (∃ i j, x = .str i ∧ y = .str j ∧ Q (.bl (decide (i.cps.toList < j.cps.toList))) H)
theorem op_ltX {X : Cx} : OpR X (compareOp .Lt) rLtX := op_lt.or op_lt_str
def rLeX : R2 := fun x y H Q => rI0 (fun i j => .bl (decide (i ≤ j))) x y H Q ∨ (∃ i j, x = .str i ∧ y = .str j ∧ Q (.bl (!decide (j.cps.toList < i.cps.toList))) H)
theorem op_leX {X : Cx} : OpR X (compareOp .LtE) rLeX := op_le.or op_le_str
def rGtX : R2 := fun x y H Q => rI0 (fun i j => .bl (decide (j < i))) x y H Q ∨ (∃ i j, x = .str i ∧ y = .str j ∧ Q (.bl (decide (j.cps.toList < i.cps.toList))) H)
theorem op_gtX {X : Cx} : OpR X (compareOp .Gt) rGtX := op_gt.or op_gt_str
def rGeX : R2 := fun x y H Q => rI0 (fun i j => .bl (decide (j ≤ i))) x y H Q ∨ (∃ i j, x = .str i ∧ y = .str j ∧ Q (.bl (!decide (i.cps.toList < j.cps.toList))) H)
theorem op_geX {X : Cx} : OpR X (compareOp .GtE) rGeX := op_ge.or op_ge_str
theorem op_fdX {X : Cx} : OpR X (binaryOp .FloorDiv) (rI CDivW fun i j => .int (i / j)) := op_fdivW
def rSlXX (K : PySem.W.Frag) : V → Option Int → Option Int → Hp → VK → Prop := fun x lo hi H Q => rSlL K x lo hi H Q ∨ rSlS x lo hi H Q
theorem sl_X {X : Cx} : SlR X (rSlXX X.K) := sl_list.or sl_str
def rIntX : List V → Hp → VK → Prop := fun xs H Q => ((∃ i, xs = [.int i] ∧ Q (.int i) H) ∨ ∃ k, xs = [.bl k] ∧ Q (.int (if k then 1 else 0)) H) ∨ (∃ a n, xs = [.str a] ∧ PySem.intText? a = some n ∧ a.length ≤ 640 ∧ Q (.int n) H)
theorem call_intX {X : Cx} : CallR X (.type "int") rIntX := call_int1.or call_int_str
def rLenX (K : PySem.W.Frag) : List V → Hp → VK → Prop := fun xs H Q => ∃ x n, xs = [x] ∧ LenV K x H n ∧ Q (.int n) H
theorem call_lenX {X : Cx} : CallR X (.builtin "len") (rLenX X.K) := call_len
def rTupX (K : PySem.W.Frag) : List V → Hp → VK → Prop := fun xs H Q => ∃ p ys, xs = [.ref p] ∧ ((SqL K H p ys ∧ ∀ l, H l = none → Q (.ref l) (upd H l (.tup ys))) ∨ (SqT K H p ys ∧ Q (.ref p) H))
theorem call_tupX {X : Cx} : CallR X (.type "tuple") (rTupX X.K) := call_tuple_of
def tTruX (K : PySem.W.Frag) (ta : TE) : TT := fun σ H Q => ta σ H fun x H' => ∃ k, TruV K x H' k ∧ Q k H'
theorem pt_truK {X : Cx} {K : PySem.W.Frag} (hK : X.K = K) {a : Expr} {ta : TE} (ha : PE X a ta) (he : ∀ whole, isTrue a X.env whole = (do let v ← whole; standAt a.pos; holding [v] (truthy v))) : PT X a (tTruX K ta) := hK ▸ pt_truth ha he
theorem pt_tru {X : Cx} {a : Expr} {ta : TE} (ha : PE X a ta) (he : ∀ whole, isTrue a X.env whole = (do let v ← whole; standAt a.pos; holding [v] (truthy v))) : PT X a (tTruX X.K ta) := pt_truth ha he
theorem pe_gc {X : Cx} {x : Str} {v : V} {pos : Pos} (hg : Gl X x) (h : ∃ u, X.mg x = some u ∧ RelV v u) (hd : (x == ("__debug__" : Str)) = false := by decide) : PE X (.Name x pos) (tC v) := by
  obtain ⟨u, h1, h2⟩ := h
  exact pe_glob hg h1 h2 hd

/-! ### a def of the text, at its name -/
structure DefAt (K : PySem.W.Frag) (mg : Str → Option Value) (x : Str) (st : Stmt) : Prop where
  ex : ∃ f fd, Fun K x x st f fd ∧ mg x = some (.ref f)
/-- how arguments bind: no defaults -/
def Bnd (x : Str) (st : Stmt) (ps : List Str) : Prop := ∀ (kV doc pm : Value) (an : Option Addr) (cdv ct : Value) (us : List Value), us.length = ps.length → bindArgs (PySem.W.fnOf x x (defArgs st) (defBody st) (defScope st) .none kV doc pm an cdv ct) ⟨us, []⟩ = pure (ps.zip us)
section
variable {P : Program} {w : World} {K : PySem.W.Frag} {mg : Str → Option Value} {base : Heap}
/-- a def that may be called by its name -/
structure Cal (P : Program) (w : World) (K : PySem.W.Frag) (mg : Str → Option Value) (base : Heap) (CX : CXT) (k : Nat) (x : Str) (sp : Sp) : Prop where
  ex : ∃ (f : Addr) (fd : FuncData) (ps : List Str), FnOk P w K mg base CX k f fd ps sp ∧ mg x = some (.ref f) ∧ PySem.W.keepIn K (.ref f) = true ∧ Binds K fd ps []
theorem cal0 {x : Str} {st : Stmt} {N ps : List Str} {k : Nat} {sp : Sp} (D : DefAt K mg x st) (S : FnScope N ps (defScope st)) (hb : Bnd x st ps) (len : ∀ vs H Q E, sp vs H Q E → vs.length = ps.length)
    (hbody : ∀ (f : Addr) (cdv : Value) (A : Around) (outer : List Env) (s : Shared) (H : Hp) (vs : List V) (Q : VK) (E : XK), Room k (A.deeper (envOfC x (defScope st) s.heap.objs.size f cdv)) → sp vs H Q E →
      ∃ t, PSs (cxOf CX0 P w K mg base N x (defScope st) f cdv A outer s H E).nox (defBody st) t ∧ t { nx := fun _ H' => Q .non H', rt := Q } (start N vs) H) : Cal P w K mg base CX0 (k + 1) x sp := by
  obtain ⟨f, fd, F, m⟩ := D.ex
  exact ⟨f, fd, ps, F.ok S len (hbody f), m, F.kp, F.binds hb⟩
end
section
variable {X : Cx} {k j : Nat} {x : Str} {sp : Sp} {p pos : Pos} {e : Expr} {es : List Expr} {t : TA}
theorem pe_c {CX : CXT} {E : XK} (c : Cal X.prog X.w X.K X.mg X.base CX k x sp) (hr : Room j X.A) (hk : k ≤ j) (hg : Gl X x) (hx : Passes CX X E) (ha : PA X (e :: es) t)
    (hdb : (x == ("__debug__" : Str)) = false := by decide) (he : starEach (e :: es) X.env = (false, eval e X.env) :: starEach es X.env := by rfl) (hpl : (backTo pos (starEach es X.env)).any (·.1) = false := by rfl) :
    PE X (.Call (.Name x p) (e :: es) [] pos) (tCall sp [] E t) := by
  obtain ⟨f, fd, ps, F, hm, kp, b⟩ := c.ex
  exact pe_call F (hr.mono hk) hg hm kp b .nil hx ha hdb he hpl
end
/-! ### readings, a step at a time -/
def LstK (Q : VK) : List V → Hp → Prop := fun xs H1 => xs.length ≤ sizeLine ∧ ∀ p, H1 p = none → Q (.ref p) (upd H1 p (.lst xs))
def TupK (Q : VK) : List V → Hp → Prop := fun xs H1 => xs.length ≤ sizeLine ∧ ∀ p, H1 p = none → Q (.ref p) (upd H1 p (.tup xs))
section
variable {K : PySem.W.Frag} {σ : L2.St} {H : Hp} {Q : VK} {D : Ends} {ta tb te tc : TE} {t tr : TA} {tt tu : TT} {ts tz tw : TS} {r : R2} {rm : V → List V → Hp → VK → Prop} {v x y : V} {i j : Int}
theorem i_ret (h : te σ H D.rt) : tRet te D σ H := h
theorem i_op (h : ta σ H fun x H1 => tb σ H1 fun y H2 => r x y H2 Q) : tOp r ta tb σ H Q := h
theorem i_un {r : V → Hp → VK → Prop} (h : ta σ H fun x H1 => r x H1 Q) : tUn r ta σ H Q := h
theorem i_var {n : Nat} (h : σ[n]? = some (some v)) (q : Q v H) : tVar n σ H Q := ⟨v, h, q⟩
theorem i_c (q : Q v H) : tC v σ H Q := q
theorem i_cb {r : List V → Hp → VK → Prop} (h : t σ H fun vs H1 => r vs H1 Q) : tCB r t σ H Q := h
theorem i_call {sp : Sp} {dvs : List V} {E : XK} (h : t σ H fun vs H1 => sp (vs ++ dvs) H1 Q E) : tCall sp dvs E t σ H Q := h
theorem i_cons {R : List V → Hp → Prop} (h : te σ H fun x H1 => tr σ H1 fun xs H2 => R (x :: xs) H2) : tCons te tr σ H R := h
theorem i_nil {R : List V → Hp → Prop} (h : R [] H) : tNil σ H R := h
theorem i_seq (h : ts { D with nx := tz D } σ H) : tSeq ts tz D σ H := h
theorem i_next (h : D.nx σ H) : tNext D σ H := h
theorem i_asg {g : TG} (h : te σ H fun x H1 => g x σ H1 D.nx) : tAsg te g D σ H := h
theorem i_name {n : Nat} {R : L2.St → Hp → Prop} (h : R (σ.set n (some v)) H) : gName n v σ H R := h
theorem i_sub {ts : TSet} {R : L2.St → Hp → Prop} (h : ta σ H fun o H1 => tb σ H1 fun i H2 => ts o i v H2 fun H3 => R σ H3) : gSub ta tb ts v σ H R := h
theorem i_drop (h : te σ H fun _ H1 => D.nx σ H1) : tDrop te D σ H := h
theorem i_ifs (h : tt σ H fun b H1 => if b = true then ts D σ H1 else tz D σ H1) : tIfS tt ts tz D σ H := h
theorem i_ife (h : tt σ H fun c H1 => if c = true then ta σ H1 Q else tb σ H1 Q) : tIf tt ta tb σ H Q := h
theorem i_test {R : Bool → Hp → Prop} (h : te σ H fun x H' => ∃ k, x = .bl k ∧ R k H') : tTest te σ H R := h
theorem i_tru {R : Bool → Hp → Prop} (h : te σ H fun x H' => ∃ k, TruV K x H' k ∧ R k H') : tTruX K te σ H R := h
theorem i_and {R : Bool → Hp → Prop} (h : tt σ H fun c H1 => if c = true then tu σ H1 R else R false H1) : tAnd tt tu σ H R := h
theorem i_or {R : Bool → Hp → Prop} (h : tt σ H fun c H1 => if c = true then R true H1 else tu σ H1 R) : tOr tt tu σ H R := h
theorem i_not {R : Bool → Hp → Prop} (h : tt σ H fun c H1 => R (!c) H1) : tNot tt σ H R := h
theorem i_andV (h : ta σ H fun x H1 => ∃ c, x = .bl c ∧ if c = true then tb σ H1 Q else Q (.bl false) H1) : tAndV ta tb σ H Q := h
theorem i_orV (h : ta σ H fun x H1 => ∃ c, x = .bl c ∧ if c = true then Q (.bl true) H1 else tb σ H1 Q) : tOrV ta tb σ H Q := h
theorem i_notV (h : ta σ H fun x H1 => ∃ c, x = .bl c ∧ Q (.bl (!c)) H1) : tNotV ta σ H Q := h
theorem i_bl {b : Bool} {R : Bool → Prop} (h : R b) : ∃ k, V.bl b = .bl k ∧ R k := ⟨b, rfl, h⟩
theorem i_blH {b : Bool} {R : Bool → Hp → Prop} (h : R b H) : ∃ k, V.bl b = .bl k ∧ R k H := ⟨b, rfl, h⟩
theorem i_trB {b : Bool} {R : Bool → Prop} (h : R b) : ∃ k, TruV K (.bl b) H k ∧ R k := ⟨b, rfl, h⟩
theorem i_lstF (h : t σ H (LstK Q)) : tLst t σ H Q := h
theorem i_tupF (h : t σ H (TupK Q)) : tTup t σ H Q := h
theorem p_lstK {xs : List V} (hl : xs.length ≤ sizeLine) (h : ∀ p H', H p = none → Same H H' → H' p = some (.lst xs) → Q (.ref p) H') : LstK Q xs H := ⟨hl, al h⟩
theorem p_tupK {xs : List V} (hl : xs.length ≤ sizeLine) (h : ∀ p H', H p = none → Same H H' → H' p = some (.tup xs) → Q (.ref p) H') : TupK Q xs H := ⟨hl, al h⟩
/-- operators -/
theorem p_addI (q : Q (.int (i + j)) H) : rAddX K (.int i) (.int j) H Q := .inl ⟨i, j, rfl, rfl, q⟩
theorem p_addS {a b : Str} (hl : a.length + b.length ≤ sizeLine) (q : Q (.str (a ++ b)) H) : rAddX K (.str a) (.str b) H Q := .inr (.inl ⟨a, b, rfl, rfl, hl, q⟩)
theorem p_addL {a b : Addr} {xs ys : List V} (h1 : H a = some (.lst xs)) (h2 : H b = some (.lst ys)) (hl : xs.length + ys.length ≤ sizeLine) (q : ∀ p H', H p = none → Same H H' → H' p = some (.lst (xs ++ ys)) → Q (.ref p) H') : rAddX K (.ref a) (.ref b) H Q :=
  .inr (.inr (.inl ⟨a, b, xs, ys, rfl, rfl, h1, h2, hl, al q⟩))
theorem p_I0 {g : Int → Int → V} (q : Q (g i j) H) : rI0 g (.int i) (.int j) H Q := ⟨i, j, rfl, rfl, q⟩
theorem p_I {C : Int → Int → Prop} {g : Int → Int → V} (c : C i j) (q : Q (g i j) H) : rI C g (.int i) (.int j) H Q := ⟨i, j, rfl, rfl, c, q⟩
theorem p_U {g : Int → V} (q : Q (g i) H) : rU g (.int i) H Q := ⟨i, rfl, q⟩
theorem p_muI (c : CMul i j ∨ CMulW i j) (q : Q (.int (i * j)) H) : rMuXX (.int i) (.int j) H Q := c.elim (fun c => .inl (.inl ⟨i, j, rfl, rfl, c, q⟩)) fun c => .inl (.inr ⟨i, j, rfl, rfl, c, q⟩)
theorem p_muS {z : Str} (c : MulOk z j) (q : Q (.str (Txt.mul z j)) H) : rMuXX (.str z) (.int j) H Q := .inr (.inl ⟨z, j, rfl, rfl, c, q⟩)
theorem p_ltI (q : Q (.bl (decide (i < j))) H) : rLtX (.int i) (.int j) H Q := .inl ⟨i, j, rfl, rfl, q⟩
theorem p_leI (q : Q (.bl (decide (i ≤ j))) H) : rLeX (.int i) (.int j) H Q := .inl ⟨i, j, rfl, rfl, q⟩
theorem p_gtI (q : Q (.bl (decide (j < i))) H) : rGtX (.int i) (.int j) H Q := .inl ⟨i, j, rfl, rfl, q⟩
theorem p_geI (q : Q (.bl (decide (j ≤ i))) H) : rGeX (.int i) (.int j) H Q := .inl ⟨i, j, rfl, rfl, q⟩
theorem p_ltS {a b : Str} (q : Q (.bl (decide (a.cps.toList < b.cps.toList))) H) : rLtX (.str a) (.str b) H Q := .inr ⟨a, b, rfl, rfl, q⟩
theorem p_leS {a b : Str} (q : Q (.bl (!decide (b.cps.toList < a.cps.toList))) H) : rLeX (.str a) (.str b) H Q := .inr ⟨a, b, rfl, rfl, q⟩
theorem p_gtS {a b : Str} (q : Q (.bl (decide (b.cps.toList < a.cps.toList))) H) : rGtX (.str a) (.str b) H Q := .inr ⟨a, b, rfl, rfl, q⟩
theorem p_eqI (q : Q (.bl (decide (i = j))) H) : rEqX K (.int i) (.int j) H Q := .inl ⟨rfl, by
  have e : decide (V.int i = V.int j) = decide (i = j) := decide_eq_decide.mpr ⟨fun h => V.int.inj h, fun h => h ▸ rfl⟩
  rw [e]
  exact q⟩
theorem p_neI (q : Q (.bl (!decide (i = j))) H) : rNeX K (.int i) (.int j) H Q := .inl ⟨rfl, by
  have e : decide (V.int i = V.int j) = decide (i = j) := decide_eq_decide.mpr ⟨fun h => V.int.inj h, fun h => h ▸ rfl⟩
  rw [e]
  exact q⟩
theorem p_eqS (s : scal x y = true) (q : Q (.bl (decide (x = y))) H) : rEqX K x y H Q := .inl ⟨s, q⟩
theorem p_neS (s : scal x y = true) (q : Q (.bl (!decide (x = y))) H) : rNeX K x y H Q := .inl ⟨s, q⟩
theorem p_int (q : Q (.int i) H) : rIntX [.int i] H Q := .inl (.inl ⟨i, rfl, q⟩)
theorem p_lenS {z : Str} (hl : z.length ≤ sizeLine) (q : Q (.int z.length) H) : rLenX K [.str z] H Q := ⟨.str z, z.length, rfl, ⟨hl, rfl⟩, q⟩
theorem p_lenL {a : Addr} {xs : List V} (h : SqL K H a xs) (q : Q (.int xs.length) H) : rLenX K [.ref a] H Q := ⟨.ref a, xs.length, rfl, .inl ⟨xs, h, rfl⟩, q⟩
theorem p_lenT {a : Addr} {xs : List V} (h : SqT K H a xs) (q : Q (.int xs.length) H) : rLenX K [.ref a] H Q := ⟨.ref a, xs.length, rfl, .inr ⟨xs, h, rfl⟩, q⟩
theorem p_ixL {a : Addr} {xs : List V} (h : SqL K H a xs) (ha : atI xs i = some v) (q : Q v H) : rIx K (.ref a) (.int i) H Q := .inl ⟨a, xs, i, v, rfl, rfl, h, ha, q⟩
theorem p_ixT {a : Addr} {xs : List V} (h : SqT K H a xs) (ha : atI xs i = some v) (q : Q v H) : rIx K (.ref a) (.int i) H Q := .inr (.inl ⟨a, xs, i, v, rfl, rfl, h, ha, q⟩)
theorem p_ixS {z : Str} {c : Nat} (hl : z.length ≤ sizeLine) (ha : atI z.cps.toList i = some c) (q : Q (.str ⟨#[c]⟩) H) : rIx K (.str z) (.int i) H Q := .inr (.inr ⟨z, i, c, rfl, rfl, hl, ha, q⟩)
theorem p_setL {a : Addr} {xs : List V} {n : Nat} {R : Hp → Prop} (h : H a = some (.lst xs)) (hi : ixN xs.length i = some n) (q : R (upd H a (.lst (xs.set n v)))) : rSetL (.ref a) (.int i) v H R := ⟨a, xs, i, n, rfl, rfl, h, hi, q⟩
theorem i_m1 (h : ta σ H fun x H1 => (∃ a, x = .str a) ∧ tb σ H1 fun y H2 => rm x [y] H2 Q) : tM1 rm ta tb σ H Q := h
theorem i_m0 (h : ta σ H fun x H1 => (∃ a, x = .str a) ∧ rm x [] H1 Q) : tM0 rm ta σ H Q := h
theorem i_str {z : Str} {B : Prop} (h : B) : (∃ a, V.str z = .str a) ∧ B := ⟨⟨z, rfl⟩, h⟩
theorem p_join {z : Str} {a : Addr} {ys : List Str} (h : SqL K H a (ys.map V.str)) (hl : (ys.map (·.length)).sum + ys.length * z.length ≤ 16777216) (q : Q (.str (Txt.join z ys)) H) :
    ∃ a' p, ∃ ys : List Str, V.str z = .str a' ∧ [V.ref a] = [.ref p] ∧ (SqL K H p (ys.map V.str) ∨ SqT K H p (ys.map V.str)) ∧ (ys.map (·.length)).sum + ys.length * a'.length ≤ 16777216 ∧ Q (.str (Txt.join a' ys)) H := ⟨z, a, ys, rfl, rfl, .inl h, hl, q⟩
theorem ift {A B : Prop} {c : Bool} (h1 : c = true → A) (h2 : c = false → B) : if c = true then A else B := by
  cases c with
  | true => exact h1 rfl
  | false => exact h2 rfl
end

/-! ### the pool -/
/-- the pool at p, its numbers at n, at most k draws so far -/
def PoolAt (H : Hp) (p n : Addr) (k : Int) : Prop := ∃ (ns : List Int) (a c z st : Int), H p = some (.lst [.ref n, .int a, .int c, .int z, .int st]) ∧ H n = some (.lst (ns.map V.int)) ∧ 0 ≤ a ∧ 0 ≤ c ∧ c ≤ k ∧ 0 ≤ z ∧ z < 2147483647
/-- what was tracked stands, but for the pool -/
def Keep (p n : Addr) (H H' : Hp) : Prop := ∀ a o, H a = some o → a ≠ p → a ≠ n → H' a = some o
theorem Keep.get {p n a : Addr} {H H' : Hp} {o : HO} (e : Keep p n H H') (h : H a = some o) (h1 : a ≠ p) (h2 : a ≠ n) : H' a = some o := e a o h h1 h2
theorem Keep.refl (p n : Addr) (H : Hp) : Keep p n H H := fun _ _ h _ _ => h
theorem Keep.trans {p n : Addr} {H H1 H2 : Hp} (a : Keep p n H H1) (b : Keep p n H1 H2) : Keep p n H H2 := fun x o h h1 h2 => b x o (a x o h h1 h2) h1 h2
theorem Keep.same {p n : Addr} {H H1 : Hp} (a : Same H H1) : Keep p n H H1 := fun x o h _ _ => a x o h
theorem Keep.upd {p n d : Addr} {H H1 : Hp} {o : HO} (k : Keep p n H H1) (h : H d = none) : Keep p n H (L2.upd H1 d o) := fun x u e h1 h2 => by
  rw [upd_ne (ne_of_none e h)]
  exact k x u e h1 h2
theorem PoolAt.ne {p n a : Addr} {H : Hp} {k : Int} (h : PoolAt H p n k) (e : H a = none) : a ≠ p ∧ a ≠ n := by
  obtain ⟨ns, b, c, z, st, h1, h2, _⟩ := h
  exact ⟨(ne_of_none h1 e).symm, (ne_of_none h2 e).symm⟩
theorem PoolAt.same {p n : Addr} {H H' : Hp} {k : Int} (h : PoolAt H p n k) (e : Same H H') : PoolAt H' p n k := by
  obtain ⟨ns, b, c, z, st, h1, h2, h3⟩ := h
  exact ⟨ns, b, c, z, st, e _ _ h1, e _ _ h2, h3⟩
theorem PoolAt.mono {p n : Addr} {H : Hp} {k j : Int} (h : PoolAt H p n k) (e : k ≤ j) : PoolAt H p n j := by
  obtain ⟨ns, b, c, z, st, h1, h2, h3, h4, h5, h6⟩ := h
  exact ⟨ns, b, c, z, st, h1, h2, h3, h4, by omega, h6⟩
theorem PoolAt.upd {p n d : Addr} {H : Hp} {k : Int} {o : HO} (h : PoolAt H p n k) (h1 : d ≠ p) (h2 : d ≠ n) : PoolAt (L2.upd H d o) p n k := by
  obtain ⟨ns, b, c, z, st, e1, e2, h3⟩ := h
  exact ⟨ns, b, c, z, st, by rw [upd_ne (Ne.symm h1)]; exact e1, by rw [upd_ne (Ne.symm h2)]; exact e2, h3⟩
theorem Same.upd {d : Addr} {H H1 : Hp} {o : HO} (k : Same H H1) (h : H d = none) : Same H (L2.upd H1 d o) := fun x u e => by
  rw [upd_ne (ne_of_none e h)]
  exact k x u e

theorem log_lt {m : Int} (h0 : 0 ≤ m) (h : m < 1000000000000) : m.natAbs.log2 < 9000 := Nat.lt_of_lt_of_le (PySem.Flt.log2_lt_of (k := 64) (by decide) (by
  have e : (2 : Nat) ^ 64 = 18446744073709551616 := by decide
  rw [e]
  omega)) (by decide)
/-! ### slices -/
section
variable {K : PySem.W.Frag} {σ : L2.St} {H : Hp} {Q : VK} {te : TE} {tl th : TO} {lo hi : Option Int}
theorem i_sl {r : V → Option Int → Option Int → Hp → VK → Prop} (h : te σ H fun x H1 => tl σ H1 fun a H2 => th σ H2 fun b H3 => r x a b H3 Q) : tSl r te tl th σ H Q := h
theorem i_np {R : Option Int → Hp → Prop} (h : R none H) : tNoPart σ H R := h
theorem i_pt {R : Option Int → Hp → Prop} (h : te σ H fun x H1 => ∃ i, x = .int i ∧ R (some i) H1) : tPart te σ H R := h
theorem i_in {i : Int} {R : Int → Prop} (h : R i) : ∃ k, V.int i = .int k ∧ R k := ⟨i, rfl, h⟩
theorem p_slL {a : Addr} {xs : List V} (h : SqL K H a xs) (q : ∀ p H', H p = none → Same H H' → H' p = some (.lst (cutV xs lo hi)) → Q (.ref p) H') : rSlXX K (.ref a) lo hi H Q := .inl ⟨a, xs, rfl, h, al q⟩
theorem p_slS {z : Str} (h : z.length ≤ sizeLine) (q : Q (.str (cutS z lo hi)) H) : rSlXX K (.str z) lo hi H Q := .inr ⟨z, rfl, h, q⟩
theorem cutV_to (xs : List V) (k : Nat) : cutV xs none (some (k : Int)) = xs.take k := by
  unfold cutV
  rw [show HT.sIx xs.length 0 none = 0 from HT.sIx_none _ _, HT.sIx_nat]
  rw [List.drop_zero, Nat.sub_zero]
  by_cases h : k ≤ xs.length
  · rw [Nat.min_eq_left h]
  · rw [Nat.min_eq_right (by omega), List.take_length, List.take_of_length_le (by omega)]
theorem cutV_from (xs : List V) (k : Nat) : cutV xs (some (k : Int)) none = xs.drop k := by
  unfold cutV
  rw [HT.sIx_nat, HT.sIx_none]
  by_cases h : k ≤ xs.length
  · rw [Nat.min_eq_left h]
    exact List.take_of_length_le (by rw [List.length_drop]; exact Nat.le_refl _)
  · rw [Nat.min_eq_right (by omega), List.drop_length, List.drop_of_length_le (by omega), List.take_nil]
end

/-! ### comprehensions -/
section
variable {K : PySem.W.Frag} {a D : Addr} {xs : List V} {g : TG} {tt : TT} {te : TE} {vs : List Nat} {σ : L2.St} {H1 : Hp} {Qd : Hp → Prop}
/-- behind i turns: R of the heap, J of the list made so far -/
def LcNx (D : Addr) (R : Nat → Hp → Prop) (J : Nat → List V → Prop) (i : Nat) (H : Hp) : Prop := ∃ acc, H D = some (.lst acc) ∧ R i H ∧ J i acc ∧ acc.length ≤ i
def LcEnd (D : Addr) (R : Nat → Hp → Prop) (J : Nat → List V → Prop) (i : Nat) : VK := fun y H4 => ∃ acc, H4 D = some (.lst acc) ∧ acc.length < sizeLine ∧ LcNx D R J i (upd H4 D (.lst (acc ++ [y])))
def LcTurn (D : Addr) (R : Nat → Hp → Prop) (J : Nat → List V → Prop) (g : TG) (tt : TT) (te : TE) (vs : List Nat) (σ : L2.St) (i : Nat) (x : V) : Prop := ∀ acc H, R i H → J i acc → H D = some (.lst acc) → acc.length ≤ i →
  g x (wipe σ vs) H fun σ2 H2 => wipe σ2 vs = wipe σ vs ∧ tt σ2 H2 fun b H3 => if b = true then te σ2 H3 (LcEnd D R J (i + 1)) else LcNx D R J (i + 1) H3
theorem lc_end {R : Nat → Hp → Prop} {J : Nat → List V → Prop} {i : Nat} {y : V} {H4 : Hp} {acc : List V} (h : H4 D = some (.lst acc)) (hl : acc.length ≤ i) (hi : i < 100000) (r : R (i + 1) (upd H4 D (.lst (acc ++ [y])))) (j : J (i + 1) (acc ++ [y])) : LcEnd D R J (i + 1) y H4 :=
  ⟨acc, h, Nat.lt_of_lt_of_le (by omega) (show 100000 ≤ sizeLine by decide), acc ++ [y], upd_same, r, j, by rw [List.length_append, List.length_singleton]; omega⟩
theorem lc_skip {R : Nat → Hp → Prop} {J : Nat → List V → Prop} {i : Nat} {H4 : Hp} {acc : List V} (h : H4 D = some (.lst acc)) (hl : acc.length ≤ i) (r : R (i + 1) H4) (j : J (i + 1) acc) : LcNx D R J (i + 1) H4 :=
  ⟨acc, h, r, j, by omega⟩
/-- what is asked of the walked thing -/
def LcBody (g : TG) (tt : TT) (te : TE) (vs : List Nat) (σ : L2.St) (Q : VK) : It → Hp → Prop := fun J H1 => tLc (fun _ H R => R J H) g tt te vs σ H1 Q
theorem i_lc {wi : TI} {Q : VK} (h : wi σ H1 (LcBody g tt te vs σ Q)) : tLc wi g tt te vs σ H1 Q := h
/-- a walked thing that gives the items of xs, the heap as it was -/
abbrev WalkX (J : It) (xs : List V) (G : Hp → Prop) : Prop := Walk J xs.length G (YAt xs)
theorem lcw {J : It} {G : Hp → Prop} {Q : VK} (w : WalkX J xs G) (h : ∀ D, H1 D = none → ∃ (R : Nat → Hp → Prop) (Jx : Nat → List V → Prop), R 0 (upd H1 D (.lst [])) ∧ Jx 0 [] ∧ (∀ i H, R i H → G H) ∧ (∀ i x, xs[i]? = some x → LcTurn D R Jx g tt te vs σ i x) ∧
      ∀ acc H, R xs.length H → Jx xs.length acc → H D = some (.lst acc) → acc.length ≤ xs.length → Q (.ref D) H) : LcBody g tt te vs σ Q J H1 := by
  intro D hD
  obtain ⟨R, Jx, r0, j0, hG, ht, hd⟩ := h D hD
  refine lc_it w (LcNx D R Jx) ⟨[], upd_same, r0, j0, Nat.le_refl _⟩ (fun i H _ p => ?_) (fun i x H H' hi p y => ?_) (fun H p => ?_)
  · obtain ⟨acc, _, r, _⟩ := p
    exact hG i H r
  · obtain ⟨acc, e, r, j, l⟩ := p
    obtain ⟨rfl, hx⟩ := y
    exact ht i x hx acc H' r j e l
  · obtain ⟨acc, e, r, j, l⟩ := p
    exact hd acc H r j e l
theorem list_take_more {α : Type} {l : List α} {i : Nat} {x : α} (h : l[i]? = some x) : l.take (i + 1) = l.take i ++ [x] := by
  rw [List.take_add_one, h]
  rfl
/-- pure: the items that p lets through, by f -/
theorem lcw_fm {J : It} {G : Hp → Prop} {Q : VK} {j : Nat} (w : WalkX J xs G) (p : V → Bool) (f : V → V) (hG : ∀ H', Same H1 H' → G H') (hz : xs.length < 100000) (hw : ∀ x, wipe ((wipe σ vs).set j (some x)) vs = wipe σ vs)
    (ht : ∀ x, x ∈ xs → ∀ (H' : Hp) (R : Bool → Hp → Prop), Same H1 H' → (∀ H'', Same H' H'' → R (p x) H'') → tt ((wipe σ vs).set j (some x)) H' R)
    (he : ∀ x, x ∈ xs → p x = true → ∀ (H' : Hp) (R : VK), Same H1 H' → (∀ H'', Same H' H'' → R (f x) H'') → te ((wipe σ vs).set j (some x)) H' R)
    (q : ∀ D H', H1 D = none → Same H1 H' → H' D = some (.lst ((xs.filter p).map f)) → Q (.ref D) H') : LcBody (gName j) tt te vs σ Q J H1 := by
  refine lcw w fun D hD => ⟨fun _ H => Same H1 H, fun i acc => acc = ((xs.take i).filter p).map f, same_upd hD, rfl, fun _ H s => hG H s, fun i x hx acc H s ej e hl => ?_, fun acc H s ej e _ => ?_⟩
  · have hm : x ∈ xs := List.mem_of_getElem? hx
    have hi : i < 100000 := Nat.lt_trans (List.getElem?_eq_some_iff.mp hx).1 hz
    refine ⟨hw x, ht x hm H _ s fun H3 s3 => ?_⟩
    cases hp : p x with
    | true =>
      refine iteT (he x hm hp H3 _ (s.trans s3) fun H4 s4 => ?_)
      have s14 := (s.trans s3).trans s4
      refine lc_end (s4 _ _ (s3 _ _ e)) hl hi (Same.upd s14 hD) ?_
      have ej : acc = ((xs.take i).filter p).map f := ej
      show acc ++ [f x] = ((xs.take (i + 1)).filter p).map f
      rw [list_take_more hx, List.filter_append, List.map_append, ← ej]
      simp [hp]
    | false =>
      refine iteF (lc_skip (s3 _ _ e) hl (s.trans s3) ?_)
      have ej : acc = ((xs.take i).filter p).map f := ej
      show acc = ((xs.take (i + 1)).filter p).map f
      rw [list_take_more hx, List.filter_append, List.map_append, ← ej]
      simp [hp]
  · have ej : acc = ((xs.take xs.length).filter p).map f := ej
    rw [List.take_length] at ej
    exact q D H hD s (by rw [← ej]; exact e)
/-- with draws: R tells the pool's state, J the list -/
theorem lcw_pool {J : It} {G : Hp → Prop} {Q : VK} {j : Nat} {p n : Addr} {k d : Int} (w : WalkX J xs G) (Jx : Nat → List V → Prop) (hP : PoolAt H1 p n k) (hG : ∀ H', Keep p n H1 H' → G H') (hz : xs.length < 100000) (hw : ∀ x, wipe ((wipe σ vs).set j (some x)) vs = wipe σ vs) (j0 : Jx 0 [])
    (he : ∀ i x acc, xs[i]? = some x → Jx i acc → ∀ (H' : Hp) (R : VK), Keep p n H1 H' → PoolAt H' p n (k + i * d) → (∀ y H'', Keep p n H' H'' → PoolAt H'' p n (k + (i + 1 : Nat) * d) → Jx (i + 1) (acc ++ [y]) → R y H'') → te ((wipe σ vs).set j (some x)) H' R)
    (q : ∀ D H' acc, H1 D = none → Keep p n H1 H' → PoolAt H' p n (k + xs.length * d) → Jx xs.length acc → acc.length ≤ xs.length → H' D = some (.lst acc) → Q (.ref D) H') : LcBody (gName j) tYes te vs σ Q J H1 := by
  refine lcw w fun D hD => ⟨fun i H => Keep p n H1 H ∧ PoolAt H p n (k + i * d), Jx, ⟨(Keep.refl p n H1).upd hD, ?_⟩, j0, fun _ H s => hG H s.1, fun i x hx acc H s ej e hl => ?_, fun acc H s ej e hl => q D H acc hD s.1 s.2 ej hl e⟩
  · have z : PoolAt (L2.upd H1 D (.lst [])) p n k := hP.upd (hP.ne hD).1 (hP.ne hD).2
    exact z.mono (by simp)
  · have hi : i < 100000 := Nat.lt_trans (List.getElem?_eq_some_iff.mp hx).1 hz
    refine ⟨hw x, ?_⟩
    have goal : te ((wipe σ vs).set j (some x)) H (LcEnd D (fun i H => Keep p n H1 H ∧ PoolAt H p n (k + i * d)) Jx (i + 1)) := he i x acc hx ej H _ s.1 s.2 fun y H4 s4 p4 j4 => by
      have e4 := s4 _ _ e (hP.ne hD).1 (hP.ne hD).2
      exact lc_end e4 hl hi ⟨(s.1.trans s4).upd hD, p4.upd (hP.ne hD).1 (hP.ne hD).2⟩ j4
    exact goal
theorem p_lcL {Q : VK} {xs : List V} (h : SqL K H1 a xs) (q : LcBody g tt te vs σ Q (Itl K a) H1) : ∃ a', V.ref a = .ref a' ∧ (∃ xs, SqL K H1 a' xs) ∧ LcBody g tt te vs σ Q (Itl K a') H1 := ⟨a, rfl, ⟨xs, h⟩, q⟩
theorem p_lcT {Q : VK} {xs : List V} (h : SqT K H1 a xs) (q : LcBody g tt te vs σ Q (Itt K a) H1) : ∃ a', V.ref a = .ref a' ∧ (∃ xs, SqT K H1 a' xs) ∧ LcBody g tt te vs σ Q (Itt K a') H1 := ⟨a, rfl, ⟨xs, h⟩, q⟩
end
/-! ### walked things -/
section
variable {K : PySem.W.Frag} {a : Addr} {xs : List V} {σ : L2.St} {H : Hp} {R : It → Hp → Prop} {te : TE} {ta : TA}
theorem i_itl (h : te σ H fun x H1 => ∃ a, x = .ref a ∧ (∃ xs, SqL K H1 a xs) ∧ R (Itl K a) H1) : iList K te σ H R := h
theorem i_itt (h : te σ H fun x H1 => ∃ a, x = .ref a ∧ (∃ xs, SqT K H1 a xs) ∧ R (Itt K a) H1) : iTup K te σ H R := h
theorem i_itr (h : ta σ H fun vs H1 => ∃ j : Int, vs = [.int j] ∧ -(2 ^ 62) ≤ j ∧ j < 2 ^ 62 ∧ R (Itr 0 j.toNat) H1) : iRng1 ta σ H R := h
theorem i_its (h : te σ H fun v H1 => ∃ x, v = .str x ∧ R (Its x) H1) : iStr te σ H R := h
theorem p_itl {R : Addr → Prop} (h : SqL K H a xs) (q : R a) : ∃ a', V.ref a = .ref a' ∧ (∃ xs, SqL K H a' xs) ∧ R a' := ⟨a, rfl, ⟨xs, h⟩, q⟩
theorem p_itt {R : Addr → Prop} (h : SqT K H a xs) (q : R a) : ∃ a', V.ref a = .ref a' ∧ (∃ xs, SqT K H a' xs) ∧ R a' := ⟨a, rfl, ⟨xs, h⟩, q⟩
theorem p_itr {R : Int → Prop} {i : Int} (h1 : -(2 ^ 62) ≤ i) (h2 : i < 2 ^ 62) (q : R i) : ∃ j, [V.int i] = [.int j] ∧ -(2 ^ 62) ≤ j ∧ j < 2 ^ 62 ∧ R j := ⟨i, rfl, h1, h2, q⟩
theorem p_its {R : Str → Prop} {z : Str} (q : R z) : ∃ x, V.str z = .str x ∧ R x := ⟨z, rfl, q⟩
/-- the signs of a text, each a text -/
def chars (z : Str) : List V := z.cps.toList.map fun c => V.str ⟨#[c]⟩
def intsV (n : Nat) : List V := (List.range n).map fun i : Nat => V.int i
theorem intsV_len (n : Nat) : (intsV n).length = n := by simp [intsV]
theorem chars_len (z : Str) : (chars z).length = z.length := by simp [chars, Str.length]
theorem wx_list : WalkX (Itl K a) xs (fun H => SqL K H a xs) := walk_list
theorem wx_tup : WalkX (Itt K a) xs (fun H => SqT K H a xs) := walk_tup
theorem wx_range {n : Nat} : WalkX (Itr 0 n) (intsV n) (fun _ => True) := by
  unfold WalkX
  rw [intsV_len]
  refine walk_range.mono (fun _ h => h) fun i H x H' hi _ y => ⟨y.1, ?_⟩
  rw [y.2, intsV, List.getElem?_map, List.getElem?_range hi]
  simp
theorem wx_str {z : Str} : WalkX (Its z) (chars z) (fun _ => True) := by
  have e : (chars z).length = z.cps.size := by simp [chars]
  unfold WalkX
  rw [e]
  refine walk_str.mono (fun _ h => h) fun i H x H' hi _ y => ⟨y.1, ?_⟩
  obtain ⟨c, hc, rfl⟩ := y.2
  rw [chars, List.getElem?_map, Array.getElem?_toList, hc]
  rfl
/-! ### for -/
def FoBody (g : TG) (tb : TS) (D : Ends) (σ : L2.St) : It → Hp → Prop := fun J H1 => tFor (fun _ H R => R J H) g tb D σ H1
theorem i_for {wi : TI} {g : TG} {tb : TS} {D : Ends} (h : wi σ H (FoBody g tb D σ)) : tFor wi g tb D σ H := h
theorem fow {J : It} {G : Hp → Prop} {g : TG} {tb : TS} {D : Ends} (w : WalkX J xs G) (Pv : Nat → L2.St → Hp → Prop) (h0 : Pv 0 σ H) (hG : ∀ i σ H, Pv i σ H → G H)
    (hs : ∀ i x σ H, xs[i]? = some x → Pv i σ H → g x σ H fun σ2 H2 => tb { D with nx := Pv (i + 1), ct := Pv (i + 1), bk := D.nx } σ2 H2) (hd : ∀ σ H, Pv xs.length σ H → D.nx σ H) : FoBody g tb D σ J H :=
  for_it w Pv h0 (fun i σ H _ p => hG i σ H p) (fun i x σ H H' _ p y => by
    obtain ⟨rfl, hx⟩ := y
    exact hs i x σ H' hx p) hd
end
end Pk

namespace Pk
open PySem PySem.Spec PyProof.Rows L2
/-! ### kinds of plain values -/
inductive Kn where | non | bl | int | str | lst | tup | dct
  deriving DecidableEq
def Kn.is : Kn → Kn → Bool
  | .bl, .int => true
  | a, b => a == b
inductive Kd (H : Hp) : V → Kn → Prop where
  | non : Kd H .non .non
  | bl (b : Bool) : Kd H (.bl b) .bl
  | int (i : Int) : Kd H (.int i) .int
  | str (z : Str) (h : z.length ≤ 10000) : Kd H (.str z) .str
  | lst {a : Addr} {xs : List V} (e : H a = some (.lst xs)) : Kd H (.ref a) .lst
  | tup {a : Addr} {xs : List V} (e : H a = some (.tup xs)) : Kd H (.ref a) .tup
  | dct {a : Addr} {kvs : List (Key × V)} (e : H a = some (.dK kvs)) : Kd H (.ref a) .dct
theorem Kd.same {H H' : Hp} {x : V} {k : Kn} (s : Same H H') (h : Kd H x k) : Kd H' x k := by
  cases h with
  | non => exact .non
  | bl b => exact .bl b
  | int i => exact .int i
  | str z h => exact .str z h
  | lst e => exact .lst (s _ _ e)
  | tup e => exact .tup (s _ _ e)
  | dct e => exact .dct (s _ _ e)
def Kn.nm : Kn → String
  | .non => "NoneType" | .bl => "bool" | .int => "int" | .str => "str" | .lst => "list" | .tup => "tuple" | .dct => "dict"
theorem kit_nm (a c : Kn) (hc : c ≠ .non) : kitB a.nm c.nm = some (a.is c) := by
  cases a <;> cases c <;> first | exact absurd rfl hc | decide +kernel
theorem Kd.tyx {K : PySem.W.Frag} {H : Hp} {x : V} {k : Kn} (h : Kd H x k) : TyX K H x (.type k.nm) := by
  cases h with
  | non => exact .base .non
  | bl b => exact .base (.bl b)
  | int i => exact .base (.int i)
  | str z _ => exact .base (.str z)
  | lst e => exact .base (.lst e)
  | tup e => exact .base (.tup e)
  | dct e => exact .base (.dK e)
section
variable {K : PySem.W.Frag} {σ : L2.St} {H : Hp} {Q : VK} {x : V} {a : Kn}
theorem p_isi (c : Kn) (hc : c ≠ .non) (h : Kd H x a) (q : Q (.bl (a.is c)) H) : rIsi K [x, .ty c.nm] H Q := ⟨x, .ty c.nm, .type a.nm, .type c.nm, a.is c, rfl, .ty _, h.tyx, kit_ty (kit_nm a c hc), q⟩
theorem p_isStr (h : Kd H x a) (q : Q (.bl (a.is .str)) H) : rIsi K [x, .ty "str"] H Q := p_isi .str (by decide) h q
theorem p_isInt (h : Kd H x a) (q : Q (.bl (a.is .int)) H) : rIsi K [x, .ty "int"] H Q := p_isi .int (by decide) h q
theorem p_isBool (h : Kd H x a) (q : Q (.bl (a.is .bl)) H) : rIsi K [x, .ty "bool"] H Q := p_isi .bl (by decide) h q
theorem p_isi2 (c d : Kn) (hc : c ≠ .non) (hd : d ≠ .non) {t : Addr} (ht : H t = some (.tup [.ty c.nm, .ty d.nm])) (h : Kd H x a) (q : Q (.bl (a.is c || a.is d)) H) : rIsiT K [x, .ref t] H Q := by
  refine ⟨x, t, _, .type a.nm, [.type c.nm, .type d.nm], a.is c || a.is d, rfl, ht, .cons (.ty _) (.cons (.ty _) .nil), h.tyx, ?_, q⟩
  refine kitAny_cons (kit_ty (kit_nm a c hc)) (fun h1 => ?_) (fun h1 => by rw [h1]; rfl)
  refine kitAny_cons (kit_ty (kit_nm a d hd)) (fun h2 => ?_) (fun h2 => by rw [h2, Bool.or_true])
  rw [h1, h2]
  exact kitAny_nil
theorem p_isLT {t : Addr} (ht : H t = some (.tup [.ty "list", .ty "tuple"])) (h : Kd H x a) (q : Q (.bl (a.is .lst || a.is .tup)) H) : rIsiT K [x, .ref t] H Q := p_isi2 .lst .tup (by decide) (by decide) ht h q
/-! ### all, chains, truth -/
theorem p_all {p : Addr} {bs : List Bool} (h : SqL K H p (bs.map V.bl)) (q : Q (.bl (bs.all id)) H) : rAll K [.ref p] H Q := ⟨p, bs, rfl, h, q⟩
theorem i_chain {r r' : R2} {ta tb tc : TE} (h : ta σ H fun x H1 => tb σ H1 fun y H2 => r x y H2 fun z H3 => ∃ k, z = .bl k ∧ (if k = true then tc σ H3 fun w' H4 => r' y w' H4 Q else Q (.bl false) H3)) : tChain r r' ta tb tc σ H Q := h
theorem sign_lt (c d : Nat) : decide ((#[c] : Array Nat).toList < (#[d] : Array Nat).toList) = decide (c < d) := by
  apply decide_eq_decide.mpr
  constructor
  · intro h
    rcases h with h | h | ⟨h, h2⟩
    · exact h
  · intro h
    exact .rel h
/-! ### == [] over texts -/
theorem dp_strs {ys : List Str} : DpAll K H (ys.map V.str) (ys.map PyData.str) := by
  induction ys with
  | nil => exact .nil
  | cons y r ih => exact .cons (.str y) ih
theorem lay_strs : ∀ ys : List Str, (∀ y ∈ ys, PyData.strOk y = true) → PyData.canLayAll0 (ys.map PyData.str) = true
  | [], _ => by simp [PyData.canLayAll0]
  | y :: r, h => by
    have ih := lay_strs r fun z hz => h z (List.mem_cons_of_mem _ hz)
    simp [PyData.canLayAll0, PyData.canLay0, ih, h y List.mem_cons_self]
theorem dep_strs : ∀ ys : List Str, PyData.depthAll (ys.map PyData.str) = 0
  | [] => by simp [PyData.depthAll]
  | y :: r => by
    have ih := dep_strs r
    simp [PyData.depthAll, PyData.depth, ih]
theorem sh_strs {ys : List Str} (h : ∀ y ∈ ys, PyData.strOk y = true) : SeqAt.shaped (.list (ys.map PyData.str)) = true := by
  unfold SeqAt.shaped
  simp [PyData.canLay0, lay_strs ys h, PyData.depth, dep_strs]
theorem eqv_nil (ys : List Str) : PyData.eqv (.list (ys.map PyData.str)) (.list []) = ys.isEmpty := by
  cases ys <;> simp [PyData.eqv, PyData.eqvAll]
theorem p_eqNil {p r : Addr} {xs : List V} (h1 : H p = some (.lst xs)) (h2 : H r = some (.lst [])) (q : Q (.bl xs.isEmpty) H) : rEqX K (.ref p) (.ref r) H Q := by
  cases xs with
  | nil => exact .inr (.inl ⟨.list [], .list [], .lst (SqL.of h1) .nil, .lst (SqL.of h2) .nil, by decide +kernel, by decide +kernel, by
      have e : PyData.eqv (.list []) (.list []) = true := by decide +kernel
      rw [e]
      exact q⟩)
  | cons x r' => exact .inr (.inr ⟨p, r, _, _, rfl, rfl, h1, h2, by simp, q⟩)
theorem p_neNil {p r : Addr} {xs : List V} (h1 : H p = some (.lst xs)) (h2 : H r = some (.lst [])) (q : Q (.bl (!xs.isEmpty)) H) : rNeX K (.ref p) (.ref r) H Q := by
  cases xs with
  | nil => exact .inr (.inl ⟨.list [], .list [], .lst (SqL.of h1) .nil, .lst (SqL.of h2) .nil, by decide +kernel, by decide +kernel, by
      have e : PyData.eqv (.list []) (.list []) = true := by decide +kernel
      rw [e]
      exact q⟩)
  | cons x r' => exact .inr (.inr ⟨p, r, _, _, rfl, rfl, h1, h2, by simp, q⟩)
/-! ### texts -/
theorem foldl_app (cs : List Nat) : ∀ acc : Array Nat, (cs.map fun c => (⟨#[c]⟩ : Str)).foldl (fun acc p => acc ++ (⟨#[]⟩ : Str).cps ++ p.cps) acc = acc ++ cs.toArray := by
  induction cs with
  | nil => intro acc; simp
  | cons c r ih =>
    intro acc
    rw [List.map_cons, List.foldl_cons, ih]
    simp
theorem join_chars (cs : List Nat) : Txt.join Str.empty (cs.map fun c => (⟨#[c]⟩ : Str)) = ⟨cs.toArray⟩ := by
  cases cs with
  | nil => rfl
  | cons c r =>
    show Builtin.Str.glued _ _ = _
    unfold Builtin.Str.glued
    have e := foldl_app r #[c]
    refine congrArg Str.mk ?_
    rw [List.map_cons, List.drop_one, List.tail_cons]
    refine Eq.trans e ?_
    simp
theorem ifT' {c : Bool} {A B : Prop} (h : c = true) (a : A) : if c = true then A else B := by rw [if_pos h]; exact a
theorem ifF' {c : Bool} {A B : Prop} (h : c = false) (b : B) : if c = true then A else B := by rw [h]; exact iteF b
def plainB (z : Str) : Bool := z.cps.toList.all fun c => decide (32 ≤ c) && decide (c ≤ 126)
def lineB : V → Bool
  | .str z => decide (z.length ≤ 40) && plainB z
  | _ => false
theorem cut_to (z : Str) (k : Nat) : cutS z none (some (k : Int)) = ⟨(z.cps.toList.take k).toArray⟩ := by
  unfold cutS
  rw [show HT.sIx z.length 0 none = 0 from HT.sIx_none _ _, HT.sIx_nat, List.drop_zero, Nat.sub_zero]
  have e : z.length = z.cps.toList.length := by simp [Str.length]
  by_cases h : k ≤ z.length
  · rw [Nat.min_eq_left h]
  · rw [Nat.min_eq_right (by omega), List.take_of_length_le (by omega), List.take_of_length_le (by omega)]
theorem cut_from (z : Str) (k : Nat) : cutS z (some (k : Int)) none = ⟨(z.cps.toList.drop k).toArray⟩ := by
  unfold cutS
  have e : z.length = z.cps.toList.length := by simp [Str.length]
  rw [HT.sIx_nat, HT.sIx_none]
  by_cases h : k ≤ z.length
  · rw [Nat.min_eq_left h, List.take_of_length_le (by rw [List.length_drop]; omega)]
  · rw [Nat.min_eq_right (by omega), List.drop_of_length_le (by omega), List.drop_of_length_le (by omega), List.take_nil]
theorem app_cps (a b : Str) : (a ++ b).cps.toList = a.cps.toList ++ b.cps.toList := by
  show (a.cps ++ b.cps).toList = _
  simp
theorem app_len (a b : Str) : (a ++ b).length = a.length + b.length := by
  show (a.cps ++ b.cps).size = _
  simp [Str.length]
theorem sum_ones (cs : List Nat) : ((cs.map fun c => (⟨#[c]⟩ : Str)).map (·.length)).sum = cs.length := by
  induction cs with
  | nil => rfl
  | cons c r ih =>
    rw [List.map_cons, List.map_cons, List.sum_cons, ih, List.length_cons]
    show 1 + r.length = r.length + 1
    omega
/-! ### kinds beside the pool -/
def KdP (p n : Addr) (H : Hp) (x : V) (k : Kn) : Prop := Kd H x k ∧ ∀ b, x = .ref b → b ≠ p ∧ b ≠ n
theorem KdP.keep {p n : Addr} {H H' : Hp} {x : V} {k : Kn} (e : Keep p n H H') (h : KdP p n H x k) : KdP p n H' x k := by
  obtain ⟨h, hb⟩ := h
  refine ⟨?_, hb⟩
  cases h with
  | non => exact .non
  | bl b => exact .bl b
  | int i => exact .int i
  | str z h => exact .str z h
  | lst q => exact .lst (e _ _ q (hb _ rfl).1 (hb _ rfl).2)
  | tup q => exact .tup (e _ _ q (hb _ rfl).1 (hb _ rfl).2)
  | dct q => exact .dct (e _ _ q (hb _ rfl).1 (hb _ rfl).2)
theorem KdP.same {p n : Addr} {H H' : Hp} {x : V} {k : Kn} (e : Same H H') (h : KdP p n H x k) : KdP p n H' x k := ⟨h.1.same e, h.2⟩
theorem KdP.flat {p n : Addr} {H : Hp} {x : V} {k : Kn} (h : Kd H x k) (hx : ∀ b, x ≠ .ref b) : KdP p n H x k := ⟨h, fun b e => absurd e (hx b)⟩
theorem two_at {x y : V} {r : Int} (h0 : 0 ≤ r) (h1 : r < 2) : ∃ v, (v = x ∨ v = y) ∧ atI [x, y] r = some v := by
  have h : r = 0 ∨ r = 1 := by omega
  rcases h with rfl | rfl
  · exact ⟨x, .inl rfl, rfl⟩
  · exact ⟨y, .inr rfl, rfl⟩
theorem at_lt {xs : List V} {r : Int} (h0 : 0 ≤ r) (h1 : r < xs.length) : ∃ v, v ∈ xs ∧ atI xs r = some v := by
  have h : r.toNat < xs.length := by omega
  exact ⟨xs[r.toNat], List.getElem_mem h, at_of (j := r.toNat) (by omega) (List.getElem?_eq_getElem h)⟩
theorem intsV_at {n i : Nat} {x : V} (h : (intsV n)[i]? = some x) : i < n ∧ x = .int i := by
  have hi : i < n := by
    have := (List.getElem?_eq_some_iff.mp h).1
    rwa [intsV_len] at this
  rw [intsV, List.getElem?_map, List.getElem?_range hi] at h
  exact ⟨hi, (Option.some.inj h).symm⟩
theorem cutS_len (z : Str) (lo hi : Option Int) : (cutS z lo hi).length ≤ z.length := cutS_length z lo hi
/-- the empty dict -/
theorem p_dnew {R : VK} (q : ∀ d H', H d = none → Same H H' → H' d = some (.dK []) → R (.ref d) H') : ∀ d, H d = none → R (.ref d) (upd H d (.dK [])) := fun d hd => q d _ hd (same_upd hd) upd_same
theorem p_tupL {p : Addr} {xs : List V} (h : SqL K H p xs) (q : ∀ d H', H d = none → Same H H' → H' d = some (.tup xs) → Q (.ref d) H') : rTupX K [.ref p] H Q := ⟨p, xs, rfl, .inl ⟨h, al q⟩⟩
theorem i_dnew (q : ∀ d H', H d = none → Same H H' → H' d = some (.dK []) → Q (.ref d) H') : tDNewK σ H Q := p_dnew q
theorem mem_cutV {xs : List V} {lo hi : Option Int} {x : V} (h : x ∈ cutV xs lo hi) : x ∈ xs := List.mem_of_mem_drop (List.mem_of_mem_take h)
theorem all_filter {α : Type} (p : α → Bool) (xs : List α) : xs.all p = (xs.filter fun x => !p x).isEmpty := by
  induction xs with
  | nil => rfl
  | cons x r ih =>
    rw [List.all_cons, List.filter_cons, ih]
    cases p x <;> simp
theorem p_notB {a b : Bool} (q : Q (.bl (!decide (a = b))) H) : rNotB (.bl a) (.bl b) H Q := ⟨a, b, rfl, rfl, q⟩
theorem p_isB {a b : Bool} (q : Q (.bl (decide (a = b))) H) : rIsB (.bl a) (.bl b) H Q := ⟨a, b, rfl, rfl, q⟩
end
end Pk

/-! own operators -/
namespace Pk
open PySem PySem.Spec PyProof.Rows L2
/-! ### an int asked first declines -/
theorem int_lt_ref (a : Int) (t : Tok) (x C dx : Addr) : Meets (Builtin.«int.__lt__» ⟨[.int a t, .ref x], []⟩) (fun _ R s => s.heap.get? x = some (PySem.W.instObj C dx) ∧ R (.ok (.ret .notImplemented)) s) :=
  .of_wp fun prog w A R s h => by
    obtain ⟨hp, g, d, tk, os⟩ := s
    obtain ⟨hl, h⟩ := h
    unfold PySem.W.instObj at hl
    wp_walk using PySem.AutoSeq1.wpAny_loadPart' hl
    exact ⟨_, rfl, h⟩
theorem int_le_ref (a : Int) (t : Tok) (x C dx : Addr) : Meets (Builtin.«int.__le__» ⟨[.int a t, .ref x], []⟩) (fun _ R s => s.heap.get? x = some (PySem.W.instObj C dx) ∧ R (.ok (.ret .notImplemented)) s) :=
  .of_wp fun prog w A R s h => by
    obtain ⟨hp, g, d, tk, os⟩ := s
    obtain ⟨hl, h⟩ := h
    unfold PySem.W.instObj at hl
    wp_walk using PySem.AutoSeq1.wpAny_loadPart' hl
    exact ⟨_, rfl, h⟩
theorem int_gt_ref (a : Int) (t : Tok) (x C dx : Addr) : Meets (Builtin.«int.__gt__» ⟨[.int a t, .ref x], []⟩) (fun _ R s => s.heap.get? x = some (PySem.W.instObj C dx) ∧ R (.ok (.ret .notImplemented)) s) :=
  .of_wp fun prog w A R s h => by
    obtain ⟨hp, g, d, tk, os⟩ := s
    obtain ⟨hl, h⟩ := h
    unfold PySem.W.instObj at hl
    wp_walk using PySem.AutoSeq1.wpAny_loadPart' hl
    exact ⟨_, rfl, h⟩
theorem int_ge_ref (a : Int) (t : Tok) (x C dx : Addr) : Meets (Builtin.«int.__ge__» ⟨[.int a t, .ref x], []⟩) (fun _ R s => s.heap.get? x = some (PySem.W.instObj C dx) ∧ R (.ok (.ret .notImplemented)) s) :=
  .of_wp fun prog w A R s h => by
    obtain ⟨hp, g, d, tk, os⟩ := s
    obtain ⟨hl, h⟩ := h
    unfold PySem.W.instObj at hl
    wp_walk using PySem.AutoSeq1.wpAny_loadPart' hl
    exact ⟨_, rfl, h⟩
theorem int_eq_ref (a : Int) (t : Tok) (x C dx : Addr) : Meets (Builtin.«int.__eq__» ⟨[.int a t, .ref x], []⟩) (fun _ R s => s.heap.get? x = some (PySem.W.instObj C dx) ∧ R (.ok (.ret .notImplemented)) s) :=
  .of_wp fun prog w A R s h => by
    obtain ⟨hp, g, d, tk, os⟩ := s
    obtain ⟨hl, h⟩ := h
    unfold PySem.W.instObj at hl
    wp_walk using PySem.AutoSeq1.wpAny_loadPart' hl
    exact ⟨_, rfl, h⟩
theorem int_ne_ref (a : Int) (t : Tok) (x C dx : Addr) : Meets (Builtin.«int.__ne__» ⟨[.int a t, .ref x], []⟩) (fun _ R s => s.heap.get? x = some (PySem.W.instObj C dx) ∧ R (.ok (.ret .notImplemented)) s) :=
  .of_wp fun prog w A R s h => by
    obtain ⟨hp, g, d, tk, os⟩ := s
    obtain ⟨hl, h⟩ := h
    unfold PySem.W.instObj at hl
    wp_walk using PySem.AutoSeq1.wpAny_loadPart' hl
    exact ⟨_, rfl, h⟩
section
variable {prog : Program} {w : World} {A : Around} {E : Value → Shared → Prop} {s : Shared} {K : PySem.W.Frag} {x C dx f : Addr} {od : Option Obj} {i : Int} {t : Tok}
/-- int op instance: the int declines, the class's own reflected method answers -/
theorem cmp_refl {op : CmpOp} {ida : String} {B : Builtin} {Q : Value → Shared → Prop} (hu : A.units < cLine) (X : K.In s.heap) (I : PySem.W.InstAt s.heap x (PySem.W.instObj C dx) C od) (hsub : PySem.W.subIn K (.ref C) (.type "int") = some false)
    (h1 : Slot "int" (cmpInfo op).2.1 ida) (he : entryFor table ida = some B) (ha : argsOk ida ⟨[.int i t, .ref x], []⟩)
    (hm : Meets (B ⟨[.int i t, .ref x], []⟩) (fun _ R s => s.heap.get? x = some (PySem.W.instObj C dx) ∧ R (.ok (.ret .notImplemented)) s))
    (hs : PySem.W.findIn K (.ref C) (cmpInfo op).2.2 = some (some (.ref f))) (hf : PySem.W.isFn K (.ref f) = true)
    (h : wpAny (model prog w) A (call (.ref f) [.ref x, .int i t]) (PySem.W.CmpBack Q) E s) : wpAny (model prog w) A (richCompare op (.int i t) (.ref x)) Q E s := by
  have two : wpAny (model prog w) A (tryCompare (.ref x) (cmpInfo op).2.2 (.int i t)) (fun r s' => ∃ v, r = some v ∧ Q v s') E s := by
    unfold tryCompare
    refine wpAny_bind (PySem.W.ifBound_K X I hs hf (wpAny_mono h (fun v s' hv => ?_) fun _ _ e => e))
    cases v <;> first | exact hv.elim | exact wpAny_pure ⟨_, rfl, hv⟩
  have ti : s.TypeIs (.int i t) "int" := typeIs_int s i t
  rcases hi : cmpInfo op with ⟨sym, g, r⟩
  rw [hi] at h1 two
  simp only [richCompare, hi, ti.oneThing_none]
  refine wpAny_holding ?_
  refine wpAny_bind (wpAny_cRoomFor hu ?_)
  refine wpAny_bind (wpAny_typeOf ti (wpAny_bind (I.type.here ?_)))
  have hne : (Value.type "int" != Value.ref C) = true := by simp
  simp only [hne, if_true]
  refine wpAny_bind ((PySem.W.looks_subIn X hsub).here ?_)
  simp only [Bool.false_eq_true, if_false, Bool.not_false, if_true]
  refine wpAny_bind (m := tryCompare (.int i t) _ (.ref x)) (wpAny_tryCompare_declines ti h1 (call_meets h1 ti he ha hm ⟨I.at_, rfl, ?_⟩))
  refine wpAny_bind (m := tryCompare (.ref x) _ (.int i t)) (wpAny_mono two (fun r s' z => ?_) fun _ _ e => e)
  obtain ⟨v, rfl, hq⟩ := z
  exact wpAny_pure hq
end

/-! ### the same as rules -/
section
variable {X : Cx} {k : Nat} {C f : Addr} {fd : FuncData} {ps : List Str} {sp : Sp}
theorem run_own {pins : List (Addr × Obj)} {σ : L2.St} {H : Hp} {s : Shared} {Q : VK} {us : List Value} {vs : List V} (F : FnOk X.prog X.w X.K X.mg X.base CX0 k f fd ps sp) (hb : Binds X.K fd ps []) (hr : Room k X.A) (I : Inv X pins σ H s) (r : Vals vs us) (h : sp vs H Q E0) :
    wpAny (model X.prog X.w) X.A (call (.ref f) us) (EP X pins σ Q) X.xe s := by
  have hl : us.length = ps.length := by rw [← F.len _ _ _ _ h, r.length]
  have hb' := hb s us I.kIn (by simpa using hl)
  rw [List.append_nil] at hb'
  refine wpAny_call (codeAny_mono (F.run X.A X.stack s H ⟨us, []⟩ us vs Q E0 hr I.env0 hb' r h) fun r s' hq => ?_)
  cases r with
  | error e => exact False.elim hq
  | ok fl =>
    cases fl with
    | ret u => exact I.after hq
    | next => exact False.elim hq
    | brk => exact False.elim hq
    | cont => exact False.elim hq
theorem ep_back {pins : List (Addr × Obj)} {σ : L2.St} {Q : VK} {u : Value} {s' : Shared} (h : EP X pins σ Q u s') : PySem.W.CmpBack (EP X pins σ Q) u s' := by
  obtain ⟨v, H', I, r, q⟩ := id h
  cases v with
  | non => cases (show u = Value.none from r); exact h
  | bl b => cases (show u = Value.bool b from r); exact h
  | int i => obtain ⟨t, e⟩ := (show ∃ t, u = Value.int i t from r); cases e; exact h
  | str z => obtain ⟨t, e⟩ := (show ∃ t, u = Value.str z t from r); cases e; exact h
  | byt z => obtain ⟨t, e⟩ := (show ∃ t, u = Value.bytes z t from r); cases e; exact h
  | flt z => obtain ⟨t, e⟩ := (show ∃ t, u = Value.float z t from r); cases e; exact h
  | ref a => cases (show u = Value.ref a from r); exact h
  | ty n => cases (show u = Value.type n from r); exact h
theorem looks_kd {M : Model} {pins : List (Addr × Obj)} {σ : L2.St} {H : Hp} {s : Shared} {y : V} {u : Value} {kn : Kn} (I : Inv X pins σ H s) (h : Kd H y kn) (r : RelV y u) : PySem.W.Looks M s.heap (typeOf u) (.type kn.nm) := by
  cases h with
  | non => cases (show u = Value.none from r); exact PySem.W.Looks.of_pure rfl
  | bl b => cases (show u = Value.bool b from r); exact PySem.W.Looks.of_pure rfl
  | int i => obtain ⟨t, e⟩ := (show ∃ t, u = Value.int i t from r); cases e; exact PySem.W.Looks.of_pure rfl
  | str z _ => obtain ⟨t, e⟩ := (show ∃ t, u = Value.str z t from r); cases e; exact PySem.W.Looks.of_pure rfl
  | @lst a xs e =>
    cases (show u = Value.ref a from r)
    obtain ⟨_, _, n, _, h1⟩ := (show ObjOk X.prog X.w H s.heap a (.lst xs) from I.hok a _ e)
    exact (PySem.W.Looks.ld (part := Option.none) h1).andThen .now
  | @tup a xs e =>
    cases (show u = Value.ref a from r)
    obtain ⟨_, _, _, o, h1, h2, _⟩ := (show ObjOk X.prog X.w H s.heap a (.tup xs) from I.hok a _ e)
    have L := (PySem.W.Looks.ld (M := M) (part := Option.none) h1).andThen (f := fun o => pure o.cls) .now
    rw [h2] at L
    exact L
  | @dct a kvs e =>
    cases (show u = Value.ref a from r)
    obtain ⟨_, _, vs, _, o, es, ep, h1, h2, _⟩ := (show ObjOk X.prog X.w H s.heap a (.dK kvs) from I.hok a _ e)
    have L := (PySem.W.Looks.ld (M := M) (part := Option.none) h1).andThen (f := fun o => pure o.cls) .now
    rw [h2.1] at L
    exact L
end
/-- an own method (an operator's), its promise -/
structure OwnM (P : Program) (w : World) (K : PySem.W.Frag) (mg : Str → Option Value) (base : Heap) (k : Nat) (C : Addr) (m : Str) (sp : Sp) : Prop where
  ex : ∃ (f : Addr) (fd : FuncData) (ps : List Str), FnOk P w K mg base CX0 k f fd ps sp ∧ PySem.W.findIn K (.ref C) m = some (some (.ref f)) ∧ PySem.W.isFn K (.ref f) = true ∧ PySem.W.keepIn K (.ref f) = true ∧ Binds K fd ps []
/-- a property, its getter's promise -/
structure PropM (P : Program) (w : World) (K : PySem.W.Frag) (mg : Str → Option Value) (base : Heap) (k : Nat) (C : Addr) (m : Str) (sp : Sp) : Prop where
  ex : ∃ (p g : Addr) (fd : FuncData) (ps : List Str), PropOf K C m p g ∧ FnOk P w K mg base CX0 k g fd ps sp ∧ Binds K fd ps []
/-- no built-in kind is a kind of C -/
def Apart (K : PySem.W.Frag) (C : Addr) : Prop := ∀ kn : Kn, PySem.W.subIn K (.type kn.nm) (.ref C) = some false
def rOwn (C : Addr) (sp : Sp) : R2 := fun x y H Q => ∃ a dx fs, x = .ref a ∧ H a = some (.ins C dx fs) ∧ ((∃ kn, Kd H y kn) ∨ (∃ b dy gs, y = .ref b ∧ H b = some (.ins C dy gs))) ∧ sp [x, y] H Q E0
def rRef (C : Addr) (sp : Sp) : R2 := fun x y H Q => ∃ i b dy gs, x = .int i ∧ y = .ref b ∧ H b = some (.ins C dy gs) ∧ sp [y, x] H Q E0
section
variable {X : Cx} {k j : Nat} {C : Addr} {sp : Sp}
theorem op_own {op : CmpOp} {m : Str} (hop : ∀ v u, compareOp op v u = richCompare op v u) (c : OwnM X.prog X.w X.K X.mg X.base k C m sp) (hm : (cmpInfo op).2.1 = m) (hk : k ≤ j) (hr : Room j X.A) (hn : Apart X.K C) : OpR X (compareOp op) (rOwn C sp) := by
  intro pins s σ H x y v u Q I rx ry h
  obtain ⟨a, dx, fs, rfl, ha, hy, h⟩ := h
  obtain ⟨f, fd, ps, F, hs, hf, _, hb⟩ := c.ex
  subst hm
  cases (show v = Value.ref a from rx)
  obtain ⟨mA, J, _⟩ := ins_get I.hok ha
  obtain ⟨od, J, _⟩ := J.look
  obtain ⟨m, hF⟩ := I.fr
  rw [hop]
  have go : wpAny (model X.prog X.w) X.A (call (.ref f) [.ref a, u]) (PySem.W.CmpBack (EP X pins σ Q)) X.xe s :=
    wpAny_mono (run_own (vs := [.ref a, y]) F hb (hr.mono hk) I (.cons rfl (.cons ry .nil)) h) (fun _ _ q => ep_back q) fun _ _ q => q
  rcases hy with ⟨kn, hy⟩ | ⟨b, dy, gs, rfl, hb'⟩
  · exact PySem.W.cmp_K (op := op) (tb := .type kn.nm) hr.units0 hF I.ok.mod.kin J (looks_kd I hy ry) (by simp [PySem.W.notFirst, hn kn]) hs hf go
  · cases (show u = Value.ref b from ry)
    obtain ⟨mB, J', _⟩ := ins_get I.hok hb'
    obtain ⟨od', J', _⟩ := J'.look
    exact PySem.W.cmp_K (op := op) (tb := .ref C) hr.units0 hF I.ok.mod.kin J J'.type (by simp [PySem.W.notFirst]) hs hf go
theorem op_ownR {op : CmpOp} {m : Str} {ida : String} {B : Builtin} (hop : ∀ v u, compareOp op v u = richCompare op v u) (c : OwnM X.prog X.w X.K X.mg X.base k C m sp) (hm : (cmpInfo op).2.2 = m) (hk : k ≤ j) (hr : Room j X.A) (hsub : PySem.W.subIn X.K (.ref C) (.type "int") = some false)
    (h1 : Slot "int" (cmpInfo op).2.1 ida) (he : entryFor table ida = some B) (ha : ∀ a b, argsOk ida ⟨[a, b], []⟩)
    (hi : ∀ (a : Int) (t : Tok) (x C dx : Addr), Meets (B ⟨[.int a t, .ref x], []⟩) (fun _ R s => s.heap.get? x = some (PySem.W.instObj C dx) ∧ R (.ok (.ret .notImplemented)) s)) : OpR X (compareOp op) (rRef C sp) := by
  intro pins s σ H x y v u Q I rx ry h
  obtain ⟨i, b, dy, gs, rfl, rfl, hb', h⟩ := h
  obtain ⟨f, fd, ps, F, hs, hf, _, hb⟩ := c.ex
  subst hm
  obtain ⟨t, rfl⟩ := rx
  cases (show u = Value.ref b from ry)
  obtain ⟨mB, J, _⟩ := ins_get I.hok hb'
  obtain ⟨od, J, _⟩ := J.look
  rw [hop]
  have go : wpAny (model X.prog X.w) X.A (call (.ref f) [.ref b, .int i t]) (PySem.W.CmpBack (EP X pins σ Q)) X.xe s :=
    wpAny_mono (run_own (vs := [.ref b, .int i]) F hb (hr.mono hk) I (.cons rfl (.cons ⟨t, rfl⟩ .nil)) h) (fun _ _ q => ep_back q) fun _ _ q => q
  exact cmp_refl hr.units0 I.kIn J hsub h1 he (ha _ _) (hi i t b C dy) hs hf go
theorem pe_pr {e : Expr} {f : Str} {pos : Pos} {ta : TE} (he : PE X e ta) (c : Cls X.K C) (m : PropM X.prog X.w X.K X.mg X.base k C f sp) (hk : k + 1 ≤ j) (hr : Room j X.A) (hab : attributeBase e f X.env (eval e X.env) = eval e X.env := by rfl) : PE X (.Attribute e f pos) (tProp C sp [] E0 ta) := by
  obtain ⟨p, g, fd, ps, hp, F, hb⟩ := m.ex
  exact pe_prop he c hp F (hr.mono hk) hb .nil (fun _ _ _ _ _ _ _ h => h.elim) hab
end
/-! ### bool(x) by an own __bool__ -/
section
variable {prog : Program} {w : World}
theorem meets_bool_ref (x : Addr) : MeetsIn prog w (Builtin.«bool.__new__» ⟨[.type "bool", .ref x], []⟩) (fun A R s => wpAny (model prog w) A.in1 (truthy (.ref x)) (fun b s' => R (.ok (.ret (.bool b))) s') (fun e s' => R (.error e) s') s) :=
  MeetsIn.of_wp fun A R s hs => by
    obtain ⟨hp, g, d, tk, os⟩ := s
    have f1 := F.conv_sub_bool
    repeat (any_goals (first | assumption | (refine wpAny_mono hs (fun b s' hb => ?_) fun _ _ e => e) | wp_step))
    all_goals first | exact ⟨_, rfl, hb⟩ | skip
end
section
variable {X : Cx} {k j : Nat} {C : Addr} {sp : Sp}
def rBoolO (C : Addr) (sp : Sp) : List V → Hp → VK → Prop := fun xs H Q => ∃ a dx fs, xs = [.ref a] ∧ H a = some (.ins C dx fs) ∧ sp [.ref a] H (fun v H' => ∃ b, v = .bl b ∧ Q (.bl b) H') E0
theorem call_boolO (c : OwnM X.prog X.w X.K X.mg X.base k C "__bool__" sp) (hk : k + 2 ≤ j) (hr : Room j X.A) : CallR X (.type "bool") (rBoolO C sp) := by
  intro pins s σ H xs us Q I r h
  obtain ⟨a, dx, fs, rfl, ha, h⟩ := h
  obtain ⟨f, fd, ps, Fn, hs, hf, _, hb⟩ := c.ex
  cases r with
  | cons rx rn =>
    cases rn
    rename_i u
    cases (show u = Value.ref a from rx)
    obtain ⟨mA, J, _⟩ := ins_get I.hok ha
    obtain ⟨od, J, _⟩ := J.look
    obtain ⟨m, hF⟩ := I.fr
    refine callType_newIn F.called_bool F.newNe_bool (F.typeCall_bool_1 _) (F.newCall_bool_1 _) (fun obj => F.args_object_init_2 obj _) F.entry_bool_new (meets_bool_ref a) ?_
    show wpAny (model X.prog X.w) X.A.in1.in1 (truthy (.ref a)) _ _ s
    have hr2 : Room k X.A.in1.in1 := (Room.in1 (Room.in1 (hr.mono hk)))
    have hl : ([Value.ref a] : List Value).length = ps.length := by rw [← Fn.len _ _ _ _ h]; rfl
    have hb' := hb s [.ref a] I.kIn (by simpa using hl)
    rw [List.append_nil] at hb'
    refine PySem.W.truthy_K hF I.ok.mod.kin J hs hf (wpAny_call (codeAny_mono (Fn.run X.A.in1.in1 X.stack s H ⟨[.ref a], []⟩ [.ref a] [.ref a] _ E0 hr2 I.env0.in1.in1 hb' (.cons rfl .nil) h) fun r s' hq => ?_))
    cases r with
    | error e => exact False.elim hq
    | ok fl =>
      cases fl with
      | ret u =>
        obtain ⟨v, H', I', rv, b, rfl, q⟩ := I.after hq
        cases (show u = Value.bool b from rv)
        exact ⟨rfl, .bl b, H', I', rfl, q⟩
      | next => exact False.elim hq
      | brk => exact False.elim hq
      | cont => exact False.elim hq
end
end Pk

/-! own classes: packages by name -/
namespace Pk
open PySem PySem.Spec PyProof.Rows L2
def BndM (m q : Str) (st : Stmt) (ps : List Str) : Prop := ∀ (kV doc pm : Value) (an : Option Addr) (cdv ct : Value) (us : List Value), us.length = ps.length → bindArgs (PySem.W.fnOf m q (defArgs st) (defBody st) (defScope st) .none kV doc pm an cdv ct) ⟨us, []⟩ = pure (ps.zip us)
structure MethAt (K : PySem.W.Frag) (C : Addr) (m q : Str) (st : Stmt) : Prop where
  ex : ∃ f fd, Fun K m q st f fd ∧ Meth K C m f
structure PropAt (K : PySem.W.Frag) (C : Addr) (m q : Str) (st : Stmt) : Prop where
  ex : ∃ p g fd, Fun K m q st g fd ∧ PropOf K C m p g
structure InitAt (K : PySem.W.Frag) (C : Addr) (q : Str) (st : Stmt) (dvs : List V) : Prop where
  ex : ∃ f fd, Mk K C f ∧ FunD K "__init__" q (defArgs st) (defBody st) (defScope st) dvs [] f fd
structure IniOk (P : Program) (w : World) (K : PySem.W.Frag) (mg : Str → Option Value) (base : Heap) (k : Nat) (C : Addr) (q : Str) (st : Stmt) (ps : List Str) (dvs : List V) (sp : Sp) : Prop where
  ex : ∃ f fd, Mk K C f ∧ FunD K "__init__" q (defArgs st) (defBody st) (defScope st) dvs [] f fd ∧ FnOk P w K mg base CX0 k f fd ps sp
section
variable {P : Program} {w : World} {K : PySem.W.Frag} {mg : Str → Option Value} {base : Heap} {C : Addr} {m q x : Str} {st : Stmt} {N ps : List Str} {k : Nat} {sp : Sp} {dvs : List V}
theorem own0 (D : MethAt K C m q st) (S : FnScope N ps (defScope st)) (hb : BndM m q st ps) (len : ∀ vs H Q E, sp vs H Q E → vs.length = ps.length)
    (hbody : ∀ (f : Addr) (cdv : Value) (A : Around) (outer : List Env) (s : Shared) (H : Hp) (vs : List V) (Q : VK) (E : XK), Room k (A.deeper (envOfC q (defScope st) s.heap.objs.size f cdv)) → sp vs H Q E →
      ∃ t, PSs (cxOf CX0 P w K mg base N q (defScope st) f cdv A outer s H E).nox (defBody st) t ∧ t { nx := fun _ H' => Q .non H', rt := Q } (start N vs) H) : OwnM P w K mg base (k + 1) C m sp := by
  obtain ⟨f, fd, F, e⟩ := D.ex
  exact ⟨f, fd, ps, F.ok S len (hbody f), e.at_, e.fn, e.kp, F.binds hb⟩
theorem prop0 (D : PropAt K C m q st) (S : FnScope N ps (defScope st)) (hb : BndM m q st ps) (len : ∀ vs H Q E, sp vs H Q E → vs.length = ps.length)
    (hbody : ∀ (f : Addr) (cdv : Value) (A : Around) (outer : List Env) (s : Shared) (H : Hp) (vs : List V) (Q : VK) (E : XK), Room k (A.deeper (envOfC q (defScope st) s.heap.objs.size f cdv)) → sp vs H Q E →
      ∃ t, PSs (cxOf CX0 P w K mg base N q (defScope st) f cdv A outer s H E).nox (defBody st) t ∧ t { nx := fun _ H' => Q .non H', rt := Q } (start N vs) H) : PropM P w K mg base (k + 1) C m sp := by
  obtain ⟨p, g, fd, F, e⟩ := D.ex
  exact ⟨p, g, fd, ps, e, F.ok S len (hbody g), F.binds hb⟩
theorem ini0 (D : InitAt K C q st dvs) (S : FnScope N ps (defScope st)) (len : ∀ vs H Q E, sp vs H Q E → vs.length = ps.length)
    (hbody : ∀ (f : Addr) (cdv : Value) (A : Around) (outer : List Env) (s : Shared) (H : Hp) (vs : List V) (Q : VK) (E : XK), Room k (A.deeper (envOfC q (defScope st) s.heap.objs.size f cdv)) → sp vs H Q E →
      ∃ t, PSs (cxOf CX0 P w K mg base N q (defScope st) f cdv A outer s H E).nox (defBody st) t ∧ t { nx := fun _ H' => Q .non H', rt := Q } (start N vs) H) : IniOk P w K mg base (k + 1) C q st ps dvs sp := by
  obtain ⟨f, fd, M, F⟩ := D.ex
  exact ⟨f, fd, M, F, F.ok S len fun cdv A outer s H vs Q E hr h => by
    obtain ⟨t, h1, h2⟩ := hbody f cdv A outer s H vs Q E hr h
    exact ⟨t, h1.nox, h2⟩⟩
theorem mkr_d (I : IniOk P w K mg base k C q st ps dvs sp) (hm : mg x = some (.ref C)) (n j : Nat) (hd : dvs ≠ []) (hn : n + (dvs.length - j) = ps.length)
    (h : ∀ (T : Addr) (kV doc pm : Value) (an : Option Addr) (cdv ct : Value) (us its : List Value), us.length = n → its.length = dvs.length →
      ∃ k, bindArgs (PySem.W.fnOf "__init__" q (defArgs st) (defBody st) (defScope st) (.ref T) kV doc pm an cdv ct) ⟨us, []⟩ = seqItems? (.ref T) >>= k ∧ k (some its.toArray) = pure (ps.zip (us ++ its.drop j))) : C8.Mak P w K mg base k x C sp (dvs.drop j) := by
  obtain ⟨f, fd, M, F, G⟩ := I.ex
  obtain ⟨ds, r, b⟩ := F.binds1 n j hd hn h
  exact ⟨f, fd, ps, ds, M, G, hm, b, r⟩
end
section
variable {X : Cx}
def CDivZ (_ j : Int) : Prop := j ≠ 0 ∧ j.natAbs.log2 < 9000
theorem op_fdZ : OpR X (binaryOp .FloorDiv) (rI CDivZ fun i j => .int (i.fdiv j)) := opI fun _ _ _ _ _ _ _ hc q => floordiv_int hc.1 q (.inl (PyProof.noPylong_of_log2 hc.2))
end
/-- what isinstance asks of an own class -/
structure InsF (K : PySem.W.Frag) (C : Addr) : Prop where
  cl : Cls K C
  ha : PySem.W.findIn K (.ref C) "__class__" = some (some (.builtin "object.__class__"))
  hn : PySem.W.specialIn K (.builtin "object.__class__") "__get__" = some (some (.builtin "getset_descriptor.__get__"))
  ht : PySem.W.takesIn K (.builtin "object.__class__") = some true
  hm : PySem.W.mroIn K C (.type "object") = some true
  sf : PySem.W.kitOne K (.ref C) (.ref C) = some true
  si : PySem.W.kitOne K (.ref C) (.type "int") = some false
  sk : ∀ kn : Kn, PySem.W.kitOne K (.type kn.nm) (.ref C) = some false
section
variable {K : PySem.W.Frag} {C : Addr} {H : Hp} {Q : VK} {a dx : Addr} {fs : List (Str × V)} {x : V} {kn : Kn}
theorem p_isC (F : InsF K C) (h : H a = some (.ins C dx fs)) (q : Q (.bl true) H) : rIsi K [.ref a, .ref C] H Q := ⟨.ref a, .ref C, .ref C, .ref C, true, rfl, .own C, .base (.ins h F.cl F.ha F.hn F.ht F.hm), F.sf, q⟩
theorem p_isCint (F : InsF K C) (h : H a = some (.ins C dx fs)) (q : Q (.bl false) H) : rIsi K [.ref a, .ty "int"] H Q := ⟨.ref a, .ty "int", .ref C, .type "int", false, rfl, .ty _, .base (.ins h F.cl F.ha F.hn F.ht F.hm), F.si, q⟩
theorem p_isCn (F : InsF K C) (h : Kd H x kn) (q : Q (.bl false) H) : rIsi K [x, .ref C] H Q := ⟨x, .ref C, .type kn.nm, .ref C, false, rfl, .own C, h.tyx, F.sk kn, q⟩
end
end Pk

/-! defs that print lists: the guards are known to be empty -/
namespace Pk
open PySem PySem.Spec PyProof.Rows L2
structure GOk (P : Program) (w : World) (K : PySem.W.Frag) (mg : Str → Option Value) (base : Heap) (CX : CXT) (k : Nat) (f : Addr) (fd : FuncData) (ps : List Str) (sp : Sp) : Prop where
  size : ∀ vs H Q E, sp vs H Q E → vs.length = ps.length
  go : ∀ (A : Around) (outer : List Env) (s : Shared) (H : Hp) (args : Args) (us : List Value) (vs : List V) (Q : VK) (E : XK), A.guards = some [] → Room k A → Env0 P w K mg base A outer s H → BindsTo s fd args (ps.zip us) → Vals vs us → sp vs H Q E → codeAny (model P w) A (.call (.ref f) args) (CR CX outer P w H s Q E) s
section
variable {P : Program} {w : World} {K : PySem.W.Frag} {mg : Str → Option Value} {base : Heap} {CX : CXT} {k : Nat} {f : Addr} {fd : FuncData} {ps N : List Str} {sp : Sp}
theorem ok_g (F : FnOk P w K mg base CX k f fd ps sp) : GOk P w K mg base CX k f fd ps sp := ⟨F.len, fun A outer s H args us vs Q E _ hr => F.run A outer s H args us vs Q E hr⟩
theorem g_of {x q : Str} {st : Stmt} (F : Fun K x q st f fd) (S : FnScope N ps (defScope st)) (size : ∀ vs H Q E, sp vs H Q E → vs.length = ps.length)
    (hbody : ∀ (cdv : Value) (A : Around) (outer : List Env) (s : Shared) (H : Hp) (vs : List V) (Q : VK) (E : XK), A.guards = some [] → Room k (A.deeper (envOfC q (defScope st) s.heap.objs.size f cdv)) → sp vs H Q E →
      ∃ t, PSs (cxOf CX P w K mg base N q (defScope st) f cdv A outer s H E) (defBody st) t ∧ t { nx := fun _ H' => Q .non H', rt := Q } (start N vs) H) : GOk P w K mg base CX (k + 1) f fd ps sp := by
  obtain ⟨oc, od, kV, doc, pm, an, cdv, ct, osl, rfl, look, code⟩ := F.ex
  refine ⟨size, fun A outer s H args us vs Q E hg room e0 binds rel want => ?_⟩
  have same := size _ _ _ _ want
  have inK : K.In s.heap := e0.mod.kin.keeps fun b o e => (e0.bs b o e).1
  have free : s.heap.NoLimit := e0.mod.nolimit.keeps fun b o e => (e0.bs b o e).1
  refine codeAny_call_function room.depth (inK _ _ look) rfl S.co S.gen rfl (PySem.W.codeRec_of inK code) (binds _ _ _ _ ?_)
  refine wpAny_newFunctionEnv_cells S.kind (fun y hy => ?_) fun env he s1 x => ?_
  · obtain ⟨n, v⟩ := y
    exact (S.par n (List.of_mem_zip hy).1).imp id fun c => ⟨c, PySem.W.cellsFrom_some _ _ _ (.inl c)⟩
  · subst he
    refine ⟨free.keeps x.toInCall.keep, codeAny_func ?_⟩
    obtain ⟨t, ht, hq⟩ := hbody cdv A outer s H vs Q E hg (room.deeper _) want
    have J := inv_start (CX := CX) (E := E) S room.hd e0 same rel x
    refine wpAny_mono (ht.run [] s1 (start N vs) H _ J hq) (fun fl s' hs => ?_) fun e s' hs => hs
    have last : ∀ {σ' : L2.St} {H' : Hp} {v : V} {u : Value}, Inv (cxOf CX P w K mg base N q (defScope st) f cdv A outer s H E) [] σ' H' s' → RelV v u → Q v H' → CE outer P w H s Q u s' := fun I r k => ⟨_, _, I.os, I.bare, I.base, I.hok, r, k⟩
    cases fl with
    | next => exact hs.elim fun _ z => z.elim fun _ z => last (v := V.non) (u := Value.none) z.1 rfl z.2
    | ret u =>
      obtain ⟨v, σ', H', I, r, k⟩ := hs
      exact last I r k
    | brk => exact hs.elim fun _ z => z.elim fun _ z => z.2.elim
    | cont => exact hs.elim fun _ z => z.elim fun _ z => z.2.elim
/-- called by its name -/
structure CalG (P : Program) (w : World) (K : PySem.W.Frag) (mg : Str → Option Value) (base : Heap) (CX : CXT) (k : Nat) (x : Str) (sp : Sp) : Prop where
  ex : ∃ (f : Addr) (fd : FuncData) (ps : List Str), GOk P w K mg base CX k f fd ps sp ∧ mg x = some (.ref f) ∧ PySem.W.keepIn K (.ref f) = true ∧ Binds K fd ps []
theorem calg {x : Str} {st : Stmt} (D : DefAt K mg x st) (S : FnScope N ps (defScope st)) (hb : Bnd x st ps) (size : ∀ vs H Q E, sp vs H Q E → vs.length = ps.length)
    (hbody : ∀ (f : Addr) (cdv : Value) (A : Around) (outer : List Env) (s : Shared) (H : Hp) (vs : List V) (Q : VK) (E : XK), A.guards = some [] → Room k (A.deeper (envOfC x (defScope st) s.heap.objs.size f cdv)) → sp vs H Q E →
      ∃ t, PSs (cxOf CX0 P w K mg base N x (defScope st) f cdv A outer s H E).nox (defBody st) t ∧ t { nx := fun _ H' => Q .non H', rt := Q } (start N vs) H) : CalG P w K mg base CX0 (k + 1) x sp := by
  obtain ⟨f, fd, F, m⟩ := D.ex
  refine ⟨f, fd, ps, g_of F S size (fun cdv A outer s H vs Q E hg hr h => ?_), m, F.kp, F.binds hb⟩
  obtain ⟨t, a, b⟩ := hbody f cdv A outer s H vs Q E hg hr h
  exact ⟨t, a.nox, b⟩
end
section
variable {X : Cx} {k j : Nat} {x : Str} {sp : Sp} {p pos : Pos} {e : Expr} {es : List Expr} {t : TA}
theorem pe_cG {CX : CXT} {E : XK} (c : CalG X.prog X.w X.K X.mg X.base CX k x sp) (hr : Room j X.A) (gd : X.A.guards = some []) (hk : k ≤ j) (hg : Gl X x) (hx : Passes CX X E) (ha : PA X (e :: es) t) (hdb : (x == ("__debug__" : Str)) = false := by decide)
    (one : starEach (e :: es) X.env = (false, eval e X.env) :: starEach es X.env := by rfl) (plain : (backTo pos (starEach es X.env)).any (·.1) = false := by rfl) : PE X (.Call (.Name x p) (e :: es) [] pos) (tCall sp [] E t) := by
  obtain ⟨f, fd, ps, F, hm, kp, b⟩ := c.ex
  refine ⟨fun pins s σ H Q I h => wpAny_Call_Name_kw (ld_glob I hg hm (PySem.W.callWith_K (h₀ := X.base) I.ok.mod.kin kp (thn (ha.run pos pins s σ H _ I h) fun us s1 ⟨vs, H1, J, r, q⟩ => ⟨J.kIn, ?_⟩) one plain) hdb)⟩
  have q : sp vs H1 Q E := by rw [show sp vs H1 Q E = sp (vs ++ []) H1 Q E by rw [List.append_nil]]; exact q
  have n : (us ++ []).length = ps.length := by rw [List.append_nil, ← r.length, F.size _ _ _ _ q]
  have bd := b s1 us J.kIn n
  rw [List.append_nil] at bd
  refine wpAny_call (codeAny_mono (F.go X.A X.stack s1 H1 ⟨us, []⟩ us vs Q E gd (hr.mono hk) J.env0 bd r q) fun z s' hz => ?_)
  cases z with
  | error e => exact hx pins σ H1 s1 e s' J hz
  | ok fl => cases fl with
    | ret u => exact J.after hz
    | next => exact hz.elim
    | brk => exact hz.elim
    | cont => exact hz.elim
end
/-! ### repr of lists and tuples of plain values -/
mutual
inductive Rd (H : Hp) : V → PyData → Prop where
  | non : Rd H .non .none
  | bl (b : Bool) : Rd H (.bl b) (.bool b)
  | int (i : Int) : Rd H (.int i) (.int i)
  | str (z : Str) : Rd H (.str z) (.str z)
  | lst {a : Addr} {xs : List V} {ds : List PyData} (e : H a = some (.lst xs)) (r : RdA H xs ds) : Rd H (.ref a) (.list ds)
  | tup {a : Addr} {xs : List V} {ds : List PyData} (e : H a = some (.tup xs)) (r : RdA H xs ds) : Rd H (.ref a) (.tuple ds)
inductive RdA (H : Hp) : List V → List PyData → Prop where
  | nil : RdA H [] []
  | cons {x : V} {xs : List V} {d : PyData} {ds : List PyData} (h : Rd H x d) (t : RdA H xs ds) : RdA H (x :: xs) (d :: ds)
end
theorem rd_reads {X : Cx} {pins : List (Addr × Obj)} {σ : L2.St} {H : Hp} {s : Shared} {v : V} {d : PyData} (I : Inv X pins σ H s) (h : Rd H v d) : ∀ u, RelV v u → ∃ as, Reads s.heap u d as := by
  refine Rd.rec (motive_1 := fun v d _ => ∀ u, RelV v u → ∃ as, Reads s.heap u d as) (motive_2 := fun xs ds _ => ∀ us, Vals xs us → ∃ as, ReadsAll s.heap us ds as) ?_ ?_ ?_ ?_ ?_ ?_ ?_ ?_ h
  · intro u r; cases (show u = Value.none from r); exact ⟨_, .none⟩
  · intro b u r; cases (show u = Value.bool b from r); exact ⟨_, .bool b⟩
  · intro i u r; obtain ⟨t, e⟩ := (show ∃ t, u = Value.int i t from r); cases e; exact ⟨_, .int i t⟩
  · intro z u r; obtain ⟨t, e⟩ := (show ∃ t, u = Value.str z t from r); cases e; exact ⟨_, .str z t⟩
  · intro a xs ds e r ih u ru
    cases (show u = Value.ref a from ru)
    obtain ⟨_, us, n, rv, h1⟩ := (show ObjOk X.prog X.w H s.heap a (.lst xs) from I.hok a _ e)
    obtain ⟨as, z⟩ := ih us rv
    exact ⟨_, .list h1 rfl rfl (by simpa using z)⟩
  · intro a xs ds e r ih u ru
    cases (show u = Value.ref a from ru)
    obtain ⟨_, us, rv, o, h1, h2, n, h3⟩ := (show ObjOk X.prog X.w H s.heap a (.tup xs) from I.hok a _ e)
    obtain ⟨as, z⟩ := ih us rv
    exact ⟨_, .tuple h1 h2 h3 (by simpa using z)⟩
  · intro us r; cases r; exact ⟨_, .nil⟩
  · intro x xs d ds h t ih1 ih2 us r
    cases r with
    | cons r1 r2 =>
      obtain ⟨_, z1⟩ := ih1 _ r1
      obtain ⟨_, z2⟩ := ih2 _ r2
      exact ⟨_, .cons z1 z2⟩
def rRepr : List V → Hp → VK → Prop := fun xs H Q => ∃ a d, xs = [.ref a] ∧ Rd H (.ref a) d ∧ d.showable = true ∧ d.hasDict = false ∧ d.depth ≤ 50 ∧ d.shown.length ≤ sizeLine ∧ Q (.str d.shown) H
theorem call_repr {X : Cx} {j : Nat} (hr : Room j X.A) (hg : X.A.guards = some []) : CallR X (.builtin "repr") rRepr := by
  intro pins s σ H xs us Q I r h
  obtain ⟨a, d, rfl, hd, h1, h2, h3, h4, q⟩ := h
  obtain ⟨u, rfl, ru⟩ := vals1 r
  cases (show u = Value.ref a from ru)
  obtain ⟨as, z⟩ := rd_reads I hd _ rfl
  refine repr_of_reads' z h1 (fun e => by rw [h2] at e; cases e) hg (by have := hr.units; omega) (fun _ _ e => e) (fun h' t tk keep => ⟨.str _, H, I.kept keep, ⟨t, rfl⟩, q⟩) h4
/-! ### the law's head: its call starts with no guards -/
theorem start_env {P : Program} {w : World} {K : PySem.W.Frag} {mg mb : Str → Option Value} {a : Addr} {H : Hp} {s₁ : Shared} {vs : Array Value} {n : Nat} (KX : K.In s₁.heap) (hns : s₁.heap.Ns mainGlobals mg) (hb : s₁.heap.Ns builtinsNs mb)
    (hbb : ∀ x : Str, x ≠ "__name__" → mb x = bootBuiltins x) (free : s₁.heap.NoLimit) (hg : s₁.gens = #[]) (ha : s₁.heap.get? a = some { cls := .type "list", data := .seq vs n }) (ok : HOk P w H s₁.heap) (only : ∀ b, b ≠ a → H b = none) (out : H a ≠ none → K.lookup a = none) :
    K.In (hidT s₁.heap H) ∧ (hidT s₁.heap H).Ns mainGlobals mg ∧ Env0 P w K mg (hidT s₁.heap H) callerA [] s₁ H := by
  have stays : ∀ {b : Addr} {m : Str → Option Value}, s₁.heap.Ns b m → (hidT s₁.heap H).Ns b m := fun {b m} z => by
    obtain ⟨o, es, ep, e, d, r⟩ := z
    have ne : b ≠ a := fun q => by
      subst q
      rw [ha] at e
      cases e
      cases d
    exact ⟨o, es, ep, hidT_get e (only b ne), d, r⟩
  have kin : K.In (hidT s₁.heap H) := fun b o e => by
    refine hidT_get (KX b o e) ?_
    by_cases q : b = a
    · subst q
      by_cases z : H b = none
      · exact z
      · rw [out z] at e
        cases e
    · exact only b q
  exact ⟨kin, stays hns, rfl, ⟨kin, stays hns, ⟨mb, stays hb, hbb⟩, free.elim fun mc z => ⟨mc, stays z.1, z.2⟩⟩, fun b o e => of_hidT e, Nat.le_of_eq (hidT_size _ _), trivial, fun b z => absurd (show b ∈ ([] : List Addr) from z) (by simp), ok, .of_eq hg⟩
theorem law_callG {P : Program} {w : World} {K : PySem.W.Frag} {mg mb : Str → Option Value} {CX : CXT} {k : Nat} {fa a : Addr} {fd : FuncData} {x : Str} {sp : Sp} {s₁ : Shared} {vs : List Value} {ns : List Int} (KX : K.In s₁.heap) (hns : s₁.heap.Ns mainGlobals mg) (hb : s₁.heap.Ns builtinsNs mb)
    (hbb : ∀ x : Str, x ≠ "__name__" → mb x = bootBuiltins x) (free : s₁.heap.NoLimit) (hg : s₁.gens = #[]) (ha : s₁.heap.get? a = some { cls := .type "list", data := .seq vs.toArray }) (zs : IntsAre vs ns) (hl : ns.length ≤ sizeLine) (room : Room k callerA)
    (F : ∀ base : Heap, K.In base → base.Ns mainGlobals mg → GOk P w K mg base CX k fa fd [x] sp) (binds : ∀ (s : Shared) (u : Value), BindsTo s fd ⟨[u], []⟩ [(x, u)]) (hsp : ∀ H : Hp, Only H → SqL K H a (ns.map V.int) → sp [.ref a] H (fun v _ => v = .bl true) fun _ _ _ => False)
    (calm : ∀ H e s', CX [] H s₁ (fun _ _ _ => False) e s' → False) : codeAny (model P w) callerA (.call (.ref fa) ⟨[.ref a], []⟩) (fun r s' => r = .ok (.ret (.bool true)) ∧ OldK s₁.heap s'.heap ∧ s'.os = s₁.os ∧ AllBare s'.gens) s₁ := by
  have rel := vals_ints zs
  have main : ∀ H : Hp, Only H → SqL K H a (ns.map V.int) → HOk P w H s₁.heap → (∀ b, b ≠ a → H b = none) → (H a ≠ none → K.lookup a = none) →
      codeAny (model P w) callerA (.call (.ref fa) ⟨[.ref a], []⟩) (fun r s' => r = .ok (.ret (.bool true)) ∧ OldK s₁.heap s'.heap ∧ s'.os = s₁.os ∧ AllBare s'.gens) s₁ := by
    intro H hO hS ok only out
    obtain ⟨kin, nsm, e0⟩ := start_env KX hns hb hbb free hg ha ok only out
    refine codeAny_mono ((F _ kin nsm).go callerA [] s₁ H ⟨[.ref a], []⟩ [.ref a] [.ref a] _ _ rfl room e0 (binds s₁ (.ref a)) (.cons rfl .nil) (hsp H hO hS)) fun r s' h => ?_
    match r, h with
    | .error e, h => exact (calm H e s' h).elim
    | .ok (.ret u), h =>
      obtain ⟨v, H', os, bare, un, ok', ru, rfl⟩ := h
      obtain rfl : u = Value.bool true := ru
      refine ⟨rfl, OldK.of_keep fun b o e => ?_, os, bare⟩
      rcases hO b with q | ⟨ob, xs, q⟩
      · exact un.keep b o e q (by intro z; exact absurd (show b ∈ ([] : List Addr) from z) (by simp)) (by simp)
      · have e1 := (ok b _ q).1
        have e2 := (ok' b _ (un.frzs b ob _ q)).1
        rw [e] at e1
        cases e1
        exact e2
    | .ok .next, h => exact h.elim
    | .ok .brk, h => exact h.elim
    | .ok .cont, h => exact h.elim
  cases hk : K.lookup a with
  | some o =>
    have e := KX a o hk
    rw [ha] at e
    cases e
    exact main (fun _ => none) (fun _ => .inl rfl) (.inr ⟨_, vs.toArray, _, hk, rfl, rfl, rfl, by rw [List.size_toArray, zs.length]; exact hl, by simpa using rel⟩) (fun b u z => nomatch z) (fun _ _ => rfl) fun z => absurd rfl z
  | none =>
    have at_ : (fun b => if b = a then some (HO.frz { cls := .type "list", data := .seq vs.toArray } (.lst (ns.map V.int))) else none) a = some (HO.frz { cls := .type "list", data := .seq vs.toArray } (.lst (ns.map V.int))) := if_pos rfl
    refine main (fun b => if b = a then some (.frz { cls := .type "list", data := .seq vs.toArray } (.lst (ns.map V.int))) else none) (fun b => ?_) (.inl (.inr ⟨_, at_⟩)) (fun b u z => ?_) (fun b q => if_neg q) fun _ => hk
    · by_cases q : b = a
      · exact .inr ⟨_, _, if_pos q⟩
      · exact .inl (if_neg q)
    · by_cases q : b = a
      · subst q
        have z' := at_.symm.trans z
        cases z'
        exact ⟨ha, by rw [List.length_map]; exact hl, vs, _, rel, ha⟩
      · have z' := (if_neg q).symm.trans z
        cases z'
theorem walk_G {l : PySem.W.OpenLaw} {n k : Nat} {q : Program} {loose : List Str} {XP : (Str → Option Value) → Heap → Prop} {YP : World → Heap → Prop} {d : DefRec} {K : Params → PySem.W.Frag} {CX : World → CXT} {sp : World → Sp} {x : Str} (hn : l.most = some n) (hn2 : n ≤ sizeLine) (hdf : d.params.defaults = []) (room : Room k callerA)
    (hY : ∀ (w : World) (h : Heap), YP w h → (K w.params).In h) (F : ∀ (w : World) (mg : Str → Option Value) (fa : Addr) (h : Heap), (K w.params).In h → h.Ns mainGlobals mg → mg d.name = some (.ref fa) → ∃ fd : FuncData, (∀ (s : Shared) (u : Value), BindsTo s fd ⟨[u], []⟩ [(x, u)]) ∧ ∀ base : Heap, (K w.params).In base → base.Ns mainGlobals mg → GOk l.prog w (K w.params) mg base (CX w) k fa fd [x] (sp w))
    (hsp : ∀ (w : World) (H : Hp) (a : Addr) (ns : List Int), ns.length ≤ n → Only H → SqL (K w.params) H a (ns.map V.int) → sp w [.ref a] H (fun v _ => v = .bl true) fun _ _ _ => False) (calm : ∀ (w : World) (H : Hp) (s : Shared) (e : Value) (s' : Shared), CX w [] H s (fun _ _ _ => False) e s' → False) :
    PySem.W.WalkO q loose XP YP l.row.toRowW d [] (fun f vs => PySem.call f vs) := by
  refine Att.attach_call hn hdf fun w s₀ s₁ mg mb fa o pm cd doc a vs ns G Y ho hd hcd hmg hobj zs size bare => ?_
  have KX := hY w _ Y
  obtain ⟨fd, hb, hF⟩ := F w mg fa _ KX G.T.g hmg
  exact law_callG KX G.T.g G.T.b G.T.builtins G.T.nolimit bare hobj zs (Nat.le_trans size hn2) room hF hb (fun H hO hS => hsp w H a ns size hO hS) fun H e s' => calm w H s₁ e s'
end Pk

/-! errors that are caught and kept: a try with a tuple of classes, isinstance and fields of what was caught -/
namespace Pk
open PySem PySem.Spec PyProof.Rows L2
/-- an exception of the class cls stands at a, its dict at d -/
def ExT (a : Addr) (cls : Value) (d : Option Addr) : HO := .ext fun h => ∃ (oe : Obj) (vs : Array Value), h.get? a = some oe ∧ Zc cls d oe ∧ oe.data = .fields vs
theorem exT_ok {P : Program} {w : World} {H : Hp} {h : Heap} {a : Addr} {cls : Value} {d : Option Addr} {oe : Obj} {vs : Array Value} (e : h.get? a = some oe) (z : Zc cls d oe) (hd : oe.data = .fields vs) : ObjOk P w H h a (ExT a cls d) :=
  ⟨⟨oe, vs, e, z, hd⟩, ⟨oe, e⟩, fun _ _ ⟨o, v, q, r⟩ k => ⟨o, v, k o q, r⟩⟩
theorem exT_at {P : Program} {w : World} {H : Hp} {h : Heap} {a : Addr} {cls : Value} {d : Option Addr} (ok : HOk P w H h) (e : H a = some (ExT a cls d)) : ∃ (oe : Obj) (vs : Array Value), h.get? a = some oe ∧ Zc cls d oe ∧ oe.data = .fields vs := by
  have x : ObjOk P w H h a (.ext fun h => ∃ (oe : Obj) (vs : Array Value), h.get? a = some oe ∧ Zc cls d oe ∧ oe.data = .fields vs) := ok a _ e
  exact x.1
section
variable {X : Cx} {pins : List (Addr × Obj)} {σ : L2.St} {H : Hp} {s : Shared}
theorem inv_track {a : Addr} {cls : Value} {d : Option Addr} {oe : Obj} {vs : Array Value} (I : Inv X pins σ H s) (ha : H a = none) (e : s.heap.get? a = some oe) (z : Zc cls d oe) (hd : oe.data = .fields vs) (n0 : X.s_0.heap.get? a = none) (hp : ∀ p ∈ X.pn ++ pins, p.1 ≠ a) :
    Inv X pins σ (upd H a (ExT a cls d)) s := by
  have nL : X.env.locals ≠ a := fun q => by
    obtain ⟨m, ⟨o, es, ep, ho, h2, _⟩, _⟩ := I.loc
    rw [q, e] at ho
    cases ho
    rw [hd] at h2
    cases h2
  refine ⟨I.ok, I.os, I.bare, ⟨I.base.keep, I.base.slot, fun b o q n hx => ?_, I.base.there, fun b xs q => ?_, fun b o u q => ?_, fun b ps q => ?_⟩, I.loc, I.cell, ?_, fun x c q => ?_, fun p q => ?_, fun b o q => ?_, I.len⟩
  · rw [upd_ne (fun z => by rw [z, n0] at q; cases q)]
    exact I.base.free b o q n hx
  · have t := I.base.tups b xs q
    rw [upd_ne (ne_of_none t ha)]
    exact t
  · have t := I.base.frzs b o u q
    rw [upd_ne (ne_of_none t ha)]
    exact t
  · obtain ⟨m, t⟩ := I.base.tbls b ps q
    exact ⟨m, by rw [upd_ne (ne_of_none t ha)]; exact t⟩
  · rw [upd_ne nL]
    exact I.free
  · have nc : c ≠ a := fun y => by
      obtain ⟨v, o, ho, h2⟩ := I.cell x c q
      rw [y, e] at ho
      cases ho
      rw [hd] at h2
      cases h2
    rw [upd_ne nc]
    exact I.freeC x c q
  · obtain ⟨p1, p2, p3, p4, p5⟩ := I.pin p q
    exact ⟨p1, by rw [upd_ne (hp p q)]; exact p2, p3, p4, p5⟩
  · by_cases hb : b = a
    · rw [hb, upd_same] at q
      cases q
      rw [hb]
      exact exT_ok e z hd
    · rw [upd_ne hb] at q
      exact (I.hok b o q).stay (fun _ _ _ t => t) (fun c t => by rw [upd_ne (ne_of_none t ha)]; exact t) fun c xs t => by rw [upd_ne (ne_of_none t ha)]; exact t
end
theorem fly_kept {B h h' : Heap} {l : List Env} {a : Addr} {Z : Obj → Prop} (k : ∀ b o, h.get? b = some o → h'.get? b = some o) (f : HandSPX.FlyingZ B l a Z h) : HandSPX.FlyingZ B l a Z h' := by
  obtain ⟨h1, h2, h3, oe, vs, T, oT, ts, a1, a2, a3, a4, a5, a6, a7, a8, a9⟩ := f
  exact ⟨fun b o e => k b o (h1 b o e), h2, h3.of_keeps fun b o e _ => ⟨o, k b o e, rfl⟩, oe, vs, T, oT, ts, k _ _ a1, a2, a3, a4, a5, a6, k _ _ a7, a8, a9⟩
/-- what the clause 'except (c1, c2, c3) as n' wishes of an exception of the body: its suite ends as it falls; behind it the exception is known -/
def wTup (K : PySem.W.Frag) (n : Nat) (cs : List Value) (i : Nat) (ts : Addr → Value → Option Addr → TS) (Wout : WX) (D : Ends) : WX := fun cls d σ H => σ.length = n →
  ∃ b, PySem.W.exmAny K cls cs = some b ∧ (b = true → ∀ a, H a = none → ts a cls d { nx := fun σ' H' => H' a = none → D.nx (σ'.set i none) (upd H' a (ExT a cls d)), rt := fun _ _ => False } (σ.set i (some (.ref a))) H) ∧ (b = false → Wout cls d σ H)
section
variable {X : Cx} {x1 x2 x3 n : Str} {c1 c2 c3 : Value} {i kk : Nat} {body suite : List Stmt} {b₀ : Stmt} {p1 p2 p3 tpos pos pos' : Pos} {tb : WX → TS} {ts : Addr → Value → Option Addr → TS} {Wout : WX}
theorem ps_try_tup (hs : X.stack = X.env :: X.outer) (hf : X.env.frame = some X.env.locals) (hex : X.ex = []) (hN : X.N.Nodup) (hi : X.N[i]? = some n) (hln : X.env.kindOf n = some .local) (n1 : Names X x1 c1) (n2 : Names X x2 c2) (n3 : Names X x3 c3) (tk : Takes X Wout)
    (hb : ∀ (W : WX) (pn : List (Addr × Obj)) (xe : Value → Shared → Prop), Takes (X.tr pn xe) W → PassesOwn (model X.prog X.w) X.A X.env xe → PSs (X.tr pn xe) body (tb W))
    (hsu : ∀ (a : Addr) (oe : Obj) (cls : Value) (d : Option Addr) (pn : List (Addr × Obj)), Zc cls d oe → (∃ vs, oe.data = .fields vs) → PSs (X.suite a ((a, oe) :: pn)) (b₀ :: suite) (ts a cls d)) :
    PS X (.Try body [.ExceptHandler (some (.Tuple [.Name x1 p1, .Name x2 p2, .Name x3 p3] kk tpos)) (some n) (b₀ :: suite) pos'] [] [] pos) (fun D σ H => tb (wTup X.K X.N.length [c1, c2, c3] i ts Wout D) D σ H) := by
  refine ⟨fun pins s σ H D I h => ?_⟩
  have ok := I.ok
  have hfr : X.A.frames = some (X.env :: X.outer) := by rw [ok.frames, hs]
  have hloc : Loc X.env.scope n := .inl hln
  refine wpAny_Try_except ?_
  refine wpAny_mono ((hb (wTup X.K X.N.length [c1, c2, c3] i ts Wout D) (X.pn ++ pins) (fun e s₁ => wpAny (model X.prog X.w) X.A (noteFrame e X.env) (fun _ s₂ => wpAny (model X.prog X.w) X.A (setFlight e none) (fun _ s₃ =>
    wpAny (model X.prog X.w) X.A (handleBy e X.env [.ExceptHandler (some (.Tuple [.Name x1 p1, .Name x2 p2, .Name x3 p3] kk tpos)) (some n) (b₀ :: suite) pos']) (SP X pins D) X.xe s₃) X.xe s₂) X.xe s₁) (fun u s' xx => ?_) PassesOwn.looking).run [] s σ H D (I.toTry _) h) (fun f s1 hsp => ?_) (fun e s1 he => he)
  · -- the catch
    obtain ⟨a, B, sI, pins', σ', H', cls, d, rfl, J', nb, up, sky, na, os, ag, wish⟩ := xx
    obtain ⟨b, hb1, hyes, hno⟩ := wish J'.len
    have J : Inv X pins σ' H' sI := J'.ofTry ok
    have sky' : Sky B (X.env :: X.outer) a (Zc cls d) X.env.locals s'.heap := by rw [← hs]; exact sky
    show wpAny (model X.prog X.w) X.A (noteFrame (.ref a) X.env) _ _ _
    refine Sky.land Zc.steady hfr hf sky' fun h3 fl3 up3 => ?_
    have J3 : Inv X pins σ' H' { s' with heap := h3 } := J.landed nb fl3.1 (up.trans up3) os ag
    obtain ⟨oe3, vs3, he3, hz3, hd3⟩ := fl3.there
    have notFr : ∀ {h : Heap} {o : Obj} {vs : Array Value}, h.FunFrames B (X.env :: X.outer) → h.get? a = some o → o.data = .fields vs → a ∉ frs (X.env :: X.outer) := fun {h o vs} ff e dd hm => by
      obtain ⟨_, o', e', hnf⟩ := ff.mem hm
      rw [e] at e'; cases e'
      exact hnf _ dd
    have nfr := notFr fl3.2.2.1 he3 hd3
    have nfr' : a ∉ frs X.stack := by rw [hs]; exact nfr
    have nL : a ≠ X.env.locals := fun z => nfr (List.mem_filterMap.mpr ⟨X.env, List.mem_cons_self, by rw [hf, z]⟩)
    have nF : a ∉ X.fs := fun hm => by
      obtain ⟨e, he, q⟩ := List.mem_filterMap.mp hm
      exact nfr (List.mem_filterMap.mpr ⟨e, List.mem_cons_of_mem _ he, q⟩)
    have nI : ∀ o, sI.heap.get? a ≠ some o := fun o e => by
      have z := nb a o e nfr'
      rw [fl3.2.1] at z
      cases z
    have n0 : X.s_0.heap.get? a = none := by
      cases q : X.s_0.heap.get? a with
      | none => rfl
      | some o =>
        obtain ⟨o', e'⟩ := J.base.there a o q (by rw [hex]; exact fun z => nomatch z)
        exact absurd e' (nI o')
    have hp0 : ∀ p ∈ X.pn ++ pins, p.1 ≠ a := fun p hp z => by
      have q := (J.pin p hp).1
      rw [z] at q
      exact nI _ q
    have S3 := J3.suite he3 hd3 na nL nF
    refine wpAny_handleBy_cons (codeAny_handlers_test ?_) (by intro q; cases q)
    have LT : PySem.W.Looks (model X.prog X.w) h3 (typeOf (.ref a)) cls := fun A Q E s k q => wpAny_typeOf_ref (k _ _ he3) (by rw [hz3.1]; exact q)
    have ld : ∀ {x : Str} {c : Value} {p : Pos} {Q : Value → Shared → Prop} {E : Value → Shared → Prop}, Names X x c → Q c { s' with heap := h3 } → wpAny (model X.prog X.w) (X.A.mark (some (.ref a))) (eval (.Name x p) X.env) Q E { s' with heap := h3 } := fun {x c p Q E} hc q => by
      obtain ⟨hg, hdbg, hm | ⟨hm, hv, hnn⟩⟩ := hc
      · exact ld_glob (X := X.suite a ((a, oe3) :: (X.pn ++ pins))) S3 hg hm q hdbg
      · exact ld_blt (X := X.suite a ((a, oe3) :: (X.pn ++ pins))) S3 hg hm hv q hnn hdbg
    refine wpAny_Tuple ?_
    refine wpAny_items_cons (ld n1 ?_)
    refine wpAny_items_cons (ld n2 ?_)
    refine wpAny_items_cons (ld n3 ?_)
    refine wpAny_items_nil ⟨by size_fits, ?_⟩
    have kp : ∀ q o, h3.get? q = some o → (h3.push { cls := .type "tuple", data := .seq [c1, c2, c3].toArray }).get? q = some o := fun _ _ z => Heap.get?_push_of_some _ z
    have J5 : Inv X pins σ' H' { s' with heap := h3.push { cls := .type "tuple", data := .seq [c1, c2, c3].toArray } } := J3.kept (t' := s'.toks) kp
    have fl5 := fly_kept kp fl3
    have up5 : s'.heap.UpToSlots (h3.push { cls := .type "tuple", data := .seq [c1, c2, c3].toArray }) := up3.trans (Heap.UpToSlots.of_keeps kp)
    refine (PySem.W.exm_tup3 (M := model X.prog X.w) J5.kIn (LT.keeps kp) (Heap.get?_push_size h3 rfl) hb1).here ?_
    cases b with
    | true =>
      refine codeAny_handlers_suite_as ?_
      refine HandSPX.lands_againZ fl5 fun h4 fl4 up4 => ?_
      have J4 : Inv X pins σ' H' { s' with heap := h4 } := J.landed nb fl4.1 ((up.trans up5).trans up4) os ag
      obtain ⟨oe4, vs4, he4, hz4, hd4⟩ := fl4.there
      have S4 := J4.suite he4 hd4 na nL nF
      refine store_ok (X := X.suite a ((a, oe4) :: (X.pn ++ pins))) (v := .ref a) S4 hN hi hloc rfl (fun s5 S5 => ?_) (.inr hln)
      refine wpAny_mono ((hsu a oe4 cls d (X.pn ++ pins) hz4 ⟨_, hd4⟩).run [] s5 _ H' _ S5 (hyes rfl a na)) (fun f s6 hsp => ?_) (fun _ _ z => False.elim z)
      cases f with
      | next =>
        obtain ⟨σ6, H6, S6, q6⟩ := hsp
        refine gone_ok (X := X.suite a ((a, oe4) :: (X.pn ++ pins))) S6 hN hi hln fun s7 S7 => ?_
        obtain ⟨g1, g2, _⟩ := S7.pin (a, oe4) (List.mem_append_left _ List.mem_cons_self)
        exact ⟨_, _, inv_track (S7.unsuite ok) g2 g1 hz4 hd4 n0 hp0, q6 g2⟩
      | brk =>
        obtain ⟨σ6, H6, S6, q6⟩ := hsp
        exact q6.elim
      | cont =>
        obtain ⟨σ6, H6, S6, q6⟩ := hsp
        exact q6.elim
      | ret u =>
        obtain ⟨v6, σ6, H6, S6, r6, q6⟩ := hsp
        exact q6.elim
    | false =>
      show wpAny _ X.A (handleBy (.ref a) X.env []) _ _ _
      refine wpAny_handleBy_nil ?_
      obtain ⟨k1, k2, k3, oe, vs, T, oT, ts', he, hz, hd, h1, hr⟩ := id fl5
      unfold PySem.passOn
      refine wpAny_bind (wpAny_field he hd h1 ?_)
      rw [if_neg (show ¬ ((Value.ref T == Value.none) = true) from by simp)]
      have fin : wpAny (model X.prog X.w) X.A (setFlight (.ref a) X.env.frame) (fun _ s4 => wpAny (model X.prog X.w) X.A (throw (.ref a) : Sem Flow) (SP X pins D) X.xe s4) X.xe { s' with heap := h3.push { cls := .type "tuple", data := .seq [c1, c2, c3].toArray } } := by
        rw [hf]
        refine HandSPX.setFlight_upZ fl5 fun h4 hh4 up4 => wpAny_throw (tk _ _ ?_)
        exact ⟨a, B, sI, pins, σ', H', cls, d, rfl, J, nb, (up.trans up5).trans up4, .inr (.inr (by rw [hs]; exact hh4)), na, os, ag, hno rfl⟩
      first
        | exact wpAny_bind (wpAny_pure (wpAny_bind fin))
        | exact wpAny_bind fin
  · cases f with
    | next =>
      obtain ⟨σ', H', J', q⟩ := hsp
      exact wpAny_execs_nil ⟨σ', H', J'.ofTry ok, q⟩
    | brk =>
      obtain ⟨σ', H', J', q⟩ := hsp
      exact ⟨σ', H', J'.ofTry ok, q⟩
    | cont =>
      obtain ⟨σ', H', J', q⟩ := hsp
      exact ⟨σ', H', J'.ofTry ok, q⟩
    | ret u =>
      obtain ⟨v, σ', H', J', r, q⟩ := hsp
      exact ⟨v, σ', H', J'.ofTry ok, r, q⟩
end
/-! ### isinstance and fields of what was caught -/
structure ExcK (K : PySem.W.Frag) (D : Addr) : Prop where
  hd : PySem.W.hasDictIn K D = true
  ga : PySem.W.findIn K (.ref D) "__getattribute__" = some (some (.builtin "BaseException.__getattribute__"))
  gg : PySem.W.findIn K (.ref D) "__getattr__" = some none
  ex : PySem.W.subIn K (.ref D) (.type "BaseException") = some true
  ca : PySem.W.findIn K (.ref D) "__class__" = some (some (.builtin "object.__class__"))
  cn : PySem.W.specialIn K (.builtin "object.__class__") "__get__" = some (some (.builtin "getset_descriptor.__get__"))
  ct : PySem.W.takesIn K (.builtin "object.__class__") = some true
  cm : PySem.W.mroIn K D (.type "object") = some true
theorem inst_exT {X : Cx} {pins : List (Addr × Obj)} {σ : L2.St} {H : Hp} {s : Shared} {a D dd : Addr} {fs : List (Str × V)} (I : Inv X pins σ H s) (e : H a = some (ExT a (.ref D) (some dd))) (e2 : H dd = some (.xd fs)) :
    ∃ (oe od : Obj) (mA : Str → Option Value), PySem.W.InstAt s.heap a oe D (some od) ∧ s.heap.Ns1 dd mA ∧ (∀ f, RelO (fs.lookup f) (mA f)) ∧ s.heap.get? dd = some od := by
  obtain ⟨oe, vs, h1, hz, hd⟩ := exT_at I.hok e
  have hx : ObjOk X.prog X.w H s.heap dd (.xd fs) := I.hok dd _ e2
  obtain ⟨mA, hns, hr⟩ := hx
  obtain ⟨od, ho, hl⟩ := lookIn_ns hns
  exact ⟨oe, od, mA, ⟨h1, hz.1, by unfold PySem.W.notCls; rw [hd] <;> rfl, by rw [hz.2]; exact ho⟩, hns, hr, ho⟩
/-- isinstance(e, c), e an exception that was caught -/
def rIsT (K : PySem.W.Frag) : List V → Hp → VK → Prop := fun xs H Q => ∃ (a D dd : Addr) (fs : List (Str × V)) (c : V) (cv : Value) (b : Bool), xs = [.ref a, c] ∧ H a = some (ExT a (.ref D) (some dd)) ∧ H dd = some (.xd fs) ∧ ExcK K D ∧ (∀ u, RelV c u → u = cv) ∧ PySem.W.kitOne K (.ref D) cv = some b ∧ Q (.bl b) H
theorem call_isTr {X : Cx} : CallR X (.builtin "isinstance") (rIsT X.K) := by
  intro pins s σ H xs us Q I r h
  obtain ⟨a, D, dd, fs, c, cv, b, rfl, ha, hdd, C, hcv, e, q⟩ := h
  cases r with
  | cons rx rr =>
    cases rr with
    | cons rt rr =>
      cases rr
      cases rx
      have ec := hcv _ rt
      subst ec
      obtain ⟨oe, od, mA, J, _⟩ := inst_exT I ha hdd
      obtain ⟨cd, hc, _⟩ := PySem.W.any_some C.hd
      exact PySem.W.kia_one (PySem.W.kitx_exc (by rw [hc]; rfl) C.ga C.gg C.ex C.ca C.cn C.ct C.cm) I.kIn J e (fun z => nomatch z) fun tk => ⟨.bl b, H, I.kept (t' := tk) fun _ _ z => z, rfl, q⟩
/-- e.f, e an exception that was caught -/
def tXv (K : PySem.W.Frag) (f : Str) (te : TE) : TE := fun σ H Q => te σ H fun x H1 => ∃ (a D dd : Addr) (fs : List (Str × V)) (v : V), x = .ref a ∧ H1 a = some (ExT a (.ref D) (some dd)) ∧ H1 dd = some (.xd fs) ∧ ExcK K D ∧ PySem.W.findIn K (.ref D) f = some none ∧ fs.lookup f = some v ∧ Q v H1
theorem pe_xv {X : Cx} {e : Expr} {te : TE} {pos : Pos} {n : Str} (he : PE X e te) (hb : attributeBase e n X.env (eval e X.env) = eval e X.env := by rfl) : PE X (.Attribute e n pos) (tXv X.K n te) := by
  refine ⟨fun pins s σ H Q I h => ?_⟩
  refine attr_of hb (thn (he.run pins s σ H _ I h) fun u s1 hh => ?_)
  obtain ⟨x, H1, I1, rx, a, D, dd, fs, v, ex, ea, ed, T, hno, l, q⟩ := hh
  subst ex
  obtain rfl : u = Value.ref a := rx
  obtain ⟨oe, od, mA, J, hns, hr, ho⟩ := inst_exT I1 ea ed
  obtain ⟨od', ho', hl⟩ := lookIn_ns hns
  obtain rfl : od = od' := Option.some.inj (ho.symm.trans ho')
  obtain ⟨w, hu, rw'⟩ := RelO.some_of (v := v) (o := mA n) (by rw [← l]; exact hr n)
  exact HandSPX.exc_get I1.kIn J T.ga T.gg T.ex (PySem.W.findObj_own T.hd hno rfl (by rw [hl, hu])) (handed_of rw') ⟨v, H1, I1.tok _, rw', q⟩
/-! ### repr of anything plain -/
def Shw (H : Hp) (x : V) (d : PyData) : Prop := (Rd H x d ∧ d.showable = true ∧ d.hasDict = false ∧ d.depth ≤ 50 ∧ d.shown.length ≤ sizeLine) ∨ ∃ a, x = .ref a ∧ H a = some (.dK []) ∧ d = .dict []
theorem Rd.same {H H' : Hp} (s : Same H H') {x : V} {d : PyData} (h : Rd H x d) : Rd H' x d := by
  refine Rd.rec (motive_1 := fun x d _ => Rd H' x d) (motive_2 := fun xs ds _ => RdA H' xs ds) ?_ ?_ ?_ ?_ ?_ ?_ ?_ ?_ h
  · exact .non
  · intro b; exact .bl b
  · intro i; exact .int i
  · intro z; exact .str z
  · intro a xs ds e r ih; exact .lst (s _ _ e) ih
  · intro a xs ds e r ih; exact .tup (s _ _ e) ih
  · exact .nil
  · intro x xs d ds h t i1 i2; exact .cons i1 i2
theorem Shw.same {H H' : Hp} (s : Same H H') {x : V} {d : PyData} (h : Shw H x d) : Shw H' x d := by
  rcases h with ⟨h, r⟩ | ⟨a, e, h, r⟩
  · exact .inl ⟨h.same s, r⟩
  · exact .inr ⟨a, e, s _ _ h, r⟩
def rReprV : List V → Hp → VK → Prop := fun xs H Q => ∃ x d, xs = [x] ∧ Shw H x d ∧ Q (.str d.shown) H
theorem call_reprV {X : Cx} {j : Nat} (hr : Room j X.A) (hg : X.A.guards = some []) : CallR X (.builtin "repr") rReprV := by
  intro pins s σ H xs us Q I r h
  obtain ⟨x, d, rfl, hd, q⟩ := h
  obtain ⟨u, rfl, ru⟩ := vals1 r
  have done : ∀ (h' : Heap) (t : Tok) (tk : Nat), (∀ b o, s.heap.get? b = some o → h'.get? b = some o) → EP X pins σ Q (.str d.shown t) { s with heap := h', toks := tk } := fun h' t tk keep => ⟨.str _, H, I.kept keep, ⟨t, rfl⟩, q⟩
  rcases hd with ⟨hd, h1, h2, h3, h4⟩ | ⟨a, rfl, hd, rfl⟩
  · cases hd with
    | non =>
      cases (show u = Value.none from ru)
      exact PySem.P.repr_of_none (by simpa [PyData.shown] using done s.heap s.toks (s.toks + 1) fun _ _ e => e)
    | bl b =>
      cases (show u = Value.bool b from ru)
      exact PySem.P.repr_of_bool (by simpa [PyData.shown] using done s.heap s.toks (s.toks + 1) fun _ _ e => e)
    | int i =>
      obtain ⟨t, rfl⟩ := (show ∃ t, u = Value.int i t from ru)
      exact PySem.P.repr_of_int (by simpa [PyData.showable] using h1) (by simpa [PyData.shown] using done s.heap s.toks (s.toks + 1) fun _ _ e => e)
    | str z =>
      obtain ⟨t, rfl⟩ := (show ∃ t, u = Value.str z t from ru)
      exact PySem.P.repr_of_str (by simpa [PyData.shown] using done s.heap s.toks (s.toks + 1) fun _ _ e => e) (by simpa [PyData.shown] using h4)
    | @lst a xs ds e rr =>
      cases (show u = Value.ref a from ru)
      obtain ⟨as, z⟩ := rd_reads I (.lst e rr) _ rfl
      exact repr_of_reads' z h1 (fun e => by rw [h2] at e; cases e) hg (by have := hr.units; omega) (fun _ _ e => e) done h4
    | @tup a xs ds e rr =>
      cases (show u = Value.ref a from ru)
      obtain ⟨as, z⟩ := rd_reads I (.tup e rr) _ rfl
      exact repr_of_reads' z h1 (fun e => by rw [h2] at e; cases e) hg (by have := hr.units; omega) (fun _ _ e => e) done h4
  · cases (show u = Value.ref a from ru)
    obtain ⟨_, sm, vs, kv, o, es, ep, ho, ed, hd'⟩ := (show ObjOk X.prog X.w H s.heap a (.dK []) from I.hok a _ hd)
    cases kv
    obtain ⟨c1, c2, pr, _⟩ := hd'
    have en : es.toList = [] := by
      cases h9 : es.toList with
      | nil => rfl
      | cons y ys =>
        rw [h9] at pr
        cases pr
    have z : Reads s.heap (.ref a) (.dict []) (a :: [] ++ []) := .dict ho ed.1 c1 (by rw [en]; exact .nil) (by rw [en]; exact .nil)
    exact repr_of_reads' z rfl (fun _ hm => by simp at hm; rw [hm] at sm; simp at sm) hg (by have := hr.units; show X.A.units + (PyData.depth (.dict []) + 1) < _; have : PyData.depth (.dict []) ≤ 50 := by decide
                                                                                             omega) (fun _ _ e => e) done (by decide +kernel)
end Pk

/-! own errors raised, a lambda handed to a def that catches, tables of code objects -/
namespace Pk
open PySem PySem.Spec PyProof.Rows L2
/-! ### an own error: class, __init__(self, f): self.f = f -/
def spEI (C : Addr) (f : Str) : Sp := fun vs H Q _ => ∃ a v, vs = [.ref a, v] ∧ H a = some (exo a C none) ∧ ∀ dx, H dx = none → dx ≠ a → Q .non (upd (upd H dx (exd dx [(f, v)])) a (exo a C (some dx)))
structure ErrF (K : PySem.W.Frag) (mg : Str → Option Value) (x f q : Str) (C : Addr) (st : Stmt) : Prop where
  gC : mg x = some (.ref C)
  T : OexC K C
  no : PySem.W.findIn K (.ref C) f = some none
  ini : ∃ fI fd, PySem.W.findIn K (.ref C) "__init__" = some (some (.ref fI)) ∧ PySem.W.typeIn K (.ref fI) = some (.type "function") ∧ Fun K "__init__" q st fI fd
section
variable {X : Cx} {x f : Str} {C : Addr} {W : WX} {e : Expr} {ta : TA} {p pos pos2 : Pos} {k j : Nat}
/-- a def's promise that its error is made -/
structure ErrM (P : Program) (w : World) (K : PySem.W.Frag) (mg : Str → Option Value) (base : Heap) (x f : Str) (C : Addr) : Prop where
  gC : mg x = some (.ref C)
  T : OexC K C
  ini : ∃ fI fd, PySem.W.findIn K (.ref C) "__init__" = some (some (.ref fI)) ∧ PySem.W.typeIn K (.ref fI) = some (.type "function") ∧ FnOk P w K mg base CX0 1 fI fd ["self", f] (spEI C f) ∧ Binds K fd ["self", f] []
/-- raise X(e) -/
def tRz (C : Addr) (f : Str) (W : WX) (ta : TA) : TS := fun _ σ H => ta σ H fun vs H1 => ∃ v, vs = [v] ∧ ∀ d H', H1 d = none → Same H1 H' → H' d = some (.xd [(f, v)]) → W (.ref C) (some d) σ H'
theorem ps_imp {X : Cx} {st : Stmt} {t t' : TS} (h : PS X st t) (i : ∀ D σ H, t' D σ H → t D σ H) : PS X st t' := ⟨fun pins s σ H D I q => h.run pins s σ H D I (i D σ H q)⟩
theorem ps_rz (F : ErrM X.prog X.w X.K X.mg X.base x f C) (hc : X.calm = true) (hr : Room j X.A) (hj : 2 ≤ j) (tk : Takes X W) (hg : Gl X x) (ha : PA X [e] ta) (mono : ∀ σ H (Q Q' : List V → Hp → Prop), (∀ vs H', Q vs H' → Q' vs H') → ta σ H Q → ta σ H Q')
    (hdb : (x == ("__debug__" : Str)) = false := by decide) (he : starEach [e] X.env = (false, eval e X.env) :: starEach [] X.env := by rfl) (hpl : (backTo pos (starEach [] X.env)).any (·.1) = false := by rfl) :
    PS X (.Raise (some (.Call (.Name x p) [e] [] pos)) none pos2) (tRz C f W ta) := by
  obtain ⟨fI, fd, i1, i2, F1, b⟩ := F.ini
  refine ps_imp (ps_raise (W := W) hc tk (pmk_oex F.T i1 i2 F1 (hr.mono hj) b .nil pass0 hg F.gC ha hdb he hpl)) fun D σ H q => ?_
  refine mono _ _ _ _ (fun vs H1 z => ?_) q
  obtain ⟨v, rfl, z⟩ := z
  refine ⟨(by show 1 ≤ 1000; decide), fun a na => ?_⟩
  refine ⟨a, v, rfl, upd_same, fun dx nd ne => ⟨rfl, dx, [(f, v)], upd_same, ?_, ?_, ?_⟩⟩
  · rw [upd_ne ne, upd_same]
  · rw [upd_ne ne] at nd
    exact nd
  · rw [upd_ne ne] at nd
    refine z dx _ nd (fun c o ec => ?_) upd_same
    have c1 := ne_of_none ec nd
    have c2 := ne_of_none ec na
    rw [upd_ne c1, del_ne c2, upd_ne c2, upd_ne c1, upd_ne c2]
    exact ec
end
/-! ### a method that may raise -/
structure MetX (P : Program) (w : World) (K : PySem.W.Frag) (mg : Str → Option Value) (base : Heap) (k : Nat) (C : Addr) (m : Str) (sp : Sp) : Prop where
  ex : ∃ (f : Addr) (fd : FuncData) (ps : List Str), Cls K C ∧ Meth K C m f ∧ FnOk P w K mg base (L2.CX P w) k f fd ps sp ∧ Binds K fd ps []
/-- a class that is made by its name, its __init__ may raise -/
structure MakX (P : Program) (w : World) (K : PySem.W.Frag) (mg : Str → Option Value) (base : Heap) (k : Nat) (x : Str) (C : Addr) (sp : Sp) (dvs : List V) : Prop where
  ex : ∃ (f : Addr) (fd : FuncData) (ps : List Str) (ds : List Value), Mk K C f ∧ FnOk P w K mg base (L2.CX P w) k f fd ps sp ∧ mg x = some (.ref C) ∧ Binds K fd ps ds ∧ Vals dvs ds
section
variable {X : Cx} {k j : Nat} {C : Addr} {x m : Str} {sp : Sp} {dvs : List V} {p pos apos : Pos} {e o : Expr} {es : List Expr} {ta : TE} {t : TA} {W : WX} {E : XK}
theorem pe_mtX {pl : Sem Bool} (c : MetX X.prog X.w X.K X.mg X.base k C m sp) (hr : Room j X.A) (hk : k ≤ j) (tk : Takes X W) (hW : ∀ cls d σ H, E cls d H → W cls d σ H) (he : PE X o ta) (ha : PA X (e :: es) t)
    (hst : starEach (e :: es) X.env = (false, eval e X.env) :: starEach es X.env := by rfl) (hpl : (backTo pos (starEach es X.env)).any (·.1) = false := by rfl)
    (ht : eval (.Call (.Attribute o m apos) (e :: es) [] pos) X.env = (do
      let ov ← eval o X.env
      standAt apos.atName
      let (f, first) ← holding [ov] (getMethod ov m pl)
      callWith pos f first (backTo pos (starEach (e :: es) X.env)) (backToKw pos (keywordEach [] X.env))) := by rfl) :
    PE X (.Call (.Attribute o m apos) (e :: es) [] pos) (tMeth C m sp [] E ta t) := by
  obtain ⟨f, fd, ps, hc, hm, F, b⟩ := c.ex
  exact pe_meth (pl := pl) he hc hm F (hr.mono hk) b .nil (passes_call tk hW) ha hst hpl ht
theorem pe_mkX (c : MakX X.prog X.w X.K X.mg X.base k x C sp dvs) (hr : Room j X.A) (hk : k + 1 ≤ j) (tk : Takes X W) (hW : ∀ cls d σ H, E cls d H → W cls d σ H) (hg : Gl X x) (ha : PA X (e :: es) t)
    (hdb : (x == ("__debug__" : Str)) = false := by decide) (he : starEach (e :: es) X.env = (false, eval e X.env) :: starEach es X.env := by rfl) (hpl : (backTo pos (starEach es X.env)).any (·.1) = false := by rfl) :
    PE X (.Call (.Name x p) (e :: es) [] pos) (tMake C sp dvs E t) := by
  obtain ⟨f, fd, ps, ds, M, F, hm, b, d⟩ := c.ex
  exact pe_make M F (hr.mono hk) hg hm b d (passes_call tk hW) ha hdb he hpl
end
/-! ### made by keywords -/
theorem vals_rev : ∀ {vs : List V} {us : List Value}, Vals vs us → Vals vs.reverse us.reverse
  | _, _, .nil => .nil
  | _, _, .cons r t => by
    rw [List.reverse_cons, List.reverse_cons]
    exact (vals_rev t).append (.cons r .nil)
structure MakK (P : Program) (w : World) (K : PySem.W.Frag) (mg : Str → Option Value) (base : Heap) (k : Nat) (x : Str) (C : Addr) (sp : Sp) (ks : List Str) (gV : List V → List V → List V) : Prop where
  ex : ∃ (f : Addr) (fd : FuncData) (ps : List Str) (g : List Value → List Value → List Value), Mk K C f ∧ FnOk P w K mg base CX0 k f fd ps sp ∧ mg x = some (.ref C) ∧ KBn K fd ps 1 ks g gV
theorem pe_mkK {X : Cx} {k j : Nat} {x : Str} {C : Addr} {sp : Sp} {ks : List Str} {gV : List V → List V → List V} {p pos : Pos} {kws : List Keyword} {tk : TA} (c : MakK X.prog X.w X.K X.mg X.base k x C sp ks gV) (hr : Room j X.A) (hk : k + 1 ≤ j) (hg : Gl X x) (hkw : PK X kws tk)
    (hall : (backToKw pos (keywordEach kws X.env)).all (·.1.isSome) = true := by rfl) (hks : (backToKw pos (keywordEach kws X.env)).filterMap (·.1) = ks := by rfl) (hdb : (x == ("__debug__" : Str)) = false := by decide)
    (hpl : ((backTo pos (starEach [] X.env)).any (·.1) || (backToKw pos (keywordEach kws X.env)).any (·.1.isNone)) = false := by rfl) : PE X (.Call (.Name x p) [] kws pos) (tMakeK C 0 ks.length sp gV E0 tNil tk) := by
  obtain ⟨f, fd, ps, g, M, F, hm, b⟩ := c.ex
  exact pe_makeK0 M F (hr.mono hk) hg hm b pass0 hkw hall hks hdb hpl
/-- a def without arguments, the guards known -/
theorem pe_cG0 {X : Cx} {k j : Nat} {x : Str} {sp : Sp} {p pos : Pos} {CX : CXT} {E : XK} (c : CalG X.prog X.w X.K X.mg X.base CX k x sp) (hr : Room j X.A) (gd : X.A.guards = some []) (hk : k ≤ j) (hg : Gl X x) (hx : Passes CX X E) (hdb : (x == ("__debug__" : Str)) = false := by decide) : PE X (.Call (.Name x p) [] [] pos) (tCall sp [] E tNil) := by
  obtain ⟨f, fd, ps, F, hm, kp, b⟩ := c.ex
  refine ⟨fun pins s σ H Q I h => wpAny_Call_Name_kw (ld_glob I hg hm (PySem.W.callWith_K0 I.kIn kp ?_) hdb)⟩
  have q : sp [] H Q E := h
  have bd := b s [] I.kIn (by rw [← F.size _ _ _ _ q]; rfl)
  refine wpAny_call (codeAny_mono (F.go X.A X.stack s H ⟨[], []⟩ [] [] Q E gd (hr.mono hk) I.env0 bd .nil q) fun z s' hz => ?_)
  cases z with
  | error e => exact hx pins σ H s e s' I hz
  | ok fl => cases fl with
    | ret u => exact I.after hz
    | next => exact hz.elim
    | brk => exact hz.elim
    | cont => exact hz.elim
/-! ### defs whose code object is known -/
structure FunC (K : PySem.W.Frag) (x q : Str) (st : Stmt) (c f : Addr) (fd : FuncData) : Prop where
  ex : ∃ (oc : Value) (od : Option Addr) (kV doc pm : Value) (an : Option Addr) (ct : Value) (osl : Array (Option Value)),
    fd = PySem.W.fnOf x q (defArgs st) (defBody st) (defScope st) .none kV doc pm an (.ref c) ct ∧ K.lookup f = some ⟨oc, od, .func fd, osl⟩ ∧ PySem.W.codeIn K (.ref c) q = true
  kp : PySem.W.keepIn K (.ref f) = true
structure DefC (K : PySem.W.Frag) (mg : Str → Option Value) (x : Str) (st : Stmt) (c : Addr) : Prop where
  ex : ∃ f fd, FunC K x x st c f fd ∧ mg x = some (.ref f)
section
variable {P : Program} {w : World} {K : PySem.W.Frag} {mg : Str → Option Value} {base : Heap} {CX : CXT} {k : Nat} {f c : Addr} {fd : FuncData} {ps N : List Str} {sp : Sp}
theorem g_ofC {x q : Str} {st : Stmt} (F : FunC K x q st c f fd) (S : FnScope N ps (defScope st)) (size : ∀ vs H Q E, sp vs H Q E → vs.length = ps.length)
    (hbody : ∀ (A : Around) (outer : List Env) (s : Shared) (H : Hp) (vs : List V) (Q : VK) (E : XK), A.guards = some [] → Room k (A.deeper (envOfC q (defScope st) s.heap.objs.size f (.ref c))) → sp vs H Q E →
      ∃ t, PSs (cxOf CX P w K mg base N q (defScope st) f (.ref c) A outer s H E) (defBody st) t ∧ t { nx := fun _ H' => Q .non H', rt := Q } (start N vs) H) : GOk P w K mg base CX (k + 1) f fd ps sp := by
  obtain ⟨oc, od, kV, doc, pm, an, ct, osl, rfl, look, code⟩ := F.ex
  refine ⟨size, fun A outer s H args us vs Q E hg room e0 binds rel want => ?_⟩
  have same := size _ _ _ _ want
  have inK : K.In s.heap := e0.mod.kin.keeps fun b o e => (e0.bs b o e).1
  have free : s.heap.NoLimit := e0.mod.nolimit.keeps fun b o e => (e0.bs b o e).1
  refine codeAny_call_function room.depth (inK _ _ look) rfl S.co S.gen rfl (PySem.W.codeRec_of inK code) (binds _ _ _ _ ?_)
  refine wpAny_newFunctionEnv_cells S.kind (fun y hy => ?_) fun env he s1 x => ?_
  · obtain ⟨n, v⟩ := y
    exact (S.par n (List.of_mem_zip hy).1).imp id fun c => ⟨c, PySem.W.cellsFrom_some _ _ _ (.inl c)⟩
  · subst he
    refine ⟨free.keeps x.toInCall.keep, codeAny_func ?_⟩
    obtain ⟨t, ht, hq⟩ := hbody A outer s H vs Q E hg (room.deeper _) want
    have J := inv_start (CX := CX) (E := E) S room.hd e0 same rel x
    refine wpAny_mono (ht.run [] s1 (start N vs) H _ J hq) (fun fl s' hs => ?_) fun e s' hs => hs
    have last : ∀ {σ' : L2.St} {H' : Hp} {v : V} {u : Value}, Inv (cxOf CX P w K mg base N q (defScope st) f (.ref c) A outer s H E) [] σ' H' s' → RelV v u → Q v H' → CE outer P w H s Q u s' := fun I r k => ⟨_, _, I.os, I.bare, I.base, I.hok, r, k⟩
    cases fl with
    | next => exact hs.elim fun _ z => z.elim fun _ z => last (v := V.non) (u := Value.none) z.1 rfl z.2
    | ret u =>
      obtain ⟨v, σ', H', I, r, k⟩ := hs
      exact last I r k
    | brk => exact hs.elim fun _ z => z.elim fun _ z => z.2.elim
    | cont => exact hs.elim fun _ z => z.elim fun _ z => z.2.elim
theorem calgC {x : Str} {st : Stmt} (D : DefC K mg x st c) (S : FnScope N ps (defScope st)) (hb : Bnd x st ps) (size : ∀ vs H Q E, sp vs H Q E → vs.length = ps.length)
    (hbody : ∀ (f : Addr) (A : Around) (outer : List Env) (s : Shared) (H : Hp) (vs : List V) (Q : VK) (E : XK), A.guards = some [] → Room k (A.deeper (envOfC x (defScope st) s.heap.objs.size f (.ref c))) → sp vs H Q E →
      ∃ t, PSs (cxOf CX0 P w K mg base N x (defScope st) f (.ref c) A outer s H E).nox (defBody st) t ∧ t { nx := fun _ H' => Q .non H', rt := Q } (start N vs) H) : CalG P w K mg base CX0 (k + 1) x sp := by
  obtain ⟨f, fd, F, m⟩ := D.ex
  refine ⟨f, fd, ps, g_ofC F S size (fun A outer s H vs Q E hg hr h => ?_), m, F.kp, ?_⟩
  · obtain ⟨t, a, b⟩ := hbody f A outer s H vs Q E hg hr h
    exact ⟨t, a.nox, b⟩
  · obtain ⟨oc, od, kV, doc, pm, an, ct, osl, rfl, look, code⟩ := F.ex
    exact .all (hb kV doc pm an (.ref c) ct)
end
/-! ### behind a def that makes lambdas: the tables have grown -/
def NT (o : HO) : Prop := ∀ ps, o ≠ .tbl ps
structure Ext (T : List (Addr × Str)) (H H' : Hp) : Prop where
  ext : LamX.ExtN H H'
  tab : LamX.Tabs T H → LamX.Tabs T H'
section
variable {T : List (Addr × Str)} {H H1 H2 : Hp}
theorem Ext.refl (H : Hp) : Ext T H H := ⟨LamX.ExtN.refl H, id⟩
theorem Ext.of (s : Same H H1) : Ext T H H1 := ⟨LamX.ExtN.of s, fun t => t.ext s⟩
theorem Ext.trans (a : Ext T H H1) (b : Ext T H1 H2) : Ext T H H2 := ⟨a.ext.trans b.ext, fun t => b.tab (a.tab t)⟩
theorem Ext.get (e : Ext T H H1) {a : Addr} {o : HO} (h : H a = some o) (n : NT o) : H1 a = some o := e.ext a o h n
theorem Ext.pool {p n : Addr} {k : Int} (e : Ext T H H1) (h : PoolAt H p n k) : PoolAt H1 p n k := by
  obtain ⟨ns, a, c, z, st, h1, h2, r⟩ := h
  exact ⟨ns, a, c, z, st, e.get h1 (fun _ z => nomatch z), e.get h2 (fun _ z => nomatch z), r⟩
theorem Keep.tabs {p n : Addr} {k : Int} (e : Keep p n H H1) (h : PoolAt H p n k) (t : LamX.Tabs T H) : LamX.Tabs T H1 := fun q hq => by
  obtain ⟨ns, a, c, z, st, h1, h2, _⟩ := h
  have np : ∀ b o, H b = some o → (∀ xs, o ≠ .lst xs) → H1 b = some o := fun b o e' no => e b o e' (fun y => by rw [y, h1] at e'; exact no _ (Option.some.inj e').symm) (fun y => by rw [y, h2] at e'; exact no _ (Option.some.inj e').symm)
  obtain ⟨ps, a1, a2, a3⟩ := t q hq
  refine ⟨ps, np _ _ a1 (fun _ z => nomatch z), a2, fun pos cv hc => ?_⟩
  obtain ⟨c', e1, e2⟩ := a3 pos cv hc
  exact ⟨c', e1, np _ _ e2 (fun _ z => by unfold LamX.CodeO at z; cases z)⟩
end
end Pk

namespace Pk
open PySem PySem.Spec PyProof.Rows L2
theorem i_bm {K : PySem.W.Frag} {T : String} {r : V → List V → Hp → VK → Prop} {to : TE} {t : TA} {σ : L2.St} {H : Hp} {Q : VK} (h : to σ H fun x H1 => tyV K T x H1 ∧ t σ H1 fun xs H2 => r x xs H2 Q) : tBM K T r to t σ H Q := h
theorem reads_bls {h : Heap} : ∀ {bs : List Bool} {us : List Value}, Vals (bs.map V.bl) us → ∃ as, ReadsAll h us (bs.map PyData.bool) as
  | [], _, .nil => ⟨_, .nil⟩
  | b :: bs, _, .cons r t => by
    cases (show _ = Value.bool b from r)
    obtain ⟨as, z⟩ := reads_bls (h := h) t
    exact ⟨_, .cons (.bool b) z⟩
def rCntB : V → List V → Hp → VK → Prop := fun x xs H Q => ∃ (l : Addr) (bs : List Bool) (k : Bool), x = .ref l ∧ xs = [.bl k] ∧ H l = some (.lst (bs.map V.bl)) ∧ Q (.int (countIn (.bool k) (bs.map PyData.bool))) H
theorem mt_countB {X : Cx} : MtM X "list.count" rCntB := by
  intro pins s σ H x xs v us Q I rx rv h
  obtain ⟨l, bs, k, rfl, rfl, e, q⟩ := h
  cases (show v = Value.ref l from rx)
  obtain ⟨u, rfl, ru⟩ := rv.one
  cases (show u = Value.bool k from ru)
  obtain ⟨_, us, n, rv, h1⟩ := (show ObjOk X.prog X.w H s.heap l (.lst (bs.map V.bl)) from I.hok l _ e)
  obtain ⟨as, z⟩ := reads_bls (h := s.heap) rv
  exact PyProof.Rows.count_list_bools ⟨_, h1, rfl, n, rfl⟩ z (by induction bs <;> simp_all [Shape.has]) ⟨.int _, H, I.tok _, ⟨_, rfl⟩, q⟩
theorem ifb {p q : Bool} {A B : Prop} (e : p = q) (h : B) : if (!decide (V.bl p = V.bl q)) = true then A else B := by
  rw [e, decide_eq_true rfl]
  exact h
/-! a lambda's call in a try's body -/
theorem caught_call {X : Cx} {f c' : Addr} {q : Str} {tl : XK → Hp → VK → Prop} {W : WX} {pn : List (Addr × Obj)} {xe : Value → Shared → Prop} {e : Expr} {p : Pos}
    (act : ∀ E : XK, (∀ cls d σ' H', E cls d H' → W cls d σ' H') → PE (X.tr pn xe) e (fun σZ HZ Q => σZ[0]? = some (some (.ref f)) ∧ HZ c' = some (LamX.CodeO c' q) ∧ tl E HZ Q)) (hs : swapsWith e none p.line X.env = pure false := by rfl) :
    PSs (X.tr pn xe) [.Expr e p] (fun D σ H => ∃ Ech : XK, (∀ cls d σ' H', Ech cls d H' → W cls d σ' H') ∧ σ[0]? = some (some (.ref f)) ∧ H c' = some (LamX.CodeO c' q) ∧ tl Ech H (fun _ H' => D.nx σ H')) := by
  refine ⟨fun pins s σ H D I h => ?_⟩
  obtain ⟨Ech, hW, h1, h2, h3⟩ := h
  exact (pss_one (ps_expr (act Ech hW) hs)).run pins s σ H D I ⟨h1, h2, h3⟩
end Pk

/-! len(set(text)) -/
namespace Pk
open PySem PySem.Spec PyProof.Rows L2
/-- whether k stands among the first i keys -/
def seenK (f : Nat → Str) : Nat → Str → Bool
  | 0, _ => false
  | i + 1, k => seenK f i k || decide (k = f i)
/-- how many unlike keys stand among the first i -/
def numK (f : Nat → Str) : Nat → Nat
  | 0 => 0
  | i + 1 => if seenK f i (f i) then numK f i else numK f i + 1
theorem numK_le (f : Nat → Str) : ∀ i, numK f i ≤ i
  | 0 => Nat.le_refl 0
  | i + 1 => by
    have := numK_le f i
    unfold numK
    split <;> omega
def signK (x : Str) (i : Nat) : Str := ⟨#[x.cps.getD i 0]⟩
/-- how many unlike signs a text has -/
def unlike (x : Str) : Nat := numK (signK x) x.cps.size
theorem unlike_le (x : Str) : unlike x ≤ x.length := numK_le _ _
section
variable {pr : Program} {u : World} {B : Around} {Z : Result → Shared → Prop} {J : Addr} {fo we : List Addr} {Gs : Array GenState → Array GenState → Prop} {m : Nat} {At : Nat → Value → Prop} {Is : Nat → Shared → Prop}
/-- a set takes what a walk draws -/
theorem set_walk (W : WalksS pr u B.in1 J fo we Gs m At Is) (D : Addr) (apart : D ∉ fo) (f : Nat → Str) (few : m < 1000) (key : ∀ i v, At i v → ∃ t, v = .str (f i) t) :
    ∀ (left i : Nat) (z : Shared), m - i = left → i ≤ m → Is i z → z.heap.SetOf (PySem.strKind pr u) D (seenK f i) (numK f i) →
      (∀ z', Moved (D :: we) Gs z z' → z'.heap.SetOf (PySem.strKind pr u) D (seenK f m) (numK f m) → Z (.ok (.ret .none)) z') →
      codeAny (model pr u) B (.builtin "set.update.loop" ⟨[.ref D, .ref J], []⟩) Z z := by
  have Dw : D ∉ we := fun y => apart (W.sub _ y)
  have wider : ∀ c ∈ we, c ∈ D :: we := fun c y => List.mem_cons_of_mem _ y
  have keptSet : ∀ {i : Nat} {z z' : Shared}, Moved we Gs z z' → z.heap.SetOf (PySem.strKind pr u) D (seenK f i) (numK f i) → z'.heap.SetOf (PySem.strKind pr u) D (seenK f i) (numK f i) := fun {i z z'} y h => by
    obtain ⟨ob, e1, e2, e3, at1, more⟩ := h
    exact ⟨ob, e1, e2, e3, y.heap D _ Dw at1, more⟩
  intro left
  induction left with
  | zero =>
    intro i z hl hi st hs done
    obtain rfl : i = m := by omega
    refine codeAny_builtin PyProof.Rows.F.entry_set_update_loop ?_
    rw [Around.under_plainId PyProof.Rows.F.plain_set_update_loop _]
    show wpAny _ B.in1 (pyNext (.ref J) >>= _) _ _ z
    refine wpAny_bind (W.done z _ _ st fun z' y => ?_)
    show wpAny _ B.in1 (ret Value.none) _ _ z'
    exact wpAny_pure (done z' (y.mono wider) (keptSet y hs))
  | succ left next =>
    intro i z hl hi st hs done
    have lt : i < m := by omega
    refine codeAny_builtin PyProof.Rows.F.entry_set_update_loop ?_
    rw [Around.under_plainId PyProof.Rows.F.plain_set_update_loop _]
    show wpAny _ B.in1 (pyNext (.ref J) >>= _) _ _ z
    refine wpAny_bind (W.item i z _ _ lt st fun v z' hv st' y => ?_)
    obtain ⟨t, rfl⟩ := key i v hv
    have hs' := keptSet y hs
    show wpAny _ B.in1 (holding [Value.str (f i) t] (setAdd D (.str (f i) t)) >>= _) _ _ z'
    refine wpAny_bind (wpAny_holding ?_)
    unfold setAdd
    refine wpAny_holding ?_
    refine wpAny_bind ((PySem.strKind pr u).pyHash (k := f i) (strKind_is _ _ _ _) ?_)
    have room : numK f i + 1 < scanBound := by
      have := numK_le f i
      unfold scanBound
      omega
    refine wpAny_setAddHashed_of (knd := PySem.strKind pr u) (s := { z' with toks := z'.toks + 1 }) (strKind_is _ _ _ _) rfl hs' room fun g same hs2 => ?_
    refine wpAny_pure ⟨plainId_quiet PyProof.Rows.F.plain_set_update_loop _, next (i + 1) _ (by omega) lt (W.frame _ z' _ _ st' (Nat.le_succ _) fun b hb o e => ?_) hs2 fun z'' y2 h2 => ?_⟩
    · rw [same.2 b (fun q : b = D => apart (q ▸ hb))]
      exact e
    · refine done z'' (Moved.trans W.gtrans ((y.mono wider).then_heap (Nat.le_succ _) fun b o hb e => ?_) y2) h2
      rw [same.2 b (fun q : b = D => hb (q ▸ List.mem_cons_self))]
      exact e
end
section
variable {pr : Program} {u : World} {B : Around} {E : Value → Shared → Prop} {z : Shared}
set_option maxHeartbeats 3200000 in
theorem set_of_text {x : Str} {t : Tok} {Q : Value → Shared → Prop} (calm : B.handled = none) (few : x.cps.size < 1000)
    (done : ∀ (g : Heap) (tk : Nat), g.SetOf (PySem.strKind pr u) z.heap.objs.size (seenK (signK x) x.cps.size) (unlike x) →
      (∀ b o, b < z.heap.objs.size → z.heap.get? b = some o → g.get? b = some o) → Q (.ref z.heap.objs.size) { z with heap := g, toks := tk }) :
    wpAny (model pr u) B (call (.type "set") [.str x t]) Q E z := by
  obtain ⟨c, tl, line⟩ := PySem.F.called_set.mro
  have made := PySem.F.called_set.made
  have sub := PySem.F.called_set.sub
  refine wpAny_call (codeAny_of_tree ?_)
  show wpAny _ _ (callAny (.type "set") _) _ _ _
  refine wpAny_pure ⟨Code.quiet_builtin _ (by decide +kernel), codeAny_builtin PySem.F.entry_type_call ?_⟩
  rw [Around.under_plain (weight_type_call_type "set" [.str x t] []) rfl]
  have w1 := PySem.F.called_set.notType
  have w2 := PySem.F.called_set.canCreate
  have w3 := PySem.F.typeCall_set_1 (.str x t)
  repeat (any_goals (first | assumption | wp_step))
  refine codeAny_mono (code_set_new_1 (.str x t) (E := E) (Q₁ := fun ob z₁ => ∃ led : Bool, ob = .ref z.heap.objs.size ∧ z₁ = { z with heap := z.heap.push { cls := .type "set", dict := none, data := .set #[] 0 (.fresh 0 0 led) } }) fun led => ⟨led, rfl, rfl⟩) fun r z₁ hr => ?_
  match r, hr with
  | .error e, hr => exact hr
  | .ok .next, hr => exact hr.elim
  | .ok .brk, hr => exact hr.elim
  | .ok .cont, hr => exact hr.elim
  | .ok (.ret ob), hr =>
    obtain ⟨led, rfl, rfl⟩ := hr
    obtain ⟨g0, hg0⟩ : ∃ g0, g0 = z.heap.push { cls := .type "set", dict := none, data := .set #[] 0 (.fresh 0 0 led) } := ⟨_, rfl⟩
    have atD : g0.get? z.heap.objs.size = some { cls := .type "set", dict := none, data := .set #[] 0 (.fresh 0 0 led) } := by rw [hg0]; exact Heap.get?_push_size _ rfl
    rw [← hg0]
    have kindD : Shared.TypeIs { z with heap := g0 } (.ref z.heap.objs.size) "set" := ⟨_, atD, rfl⟩
    have w4 := PySem.F.called_set.init.lookup
    have w5 := PySem.F.called_set.init.bind (.ref z.heap.objs.size)
    repeat (any_goals (first | assumption | wp_step))
    refine codeAny_mono (codeAny_call_builtin (R := wants (fun r z₂ => r = .none ∧ ∃ g tk, z₂ = { z with heap := g, toks := tk } ∧
        g.SetOf (PySem.strKind pr u) z.heap.objs.size (seenK (signK x) x.cps.size) (unlike x) ∧
        (∀ b o, b < z.heap.objs.size → z.heap.get? b = some o → g.get? b = some o)) E) PySem.F.called_set.init.plain PySem.F.entry_set_init (check_set_init_1 kindD ?_)) fun r₂ z₂ hr₂ => ?_
    · have w6 := PySem.F.sub_str_set
      have w7 := PySem.F.sub_str_frozenset
      have w8 : (Value.type "str" == Value.type "dict") = false := by decide
      unfold Builtin.«set.__init__» noKeywords Builtin.Frozenset.updateFrom
      generalize hPI : pyIter = PI
      wp_walk
      subst hPI
      refine wpAny_pyIter_str fun o St W st => ?_
      refine wpAny_bind (wpAny_runValue ?_)
      have sz : g0.objs.size = z.heap.objs.size + 1 := by rw [hg0, Heap.size_push]
      have ap : z.heap.objs.size ∉ [g0.objs.size] := by rw [sz]; simp
      refine set_walk ((W B.in1.in1.in1 (by simp [calm])).toS) z.heap.objs.size ap (signK x) few (fun i v hv => ?_) (x.cps.size - 0) 0 _ (by omega) (Nat.zero_le _) st ?_ ?_
      · obtain ⟨c, k, e1, e2⟩ := hv
        refine ⟨k, ?_⟩
        rw [e2, signK, Array.getD_eq_getD_getElem?, e1]
        rfl
      · exact PyProof.Rows.SetOf_congr ((PyProof.Rows.setObjOf_fresh (knd := PySem.strKind pr u) led).setOf (Heap.get?_push_of_some _ atD) (by unfold scanBound; omega)) (fun _ => rfl) rfl
      · intro z' y hs
        obtain ⟨g, gs', dr', tk', os'⟩ := z'
        obtain rfl : gs' = z.gens := y.gens
        obtain rfl : dr' = z.drawn := y.drawn
        obtain rfl : os' = z.os := y.os
        show wpAny _ _ _ _ _ _
        refine wpAny_pure ?_
        show wpAny _ _ (ret Value.none) _ _ _
        refine wpAny_pure ⟨rfl, g, tk', rfl, hs, fun b o hb e => ?_⟩
        refine y.heap b o ?_ (Heap.get?_push_of_some _ (by rw [hg0]; exact Heap.get?_push_of_some _ e))
        simp only [List.mem_cons, List.not_mem_nil, or_false, not_or]
        exact ⟨Nat.ne_of_lt hb, by show b ≠ g0.objs.size; omega⟩
    · match r₂, hr₂ with
      | .error e, hr₂ => exact hr₂
      | .ok .next, hr₂ => exact hr₂.elim
      | .ok .brk, hr₂ => exact hr₂.elim
      | .ok .cont, hr₂ => exact hr₂.elim
      | .ok (.ret r), hr₂ =>
        obtain ⟨rfl, g, tk, rfl, hs, kept⟩ := hr₂
        repeat (any_goals (first | assumption | wp_step))
        exact done _ _ hs kept
end
/-- len(set(e)), e a text -/
def tUnlike (ta : TE) : TE := fun σ H Q => ta σ H fun x H1 => ∃ y : Str, x = .str y ∧ y.length < 1000 ∧ Q (.int (unlike y)) H1
theorem pe_unlike {X : Cx} {a : Expr} {ta : TE} {p p2 q pos : Pos} (hc : X.calm = true) (hg : Gl X "len") (hm : X.mg "len" = none) (hg2 : Gl X "set") (hm2 : X.mg "set" = none) (ha : PE X a ta)
    (na : starEach [a] X.env = (false, eval a X.env) :: starEach [] X.env := by rfl) : PE X (.Call (.Name "len" p) [.Call (.Name "set" p2) [a] [] q] [] pos) (tUnlike ta) := by
  refine ⟨fun pins s σ H Q I h => ?_⟩
  refine Call_ (ld_blt I hg hm boot_len ?_)
  refine callWith_builtin1 (args_cons ?_ rfl) rfl rfl
  refine Call_ (ld_blt I hg2 hm2 boot_set ?_)
  refine callWith_type1 (args_cons (thn (ha.run pins s σ H _ I h) fun v s1 ⟨x, H1, I1, r1, q1⟩ => args_nil ?_) na) na rfl
  obtain ⟨y, rfl, few, want⟩ := q1
  obtain ⟨t, rfl⟩ := r1
  refine set_of_text (I1.ok.hd hc) few fun g tk hs kept => args_nil ?_
  obtain ⟨ob, es, ep, tb, at1, hex, hd, _, _, _, hf, hn⟩ := hs
  have I2 : Inv X pins σ H1 { s1 with heap := g, toks := tk } := I1.kept fun b o e => kept b o (Heap.lt_size e) e
  have small : unlike y < 1000 := Nat.lt_of_le_of_lt (unlike_le y) few
  refine call_len_set at1 hex hd hf (by rw [hn] <;> omega) ⟨.int (unlike y), H1, I2.tok _, ⟨_, by rw [hn]⟩, want⟩
end Pk

/-! len(x), y in x, x[i] by an own class's methods -/
namespace Pk
open PySem PySem.Spec PyProof.Rows L2
section
variable {X : Cx} {CX : CXT} {k j : Nat} {C f : Addr} {fd : FuncData} {ps : List Str} {sp : Sp} {E : XK}
/-- an own method's run one floor deeper, its errors let out -/
theorem run_in1 {pins : List (Addr × Obj)} {σ : L2.St} {H : Hp} {s : Shared} {Q : VK} {R : Value → Shared → Prop} {us : List Value} {vs : List V} (F : FnOk X.prog X.w X.K X.mg X.base CX k f fd ps sp) (hb : Binds X.K fd ps []) (hr : Room k X.A.in1) (hx : Passes CX X E) (I : Inv X pins σ H s) (r : Vals vs us) (h : sp vs H Q E)
    (out : ∀ u s', EP X pins σ Q u s' → R u s') : wpAny (model X.prog X.w) X.A.in1 (call (.ref f) us) R X.xe s := by
  have hl : us.length = ps.length := by rw [← F.len _ _ _ _ h, r.length]
  have hb' := hb s us I.kIn (by simpa using hl)
  rw [List.append_nil] at hb'
  refine wpAny_call (codeAny_mono (F.run X.A.in1 X.stack s H ⟨us, []⟩ us vs Q E hr I.env0.in1 hb' r h) fun z s' hz => ?_)
  match z, hz with
  | .error e, hz => exact hx pins σ H s e s' I hz
  | .ok (.ret u), hz => exact out u s' (I.after hz)
/-- len(x) by an own __len__ -/
def rLenO (C : Addr) (sp : Sp) : List V → Hp → VK → Prop := fun xs H Q => ∃ a dx fs, xs = [.ref a] ∧ H a = some (.ins C dx fs) ∧ sp [.ref a] H (fun v H' => ∃ n : Nat, v = .int n ∧ n < 1000000 ∧ Q (.int n) H') E0
theorem call_lenO (c : OwnM X.prog X.w X.K X.mg X.base k C "__len__" sp) (hk : k + 1 ≤ j) (hr : Room j X.A) : CallR X (.builtin "len") (rLenO C sp) := by
  intro pins s σ H xs us Q I r h
  obtain ⟨a, dx, fs, rfl, ha, h⟩ := h
  obtain ⟨f, fd, ps, F, hs, hf, _, hb⟩ := c.ex
  obtain ⟨u, rfl, ru⟩ := vals1 r
  cases (show u = Value.ref a from ru)
  obtain ⟨mA, J, _⟩ := ins_get I.hok ha
  obtain ⟨od, J, _⟩ := J.look
  obtain ⟨m, hF⟩ := I.fr
  refine PySem.W.len_K hF I.ok.mod.kin J hs hf (run_in1 (vs := [.ref a]) F hb (Room.in1 (hr.mono hk)) pass0 I (.cons rfl .nil) h fun u s' z => ?_)
  obtain ⟨v, H', I', rv, n, rfl, small, q⟩ := z
  obtain ⟨t, rfl⟩ := (show ∃ t, u = Value.int n t from rv)
  exact ⟨⟨by omega, by omega⟩, .int n, H', I'.tok _, ⟨_, rfl⟩, q⟩
/-- y in x by an own __contains__ that tells a bool -/
def rInO (C : Addr) (sp : Sp) (g : Bool → Bool) : R2 := fun y x H Q => ∃ a dx fs, x = .ref a ∧ H a = some (.ins C dx fs) ∧ sp [.ref a, y] H (fun v H' => ∃ b, v = .bl b ∧ Q (.bl (g b)) H') E0
theorem op_inO (c : OwnM X.prog X.w X.K X.mg X.base k C "__contains__" sp) (hk : k ≤ j) (hr : Room j X.A) : OpR X (compareOp .In) (rInO C sp id) := by
  intro pins s σ H y x v u Q I ry rx h
  obtain ⟨a, dx, fs, rfl, ha, h⟩ := h
  obtain ⟨f, fd, ps, F, hs, hf, _, hb⟩ := c.ex
  cases (show u = Value.ref a from rx)
  obtain ⟨mA, J, _⟩ := ins_get I.hok ha
  obtain ⟨od, J, _⟩ := J.look
  obtain ⟨m, hF⟩ := I.fr
  refine PySem.W.in_K hF I.ok.mod.kin J hs hf (wpAny_mono (run_own (vs := [.ref a, y]) F hb (hr.mono hk) I (.cons rfl (.cons ry .nil)) h) (fun w s' z => ?_) fun _ _ q => q)
  obtain ⟨v', H', I', rv, b, rfl, q⟩ := z
  cases (show w = Value.bool b from rv)
  exact wpAny_truthy_bool ⟨.bl b, H', I', rfl, q⟩
theorem op_niO (c : OwnM X.prog X.w X.K X.mg X.base k C "__contains__" sp) (hk : k ≤ j) (hr : Room j X.A) : OpR X (compareOp .NotIn) (rInO C sp not) := by
  intro pins s σ H y x v u Q I ry rx h
  obtain ⟨a, dx, fs, rfl, ha, h⟩ := h
  obtain ⟨f, fd, ps, F, hs, hf, _, hb⟩ := c.ex
  cases (show u = Value.ref a from rx)
  obtain ⟨mA, J, _⟩ := ins_get I.hok ha
  obtain ⟨od, J, _⟩ := J.look
  obtain ⟨m, hF⟩ := I.fr
  refine PySem.W.notIn_K hF I.ok.mod.kin J hs hf (wpAny_mono (run_own (vs := [.ref a, y]) F hb (hr.mono hk) I (.cons rfl (.cons ry .nil)) h) (fun w s' z => ?_) fun _ _ q => q)
  obtain ⟨v', H', I', rv, b, rfl, q⟩ := z
  cases (show w = Value.bool b from rv)
  exact wpAny_truthy_bool ⟨.bl (!b), H', I', rfl, q⟩
/-- an own __getitem__, it may raise -/
structure GetO (P : Program) (w : World) (K : PySem.W.Frag) (mg : Str → Option Value) (base : Heap) (CX : CXT) (k : Nat) (C : Addr) (sp : Sp) : Prop where
  ex : ∃ (f : Addr) (fd : FuncData) (ps : List Str), FnOk P w K mg base CX k f fd ps sp ∧ PySem.W.findIn K (.ref C) "__getitem__" = some (some (.ref f)) ∧ PySem.W.isFn K (.ref f) = true ∧ PySem.W.fnIn K f = true ∧ Binds K fd ps []
def tIxO (C : Addr) (sp : Sp) (E : XK) (ta tb : TE) : TE := fun σ H Q => ta σ H fun x H1 => tb σ H1 fun y H2 => ∃ a dx fs, x = .ref a ∧ H2 a = some (.ins C dx fs) ∧ sp [.ref a, y] H2 Q E
theorem pe_ixO {a b : Expr} {ta tb : TE} {pos : Pos} (c : GetO X.prog X.w X.K X.mg X.base CX k C sp) (hk : k + 1 ≤ j) (hr : Room j X.A) (hx : Passes CX X E) (ha : PE X a ta) (hb : PE X b tb)
    (hsl : ∀ x u, subscripted b true (.ref x) u = runValue (.builtin "lifetime.subscript" ⟨[.ref x, u], []⟩) := by intro _ _; with_unfolding_all rfl) : PE X (.Subscript a b pos) (tIxO C sp E ta tb) := by
  refine ⟨fun pins s σ H Q I h => ?_⟩
  refine Subscript_ (binT ha hb I h fun v u s2 x y H2 I2 rx ry q => ?_)
  obtain ⟨o, dx, fs, rfl, ho, q⟩ := q
  obtain ⟨f, fd, ps, F, hs, hf, hfn, hbd⟩ := c.ex
  cases (show v = Value.ref o from rx)
  obtain ⟨mA, J, _⟩ := ins_get I2.hok ho
  obtain ⟨od, J, _⟩ := J.look
  obtain ⟨m, hF⟩ := I2.fr
  exact PySem.W.sub_K hF I2.ok.mod.kin J hs hfn hf (run_in1 (vs := [.ref o, y]) F hbd (Room.in1 (hr.mono hk)) hx I2 (.cons rfl (.cons ry .nil)) q fun _ _ z => z) (hsl _ _)
end
end Pk

/-! x != y where the class has an own __eq__ and object's __ne__ -/
namespace Pk
open PySem PySem.Spec PyProof.Rows L2
section
variable {pr : Program} {u : World} {B : Around} {E : Value → Shared → Prop} {z : Shared} {K : PySem.W.Frag} {a C f : Addr} {ob : Obj} {od : Option Obj} {v : Value}
theorem ne_run {Q : Value → Shared → Prop} (room : B.in1.units < cLine) (kin : K.In z.heap) (I : PySem.W.InstAt z.heap a ob C od) (top : PySem.W.subIn K (.ref C) (.type "object") = some true) (own : PySem.W.findIn K (.ref C) "__eq__" = some (some (.ref f))) (fn : PySem.W.isFn K (.ref f) = true)
    (h : wpAny (model pr u) B.in1 (call (.ref f) [.ref a, v]) (fun r z' => ∃ b, r = .bool b ∧ Q (.bool (!b)) z') E z) : wpAny (model pr u) B (call (.builtin "object.__ne__") [.ref a, v]) Q E z := by
  have inst : PySem.W.Looks (model pr u) z.heap (isInstance (.ref a) (.type "object")) true := I.type.andThen (PySem.W.looks_subIn kin top)
  refine wpAny_call (codeAny_call_builtin PySem.F.slot_object_ne.plain PySem.F.entry_object_ne (@PySem.W.check_slot (model pr u) _ _ _ "object.__ne__" "object" "__ne__" (.ref a) [v] [] _ (by decide +kernel) (by decide +kernel) inst (PySem.F.args_object_ne_2 _ _) ?_))
  unfold Builtin.«object.__ne__»
  refine wpAny_bind (m := slotArgs "__ne__" 1 _) (wpAny_pure ?_)
  refine wpAny_bind (m := cRoomFor _ _) (wpAny_cRoomFor room ?_)
  refine wpAny_bind (m := callSpecialIfBound? (.ref a) (Str.ofString "__eq__") [v]) (PySem.W.ifBound_K (args := [v]) kin I own fn (wpAny_mono h (fun r z' hr => ?_) fun _ _ e => e))
  obtain ⟨b, rfl, q⟩ := hr
  exact wpAny_bind (wpAny_truthy_bool (wpAny_pure q))
/-- a built-in slot, found by its class's line -/
theorem bound_slot {M : Model} {name : Str} {id : String} {args : List Value} {Q : Option Value → Shared → Prop} (kin : K.In z.heap) (I : PySem.W.InstAt z.heap a ob C od) (at_ : PySem.W.findIn K (.ref C) name = some (some (.builtin id))) (hb : ∀ o, bindSpecial (.builtin id) (.ref o) = pure (.builtin id, [.ref o]))
    (h : wpAny M B (call (.builtin id) (.ref a :: args)) (fun r => Q (some r)) E z) : wpAny M B (callSpecialIfBound? (.ref a) name args) Q E z := by
  simp only [callSpecialIfBound?, bindSpecialIfBound?]
  have last : wpAny M B (call (.builtin id) ([.ref a] ++ args) >>= fun r => pure (some r)) Q E z := wpAny_bind (wpAny_mono h (fun r z' q => wpAny_pure q) fun _ _ q => q)
  refine wpAny_holding (wpAny_bind (wpAny_bind (wpAny_bind (I.type.here ((PySem.W.looks_findIn kin at_).here ?_)))))
  refine wpAny_bind (wpAny_askSetting (wpAny_ite ?_))
  simp only [hb]
  split
  · exact wpAny_bind (wpAny_pure (wpAny_pure (by exact last)))
  · exact wpAny_tryCatch (wpAny_bind (wpAny_pure (wpAny_pure (by exact last))))
end
def rNeOwn (C : Addr) (sp : Sp) : R2 := fun x y H Q => ∃ a dx fs, x = .ref a ∧ H a = some (.ins C dx fs) ∧ ((∃ kn, Kd H y kn) ∨ (∃ b dy gs, y = .ref b ∧ H b = some (.ins C dy gs))) ∧ sp [x, y] H (fun v H' => ∃ b, v = .bl b ∧ Q (.bl (!b)) H') E0
section
variable {X : Cx} {k j : Nat} {C : Addr} {sp : Sp}
theorem op_neOwn (c : OwnM X.prog X.w X.K X.mg X.base k C "__eq__" sp) (ne : PySem.W.findIn X.K (.ref C) "__ne__" = some (some (.builtin "object.__ne__"))) (top : PySem.W.subIn X.K (.ref C) (.type "object") = some true) (hk : k + 2 ≤ j) (hr : Room j X.A) (hn : Apart X.K C) : OpR X (compareOp .NotEq) (rNeOwn C sp) := by
  intro pins s σ H x y v u Q I rx ry h
  obtain ⟨a, dx, fs, rfl, ha, hy, h⟩ := h
  obtain ⟨f, fd, ps, F, hs, hf, _, hb⟩ := c.ex
  cases (show v = Value.ref a from rx)
  obtain ⟨mA, J, _⟩ := ins_get I.hok ha
  obtain ⟨od, J, _⟩ := J.look
  have r1 : Room (k + 1) X.A.in1 := Room.in1 (hr.mono hk)
  have go : wpAny (model X.prog X.w) X.A (tryCompare (.ref a) (cmpInfo .NotEq).2.1 u) (fun r s' => ∃ w, r = some w ∧ EP X pins σ Q w s') X.xe s := by
    unfold tryCompare
    refine wpAny_bind (bound_slot I.kIn J ne (fun o => PySem.F.slot_object_ne.bind _) (ne_run r1.units0 I.kIn J top hs hf (run_in1 (vs := [.ref a, y]) F hb (r1.mono (Nat.le_succ _)) pass0 I (.cons rfl (.cons ry .nil)) h fun w s' e => ?_)))
    obtain ⟨v', H', I', rv, b, rfl, q⟩ := e
    cases (show w = Value.bool b from rv)
    exact ⟨b, rfl, wpAny_pure ⟨_, rfl, .bl (!b), H', I', rfl, q⟩⟩
  have run : ∀ tb, PySem.W.Looks (model X.prog X.w) s.heap (typeOf u) tb → (tb = .ref C ∨ PySem.W.subIn X.K tb (.ref C) = some false) → wpAny (model X.prog X.w) X.A (richCompare .NotEq (.ref a) u) (EP X pins σ Q) X.xe s := fun tb ht hc => by
    unfold richCompare
    simp only [oneThing_ref]
    refine wpAny_holding (wpAny_bind (wpAny_cRoomFor hr.units0 ?_))
    refine wpAny_bind (J.type.here (wpAny_bind (ht.here ?_)))
    split
    · rename_i q
      have e : PySem.W.subIn X.K tb (.ref C) = some false := by
        rcases hc with e | e
        · rw [e] at q
          simp at q
        · exact e
      refine wpAny_bind ((PySem.W.looks_subIn I.kIn e).here ?_)
      simp only [Bool.false_eq_true, if_false]
      refine wpAny_bind (wpAny_mono go (fun r s' e => ?_) fun _ _ e => e)
      obtain ⟨w, rfl, e⟩ := e
      exact wpAny_pure e
    · refine wpAny_bind (wpAny_pure ?_)
      simp only [Bool.false_eq_true, if_false]
      refine wpAny_bind (wpAny_mono go (fun r s' e => ?_) fun _ _ e => e)
      obtain ⟨w, rfl, e⟩ := e
      exact wpAny_pure e
  show wpAny (model X.prog X.w) X.A (richCompare .NotEq (.ref a) u) (EP X pins σ Q) X.xe s
  rcases hy with ⟨kn, hy⟩ | ⟨b, dy, gs, rfl, hb'⟩
  · exact run _ (looks_kd I hy ry) (.inr (hn kn))
  · cases (show u = Value.ref b from ry)
    obtain ⟨mB, J', _⟩ := ins_get I.hok hb'
    obtain ⟨od', J', _⟩ := J'.look
    exact run _ J'.type (.inl rfl)
end
end Pk

/-! len(set(x)), x a list or a tuple of integers -/
namespace Pk
open PySem PySem.Spec PyProof.Rows L2
/-- whether k stands among the first i keys -/
def seenI (f : Nat → Int) : Nat → Int → Bool
  | 0, _ => false
  | i + 1, k => seenI f i k || decide (k = f i)
/-- how many unlike keys stand among the first i -/
def numI (f : Nat → Int) : Nat → Nat
  | 0 => 0
  | i + 1 => if seenI f i (f i) then numI f i else numI f i + 1
theorem numI_le (f : Nat → Int) : ∀ i, numI f i ≤ i
  | 0 => Nat.le_refl 0
  | i + 1 => by
    have := numI_le f i
    unfold numI
    split <;> omega
def at0 (xs : List Int) (i : Nat) : Int := xs.getD i 0
/-- how many unlike numbers stand in a list -/
def unlikeI (xs : List Int) : Nat := numI (at0 xs) xs.length
theorem unlikeI_le (xs : List Int) : unlikeI xs ≤ xs.length := numI_le _ _
theorem at0_is : ∀ {its : List Value} {xs : List Int}, IntsAre its xs → ∀ (i : Nat) (v : Value), its[i]? = some v → ∃ t, v = .int (at0 xs i) t
  | _, _, .nil, i, v, h => by simp at h
  | _, _, .cons n t r, 0, v, h => by
    simp at h
    exact ⟨t, by rw [← h]; rfl⟩
  | _, _, .cons n t r, i + 1, v, h => by
    simp only [List.getElem?_cons_succ] at h
    obtain ⟨t', e⟩ := at0_is r i v h
    exact ⟨t', by rw [e]; rfl⟩
section
variable {pr : Program} {u : World} {B : Around} {Z : Result → Shared → Prop} {J : Addr} {fo we : List Addr} {Gs : Array GenState → Array GenState → Prop} {m : Nat} {At : Nat → Value → Prop} {Is : Nat → Shared → Prop}
/-- a set takes what a walk draws -/
theorem set_walkI (W : WalksS pr u B.in1 J fo we Gs m At Is) (D : Addr) (apart : D ∉ fo) (f : Nat → Int) (few : m < 1000) (key : ∀ i v, At i v → ∃ t, v = .int (f i) t) :
    ∀ (left i : Nat) (z : Shared), m - i = left → i ≤ m → Is i z → z.heap.SetOf (PySem.intKind pr u) D (seenI f i) (numI f i) →
      (∀ z', Moved (D :: we) Gs z z' → z'.heap.SetOf (PySem.intKind pr u) D (seenI f m) (numI f m) → Z (.ok (.ret .none)) z') →
      codeAny (model pr u) B (.builtin "set.update.loop" ⟨[.ref D, .ref J], []⟩) Z z := by
  have Dw : D ∉ we := fun y => apart (W.sub _ y)
  have wider : ∀ c ∈ we, c ∈ D :: we := fun c y => List.mem_cons_of_mem _ y
  have keptSet : ∀ {i : Nat} {z z' : Shared}, Moved we Gs z z' → z.heap.SetOf (PySem.intKind pr u) D (seenI f i) (numI f i) → z'.heap.SetOf (PySem.intKind pr u) D (seenI f i) (numI f i) := fun {i z z'} y h => by
    obtain ⟨ob, e1, e2, e3, at1, more⟩ := h
    exact ⟨ob, e1, e2, e3, y.heap D _ Dw at1, more⟩
  intro left
  induction left with
  | zero =>
    intro i z hl hi st hs done
    obtain rfl : i = m := by omega
    refine codeAny_builtin PyProof.Rows.F.entry_set_update_loop ?_
    rw [Around.under_plainId PyProof.Rows.F.plain_set_update_loop _]
    show wpAny _ B.in1 (pyNext (.ref J) >>= _) _ _ z
    refine wpAny_bind (W.done z _ _ st fun z' y => ?_)
    show wpAny _ B.in1 (ret Value.none) _ _ z'
    exact wpAny_pure (done z' (y.mono wider) (keptSet y hs))
  | succ left next =>
    intro i z hl hi st hs done
    have lt : i < m := by omega
    refine codeAny_builtin PyProof.Rows.F.entry_set_update_loop ?_
    rw [Around.under_plainId PyProof.Rows.F.plain_set_update_loop _]
    show wpAny _ B.in1 (pyNext (.ref J) >>= _) _ _ z
    refine wpAny_bind (W.item i z _ _ lt st fun v z' hv st' y => ?_)
    obtain ⟨t, rfl⟩ := key i v hv
    have hs' := keptSet y hs
    show wpAny _ B.in1 (holding [Value.int (f i) t] (setAdd D (.int (f i) t)) >>= _) _ _ z'
    refine wpAny_bind (wpAny_holding ?_)
    unfold setAdd
    refine wpAny_holding ?_
    refine wpAny_bind ((PySem.intKind pr u).pyHash (k := f i) (intKind_is _ _ _ _) ?_)
    have room : numI f i + 1 < scanBound := by
      have := numI_le f i
      unfold scanBound
      omega
    refine wpAny_setAddHashed_of (knd := PySem.intKind pr u) (s := { z' with toks := z'.toks + 1 }) (intKind_is _ _ _ _) rfl hs' room fun g same hs2 => ?_
    refine wpAny_pure ⟨plainId_quiet PyProof.Rows.F.plain_set_update_loop _, next (i + 1) _ (by omega) lt (W.frame _ z' _ _ st' (Nat.le_succ _) fun b hb o e => ?_) hs2 fun z'' y2 h2 => ?_⟩
    · rw [same.2 b (fun q : b = D => apart (q ▸ hb))]
      exact e
    · refine done z'' (Moved.trans W.gtrans ((y.mono wider).then_heap (Nat.le_succ _) fun b o hb e => ?_) y2) h2
      rw [same.2 b (fun q : b = D => hb (q ▸ List.mem_cons_self))]
      exact e
end
section
variable {pr : Program} {u : World} {B : Around} {E : Value → Shared → Prop} {z : Shared}
set_option maxHeartbeats 3200000 in
theorem set_of_list {l : Addr} {its : List Value} {xs : List Int} {Q : Value → Shared → Prop} (calm : B.handled = none) (few : xs.length < 1000) (at_ : z.heap.IsList l its.toArray) (are : IntsAre its xs)
    (done : ∀ (g : Heap) (tk : Nat), g.SetOf (PySem.intKind pr u) z.heap.objs.size (seenI (at0 xs) xs.length) (unlikeI xs) →
      (∀ b o, b < z.heap.objs.size → z.heap.get? b = some o → g.get? b = some o) → Q (.ref z.heap.objs.size) { z with heap := g, toks := tk }) :
    wpAny (model pr u) B (call (.type "set") [.ref l]) Q E z := by
  obtain ⟨c, tl, line⟩ := PySem.F.called_set.mro
  have made := PySem.F.called_set.made
  have sub := PySem.F.called_set.sub
  refine wpAny_call (codeAny_of_tree ?_)
  show wpAny _ _ (callAny (.type "set") _) _ _ _
  refine wpAny_pure ⟨Code.quiet_builtin _ (by decide +kernel), codeAny_builtin PySem.F.entry_type_call ?_⟩
  rw [Around.under_plain (weight_type_call_type "set" [.ref l] []) rfl]
  have w1 := PySem.F.called_set.notType
  have w2 := PySem.F.called_set.canCreate
  have w3 := PySem.F.typeCall_set_1 (.ref l)
  repeat (any_goals (first | assumption | wp_step))
  refine codeAny_mono (code_set_new_1 (.ref l) (E := E) (Q₁ := fun ob z₁ => ∃ led : Bool, ob = .ref z.heap.objs.size ∧ z₁ = { z with heap := z.heap.push { cls := .type "set", dict := none, data := .set #[] 0 (.fresh 0 0 led) } }) fun led => ⟨led, rfl, rfl⟩) fun r z₁ hr => ?_
  match r, hr with
  | .error e, hr => exact hr
  | .ok .next, hr => exact hr.elim
  | .ok .brk, hr => exact hr.elim
  | .ok .cont, hr => exact hr.elim
  | .ok (.ret ob), hr =>
    obtain ⟨led, rfl, rfl⟩ := hr
    obtain ⟨g0, hg0⟩ : ∃ g0, g0 = z.heap.push { cls := .type "set", dict := none, data := .set #[] 0 (.fresh 0 0 led) } := ⟨_, rfl⟩
    have atD : g0.get? z.heap.objs.size = some { cls := .type "set", dict := none, data := .set #[] 0 (.fresh 0 0 led) } := by rw [hg0]; exact Heap.get?_push_size _ rfl
    rw [← hg0]
    have kindD : Shared.TypeIs { z with heap := g0 } (.ref z.heap.objs.size) "set" := ⟨_, atD, rfl⟩
    have w4 := PySem.F.called_set.init.lookup
    have w5 := PySem.F.called_set.init.bind (.ref z.heap.objs.size)
    repeat (any_goals (first | assumption | wp_step))
    refine codeAny_mono (codeAny_call_builtin (R := wants (fun r z₂ => r = .none ∧ ∃ g tk, z₂ = { z with heap := g, toks := tk } ∧
        g.SetOf (PySem.intKind pr u) z.heap.objs.size (seenI (at0 xs) xs.length) (unlikeI xs) ∧
        (∀ b o, b < z.heap.objs.size → z.heap.get? b = some o → g.get? b = some o)) E) PySem.F.called_set.init.plain PySem.F.entry_set_init (check_set_init_1 kindD ?_)) fun r₂ z₂ hr₂ => ?_
    · have w6 := PySem.F.sub_list_set
      have w7 := PySem.F.sub_list_frozenset
      have w8 : (Value.type "list" == Value.type "dict") = false := by decide
      have at1 : g0.IsList l its.toArray := by rw [hg0]; exact at_.push _
      have at2 := at1
      obtain ⟨ol, hol, hcl, nl, hdl⟩ := at1
      obtain ⟨ocls, odict, odata, oslots⟩ := ol
      simp only at hcl hdl
      subst hcl
      subst hdl
      have lD : l < z.heap.objs.size := by
        obtain ⟨o1, ho1, _⟩ := at_
        exact Heap.lt_size ho1
      unfold Builtin.«set.__init__» noKeywords Builtin.Frozenset.updateFrom
      generalize hPI : pyIter = PI
      wp_walk
      subst hPI
      refine wpAny_pyIter_list at2 ?_
      refine wpAny_bind (wpAny_runValue ?_)
      have sz : g0.objs.size = z.heap.objs.size + 1 := by rw [hg0, Heap.size_push]
      have ap : z.heap.objs.size ∉ [g0.objs.size, l] := by
        rw [sz]
        simp only [List.mem_cons, List.not_mem_nil, or_false, not_or]
        exact ⟨Nat.ne_of_lt (Nat.lt_succ_self _), Nat.ne_of_gt lD⟩
      have sizes : its.toArray.size = xs.length := by rw [List.size_toArray, are.length]
      have walk := (Walks.list (prog := pr) (w := u) (A := B.in1.in1.in1) (by simp [calm]) g0.objs.size l (by rw [sz]; exact Nat.ne_of_lt (Nat.lt_succ_of_lt lD)) its.toArray).toS
      rw [sizes] at walk
      refine set_walkI walk z.heap.objs.size ap (at0 xs) few (fun i v hv => ?_) (xs.length - 0) 0 _ (by omega) (Nat.zero_le _) ⟨⟨_, Heap.get?_push_size _ rfl, rfl, rfl⟩, at2.push _⟩ ?_ ?_
      · exact at0_is are i v (by simpa using hv)
      · exact PyProof.Rows.SetOf_congr ((PyProof.Rows.setObjOf_fresh (knd := PySem.intKind pr u) led).setOf (Heap.get?_push_of_some _ atD) (by unfold scanBound; omega)) (fun _ => rfl) rfl
      · intro z' y hs
        obtain ⟨g, gs', dr', tk', os'⟩ := z'
        obtain rfl : gs' = z.gens := y.gens
        obtain rfl : dr' = z.drawn := y.drawn
        obtain rfl : os' = z.os := y.os
        show wpAny _ _ _ _ _ _
        refine wpAny_pure ?_
        show wpAny _ _ (ret Value.none) _ _ _
        refine wpAny_pure ⟨rfl, g, tk', rfl, hs, fun b o hb e => ?_⟩
        refine y.heap b o ?_ (Heap.get?_push_of_some _ (by rw [hg0]; exact Heap.get?_push_of_some _ e))
        simp only [List.mem_cons, List.not_mem_nil, or_false, not_or]
        exact ⟨Nat.ne_of_lt hb, by show b ≠ g0.objs.size; omega⟩
    · match r₂, hr₂ with
      | .error e, hr₂ => exact hr₂
      | .ok .next, hr₂ => exact hr₂.elim
      | .ok .brk, hr₂ => exact hr₂.elim
      | .ok .cont, hr₂ => exact hr₂.elim
      | .ok (.ret r), hr₂ =>
        obtain ⟨rfl, g, tk, rfl, hs, kept⟩ := hr₂
        repeat (any_goals (first | assumption | wp_step))
        exact done _ _ hs kept
end
section
variable {pr : Program} {u : World} {B : Around} {E : Value → Shared → Prop} {z : Shared}
set_option maxHeartbeats 3200000 in
theorem set_of_tuple {l : Addr} {its : List Value} {xs : List Int} {Q : Value → Shared → Prop} (calm : B.handled = none) (few : xs.length < 1000) (at_ : z.heap.IsTuple l its.toArray) (are : IntsAre its xs)
    (done : ∀ (g : Heap) (tk : Nat), g.SetOf (PySem.intKind pr u) z.heap.objs.size (seenI (at0 xs) xs.length) (unlikeI xs) →
      (∀ b o, b < z.heap.objs.size → z.heap.get? b = some o → g.get? b = some o) → Q (.ref z.heap.objs.size) { z with heap := g, toks := tk }) :
    wpAny (model pr u) B (call (.type "set") [.ref l]) Q E z := by
  obtain ⟨c, tl, line⟩ := PySem.F.called_set.mro
  have made := PySem.F.called_set.made
  have sub := PySem.F.called_set.sub
  refine wpAny_call (codeAny_of_tree ?_)
  show wpAny _ _ (callAny (.type "set") _) _ _ _
  refine wpAny_pure ⟨Code.quiet_builtin _ (by decide +kernel), codeAny_builtin PySem.F.entry_type_call ?_⟩
  rw [Around.under_plain (weight_type_call_type "set" [.ref l] []) rfl]
  have w1 := PySem.F.called_set.notType
  have w2 := PySem.F.called_set.canCreate
  have w3 := PySem.F.typeCall_set_1 (.ref l)
  repeat (any_goals (first | assumption | wp_step))
  refine codeAny_mono (code_set_new_1 (.ref l) (E := E) (Q₁ := fun ob z₁ => ∃ led : Bool, ob = .ref z.heap.objs.size ∧ z₁ = { z with heap := z.heap.push { cls := .type "set", dict := none, data := .set #[] 0 (.fresh 0 0 led) } }) fun led => ⟨led, rfl, rfl⟩) fun r z₁ hr => ?_
  match r, hr with
  | .error e, hr => exact hr
  | .ok .next, hr => exact hr.elim
  | .ok .brk, hr => exact hr.elim
  | .ok .cont, hr => exact hr.elim
  | .ok (.ret ob), hr =>
    obtain ⟨led, rfl, rfl⟩ := hr
    obtain ⟨g0, hg0⟩ : ∃ g0, g0 = z.heap.push { cls := .type "set", dict := none, data := .set #[] 0 (.fresh 0 0 led) } := ⟨_, rfl⟩
    have atD : g0.get? z.heap.objs.size = some { cls := .type "set", dict := none, data := .set #[] 0 (.fresh 0 0 led) } := by rw [hg0]; exact Heap.get?_push_size _ rfl
    rw [← hg0]
    have kindD : Shared.TypeIs { z with heap := g0 } (.ref z.heap.objs.size) "set" := ⟨_, atD, rfl⟩
    have w4 := PySem.F.called_set.init.lookup
    have w5 := PySem.F.called_set.init.bind (.ref z.heap.objs.size)
    repeat (any_goals (first | assumption | wp_step))
    refine codeAny_mono (codeAny_call_builtin (R := wants (fun r z₂ => r = .none ∧ ∃ g tk, z₂ = { z with heap := g, toks := tk } ∧
        g.SetOf (PySem.intKind pr u) z.heap.objs.size (seenI (at0 xs) xs.length) (unlikeI xs) ∧
        (∀ b o, b < z.heap.objs.size → z.heap.get? b = some o → g.get? b = some o)) E) PySem.F.called_set.init.plain PySem.F.entry_set_init (check_set_init_1 kindD ?_)) fun r₂ z₂ hr₂ => ?_
    · have w6 := PySem.F.sub_tuple_set
      have w7 := PySem.F.sub_tuple_frozenset
      have w8 : (Value.type "tuple" == Value.type "dict") = false := by decide
      have at1 : g0.IsTuple l its.toArray := by rw [hg0]; exact at_.push _
      have at2 := at1
      obtain ⟨ol, hol, hcl, nl, hdl⟩ := at1
      obtain ⟨ocls, odict, odata, oslots⟩ := ol
      simp only at hcl hdl
      subst hcl
      subst hdl
      have lD : l < z.heap.objs.size := by
        obtain ⟨o1, ho1, _⟩ := at_
        exact Heap.lt_size ho1
      unfold Builtin.«set.__init__» noKeywords Builtin.Frozenset.updateFrom
      generalize hPI : pyIter = PI
      wp_walk
      subst hPI
      refine wpAny_pyIter_tuple at2 ?_
      refine wpAny_bind (wpAny_runValue ?_)
      have sz : g0.objs.size = z.heap.objs.size + 1 := by rw [hg0, Heap.size_push]
      have ap : z.heap.objs.size ∉ [g0.objs.size, l] := by
        rw [sz]
        simp only [List.mem_cons, List.not_mem_nil, or_false, not_or]
        exact ⟨Nat.ne_of_lt (Nat.lt_succ_self _), Nat.ne_of_gt lD⟩
      have sizes : its.toArray.size = xs.length := by rw [List.size_toArray, are.length]
      have walk := (Walks.tuple (prog := pr) (w := u) (A := B.in1.in1.in1) (by simp [calm]) g0.objs.size l (by rw [sz]; exact Nat.ne_of_lt (Nat.lt_succ_of_lt lD)) its.toArray).toS
      rw [sizes] at walk
      refine set_walkI walk z.heap.objs.size ap (at0 xs) few (fun i v hv => ?_) (xs.length - 0) 0 _ (by omega) (Nat.zero_le _) ⟨⟨_, Heap.get?_push_size _ rfl, rfl, rfl⟩, at2.push _⟩ ?_ ?_
      · exact at0_is are i v (by simpa using hv)
      · exact PyProof.Rows.SetOf_congr ((PyProof.Rows.setObjOf_fresh (knd := PySem.intKind pr u) led).setOf (Heap.get?_push_of_some _ atD) (by unfold scanBound; omega)) (fun _ => rfl) rfl
      · intro z' y hs
        obtain ⟨g, gs', dr', tk', os'⟩ := z'
        obtain rfl : gs' = z.gens := y.gens
        obtain rfl : dr' = z.drawn := y.drawn
        obtain rfl : os' = z.os := y.os
        show wpAny _ _ _ _ _ _
        refine wpAny_pure ?_
        show wpAny _ _ (ret Value.none) _ _ _
        refine wpAny_pure ⟨rfl, g, tk', rfl, hs, fun b o hb e => ?_⟩
        refine y.heap b o ?_ (Heap.get?_push_of_some _ (by rw [hg0]; exact Heap.get?_push_of_some _ e))
        simp only [List.mem_cons, List.not_mem_nil, or_false, not_or]
        exact ⟨Nat.ne_of_lt hb, by show b ≠ g0.objs.size; omega⟩
    · match r₂, hr₂ with
      | .error e, hr₂ => exact hr₂
      | .ok .next, hr₂ => exact hr₂.elim
      | .ok .brk, hr₂ => exact hr₂.elim
      | .ok .cont, hr₂ => exact hr₂.elim
      | .ok (.ret r), hr₂ =>
        obtain ⟨rfl, g, tk, rfl, hs, kept⟩ := hr₂
        repeat (any_goals (first | assumption | wp_step))
        exact done _ _ hs kept
end

/-- len(set(e)), e a list or a tuple of integers -/
def tUnlikeI (K : PySem.W.Frag) (ta : TE) : TE := fun σ H Q => ta σ H fun x H1 => ∃ l, ∃ xs : List Int, x = .ref l ∧ (SqL K H1 l (xs.map V.int) ∨ SqT K H1 l (xs.map V.int)) ∧ xs.length < 1000 ∧ Q (.int (unlikeI xs)) H1
theorem ints_of : ∀ {ns : List Int} {us : List Value}, Vals (ns.map V.int) us → IntsAre us ns
  | [], _, .nil => .nil
  | n :: ns, _, .cons r t => by
    obtain ⟨k, rfl⟩ := r
    exact .cons n k (ints_of t)
theorem pe_unlikeI {X : Cx} {a : Expr} {ta : TE} {p p2 q pos : Pos} (hc : X.calm = true) (hg : Gl X "len") (hm : X.mg "len" = none) (hg2 : Gl X "set") (hm2 : X.mg "set" = none) (ha : PE X a ta)
    (na : starEach [a] X.env = (false, eval a X.env) :: starEach [] X.env := by rfl) : PE X (.Call (.Name "len" p) [.Call (.Name "set" p2) [a] [] q] [] pos) (tUnlikeI X.K ta) := by
  refine ⟨fun pins s σ H Q I h => ?_⟩
  refine Call_ (ld_blt I hg hm boot_len ?_)
  refine callWith_builtin1 (args_cons ?_ rfl) rfl rfl
  refine Call_ (ld_blt I hg2 hm2 boot_set ?_)
  refine callWith_type1 (args_cons (thn (ha.run pins s σ H _ I h) fun v s1 ⟨x, H1, I1, r1, q1⟩ => args_nil ?_) na) na rfl
  obtain ⟨l, xs, rfl, hq, few, want⟩ := q1
  cases r1
  have small : unlikeI xs < 1000 := Nat.lt_of_le_of_lt (unlikeI_le xs) few
  have last : ∀ (g : Heap) (tk : Nat), g.SetOf (PySem.intKind X.prog X.w) s1.heap.objs.size (seenI (at0 xs) xs.length) (unlikeI xs) → (∀ b o, b < s1.heap.objs.size → s1.heap.get? b = some o → g.get? b = some o) →
      wpAny (model X.prog X.w) X.A (spliced (backTo pos (starEach [] X.env))) (fun vs s₂ => wpAny (model X.prog X.w) X.A (call (.builtin "len") (Value.ref s1.heap.objs.size :: vs)) (EP X pins σ Q) X.xe s₂) X.xe { s1 with heap := g, toks := tk } := fun g tk hs kept => by
    refine args_nil ?_
    obtain ⟨ob, es, ep, tb, at1, hex, hd, _, _, _, hf, hn⟩ := hs
    have I2 : Inv X pins σ H1 { s1 with heap := g, toks := tk } := I1.kept fun b o e => kept b o (Heap.lt_size e) e
    exact call_len_set at1 hex hd hf (by rw [hn] <;> omega) ⟨.int (unlikeI xs), H1, I2.tok _, ⟨_, by rw [hn]⟩, want⟩
  rcases hq with hq | hq
  · obtain ⟨its, r, pl, hz⟩ := I1.list hq
    exact set_of_list (I1.ok.hd hc) few pl.isList (ints_of r) last
  · obtain ⟨its, r, pl, hz⟩ := I1.tuple hq
    exact set_of_tuple (I1.ok.hd hc) few pl (ints_of r) last
end Pk

namespace Pk
open PySem PySem.Spec PyProof.Rows L2
local macro_rules | `(tactic| walk_at "sz") => `(tactic| first | assumption | decide +kernel | exact Nat.le_trans (Nat.le_of_ble_eq_true rfl) (show 100000 ≤ sizeLine by decide) | exact Nat.le_trans (by omega) (show 100000 ≤ sizeLine by decide) | (show _ ≤ sizeLine; exact Nat.le_trans (by (simp only [List.length_append, List.length_map, List.length_cons, List.length_nil]; omega)) (show 100000 ≤ sizeLine by decide)))
local macro_rules | `(tactic| walk_at "mul") => `(tactic| first | exact Or.inl (Or.inl ⟨by omega, by omega⟩) | exact Or.inl (Or.inr ⟨by omega, by omega⟩))
local macro_rules | `(tactic| walk_at "ci") => `(tactic| first | assumption | exact (by decide : (0 : Int) < _) | (show (0 : Int) < _; omega) | exact ⟨by assumption, by assumption⟩ | exact ⟨by decide, by decide⟩ | exact ⟨by decide, by decide, by omega⟩)
local macro_rules | `(tactic| walk_at "lk") => `(tactic| first | assumption | exact upd_same | ((refine Eq.trans (upd_ne (by first | assumption | exact Ne.symm (by assumption))) ?_); walk_at "lk") | exact Same.get (by assumption) (by walk_at "lk") | exact Keep.get (by assumption) (by walk_at "lk") (by assumption) (by assumption))
local macro_rules | `(tactic| walk_at "sq") => `(tactic| first | assumption | exact SqL.of (by walk_at "lk") | exact Same.seq (by assumption) (by walk_at "sq"))
local macro_rules | `(tactic| walk_at "stt") => `(tactic| exact SqT.of (by walk_at "lk"))
local macro_rules | `(tactic| walk_at "kd") => `(tactic| first | assumption | exact Kd.str _ (by first | assumption | omega | decide) | exact Kd.bl _ | exact Kd.int _ | exact Kd.non | exact Kd.lst (by walk_at "lk") | exact Kd.tup (by walk_at "lk") | exact Kd.dct (by walk_at "lk") | exact Kd.same (by assumption) (by walk_at "kd"))
local macro_rules | `(tactic| walk_at "sm") => `(tactic| first | assumption | exact Same.refl _ | (refine Same.trans ?_ (by assumption); walk_at "sm"))
local macro_rules | `(tactic| walk_at "st") => `(tactic| first
  | with_reducible refine i_seq ?_ | with_reducible refine i_asg ?_ | with_reducible refine i_ret ?_ | with_reducible refine i_op ?_
  | ((with_reducible show tVar _ _ _ _); refine i_var rfl ?_)
  | with_reducible refine i_c ?_ | with_reducible refine i_cb ?_ | with_reducible refine i_call ?_ | with_reducible refine i_cons ?_ | with_reducible refine i_nil ?_
  | with_reducible refine i_name ?_ | with_reducible refine i_sub ?_ | with_reducible refine i_drop ?_ | with_reducible refine i_ifs ?_ | with_reducible refine i_ife ?_
  | with_reducible refine i_test ?_ | with_reducible refine i_tru ?_ | with_reducible refine i_and ?_ | with_reducible refine i_or ?_ | with_reducible refine i_not ?_
  | with_reducible refine i_andV ?_ | with_reducible refine i_orV ?_ | with_reducible refine i_notV ?_ | with_reducible refine i_un ?_
  | with_reducible refine i_bl ?_ | with_reducible refine i_trB ?_ | with_reducible refine i_next ?_
  | with_reducible refine iteF ?_ | with_reducible refine iteT ?_
  | with_reducible refine i_lstF ?_ | with_reducible refine i_tupF ?_
  | with_reducible refine p_addI ?_ | with_reducible refine p_I0 ?_ | with_reducible refine p_U ?_
  | with_reducible refine p_ltI ?_ | with_reducible refine p_leI ?_ | with_reducible refine p_gtI ?_ | with_reducible refine p_geI ?_
  | with_reducible refine p_ltS ?_ | with_reducible refine p_leS ?_ | with_reducible refine p_gtS ?_
  | with_reducible refine p_eqI ?_ | with_reducible refine p_neI ?_ | with_reducible refine p_int ?_
  | ((with_reducible show rMuXX (V.int _) (V.int _) _ _); refine p_muI (by walk_at "mul") ?_)
  | ((with_reducible show rI _ _ (V.int _) (V.int _) _ _); refine p_I (by walk_at "ci") ?_)
  | ((with_reducible show rIx _ (V.ref _) (V.int _) _ _); (first | refine p_ixL (by walk_at "sq") (by first | exact rfl | assumption) ?_ | refine p_ixT (SqT.of (by walk_at "lk")) (by first | exact rfl | assumption) ?_))
  | ((with_reducible show rSetL (V.ref _) (V.int _) _ _ _); refine p_setL (by walk_at "lk") (by first | exact rfl | assumption) ?_)
  | ((with_reducible show rLenX _ [V.ref _] _ _); (first | refine p_lenL (by walk_at "sq") ?_ | refine p_lenT (SqT.of (by walk_at "lk")) ?_))
  | ((with_reducible show rLenX _ [V.str _] _ _); refine p_lenS (by walk_at "sz") ?_)
  | with_reducible refine i_lc ?_ | with_reducible refine i_for ?_ | with_reducible refine i_itl ?_ | with_reducible refine i_itt ?_ | with_reducible refine i_itr ?_ | with_reducible refine i_its ?_
  | ((with_reducible show ∃ _, V.ref _ = V.ref _ ∧ (∃ _, SqL _ _ _ _) ∧ _); refine p_itl (by walk_at "sq") ?_)
  | ((with_reducible show ∃ _, V.ref _ = V.ref _ ∧ (∃ _, SqT _ _ _ _) ∧ _); refine p_itt (by walk_at "stt") ?_) | with_reducible refine p_its ?_
  | ((with_reducible show ∃ _, [V.int _] = [V.int _] ∧ _); refine p_itr (by omega) (by omega) ?_)
  | with_reducible refine i_sl ?_ | with_reducible refine i_np ?_ | with_reducible refine i_pt ?_ | with_reducible refine i_in ?_
  | ((with_reducible show rSlXX _ (V.ref _) _ _ _ _); refine p_slL (by walk_at "sq") ?_; intro _ _ _ _ _)
  | ((with_reducible show rSlXX _ (V.str _) _ _ _ _); refine p_slS (by walk_at "sz") ?_)
  | ((with_reducible show rIsi _ [_, V.ty "str"] _ _); refine p_isStr (by walk_at "kd") ?_)
  | ((with_reducible show rIsi _ [_, V.ty "int"] _ _); refine p_isInt (by walk_at "kd") ?_)
  | ((with_reducible show rIsi _ [_, V.ty "bool"] _ _); refine p_isBool (by walk_at "kd") ?_)
  | ((with_reducible show rIsiT _ [_, V.ref _] _ _); refine p_isLT (by walk_at "lk") (by walk_at "kd") ?_)
  | with_reducible refine i_chain ?_ | with_reducible refine i_m1 ?_ | with_reducible refine i_m0 ?_ | with_reducible refine i_str ?_
  | ((with_reducible show LstK _ _ _); refine p_lstK (by walk_at "sz") ?_; intro _ _ _ _ _)
  | ((with_reducible show TupK _ _ _); refine p_tupK (by walk_at "sz") ?_; intro _ _ _ _ _)
  | ((with_reducible show (if _ = true then _ else _)); (first | refine ifT' (by first | assumption | exact rfl) ?_ | refine ifF' (by first | assumption | exact rfl) ?_))
  | ((with_reducible show rEqX _ (V.bl _) (V.bl _) _ _); refine p_eqS rfl ?_) | ((with_reducible show rNeX _ (V.bl _) (V.bl _) _ _); refine p_neS rfl ?_)
  | ((with_reducible show rEqX _ (V.ref _) (V.ref _) _ _); refine p_eqNil (by walk_at "lk") (by walk_at "lk") ?_) | ((with_reducible show rNeX _ (V.ref _) (V.ref _) _ _); refine p_neNil (by walk_at "lk") (by walk_at "lk") ?_)
  | ((with_reducible show rAddX _ (V.str _) (V.str _) _ _); refine p_addS (by walk_at "sz") ?_)
  | ((with_reducible show rMuXX (V.str _) (V.int _) _ _); refine p_muS ⟨by decide +kernel, by decide +kernel, by decide +kernel⟩ ?_)
  | ((with_reducible show tDNewK _ _ _); refine i_dnew ?_; intro _ _ _ _ _)
  | ((with_reducible show rTupX _ [V.ref _] _ _); refine p_tupL (by walk_at "sq") ?_; intro _ _ _ _ _)
  | ((with_reducible show rAddX _ (V.ref _) (V.ref _) _ _); refine p_addL (by walk_at "lk") (by walk_at "lk") (by walk_at "sz") ?_; intro _ _ _ _ _)
  | with_reducible refine p_notB ?_ | with_reducible refine p_isB ?_)
local macro_rules | `(tactic| walk_at "go") => `(tactic| (walk_at "st"; (repeat walk_at "st")))

def top (i : Nat) : Stmt := PySem.Challenge.pw_lineorigins_k09_versions.main.body.getD i (.Pass ⟨0, 0, 0, 0⟩)
abbrev s__law_pool : Stmt := top 36
abbrev N__law_pool : List Str := ["script", "numbers", "seed", "cell"]
theorem sc__law_pool : FnScope ["script", "numbers", "seed", "cell"] ["script"] (defScope s__law_pool) := ⟨rfl, rfl, rfl, by decide +kernel, rfl, by decide +kernel, by decide +kernel⟩
abbrev s__law_mixed : Stmt := top 37
abbrev N__law_mixed : List Str := ["number", "count", "many"]
theorem sc__law_mixed : FnScope ["number", "count", "many"] ["number", "count", "many"] (defScope s__law_mixed) := ⟨rfl, rfl, rfl, by decide +kernel, rfl, by decide +kernel, by decide +kernel⟩
abbrev s__law_draw : Stmt := top 38
abbrev N__law_draw : List Str := ["pool", "many", "at", "numbers", "cell"]
theorem sc__law_draw : FnScope ["pool", "many", "at", "numbers", "cell"] ["pool", "many"] (defScope s__law_draw) := ⟨rfl, rfl, rfl, by decide +kernel, rfl, by decide +kernel, by decide +kernel⟩
structure PoolF (K : PySem.W.Frag) (mg : Str → Option Value) : Prop where
  n_int : mg "int" = none
  n_len : mg "len" = none
  d_pool : DefAt K mg "_law_pool" s__law_pool
  d_mixed : DefAt K mg "_law_mixed" s__law_mixed
  d_draw : DefAt K mg "_law_draw" s__law_draw
section
variable {P : Program} {w : World} {K : PySem.W.Frag} {mg : Str → Option Value} {base : Heap}
def spMixed : Sp := fun vs H Q _ => ∃ (a c m : Int), vs = [.int a, .int c, .int m] ∧ 0 ≤ a ∧ a < 2147483647 ∧ 0 ≤ c ∧ c < 2 ^ 50 ∧ 0 < m ∧ ∀ r : Int, 0 ≤ r → r < m → Q (.int r) H
theorem c__law_mixed (T : PoolF K mg) : Cal P w K mg base CX0 1 "_law_mixed" spMixed := by
  refine cal0 T.d_mixed sc__law_mixed (fun _ _ _ _ _ _ us hl => match us, hl with | [_, _, _], _ => rfl) (fun vs H Q E h => ?_) (fun f cdv A outer s H vs Q E hr h => ?_)
  · obtain ⟨a, c, m, rfl, _⟩ := h
    rfl
  · obtain ⟨a, c, m, rfl, h1, h2, h3, h4, h5, k⟩ := h
    refine ⟨_, (pss_one (ps_ret (pe_op op_mod (pe_op op_fdX (pe_callTy call_intX (by rfl) T.n_int (by decide +kernel) (pa_cons (pe_op op_mod (pe_op op_pow (pe_callTy call_intX (by rfl) T.n_int (by decide +kernel) (pa_cons (pe_op (r := rAddX K) op_addX (pv 0) (pe_op op_muX pe_int (pv 1))) pa_nil)) pe_int) pe_int) pa_nil)) pe_int) (pv 2)))), ?_⟩
    walk_at "go"
    exact k _ (Int.emod_nonneg _ (by omega)) (Int.emod_lt_of_pos _ h5)
def spDraw : Sp := fun vs H Q _ => ∃ (p n : Addr) (m k : Int), vs = [.ref p, .int m] ∧ PoolAt H p n k ∧ 0 ≤ k ∧ k < 1000000000 ∧ 0 < m ∧ m.natAbs.log2 < 9000 ∧ ∀ (r : Int) (H' : Hp), 0 ≤ r → r < m → PoolAt H' p n (k + 1) → Keep p n H H' → Q (.int r) H'
theorem c__law_draw (T : PoolF K mg) : Cal P w K mg base CX0 2 "_law_draw" spDraw := by
  have c__law_mixed : Cal P w K mg base CX0 1 "_law_mixed" spMixed := c__law_mixed T
  refine cal0 T.d_draw sc__law_draw (fun _ _ _ _ _ _ us hl => match us, hl with | [_, _], _ => rfl) (fun vs H Q E h => ?_) (fun f cdv A outer s H vs Q E hr h => ?_)
  · obtain ⟨p, n, m, k, rfl, _⟩ := h
    rfl
  · obtain ⟨p, n, m, k, rfl, ⟨ns, a, c, z, st, hp, hn, h1, h2, h3, h4, h5⟩, h6, h7, h8, h9, q⟩ := h
    have npn : p ≠ n := ne_of hp hn (fun e => by cases ns <;> simp at e)
    refine ⟨_, (pss_cons (ps_asg (pe_op (r := rAddX K) op_addX (pe_ix (r := rIx K) ix_seq (pv 0) pe_int (fun _ _ => rfl)) pe_int) (pg_sub (pv 0) pe_int set_list))
      (pss_cons (ps_if (pt_cmpR op_geX (pe_ix (r := rIx K) ix_seq (pv 0) pe_int (fun _ _ => rfl)) (pe_callB (r := rLenX K) call_lenX (by rfl) T.n_len (by decide +kernel) (pa_cons (pe_ix (r := rIx K) ix_seq (pv 0) pe_int (fun _ _ => rfl)) pa_nil)) (nomark _)) (pss_one (ps_ret (pe_c c__law_mixed hr (by decide) (by rfl) pass0 (pa_cons (pe_ix (r := rIx K) ix_seq (pv 0) pe_int (fun _ _ => rfl)) (pa_cons (pe_ix (r := rIx K) ix_seq (pv 0) pe_int (fun _ _ => rfl)) (pa_cons (pv 1) pa_nil)))))) pss_nil)
      (pss_cons (ps_set (i := 2) sc__law_draw.nd rfl (by first | exact Or.inl rfl | exact Or.inr rfl) (pe_ix (r := rIx K) ix_seq (pv 0) pe_int (fun _ _ => rfl)))
      (pss_cons (ps_set (i := 3) sc__law_draw.nd rfl (by first | exact Or.inl rfl | exact Or.inr rfl) (pe_ix (r := rIx K) ix_seq (pv 0) pe_int (fun _ _ => rfl)))
      (pss_cons (ps_set (i := 4) sc__law_draw.nd rfl (by first | exact Or.inl rfl | exact Or.inr rfl) (pe_ix (r := rIx K) ix_seq (pv 3) (pv 2) (fun _ _ => rfl)))
      (pss_cons (ps_if (PW.pt (pw_and (pt_cmpR (r := rNeX K) (op_neX hr.units) (pe_ix (r := rIx K) ix_seq (pv 0) pe_int (fun _ _ => rfl)) pe_int (nomark _)) (pw_and1 (pt_cmpR op_ltX (pv 4) (pe_op op_pow pe_int pe_int) (nomark _))))) (pss_cons (ps_asg (pe_op (r := rAddX K) op_addX (pe_ix (r := rIx K) ix_seq (pv 0) pe_int (fun _ _ => rfl)) pe_int) (pg_sub (pv 0) pe_int set_list))
      (pss_cons (ps_if (pt_cmpR (r := rEqX K) (op_eqX hr.units) (pe_ix (r := rIx K) ix_seq (pv 0) pe_int (fun _ _ => rfl)) pe_int (nomark _)) (pss_cons (ps_asg (pe_op (r := rAddX K) op_addX (pv 2) pe_int) (pg_sub (pv 0) pe_int set_list))
      (pss_one (ps_asg pe_int (pg_sub (pv 0) pe_int set_list)))) pss_nil)
      (pss_one (ps_ret (pe_c c__law_mixed hr (by decide) (by rfl) pass0 (pa_cons (pe_op op_mod (pe_callTy call_intX (by rfl) T.n_int (by decide +kernel) (pa_cons (pv 4) pa_nil)) pe_int) (pa_cons (pe_ix (r := rIx K) ix_seq (pv 0) pe_int (fun _ _ => rfl)) (pa_cons (pv 1) pa_nil)))))))) pss_nil)
      (pss_cons (ps_asg pe_int (pg_sub (pv 0) pe_int set_list))
      (pss_cons (ps_asg (pe_op op_fdX (pe_callTy call_intX (by rfl) T.n_int (by decide +kernel) (pa_cons (pv 4) pa_nil)) (pv 1)) (pg_sub (pv 3) (pv 2) set_list))
      (pss_cons (ps_if (pt_cmpR (r := rEqX K) (op_eqX hr.units) (pe_ix (r := rIx K) ix_seq (pv 3) (pv 2) (fun _ _ => rfl)) pe_int (nomark _)) (pss_cons (ps_asg (pe_op (r := rAddX K) op_addX (pv 2) pe_int) (pg_sub (pv 0) pe_int set_list))
      (pss_one (ps_asg pe_int (pg_sub (pv 0) pe_int set_list)))) pss_nil)
      (pss_one (ps_ret (pe_op op_mod (pe_callTy call_intX (by rfl) T.n_int (by decide +kernel) (pa_cons (pv 4) pa_nil)) (pv 1))))))))))))), ?_⟩
    walk_at "go"
    have kp : ∀ {H' : Hp}, (∀ b : Addr, b ≠ p → b ≠ n → H' b = H b) → Keep p n H H' := fun {H'} h b o e x y => (h b x y).trans e
    refine ift (fun hc => ?_) (fun hc => ?_)
    · walk_at "go"
      refine ⟨z, c + 1, m, rfl, h4, h5, by omega, by omega, h8, fun r r0 r1 => q r _ r0 r1 ⟨ns, a, c + 1, z, st, by walk_at "lk", by walk_at "lk", h1, by omega, by omega, h4, h5⟩ (kp fun b x y => ?_)⟩
      simp only [upd_ne x]
    · have ha : a.toNat < ns.length := by
        have e := of_decide_eq_false hc
        rw [List.length_map] at e
        omega
      have hx : atI (ns.map V.int) a = some (V.int ns[a.toNat]) := at_of (j := a.toNat) (by omega) (by rw [List.getElem?_map, List.getElem?_eq_getElem ha]; rfl)
      generalize ns[a.toNat] = y at hx
      have hj : ixN (ns.map V.int).length a = some a.toNat := by
        unfold ixN
        rw [List.length_map, if_pos h1, if_pos (by omega)]
      have hx2 : atI ((ns.map V.int).set a.toNat (V.int (y / m))) a = some (V.int (y / m)) := at_of (j := a.toNat) (by omega) (List.getElem?_set_self (by rw [List.length_map]; exact ha))
      have es : (ns.map V.int).set a.toNat (V.int (y / m)) = (ns.set a.toNat (y / m)).map V.int := List.map_set.symm
      have y0 : 0 ≤ y % 2147483647 := Int.emod_nonneg _ (by decide)
      have y1 : y % 2147483647 < 2147483647 := Int.emod_lt_of_pos _ (by decide)
      have m0 : 0 ≤ y % m := Int.emod_nonneg _ (by omega)
      have m1 : y % m < m := Int.emod_lt_of_pos _ h8
      have hw : CDivW y m := ⟨h8, h9⟩
      walk_at "go"
      refine ift (fun hd => ?_) (fun hd => ?_)
      · walk_at "go"
        refine ift (fun he => ?_) (fun he => ?_)
        · walk_at "go"
          refine ift (fun hf => ?_) (fun hf => ?_)
          · walk_at "go"
            refine ⟨_, c + 1, m, rfl, y0, y1, by omega, by omega, h8, fun r r0 r1 => q r _ r0 r1 ⟨ns, a + 1, c + 1, z, 0, by walk_at "lk", by walk_at "lk", by omega, by omega, by omega, h4, h5⟩ (kp fun b x y => ?_)⟩
            simp only [upd_ne x]
          · walk_at "go"
            refine ⟨_, c + 1, m, rfl, y0, y1, by omega, by omega, h8, fun r r0 r1 => q r _ r0 r1 ⟨ns, a, c + 1, z, st + 1, by walk_at "lk", by walk_at "lk", by omega, by omega, by omega, h4, h5⟩ (kp fun b x y => ?_)⟩
            simp only [upd_ne x]
        · walk_at "go"
          refine ift (fun hf => ?_) (fun hf => ?_)
          · walk_at "go"
            refine q _ _ m0 m1 ⟨ns.set a.toNat (y / m), a + 1, c + 1, z, 0, by walk_at "lk", by rw [← es]; walk_at "lk", by omega, by omega, by omega, h4, h5⟩ (kp fun b x y => ?_)
            simp only [upd_ne x, upd_ne y]
          · walk_at "go"
            refine q _ _ m0 m1 ⟨ns.set a.toNat (y / m), a, c + 1, z, 2, by walk_at "lk", by rw [← es]; walk_at "lk", by omega, by omega, by omega, h4, h5⟩ (kp fun b x y => ?_)
            simp only [upd_ne x, upd_ne y]
      · walk_at "go"
        refine ift (fun hf => ?_) (fun hf => ?_)
        · walk_at "go"
          refine q _ _ m0 m1 ⟨ns.set a.toNat (y / m), a + 1, c + 1, z, 0, by walk_at "lk", by rw [← es]; walk_at "lk", by omega, by omega, by omega, h4, h5⟩ (kp fun b x y => ?_)
          simp only [upd_ne x, upd_ne y]
        · walk_at "go"
          refine q _ _ m0 m1 ⟨ns.set a.toNat (y / m), a, c + 1, z, 2, by walk_at "lk", by rw [← es]; walk_at "lk", by omega, by omega, by omega, h4, h5⟩ (kp fun b x y => ?_)
          simp only [upd_ne x, upd_ne y]
def spPool (K : PySem.W.Frag) : Sp := fun vs H Q _ => ∃ (a : Addr) (ns : List Int), vs = [.ref a] ∧ SqL K H a (ns.map V.int) ∧ ns.length ≤ 63 ∧ ∀ (p n : Addr) (H' : Hp), PoolAt H' p n 0 → Same H H' → H p = none → H n = none → Q (.ref p) H'
theorem c__law_pool (T : PoolF K mg) : Cal P w K mg base CX0 1 "_law_pool" (spPool K) := by
  refine cal0 T.d_pool sc__law_pool (fun _ _ _ _ _ _ us hl => match us, hl with | [_], _ => rfl) (fun vs H Q E h => ?_) (fun f cdv A outer s H vs Q E hr h => ?_)
  · obtain ⟨a, ns, rfl, _⟩ := h
    rfl
  · obtain ⟨a, ns, rfl, hS, hl, q⟩ := h
    refine ⟨_, (pss_cons (ps_setLc (i := 1) (own := [("cell", 3)]) (g := gName 3) (tt := tYes) rfl sc__law_pool.nd rfl rfl (sw_true rfl rfl rfl (by decide +kernel)) (pi_listK (K := K) rfl (pe_slice (r := rSlXX K) sl_X (pv 0) po_none (po_some pe_int))) (blkOk_by (N := N__law_pool) (sc := defScope s__law_pool) (by decide +kernel)) (fun _ _ _ _ _ => (pg_name (i := 3) sc__law_pool.nd rfl (by first | exact Or.inl rfl | exact Or.inr rfl))) (fun _ _ _ _ _ => pts_nil) (fun _ _ _ _ _ => (pe_callTy call_intX (by rfl) T.n_int (by decide +kernel) (pa_cons (pv 3) pa_nil))))
      (pss_cons (ps_set (i := 2) sc__law_pool.nd rfl (by first | exact Or.inl rfl | exact Or.inr rfl) pe_int)
      (pss_cons (ps_for PassesOwn.never rfl (pi_listK (K := K) rfl (pv 1)) (pg_name (i := 3) sc__law_pool.nd rfl (by first | exact Or.inl rfl | exact Or.inr rfl)) (pss_one (ps_set (i := 2) sc__law_pool.nd rfl (by first | exact Or.inl rfl | exact Or.inr rfl) (pe_op op_mod (pe_callTy call_intX (by rfl) T.n_int (by decide +kernel) (pa_cons (pe_op (r := rAddX K) op_addX (pe_op op_muX (pv 2) pe_int) (pv 3)) pa_nil)) pe_int))))
      (pss_one (ps_ret (pe_lst (pa_cons (pv 1) (pa_cons pe_int (pa_cons pe_int (pa_cons (pv 2) (pa_cons pe_int pa_nil))))))))))), ?_⟩
    walk_at "go"
    rename_i l H1 n1 s1 h1
    have e1 : cutV (ns.map V.int) none (some 63) = ns.map V.int := by
      rw [show (63 : Int) = ((63 : Nat) : Int) from rfl, cutV_to, List.take_of_length_le (by rw [List.length_map]; exact hl)]
    rw [e1] at h1
    refine lcw_fm (xs := ns.map V.int) (j := 3) wx_list (fun _ => true) (fun x => x) (fun H' s => SqL.of (s _ _ h1)) (by rw [List.length_map]; omega) (fun _ => rfl) (fun x _ H' R _ k => k H' (Same.refl H')) (fun x hx _ H' R _ k => ?_) (fun d H2 n2 s2 h2 => ?_)
    · obtain ⟨z, _, rfl⟩ := List.mem_map.mp hx
      walk_at "go"
      exact k H' (Same.refl H')
    · rw [show (((ns.map V.int).filter fun _ => true).map fun x => x) = ns.map V.int by simp] at h2
      walk_at "go"
      refine fow (xs := ns.map V.int) wx_list (fun i σ' H' => ∃ (z : Int) (v : Option V), σ' = [some (.ref a), some (.ref d), some (.int z), v] ∧ 0 ≤ z ∧ z < 2147483647 ∧ H' = H2) ⟨11, none, rfl, by decide, by decide, rfl⟩ (fun i σ' H' ⟨_, _, _, _, _, e⟩ => e ▸ SqL.of h2) (fun i x σ' H' hx ⟨z, v, es, z0, z1, eh⟩ => ?_) (fun σ' H' ⟨z, v, es, z0, z1, eh⟩ => ?_)
      · obtain ⟨y, _, rfl⟩ := List.mem_map.mp (List.mem_of_getElem? hx)
        subst es eh
        walk_at "go"
        exact ⟨_, _, rfl, Int.emod_nonneg _ (by decide), Int.emod_lt_of_pos _ (by decide), rfl⟩
      · subst es eh
        walk_at "go"
        rename_i p H3 n3 s3 h3
        exact q p d H3 ⟨ns, 0, 0, z, 0, h3, s3 _ _ h2, by decide, by decide, by decide, z0, z1⟩ (by walk_at "sm") (Same.free (by walk_at "sm") n3) (Same.free (by walk_at "sm") n2)
theorem keep_none {p n a : Addr} {k : Int} {H H' : Hp} (e : Keep p n H H') (h : PoolAt H' p n k) (z : H' a = none) : H a = none := by
  obtain ⟨n1, n2⟩ := h.ne z
  cases q : H a with
  | none => rfl
  | some o => rw [e a o q n1 n2] at z; cases z
end

abbrev s_is_listing : Stmt := top 23
abbrev N_is_listing : List Str := ["value"]
theorem sc_is_listing : FnScope ["value"] ["value"] (defScope s_is_listing) := ⟨rfl, rfl, rfl, by decide +kernel, rfl, by decide +kernel, by decide +kernel⟩
abbrev s_is_plain : Stmt := top 24
abbrev N_is_plain : List Str := ["text", "mark"]
theorem sc_is_plain : FnScope ["text", "mark"] ["text"] (defScope s_is_plain) := ⟨rfl, rfl, rfl, by decide +kernel, rfl, by decide +kernel, by decide +kernel⟩
abbrev s_is_line : Stmt := top 29
abbrev N_is_line : List Str := ["value"]
theorem sc_is_line : FnScope ["value"] ["value"] (defScope s_is_line) := ⟨rfl, rfl, rfl, by decide +kernel, rfl, by decide +kernel, by decide +kernel⟩
abbrev s_is_text : Stmt := top 30
abbrev N_is_text : List Str := ["value", "line"]
theorem sc_is_text : FnScope ["value", "line"] ["value"] (defScope s_is_text) := ⟨rfl, rfl, rfl, by decide +kernel, rfl, by decide +kernel, by decide +kernel⟩
structure TextF (K : PySem.W.Frag) (mg : Str → Option Value) : Prop where
  n_isinstance : mg "isinstance" = none
  n_str : mg "str" = none
  n_list : mg "list" = none
  n_tuple : mg "tuple" = none
  n_len : mg "len" = none
  n_all : mg "all" = none
  g_MOST_CHARACTERS : ∃ u, mg "MOST_CHARACTERS" = some u ∧ RelV (.int 40) u
  g_MOST_LINES : ∃ u, mg "MOST_LINES" = some u ∧ RelV (.int 12) u
  d_listing : DefAt K mg "is_listing" s_is_listing
  d_plain : DefAt K mg "is_plain" s_is_plain
  d_line : DefAt K mg "is_line" s_is_line
  d_text : DefAt K mg "is_text" s_is_text
section
variable {P : Program} {w : World} {K : PySem.W.Frag} {mg : Str → Option Value} {base : Heap}
def badV : V → Bool
  | .str z => decide (z.cps.getD 0 0 < 32) || decide (126 < z.cps.getD 0 0)
  | _ => false
theorem at_of' {α : Type} {xs : List α} {z : Int} {j : Nat} {v : α} (e : z = (j : Int)) (h : xs[j]? = some v) : atI xs z = some v := by
  rw [e]
  exact atI_nat h
def signV : V → V
  | .str z => .bl (decide (32 ≤ z.cps.getD 0 0) && decide (z.cps.getD 0 0 ≤ 126))
  | _ => .non
def spListing : Sp := fun vs H Q _ => ∃ (x : V) (a : Kn), vs = [x] ∧ Kd H x a ∧ ∀ H', Same H H' → Q (.bl (a.is .lst || a.is .tup)) H'
theorem c_is_listing (T : TextF K mg) : Cal P w K mg base CX0 1 "is_listing" spListing := by
  refine cal0 T.d_listing sc_is_listing (fun _ _ _ _ _ _ us hl => match us, hl with | [_], _ => rfl) (fun vs H Q E h => ?_) (fun f cdv A outer s H vs Q E hr h => ?_)
  · obtain ⟨x, a, rfl, _⟩ := h
    rfl
  · obtain ⟨x, a, rfl, hx, q⟩ := h
    refine ⟨_, (pss_one (ps_ret (pe_callB (r := rIsiT K) call_isiT (by rfl) T.n_isinstance (by decide +kernel) (pa_cons (pv 0) (pa_cons (pe_tup (pa_cons (pe_bltn (v := .ty "list") (by rfl) T.n_list (by decide +kernel) rfl) (pa_cons (pe_bltn (v := .ty "tuple") (by rfl) T.n_tuple (by decide +kernel) rfl) pa_nil))) pa_nil))))), ?_⟩
    walk_at "go"
    exact q _ (by walk_at "sm")
def spPlain : Sp := fun vs H Q _ => ∃ (z : Str), vs = [.str z] ∧ z.length ≤ 10000 ∧ ∀ H', Same H H' → Q (.bl (plainB z)) H'
theorem c_is_plain (T : TextF K mg) : Cal P w K mg base CX0 1 "is_plain" spPlain := by
  refine cal0 T.d_plain sc_is_plain (fun _ _ _ _ _ _ us hl => match us, hl with | [_], _ => rfl) (fun vs H Q E h => ?_) (fun f cdv A outer s H vs Q E hr h => ?_)
  · obtain ⟨z, rfl, _⟩ := h
    rfl
  · obtain ⟨z, rfl, hz, q⟩ := h
    refine ⟨_, (pss_one (ps_ret (pe_callB (r := rAll K) (cr_all rfl) (by rfl) T.n_all (by decide +kernel) (pa_cons (pe_lc (own := [("mark", 1)]) (g := gName 1) (tt := tYes) rfl sc_is_plain.nd (pi_str (pv 0)) (blkOk_by (N := N_is_plain) (sc := defScope s_is_plain) (by decide +kernel)) (fun _ _ _ _ _ => (pg_name (i := 1) sc_is_plain.nd rfl (by first | exact Or.inl rfl | exact Or.inr rfl))) (fun _ _ _ _ _ => pts_nil) (fun _ _ _ _ _ => (pe_chain op_leX op_leX pe_str (pv 1) pe_str))) pa_nil)))), ?_⟩
    walk_at "go"
    refine lcw_fm (xs := chars z) (j := 1) wx_str (fun _ => true) signV (fun H' s => trivial) (by rw [chars_len]; omega) (fun _ => rfl) (fun x _ H' R _ k => k H' (Same.refl H')) (fun x hx _ H' R _ k => ?_) (fun d H2 n2 s2 h2 => ?_)
    · obtain ⟨c, _, rfl⟩ := List.mem_map.mp hx
      have e1 : decide ((⟨#[c]⟩ : Str).cps.toList < (Str.ofString " ").cps.toList) = decide (c < 32) := sign_lt c 32
      have e2 : decide ((Str.ofString "~").cps.toList < (⟨#[c]⟩ : Str).cps.toList) = decide (126 < c) := sign_lt 126 c
      walk_at "go"
      refine ift (fun hc => ?_) (fun hc => ?_)
      · walk_at "go"
        rw [e1] at hc
        have h1 : 32 ≤ c := by simpa using hc
        rw [e2, show (!decide (126 < c)) = (decide (32 ≤ c) && decide (c ≤ 126)) by rw [Bool.eq_iff_iff]; simp [h1]]
        exact k H' (Same.refl H')
      · rw [e1] at hc
        have h1 : ¬ 32 ≤ c := by simpa using hc
        rw [show false = (decide (32 ≤ c) && decide (c ≤ 126)) by simp [h1]]
        exact k H' (Same.refl H')
    · walk_at "go"
      have e : ((chars z).filter fun _ => true).map signV = (z.cps.toList.map fun c => decide (32 ≤ c) && decide (c ≤ 126)).map V.bl := by
        rw [List.filter_eq_self.mpr (fun _ _ => rfl), chars, List.map_map, List.map_map]
        rfl
      rw [e] at h2
      refine p_all (SqL.of h2) ?_
      rw [show ((z.cps.toList.map fun c => decide (32 ≤ c) && decide (c ≤ 126)).all id) = plainB z by rw [List.all_map]; rfl]
      exact q _ s2
def spLine : Sp := fun vs H Q _ => ∃ (x : V) (a : Kn), vs = [x] ∧ Kd H x a ∧ ∀ H', Same H H' → Q (.bl (lineB x)) H'
theorem c_is_line (T : TextF K mg) : Cal P w K mg base CX0 2 "is_line" spLine := by
  have c_is_plain : Cal P w K mg base CX0 1 "is_plain" spPlain := c_is_plain T
  refine cal0 T.d_line sc_is_line (fun _ _ _ _ _ _ us hl => match us, hl with | [_], _ => rfl) (fun vs H Q E h => ?_) (fun f cdv A outer s H vs Q E hr h => ?_)
  · obtain ⟨x, a, rfl, _⟩ := h
    rfl
  · obtain ⟨x, a, rfl, hx, q⟩ := h
    refine ⟨_, (pss_one (ps_ret (pe_and (pe_callB (r := rIsi K) call_isi (by rfl) T.n_isinstance (by decide +kernel) (pa_cons (pv 0) (pa_cons (pe_bltn (v := .ty "str") (by rfl) T.n_str (by decide +kernel) rfl) pa_nil))) (pe_and (pe_cmpR op_leX (pe_callB (r := rLenX K) call_lenX (by rfl) T.n_len (by decide +kernel) (pa_cons (pv 0) pa_nil)) (pe_gc (by rfl) T.g_MOST_CHARACTERS) (nomark _)) (pe_one (pe_c c_is_plain hr (by decide) (by rfl) pass0 (pa_cons (pv 0) pa_nil))))))), ?_⟩
    cases hx with
    | str z hz =>
      walk_at "go"
      refine ift (fun hc => ?_) (fun hc => ?_)
      · walk_at "go"
        refine ⟨z, rfl, hz, fun H' s' => ?_⟩
        have hc' : z.length ≤ 40 := by have := of_decide_eq_true hc; omega
        have e : plainB z = lineB (.str z) := by simp [lineB, hc']
        rw [e]
        exact q _ s'
      · have hc' : ¬ z.length ≤ 40 := by have := of_decide_eq_false hc; omega
        have e : false = lineB (.str z) := by simp [lineB, hc']
        rw [e]
        exact q _ (Same.refl H)
    | non => walk_at "go"; exact q _ (Same.refl H)
    | bl b => walk_at "go"; exact q _ (Same.refl H)
    | int b => walk_at "go"; exact q _ (Same.refl H)
    | lst e => walk_at "go"; exact q _ (Same.refl H)
    | tup e => walk_at "go"; exact q _ (Same.refl H)
    | dct e => walk_at "go"; exact q _ (Same.refl H)
/-- what is_text is asked of, its answer -/
inductive TextV (H : Hp) : V → Bool → Prop where
  | flat {x : V} {k : Kn} (h : Kd H x k) (h1 : k.is .lst = false) (h2 : k.is .tup = false) : TextV H x false
  | lst {p : Addr} {xs : List V} (e : H p = some (.lst xs)) (hl : xs.length ≤ 1000) (h : ∀ y ∈ xs, ∃ k, Kd H y k) : TextV H (.ref p) (decide (xs.length ≤ 12) && xs.all lineB)
  | tup {p : Addr} {xs : List V} (e : H p = some (.tup xs)) (hl : xs.length ≤ 1000) (h : ∀ y ∈ xs, ∃ k, Kd H y k) : TextV H (.ref p) (decide (xs.length ≤ 12) && xs.all lineB)
def spText : Sp := fun vs H Q _ => ∃ (x : V) (b : Bool), vs = [x] ∧ TextV H x b ∧ ∀ H', Same H H' → Q (.bl b) H'
theorem c_is_text (T : TextF K mg) : Cal P w K mg base CX0 3 "is_text" spText := by
  have c_is_line : Cal P w K mg base CX0 2 "is_line" spLine := c_is_line T
  have c_is_listing : Cal P w K mg base CX0 1 "is_listing" spListing := c_is_listing T
  refine cal0 T.d_text sc_is_text (fun _ _ _ _ _ _ us hl => match us, hl with | [_], _ => rfl) (fun vs H Q E h => ?_) (fun f cdv A outer s H vs Q E hr h => ?_)
  · obtain ⟨x, a, rfl, _⟩ := h
    rfl
  · obtain ⟨x, b, rfl, hx, q⟩ := h
    refine ⟨_, (pss_cons (ps_if (PW.pt (pw_or (pt_not (pt_truK (K := K) rfl (pe_c c_is_listing hr (by decide) (by rfl) pass0 (pa_cons (pv 0) pa_nil)) (by intro _; rfl))) (pw_or1 (pt_cmpR op_gtX (pe_callB (r := rLenX K) call_lenX (by rfl) T.n_len (by decide +kernel) (pa_cons (pv 0) pa_nil)) (pe_gc (by rfl) T.g_MOST_LINES) (nomark _))))) (pss_one (ps_ret pe_bl)) pss_nil)
      (pss_one (ps_ret (pe_callB (r := rAll K) (cr_all rfl) (by rfl) T.n_all (by decide +kernel) (pa_cons (pe_lc (own := [("line", 1)]) (g := gName 1) (tt := tYes) rfl sc_is_text.nd (pi_or (pi_listK (K := K) rfl (pv 0)) (pi_tupK (K := K) rfl (pv 0))) (blkOk_by (N := N_is_text) (sc := defScope s_is_text) (by decide +kernel)) (fun _ _ _ _ _ => (pg_name (i := 1) sc_is_text.nd rfl (by first | exact Or.inl rfl | exact Or.inr rfl))) (fun _ _ _ _ _ => pts_nil) (fun _ _ _ _ _ => (pe_c c_is_line hr (by decide) (by rfl) pass0 (pa_cons (pv 1) pa_nil)))) pa_nil))))), ?_⟩
    cases hx with
    | flat h h1 h2 =>
      walk_at "go"
      refine ⟨_, _, rfl, h, fun H1 s1 => ?_⟩
      rw [h1, h2]
      walk_at "go"
      exact q _ s1
    | @lst p xs e hl h =>
      walk_at "go"
      refine ⟨_, _, rfl, .lst e, fun H1 s1 => ?_⟩
      walk_at "go"
      refine ift (fun hc => ?_) (fun hc => ?_)
      · have hc' := of_decide_eq_true hc
        have e1 : false = (decide (xs.length ≤ 12) && xs.all lineB) := by simp [show ¬ xs.length ≤ 12 by omega]
        walk_at "go"
        rw [e1]
        exact q _ s1
      · have hc' := of_decide_eq_false hc
        walk_at "go"
        refine Or.inl ?_
        walk_at "go"
        refine lcw_fm (xs := xs) (j := 1) wx_list (fun _ => true) (fun x => .bl (lineB x)) (fun H' s => SqL.of (s _ _ (s1 _ _ e))) (by omega) (fun _ => rfl) (fun x _ H' R _ k => k H' (Same.refl H')) (fun x hx _ H' R s' k => ?_) (fun d H2 n2 s2 h2 => ?_)
        · obtain ⟨kx, hk⟩ := h x hx
          walk_at "go"
          exact ⟨x, kx, rfl, (hk.same s1).same s', fun H'' s'' => k H'' s''⟩
        · walk_at "go"
          have e2 : (xs.filter fun _ => true).map (fun x => V.bl (lineB x)) = (xs.map lineB).map V.bl := by
            rw [List.filter_eq_self.mpr (fun _ _ => rfl), List.map_map]
            rfl
          rw [e2] at h2
          refine p_all (SqL.of h2) ?_
          have e1 : (xs.map lineB).all id = (decide (xs.length ≤ 12) && xs.all lineB) := by simp [show xs.length ≤ 12 by omega, List.all_map]
          rw [e1]
          exact q _ (s1.trans s2)
    | @tup p xs e hl h =>
      walk_at "go"
      refine ⟨_, _, rfl, .tup e, fun H1 s1 => ?_⟩
      walk_at "go"
      refine ift (fun hc => ?_) (fun hc => ?_)
      · have hc' := of_decide_eq_true hc
        have e1 : false = (decide (xs.length ≤ 12) && xs.all lineB) := by simp [show ¬ xs.length ≤ 12 by omega]
        walk_at "go"
        rw [e1]
        exact q _ s1
      · have hc' := of_decide_eq_false hc
        walk_at "go"
        refine Or.inr ?_
        walk_at "go"
        refine lcw_fm (xs := xs) (j := 1) wx_tup (fun _ => true) (fun x => .bl (lineB x)) (fun H' s => SqT.of (s _ _ (s1 _ _ e))) (by omega) (fun _ => rfl) (fun x _ H' R _ k => k H' (Same.refl H')) (fun x hx _ H' R s' k => ?_) (fun d H2 n2 s2 h2 => ?_)
        · obtain ⟨kx, hk⟩ := h x hx
          walk_at "go"
          exact ⟨x, kx, rfl, (hk.same s1).same s', fun H'' s'' => k H'' s''⟩
        · walk_at "go"
          have e2 : (xs.filter fun _ => true).map (fun x => V.bl (lineB x)) = (xs.map lineB).map V.bl := by
            rw [List.filter_eq_self.mpr (fun _ _ => rfl), List.map_map]
            rfl
          rw [e2] at h2
          refine p_all (SqL.of h2) ?_
          have e1 : (xs.map lineB).all id = (decide (xs.length ≤ 12) && xs.all lineB) := by simp [show xs.length ≤ 12 by omega, List.all_map]
          rw [e1]
          exact q _ (s1.trans s2)
end

abbrev s_is_whole : Stmt := top 20
abbrev N_is_whole : List Str := ["value"]
theorem sc_is_whole : FnScope ["value"] ["value"] (defScope s_is_whole) := ⟨rfl, rfl, rfl, by decide +kernel, rfl, by decide +kernel, by decide +kernel⟩
abbrev s_is_count : Stmt := top 21
abbrev N_is_count : List Str := ["value"]
theorem sc_is_count : FnScope ["value"] ["value"] (defScope s_is_count) := ⟨rfl, rfl, rfl, by decide +kernel, rfl, by decide +kernel, by decide +kernel⟩
abbrev s_is_index : Stmt := top 22
abbrev N_is_index : List Str := ["value", "size"]
theorem sc_is_index : FnScope ["value", "size"] ["value", "size"] (defScope s_is_index) := ⟨rfl, rfl, rfl, by decide +kernel, rfl, by decide +kernel, by decide +kernel⟩
abbrev s_is_name : Stmt := top 25
abbrev N_is_name : List Str := ["value", "letter"]
theorem sc_is_name : FnScope ["value", "letter"] ["value"] (defScope s_is_name) := ⟨rfl, rfl, rfl, by decide +kernel, rfl, by decide +kernel, by decide +kernel⟩
abbrev s__can_be_parents : Stmt := top 34
abbrev N__can_be_parents : List Str := ["value", "parent"]
theorem sc__can_be_parents : FnScope ["value", "parent"] ["value"] (defScope s__can_be_parents) := ⟨rfl, rfl, rfl, by decide +kernel, rfl, by decide +kernel, by decide +kernel⟩
structure CountF (K : PySem.W.Frag) (mg : Str → Option Value) : Prop where
  X : TextF K mg
  n_isinstance : mg "isinstance" = none
  n_int : mg "int" = none
  n_bool : mg "bool" = none
  n_str : mg "str" = none
  n_len : mg "len" = none
  n_all : mg "all" = none
  n_set : mg "set" = none
  g_MOST_NAME_LETTERS : ∃ u, mg "MOST_NAME_LETTERS" = some u ∧ RelV (.int 8) u
  g_MOST_PARENTS : ∃ u, mg "MOST_PARENTS" = some u ∧ RelV (.int 3) u
  d_whole : DefAt K mg "is_whole" s_is_whole
  d_count : DefAt K mg "is_count" s_is_count
  d_index : DefAt K mg "is_index" s_is_index
  d_name : DefAt K mg "is_name" s_is_name
  d_parents : DefAt K mg "_can_be_parents" s__can_be_parents
theorem i_unlI {K : PySem.W.Frag} {ta : TE} {σ : L2.St} {H : Hp} {Q : VK} (h : ta σ H fun x H1 => ∃ l, ∃ xs : List Int, x = .ref l ∧ (SqL K H1 l (xs.map V.int) ∨ SqT K H1 l (xs.map V.int)) ∧ xs.length < 1000 ∧ Q (.int (unlikeI xs)) H1) : tUnlikeI K ta σ H Q := h
section
variable {P : Program} {w : World} {K : PySem.W.Frag} {mg : Str → Option Value} {base : Heap}
def wholeB : V → Bool
  | .int _ => true
  | _ => false
def countB : V → Bool
  | .int i => decide (0 ≤ i)
  | _ => false
def indexB (n : Int) : V → Bool
  | .int i => decide (0 ≤ i) && decide (i < n)
  | _ => false
def nameB : V → Bool
  | .str z => decide (1 ≤ z.length) && decide (z.length ≤ 8) && z.cps.toList.all fun c => decide (97 ≤ c) && decide (c ≤ 122)
  | _ => false
def spWhole : Sp := fun vs H Q _ => ∃ (x : V) (a : Kn), vs = [x] ∧ Kd H x a ∧ Q (.bl (wholeB x)) H
theorem c_is_whole (T : CountF K mg) : Cal P w K mg base CX0 1 "is_whole" spWhole := by
  refine cal0 T.d_whole sc_is_whole (fun _ _ _ _ _ _ us hl => match us, hl with | [_], _ => rfl) (fun vs H Q E h => ?_) (fun f cdv A outer s H vs Q E hr h => ?_)
  · obtain ⟨x, a, rfl, _⟩ := h
    rfl
  · obtain ⟨x, a, rfl, hx, q⟩ := h
    refine ⟨_, (pss_one (ps_ret (pe_and (pe_callB (r := rIsi K) call_isi (by rfl) T.n_isinstance (by decide +kernel) (pa_cons (pv 0) (pa_cons (pe_bltn (v := .ty "int") (by rfl) T.n_int (by decide +kernel) rfl) pa_nil))) (pe_one (pe_not (pe_callB (r := rIsi K) call_isi (by rfl) T.n_isinstance (by decide +kernel) (pa_cons (pv 0) (pa_cons (pe_bltn (v := .ty "bool") (by rfl) T.n_bool (by decide +kernel) rfl) pa_nil)))))))), ?_⟩
    cases hx <;> (walk_at "go"; exact q)
def spCount : Sp := fun vs H Q _ => ∃ (x : V) (a : Kn), vs = [x] ∧ Kd H x a ∧ Q (.bl (countB x)) H
theorem c_is_count (T : CountF K mg) : Cal P w K mg base CX0 2 "is_count" spCount := by
  have c_is_whole : Cal P w K mg base CX0 1 "is_whole" spWhole := c_is_whole T
  refine cal0 T.d_count sc_is_count (fun _ _ _ _ _ _ us hl => match us, hl with | [_], _ => rfl) (fun vs H Q E h => ?_) (fun f cdv A outer s H vs Q E hr h => ?_)
  · obtain ⟨x, a, rfl, _⟩ := h
    rfl
  · obtain ⟨x, a, rfl, hx, q⟩ := h
    refine ⟨_, (pss_one (ps_ret (pe_and (pe_c c_is_whole hr (by decide) (by rfl) pass0 (pa_cons (pv 0) pa_nil)) (pe_one (pe_cmpR op_geX (pv 0) pe_int (nomark _)))))), ?_⟩
    walk_at "go"
    refine ⟨x, a, rfl, hx, ?_⟩
    cases hx <;> (walk_at "go"; exact q)
def spIndex : Sp := fun vs H Q _ => ∃ (x : V) (a : Kn) (n : Int), vs = [x, .int n] ∧ Kd H x a ∧ Q (.bl (indexB n x)) H
theorem c_is_index (T : CountF K mg) : Cal P w K mg base CX0 3 "is_index" spIndex := by
  have c_is_count : Cal P w K mg base CX0 2 "is_count" spCount := c_is_count T
  refine cal0 T.d_index sc_is_index (fun _ _ _ _ _ _ us hl => match us, hl with | [_, _], _ => rfl) (fun vs H Q E h => ?_) (fun f cdv A outer s H vs Q E hr h => ?_)
  · obtain ⟨x, a, n, rfl, _⟩ := h
    rfl
  · obtain ⟨x, a, n, rfl, hx, q⟩ := h
    refine ⟨_, (pss_one (ps_ret (pe_and (pe_c c_is_count hr (by decide) (by rfl) pass0 (pa_cons (pv 0) pa_nil)) (pe_one (pe_cmpR op_ltX (pv 0) (pv 1) (nomark _)))))), ?_⟩
    walk_at "go"
    refine ⟨x, a, rfl, hx, ?_⟩
    cases hx with
    | int i =>
      rw [show indexB n (.int i) = (countB (.int i) && decide (i < n)) from rfl] at q
      walk_at "go"
      refine ift (fun hc => ?_) (fun hc => ?_)
      · rw [hc, Bool.true_and] at q
        walk_at "go"
        exact q
      · rw [hc, Bool.false_and] at q
        exact q
    | _ => walk_at "go"; exact q
def letB : V → V
  | .str z => .bl (decide (97 ≤ z.cps.getD 0 0) && decide (z.cps.getD 0 0 ≤ 122))
  | _ => .non
def spName : Sp := fun vs H Q _ => ∃ (x : V) (a : Kn), vs = [x] ∧ Kd H x a ∧ ∀ H', Same H H' → Q (.bl (nameB x)) H'
theorem c_is_name (T : CountF K mg) : Cal P w K mg base CX0 1 "is_name" spName := by
  refine cal0 T.d_name sc_is_name (fun _ _ _ _ _ _ us hl => match us, hl with | [_], _ => rfl) (fun vs H Q E h => ?_) (fun f cdv A outer s H vs Q E hr h => ?_)
  · obtain ⟨x, a, rfl, _⟩ := h
    rfl
  · obtain ⟨x, a, rfl, hx, q⟩ := h
    refine ⟨_, (pss_cons (ps_if (PW.pt (pw_or (pt_not (pt_truK (K := K) rfl (pe_callB (r := rIsi K) call_isi (by rfl) T.n_isinstance (by decide +kernel) (pa_cons (pv 0) (pa_cons (pe_bltn (v := .ty "str") (by rfl) T.n_str (by decide +kernel) rfl) pa_nil))) (by intro _; rfl))) (pw_or1 (pt_not (pt_chain op_leX op_leX pe_int (pe_callB (r := rLenX K) call_lenX (by rfl) T.n_len (by decide +kernel) (pa_cons (pv 0) pa_nil)) (pe_gc (by rfl) T.g_MOST_NAME_LETTERS)))))) (pss_one (ps_ret pe_bl)) pss_nil)
      (pss_one (ps_ret (pe_callB (r := rAll K) (cr_all rfl) (by rfl) T.n_all (by decide +kernel) (pa_cons (pe_lc (own := [("letter", 1)]) (g := gName 1) (tt := tYes) rfl sc_is_name.nd (pi_str (pv 0)) (blkOk_by (N := N_is_name) (sc := defScope s_is_name) (by decide +kernel)) (fun _ _ _ _ _ => (pg_name (i := 1) sc_is_name.nd rfl (by first | exact Or.inl rfl | exact Or.inr rfl))) (fun _ _ _ _ _ => pts_nil) (fun _ _ _ _ _ => (pe_chain op_leX op_leX pe_str (pv 1) pe_str))) pa_nil))))), ?_⟩
    cases hx with
    | str z hz =>
      walk_at "go"
      refine ift (fun hc => ?_) (fun hc => ?_)
      · have h1 : 1 ≤ z.length := by have := of_decide_eq_true hc; omega
        walk_at "go"
        refine ift (fun hd => ?_) (fun hd => ?_)
        · have h2 : ¬ z.length ≤ 8 := by simp at hd; omega
          walk_at "go"
          rw [show false = nameB (.str z) by simp [nameB, h2]]
          exact q _ (Same.refl H)
        · have h2 : z.length ≤ 8 := by simp at hd; omega
          walk_at "go"
          refine lcw_fm (xs := chars z) (j := 1) wx_str (fun _ => true) letB (fun H' s => trivial) (by rw [chars_len]; omega) (fun _ => rfl) (fun x _ H' R _ k => k H' (Same.refl H')) (fun x hx _ H' R _ k => ?_) (fun d H2 n2 s2 h2 => ?_)
          · obtain ⟨c, _, rfl⟩ := List.mem_map.mp hx
            have e1 : decide ((⟨#[c]⟩ : Str).cps.toList < (Str.ofString "a").cps.toList) = decide (c < 97) := sign_lt c 97
            have e2 : decide ((Str.ofString "z").cps.toList < (⟨#[c]⟩ : Str).cps.toList) = decide (122 < c) := sign_lt 122 c
            walk_at "go"
            refine ift (fun hc => ?_) (fun hc => ?_)
            · walk_at "go"
              rw [e1] at hc
              have h1 : 97 ≤ c := by simpa using hc
              rw [e2, show (!decide (122 < c)) = (decide (97 ≤ c) && decide (c ≤ 122)) by rw [Bool.eq_iff_iff]; simp [h1]]
              exact k H' (Same.refl H')
            · rw [e1] at hc
              have h1 : ¬ 97 ≤ c := by simpa using hc
              rw [show false = (decide (97 ≤ c) && decide (c ≤ 122)) by simp [h1]]
              exact k H' (Same.refl H')
          · walk_at "go"
            have e : ((chars z).filter fun _ => true).map letB = (z.cps.toList.map fun c => decide (97 ≤ c) && decide (c ≤ 122)).map V.bl := by
              rw [List.filter_eq_self.mpr (fun _ _ => rfl), chars, List.map_map, List.map_map]
              rfl
            rw [e] at h2
            refine p_all (SqL.of h2) ?_
            rw [show ((z.cps.toList.map fun c => decide (97 ≤ c) && decide (c ≤ 122)).all id) = nameB (.str z) by rw [List.all_map]; simp [nameB, h1, *]]
            exact q _ s2
      · have h1 : ¬ 1 ≤ z.length := by have := of_decide_eq_false hc; omega
        walk_at "go"
        rw [show false = nameB (.str z) by simp [nameB, h1]]
        exact q _ (Same.refl H)
    | _ => walk_at "go"; exact q _ (Same.refl H)
/-- the same of a tuple that the text itself holds -/
def spListing2 (K : PySem.W.Frag) : Sp := fun vs H Q E => spListing vs H Q E ∨ ∃ (p : Addr) (o : Obj), vs = [.ref p] ∧ K.lookup p = some o ∧ o.cls = .type "tuple" ∧ ∀ H', Same H H' → Q (.bl true) H'
theorem c_is_listing2 (T : TextF K mg) : Cal P w K mg base CX0 1 "is_listing" (spListing2 K) := by
  refine cal0 T.d_listing sc_is_listing (fun _ _ _ _ _ _ us hl => match us, hl with | [_], _ => rfl) (fun vs H Q E h => ?_) (fun f cdv A outer s H vs Q E hr h => ?_)
  · rcases h with ⟨x, a, rfl, _⟩ | ⟨p, o, rfl, _⟩ <;> rfl
  · rcases h with ⟨x, a, rfl, hx, q⟩ | ⟨p, o, rfl, lk, oc, q⟩
    · refine ⟨_, (pss_one (ps_ret (pe_callB (r := rIsiT K) call_isiT (by rfl) T.n_isinstance (by decide +kernel) (pa_cons (pv 0) (pa_cons (pe_tup (pa_cons (pe_bltn (v := .ty "list") (by rfl) T.n_list (by decide +kernel) rfl) (pa_cons (pe_bltn (v := .ty "tuple") (by rfl) T.n_tuple (by decide +kernel) rfl) pa_nil))) pa_nil))))), ?_⟩
      walk_at "go"
      exact q _ (by walk_at "sm")
    · refine ⟨_, (pss_one (ps_ret (pe_callB (r := rIsiT K) call_isiT (by rfl) T.n_isinstance (by decide +kernel) (pa_cons (pv 0) (pa_cons (pe_tup (pa_cons (pe_bltn (v := .ty "list") (by rfl) T.n_list (by decide +kernel) rfl) (pa_cons (pe_bltn (v := .ty "tuple") (by rfl) T.n_tuple (by decide +kernel) rfl) pa_nil))) pa_nil))))), ?_⟩
      walk_at "go"
      rename_i t H1 n1 s1 e1
      refine ⟨.ref p, t, _, .type "tuple", [.type "list", .type "tuple"], true, rfl, e1, .cons (.ty _) (.cons (.ty _) .nil), .kTuple lk oc, ?_, q _ s1⟩
      refine kitAny_cons (kit_ty (kit_nm .tup .lst (by decide))) (fun _ => ?_) (fun h => by cases h)
      exact kitAny_cons (kit_ty (kit_nm .tup .tup (by decide))) (fun h => by cases h) (fun _ => rfl)
/-- what is asked whether it can be the parents, the answer -/
def intOf : V → Int
  | .int i => i
  | _ => 0
def parB (xs : List V) : Bool := decide (xs.length ≤ 3) && xs.all countB && decide (unlikeI (xs.map intOf) = xs.length)
inductive ParV (K : PySem.W.Frag) (H : Hp) : V → Bool → List Int → Prop where
  | kt {p : Addr} {o : Obj} (lk : K.lookup p = some o) (oc : o.cls = .type "tuple") (e : SqT K H p []) : ParV K H (.ref p) true []
  | flat {x : V} {k : Kn} (h : Kd H x k) (h1 : k.is .lst = false) (h2 : k.is .tup = false) : ParV K H x false []
  | lst {p : Addr} {xs : List V} (e : H p = some (.lst xs)) (hl : xs.length ≤ 1000) (h : ∀ y ∈ xs, ∃ k, Kd H y k) : ParV K H (.ref p) (parB xs) (xs.map intOf)
  | tup {p : Addr} {xs : List V} (e : H p = some (.tup xs)) (hl : xs.length ≤ 1000) (h : ∀ y ∈ xs, ∃ k, Kd H y k) : ParV K H (.ref p) (parB xs) (xs.map intOf)
theorem ints_back {xs : List V} (h : xs.all countB = true) : (xs.map intOf).map V.int = xs := by
  induction xs with
  | nil => rfl
  | cons x r ih =>
    rw [List.all_cons, Bool.and_eq_true] at h
    rw [List.map_cons, List.map_cons, ih h.2]
    cases x <;> first | rfl | (have := h.1; simp [countB] at this)
def spPar (K : PySem.W.Frag) : Sp := fun vs H Q _ => ∃ (x : V) (b : Bool) (np : List Int), vs = [x] ∧ ParV K H x b np ∧ ∀ H', Same H H' → Q (.bl b) H'
theorem c__can_be_parents (T : CountF K mg) : Cal P w K mg base CX0 3 "_can_be_parents" (spPar K) := by
  have c_is_listing : Cal P w K mg base CX0 1 "is_listing" (spListing2 K) := c_is_listing2 T.X
  have c_is_count : Cal P w K mg base CX0 2 "is_count" spCount := c_is_count T
  refine cal0 T.d_parents sc__can_be_parents (fun _ _ _ _ _ _ us hl => match us, hl with | [_], _ => rfl) (fun vs H Q E h => ?_) (fun f cdv A outer s H vs Q E hr h => ?_)
  · obtain ⟨x, a, np, rfl, _⟩ := h
    rfl
  · obtain ⟨x, b, np, rfl, hx, q⟩ := h
    refine ⟨_, (pss_cons (ps_if (PW.pt (pw_or (pt_not (pt_truK (K := K) rfl (pe_c c_is_listing hr (by decide) (by rfl) pass0 (pa_cons (pv 0) pa_nil)) (by intro _; rfl))) (pw_or1 (pt_cmpR op_gtX (pe_callB (r := rLenX K) call_lenX (by rfl) T.n_len (by decide +kernel) (pa_cons (pv 0) pa_nil)) (pe_gc (by rfl) T.g_MOST_PARENTS) (nomark _))))) (pss_one (ps_ret pe_bl)) pss_nil)
      (pss_one (ps_ret (pe_and (pe_callB (r := rAll K) (cr_all rfl) (by rfl) T.n_all (by decide +kernel) (pa_cons (pe_lc (own := [("parent", 1)]) (g := gName 1) (tt := tYes) rfl sc__can_be_parents.nd (pi_or (pi_listK (K := K) rfl (pv 0)) (pi_tupK (K := K) rfl (pv 0))) (blkOk_by (N := N__can_be_parents) (sc := defScope s__can_be_parents) (by decide +kernel)) (fun _ _ _ _ _ => (pg_name (i := 1) sc__can_be_parents.nd rfl (by first | exact Or.inl rfl | exact Or.inr rfl))) (fun _ _ _ _ _ => pts_nil) (fun _ _ _ _ _ => (pe_c c_is_count hr (by decide) (by rfl) pass0 (pa_cons (pv 1) pa_nil)))) pa_nil)) (pe_one (pe_cmpR (r := rEqX K) (op_eqX hr.units) (pe_unlikeI rfl (by rfl) T.n_len (by rfl) T.n_set (pv 0)) (pe_callB (r := rLenX K) call_lenX (by rfl) T.n_len (by decide +kernel) (pa_cons (pv 0) pa_nil)) (nomark _))))))), ?_⟩
    cases hx with
    | @kt p o lk oc e =>
      walk_at "go"
      refine .inr ⟨p, o, rfl, lk, oc, fun H1 s1 => ?_⟩
      have e1 : SqT K H1 p [] := SqT.ext e s1
      walk_at "go"
      refine p_lenT e1 ?_
      walk_at "go"
      refine Or.inr ?_
      walk_at "go"
      refine p_itt e1 ?_
      refine lcw_fm (xs := []) (j := 1) wx_tup (fun _ => true) (fun x => .bl (countB x)) (fun H' s => SqT.ext e1 s) (by decide) (fun _ => rfl) (fun x _ H' R _ k => k H' (Same.refl H')) (fun x hx _ H' R s' k => by cases hx) (fun d H2 n2 s2 h2 => ?_)
      walk_at "go"
      refine p_all (bs := []) (SqL.of h2) ?_
      refine ⟨_, rfl, ?_⟩
      walk_at "go"
      refine i_unlI ?_
      walk_at "go"
      refine ⟨p, [], rfl, .inr (SqT.ext e1 s2), by decide, ?_⟩
      walk_at "go"
      refine p_lenT (SqT.ext e1 s2) ?_
      walk_at "go"
      exact q _ (s1.trans s2)
    | flat h h1 h2 =>
      walk_at "go"
      refine .inl ⟨_, _, rfl, h, fun H1 s1 => ?_⟩
      rw [h1, h2]
      walk_at "go"
      exact q _ s1
    | @lst p xs e hl h =>
      walk_at "go"
      refine .inl ⟨_, _, rfl, .lst e, fun H1 s1 => ?_⟩
      walk_at "go"
      refine ift (fun hc => ?_) (fun hc => ?_)
      · have hc' := of_decide_eq_true hc
        have e1 : false = parB xs := by simp [parB, show ¬ xs.length ≤ 3 by omega]
        walk_at "go"
        rw [e1]
        exact q _ s1
      · have hc' := of_decide_eq_false hc
        walk_at "go"
        refine Or.inl ?_
        walk_at "go"
        refine lcw_fm (xs := xs) (j := 1) wx_list (fun _ => true) (fun x => .bl (countB x)) (fun H' s => SqL.of (s _ _ (s1 _ _ e))) (by omega) (fun _ => rfl) (fun x _ H' R _ k => k H' (Same.refl H')) (fun x hx _ H' R s' k => ?_) (fun d H2 n2 s2 h2 => ?_)
        · obtain ⟨kx, hk⟩ := h x hx
          walk_at "go"
          exact ⟨x, kx, rfl, (hk.same s1).same s', k H' (Same.refl H')⟩
        · walk_at "go"
          have e2 : (xs.filter fun _ => true).map (fun x => V.bl (countB x)) = (xs.map countB).map V.bl := by
            rw [List.filter_eq_self.mpr (fun _ _ => rfl), List.map_map]
            rfl
          rw [e2] at h2
          refine p_all (SqL.of h2) ?_
          rw [show (xs.map countB).all id = xs.all countB by rw [List.all_map]; rfl]
          refine ⟨_, rfl, ?_⟩
          refine ift (fun ha => ?_) (fun ha => ?_)
          · walk_at "go"
            refine i_unlI ?_
            walk_at "go"
            refine ⟨p, xs.map intOf, rfl, .inl (by rw [ints_back ha]; exact SqL.of (s2 _ _ (s1 _ _ e))), by rw [List.length_map]; omega, ?_⟩
            walk_at "go"
            have e5 : decide (((unlikeI (xs.map intOf) : Nat) : Int) = ((xs.length : Nat) : Int)) = parB xs := by
              simp only [parB, ha, show xs.length ≤ 3 by omega, decide_true, Bool.true_and]
              exact decide_eq_decide.mpr Int.ofNat_inj
            rw [e5]
            exact q _ (s1.trans s2)
          · rw [show false = parB xs by simp [parB, ha]]
            exact q _ (s1.trans s2)
    | @tup p xs e hl h =>
      walk_at "go"
      refine .inl ⟨_, _, rfl, .tup e, fun H1 s1 => ?_⟩
      walk_at "go"
      refine ift (fun hc => ?_) (fun hc => ?_)
      · have hc' := of_decide_eq_true hc
        have e1 : false = parB xs := by simp [parB, show ¬ xs.length ≤ 3 by omega]
        walk_at "go"
        rw [e1]
        exact q _ s1
      · have hc' := of_decide_eq_false hc
        walk_at "go"
        refine Or.inr ?_
        walk_at "go"
        refine lcw_fm (xs := xs) (j := 1) wx_tup (fun _ => true) (fun x => .bl (countB x)) (fun H' s => SqT.of (s _ _ (s1 _ _ e))) (by omega) (fun _ => rfl) (fun x _ H' R _ k => k H' (Same.refl H')) (fun x hx _ H' R s' k => ?_) (fun d H2 n2 s2 h2 => ?_)
        · obtain ⟨kx, hk⟩ := h x hx
          walk_at "go"
          exact ⟨x, kx, rfl, (hk.same s1).same s', k H' (Same.refl H')⟩
        · walk_at "go"
          have e2 : (xs.filter fun _ => true).map (fun x => V.bl (countB x)) = (xs.map countB).map V.bl := by
            rw [List.filter_eq_self.mpr (fun _ _ => rfl), List.map_map]
            rfl
          rw [e2] at h2
          refine p_all (SqL.of h2) ?_
          rw [show (xs.map countB).all id = xs.all countB by rw [List.all_map]; rfl]
          refine ⟨_, rfl, ?_⟩
          refine ift (fun ha => ?_) (fun ha => ?_)
          · walk_at "go"
            refine i_unlI ?_
            walk_at "go"
            refine ⟨p, xs.map intOf, rfl, .inr (by rw [ints_back ha]; exact SqT.of (s2 _ _ (s1 _ _ e))), by rw [List.length_map]; omega, ?_⟩
            walk_at "go"
            have e5 : decide (((unlikeI (xs.map intOf) : Nat) : Int) = ((xs.length : Nat) : Int)) = parB xs := by
              simp only [parB, ha, show xs.length ≤ 3 by omega, decide_true, Bool.true_and]
              exact decide_eq_decide.mpr Int.ofNat_inj
            rw [e5]
            exact q _ (s1.trans s2)
          · rw [show false = parB xs by simp [parB, ha]]
            exact q _ (s1.trans s2)
end
end Pk

namespace Pk
open PySem PySem.Spec PyProof.Rows L2
local macro_rules | `(tactic| walk_at "sz") => `(tactic| first | assumption | decide +kernel | exact Nat.le_trans (Nat.le_of_ble_eq_true rfl) (show 100000 ≤ sizeLine by decide) | exact Nat.le_trans (by omega) (show 100000 ≤ sizeLine by decide) | (show _ ≤ sizeLine; exact Nat.le_trans (by (simp only [List.length_append, List.length_map, List.length_cons, List.length_nil]; omega)) (show 100000 ≤ sizeLine by decide)))
local macro_rules | `(tactic| walk_at "mul") => `(tactic| first | exact Or.inl (Or.inl ⟨by omega, by omega⟩) | exact Or.inl (Or.inr ⟨by omega, by omega⟩))
local macro_rules | `(tactic| walk_at "ci") => `(tactic| first | assumption | exact (by decide : (0 : Int) < _) | (show (0 : Int) < _; omega) | exact ⟨by assumption, by assumption⟩ | exact ⟨by decide, by decide⟩ | exact ⟨by decide, by decide, by omega⟩)
local macro_rules | `(tactic| walk_at "lk") => `(tactic| first | assumption | exact upd_same | ((refine Eq.trans (upd_ne (by first | assumption | exact Ne.symm (by assumption))) ?_); walk_at "lk") | exact Same.get (by assumption) (by walk_at "lk") | exact Keep.get (by assumption) (by walk_at "lk") (by assumption) (by assumption))
local macro_rules | `(tactic| walk_at "sq") => `(tactic| first | assumption | exact SqL.of (by walk_at "lk") | exact Same.seq (by assumption) (by walk_at "sq"))
local macro_rules | `(tactic| walk_at "stt") => `(tactic| exact SqT.of (by walk_at "lk"))
local macro_rules | `(tactic| walk_at "kd") => `(tactic| first | assumption | exact Kd.str _ (by first | assumption | omega | decide) | exact Kd.bl _ | exact Kd.int _ | exact Kd.non | exact Kd.lst (by walk_at "lk") | exact Kd.tup (by walk_at "lk") | exact Kd.dct (by walk_at "lk") | exact Kd.same (by assumption) (by walk_at "kd"))
local macro_rules | `(tactic| walk_at "sm") => `(tactic| first | assumption | exact Same.refl _ | (refine Same.trans ?_ (by assumption); walk_at "sm"))
local macro_rules | `(tactic| walk_at "st") => `(tactic| first
  | with_reducible refine i_seq ?_ | with_reducible refine i_asg ?_ | with_reducible refine i_ret ?_ | with_reducible refine i_op ?_
  | ((with_reducible show tVar _ _ _ _); refine i_var rfl ?_)
  | with_reducible refine i_c ?_ | with_reducible refine i_cb ?_ | with_reducible refine i_call ?_ | with_reducible refine i_cons ?_ | with_reducible refine i_nil ?_
  | with_reducible refine i_name ?_ | with_reducible refine i_sub ?_ | with_reducible refine i_drop ?_ | with_reducible refine i_ifs ?_ | with_reducible refine i_ife ?_
  | with_reducible refine i_test ?_ | with_reducible refine i_tru ?_ | with_reducible refine i_and ?_ | with_reducible refine i_or ?_ | with_reducible refine i_not ?_
  | with_reducible refine i_andV ?_ | with_reducible refine i_orV ?_ | with_reducible refine i_notV ?_ | with_reducible refine i_un ?_
  | with_reducible refine i_bl ?_ | with_reducible refine i_trB ?_ | with_reducible refine i_next ?_
  | with_reducible refine iteF ?_ | with_reducible refine iteT ?_
  | with_reducible refine i_lstF ?_ | with_reducible refine i_tupF ?_
  | with_reducible refine p_addI ?_ | with_reducible refine p_I0 ?_ | with_reducible refine p_U ?_
  | with_reducible refine p_ltI ?_ | with_reducible refine p_leI ?_ | with_reducible refine p_gtI ?_ | with_reducible refine p_geI ?_
  | with_reducible refine p_ltS ?_ | with_reducible refine p_leS ?_ | with_reducible refine p_gtS ?_
  | with_reducible refine p_eqI ?_ | with_reducible refine p_neI ?_ | with_reducible refine p_int ?_
  | ((with_reducible show rMuXX (V.int _) (V.int _) _ _); refine p_muI (by walk_at "mul") ?_)
  | ((with_reducible show rI _ _ (V.int _) (V.int _) _ _); refine p_I (by walk_at "ci") ?_)
  | ((with_reducible show rIx _ (V.ref _) (V.int _) _ _); (first | refine p_ixL (by walk_at "sq") (by first | exact rfl | assumption) ?_ | refine p_ixT (SqT.of (by walk_at "lk")) (by first | exact rfl | assumption) ?_))
  | ((with_reducible show rSetL (V.ref _) (V.int _) _ _ _); refine p_setL (by walk_at "lk") (by first | exact rfl | assumption) ?_)
  | ((with_reducible show rLenX _ [V.ref _] _ _); (first | refine p_lenL (by walk_at "sq") ?_ | refine p_lenT (SqT.of (by walk_at "lk")) ?_))
  | ((with_reducible show rLenX _ [V.str _] _ _); refine p_lenS (by walk_at "sz") ?_)
  | with_reducible refine i_lc ?_ | with_reducible refine i_for ?_ | with_reducible refine i_itl ?_ | with_reducible refine i_itt ?_ | with_reducible refine i_itr ?_ | with_reducible refine i_its ?_
  | ((with_reducible show ∃ _, V.ref _ = V.ref _ ∧ (∃ _, SqL _ _ _ _) ∧ _); refine p_itl (by walk_at "sq") ?_)
  | ((with_reducible show ∃ _, V.ref _ = V.ref _ ∧ (∃ _, SqT _ _ _ _) ∧ _); refine p_itt (by walk_at "stt") ?_) | with_reducible refine p_its ?_
  | ((with_reducible show ∃ _, [V.int _] = [V.int _] ∧ _); refine p_itr (by omega) (by omega) ?_)
  | with_reducible refine i_sl ?_ | with_reducible refine i_np ?_ | with_reducible refine i_pt ?_ | with_reducible refine i_in ?_
  | ((with_reducible show rSlXX _ (V.ref _) _ _ _ _); refine p_slL (by walk_at "sq") ?_; intro _ _ _ _ _)
  | ((with_reducible show rSlXX _ (V.str _) _ _ _ _); refine p_slS (by walk_at "sz") ?_)
  | ((with_reducible show rIsi _ [_, V.ty "str"] _ _); refine p_isStr (by walk_at "kd") ?_)
  | ((with_reducible show rIsi _ [_, V.ty "int"] _ _); refine p_isInt (by walk_at "kd") ?_)
  | ((with_reducible show rIsi _ [_, V.ty "bool"] _ _); refine p_isBool (by walk_at "kd") ?_)
  | ((with_reducible show rIsiT _ [_, V.ref _] _ _); refine p_isLT (by walk_at "lk") (by walk_at "kd") ?_)
  | with_reducible refine i_chain ?_ | with_reducible refine i_m1 ?_ | with_reducible refine i_m0 ?_ | with_reducible refine i_str ?_
  | ((with_reducible show LstK _ _ _); refine p_lstK (by walk_at "sz") ?_; intro _ _ _ _ _)
  | ((with_reducible show TupK _ _ _); refine p_tupK (by walk_at "sz") ?_; intro _ _ _ _ _)
  | ((with_reducible show (if _ = true then _ else _)); (first | refine ifT' (by first | assumption | exact rfl) ?_ | refine ifF' (by first | assumption | exact rfl) ?_))
  | ((with_reducible show rEqX _ (V.bl _) (V.bl _) _ _); refine p_eqS rfl ?_) | ((with_reducible show rNeX _ (V.bl _) (V.bl _) _ _); refine p_neS rfl ?_)
  | ((with_reducible show rEqX _ (V.ref _) (V.ref _) _ _); refine p_eqNil (by walk_at "lk") (by walk_at "lk") ?_) | ((with_reducible show rNeX _ (V.ref _) (V.ref _) _ _); refine p_neNil (by walk_at "lk") (by walk_at "lk") ?_)
  | ((with_reducible show rAddX _ (V.str _) (V.str _) _ _); refine p_addS (by walk_at "sz") ?_)
  | ((with_reducible show rMuXX (V.str _) (V.int _) _ _); refine p_muS ⟨by decide +kernel, by decide +kernel, by decide +kernel⟩ ?_)
  | ((with_reducible show tDNewK _ _ _); refine i_dnew ?_; intro _ _ _ _ _)
  | ((with_reducible show rTupX _ [V.ref _] _ _); refine p_tupL (by walk_at "sq") ?_; intro _ _ _ _ _)
  | ((with_reducible show rAddX _ (V.ref _) (V.ref _) _ _); refine p_addL (by walk_at "lk") (by walk_at "lk") (by walk_at "sz") ?_; intro _ _ _ _ _)
  | with_reducible refine p_notB ?_ | with_reducible refine p_isB ?_)
local macro_rules | `(tactic| walk_at "go") => `(tactic| (walk_at "st"; (repeat walk_at "st")))

abbrev s__law_kind : Stmt := top 40
abbrev N__law_kind : List Str := ["error", "kinds", "words"]
theorem sc__law_kind : FnScope ["error", "kinds", "words"] ["error"] (defScope s__law_kind) := ⟨rfl, rfl, rfl, by decide +kernel, rfl, by decide +kernel, by decide +kernel⟩
abbrev s__law_caught : Stmt := top 41
abbrev N__law_caught : List Str := ["call", "caught", "e", "word"]
theorem sc__law_caught : FnScope ["call", "caught", "e", "word"] ["call"] (defScope s__law_caught) := ⟨rfl, rfl, rfl, by decide +kernel, rfl, by decide +kernel, by decide +kernel⟩
/-- the sixteen classes of errors; CL CM CU: those that the except clause names -/
structure KindT (K : PySem.W.Frag) (mg : Str → Option Value) (Cs : Nat → Addr) (CL : Addr) : Prop where
  n_isinstance : mg "isinstance" = none
  n_ValueError : mg "ValueError" = none
  n_repr : mg "repr" = none
  v_InvalidNumber : ∃ u, mg "InvalidNumber" = some u ∧ RelV (.ref (Cs 0)) u
  v_InvalidText : ∃ u, mg "InvalidText" = some u ∧ RelV (.ref (Cs 1)) u
  v_InvalidName : ∃ u, mg "InvalidName" = some u ∧ RelV (.ref (Cs 2)) u
  v_InvalidParents : ∃ u, mg "InvalidParents" = some u ∧ RelV (.ref (Cs 3)) u
  v_InvalidVersion : ∃ u, mg "InvalidVersion" = some u ∧ RelV (.ref (Cs 4)) u
  v_InvalidHistory : ∃ u, mg "InvalidHistory" = some u ∧ RelV (.ref (Cs 5)) u
  v_InvalidLayout : ∃ u, mg "InvalidLayout" = some u ∧ RelV (.ref (Cs 6)) u
  v_InvalidPrices : ∃ u, mg "InvalidPrices" = some u ∧ RelV (.ref (Cs 7)) u
  v_InvalidTelling : ∃ u, mg "InvalidTelling" = some u ∧ RelV (.ref (Cs 8)) u
  v_InvalidDeeds : ∃ u, mg "InvalidDeeds" = some u ∧ RelV (.ref (Cs 9)) u
  v_InvalidLine : ∃ u, mg "InvalidLine" = some u ∧ RelV (.ref (Cs 10)) u
  v_InvalidRanges : ∃ u, mg "InvalidRanges" = some u ∧ RelV (.ref (Cs 11)) u
  v_InvalidCommand : ∃ u, mg "InvalidCommand" = some u ∧ RelV (.ref (Cs 12)) u
  v_ParseError : ∃ u, mg "ParseError" = some u ∧ RelV (.ref (Cs 13)) u
  v_TooMany : ∃ u, mg "TooMany" = some u ∧ RelV (.ref (Cs 14)) u
  v_NothingToUndo : ∃ u, mg "NothingToUndo" = some u ∧ RelV (.ref (Cs 15)) u
  g_line : mg "LineError" = some (.ref CL)
  g_many : mg "TooMany" = some (.ref (Cs 14))
  g_undo : mg "NothingToUndo" = some (.ref (Cs 15))
  d_kind : DefAt K mg "_law_kind" s__law_kind
  d_caught : DefAt K mg "_law_caught" s__law_caught
/-- D is the j-th class of errors -/
structure KindF (K : PySem.W.Frag) (Cs : Nat → Addr) (CL D : Addr) (j : Nat) : Prop where
  ek : ExcK K D
  kit : ∀ i, i < 16 → PySem.W.kitOne K (.ref D) (.ref (Cs i)) = some (decide (i = j))
  ve : PySem.W.kitOne K (.ref D) (.type "ValueError") = some (decide (j < 14))
  lt : j < 16
  hit : PySem.W.exmAny K (.ref D) [.ref CL, .ref (Cs 14), .ref (Cs 15)] = some true
def kWord (j : Nat) : Str := (["number", "text", "name", "parents", "version", "history", "layout", "prices", "telling", "deeds", "line", "ranges", "command", "parse", "many", "undo"] : List Str).getD j ""
section
variable {P : Program} {w : World} {K : PySem.W.Frag} {mg : Str → Option Value} {base : Heap} {Cs : Nat → Addr} {CL : Addr}
theorem p_isT {H : Hp} {Q : VK} {a D dd : Addr} {fs : List (Str × V)} {i j : Nat} (k : KindF K Cs CL D j) (e : H a = some (ExT a (.ref D) (some dd))) (e2 : H dd = some (.xd fs)) (hi : i < 16) (q : Q (.bl (decide (i = j))) H) : rIsT K [.ref a, .ref (Cs i)] H Q := ⟨a, D, dd, fs, .ref (Cs i), .ref (Cs i), _, rfl, e, e2, k.ek, fun u r => r, k.kit i hi, q⟩
theorem p_isVE {H : Hp} {Q : VK} {a D dd : Addr} {fs : List (Str × V)} {j : Nat} (k : KindF K Cs CL D j) (e : H a = some (ExT a (.ref D) (some dd))) (e2 : H dd = some (.xd fs)) (q : Q (.bl (decide (j < 14))) H) : rIsT K [.ref a, .ty "ValueError"] H Q := ⟨a, D, dd, fs, .ty "ValueError", .type "ValueError", _, rfl, e, e2, k.ek, fun u r => r, k.ve, q⟩
end
local macro_rules | `(tactic| walk_at "rz") => `(tactic| first
  | ((with_reducible show rIsT _ [V.ref _, V.ref _] _ _); refine p_isT (by assumption) (by walk_at "lk") (by walk_at "lk") (by decide) ?_)
  | ((with_reducible show rIsT _ [V.ref _, V.ty _] _ _); refine p_isVE (by assumption) (by walk_at "lk") (by walk_at "lk") ?_))
local macro_rules | `(tactic| walk_at "gx") => `(tactic| repeat (first | walk_at "st" | walk_at "rx" | walk_at "rz"))

section
variable {P : Program} {w : World} {K : PySem.W.Frag} {mg : Str → Option Value} {base : Heap} {Cs : Nat → Addr} {CL : Addr}
def kB (j : Nat) : List Bool := [decide (0 = j), decide (1 = j), decide (2 = j), decide (3 = j), decide (4 = j), decide (5 = j), decide (6 = j), decide (7 = j), decide (8 = j), decide (9 = j), decide (10 = j), decide (11 = j), decide (12 = j), decide (13 = j), decide (14 = j), decide (15 = j)]
theorem kB_count : ∀ j, j < 16 → countIn (.bool true) ((kB j).map PyData.bool) = 1 := by decide +kernel
theorem kB_get : ∀ j, j < 16 → (kB j)[j]? = some true := by decide +kernel
theorem kB_below : ∀ j, j < 16 → ∀ m, m < j → (kB j)[m]? = some false := by decide +kernel
theorem kW_get : ∀ j : Nat, j < 16 → atI ([V.str "number", V.str "text", V.str "name", V.str "parents", V.str "version", V.str "history", V.str "layout", V.str "prices", V.str "telling", V.str "deeds", V.str "line", V.str "ranges", V.str "command", V.str "parse", V.str "many", V.str "undo"] : List V) ((j : Nat) : Int) = some (.str (kWord j)) := by decide +kernel
theorem dp_bls {H : Hp} : ∀ bs : List Bool, DpAll K H (bs.map V.bl) (bs.map PyData.bool)
  | [] => .nil
  | b :: bs => .cons (.bl b) (dp_bls bs)
theorem bl_shaped (j : Nat) (hj : j < 16) : SeqAt.shaped (.list ((kB j).map PyData.bool)) = true := (by decide +kernel : ∀ j, j < 16 → SeqAt.shaped (.list ((kB j).map PyData.bool)) = true) j hj
theorem p_ixB {H : Hp} {Q : VK} {L : Addr} (j : Nat) (hj : j < 16) (d : Dp K H (.ref L) (.list ((kB j).map PyData.bool))) (q : Q (.int (j : Nat)) H) : rIndexD K (.ref L) [.bl true] H Q := by
  refine ⟨L, .bl true, .bool true, _, j, .bool true, rfl, rfl, d, .bl true, bl_shaped j hj, by decide +kernel, ?_, rfl, fun m z hm hz => ?_, q⟩
  · rw [List.getElem?_map, kB_get j hj]
    rfl
  · rw [List.getElem?_map, kB_below j hj m hm] at hz
    cases Option.some.inj hz
    rfl
def spKind (K : PySem.W.Frag) (Cs : Nat → Addr) (CL : Addr) : Sp := fun vs H Q _ => ∃ a D dd fs j, vs = [.ref a] ∧ H a = some (ExT a (.ref D) (some dd)) ∧ H dd = some (.xd fs) ∧ KindF K Cs CL D j ∧ ∀ H', Same H H' → Q (.str (kWord j)) H'
theorem c__law_kind (T : KindT K mg Cs CL) : Cal P w K mg base CX0 1 "_law_kind" (spKind K Cs CL) := by
  refine cal0 T.d_kind sc__law_kind (fun _ _ _ _ _ _ us hl => match us, hl with | [_], _ => rfl) (fun vs H Q E h => ?_) (fun f cdv A outer s H vs Q E hr h => ?_)
  · obtain ⟨a, D, dd, fs, j, rfl, _⟩ := h
    rfl
  · obtain ⟨a, D, dd, fs, j, rfl, ha, hdd, k, q⟩ := h
    have hu65 : (A.deeper (envOfC "_law_kind" (defScope s__law_kind) s.heap.objs.size f cdv)).units + 65 < cLine := by have := hr.un; omega
    refine ⟨_, (pss_cons (ps_set (i := 1) sc__law_kind.nd rfl (by first | exact Or.inl rfl | exact Or.inr rfl) (pe_lst (pa_cons (pe_callB (r := rIsT K) call_isTr (by rfl) T.n_isinstance (by decide +kernel) (pa_cons (pv 0) (pa_cons (pe_gc (by rfl) T.v_InvalidNumber) pa_nil))) (pa_cons (pe_callB (r := rIsT K) call_isTr (by rfl) T.n_isinstance (by decide +kernel) (pa_cons (pv 0) (pa_cons (pe_gc (by rfl) T.v_InvalidText) pa_nil))) (pa_cons (pe_callB (r := rIsT K) call_isTr (by rfl) T.n_isinstance (by decide +kernel) (pa_cons (pv 0) (pa_cons (pe_gc (by rfl) T.v_InvalidName) pa_nil))) pa_nil)))))
      (pss_cons (ps_set (i := 1) sc__law_kind.nd rfl (by first | exact Or.inl rfl | exact Or.inr rfl) (pe_op (r := rAddX K) op_addX (pv 1) (pe_lst (pa_cons (pe_callB (r := rIsT K) call_isTr (by rfl) T.n_isinstance (by decide +kernel) (pa_cons (pv 0) (pa_cons (pe_gc (by rfl) T.v_InvalidParents) pa_nil))) (pa_cons (pe_callB (r := rIsT K) call_isTr (by rfl) T.n_isinstance (by decide +kernel) (pa_cons (pv 0) (pa_cons (pe_gc (by rfl) T.v_InvalidVersion) pa_nil))) pa_nil)))))
      (pss_cons (ps_set (i := 1) sc__law_kind.nd rfl (by first | exact Or.inl rfl | exact Or.inr rfl) (pe_op (r := rAddX K) op_addX (pv 1) (pe_lst (pa_cons (pe_callB (r := rIsT K) call_isTr (by rfl) T.n_isinstance (by decide +kernel) (pa_cons (pv 0) (pa_cons (pe_gc (by rfl) T.v_InvalidHistory) pa_nil))) (pa_cons (pe_callB (r := rIsT K) call_isTr (by rfl) T.n_isinstance (by decide +kernel) (pa_cons (pv 0) (pa_cons (pe_gc (by rfl) T.v_InvalidLayout) pa_nil))) pa_nil)))))
      (pss_cons (ps_set (i := 1) sc__law_kind.nd rfl (by first | exact Or.inl rfl | exact Or.inr rfl) (pe_op (r := rAddX K) op_addX (pv 1) (pe_lst (pa_cons (pe_callB (r := rIsT K) call_isTr (by rfl) T.n_isinstance (by decide +kernel) (pa_cons (pv 0) (pa_cons (pe_gc (by rfl) T.v_InvalidPrices) pa_nil))) (pa_cons (pe_callB (r := rIsT K) call_isTr (by rfl) T.n_isinstance (by decide +kernel) (pa_cons (pv 0) (pa_cons (pe_gc (by rfl) T.v_InvalidTelling) pa_nil))) pa_nil)))))
      (pss_cons (ps_set (i := 1) sc__law_kind.nd rfl (by first | exact Or.inl rfl | exact Or.inr rfl) (pe_op (r := rAddX K) op_addX (pv 1) (pe_lst (pa_cons (pe_callB (r := rIsT K) call_isTr (by rfl) T.n_isinstance (by decide +kernel) (pa_cons (pv 0) (pa_cons (pe_gc (by rfl) T.v_InvalidDeeds) pa_nil))) (pa_cons (pe_callB (r := rIsT K) call_isTr (by rfl) T.n_isinstance (by decide +kernel) (pa_cons (pv 0) (pa_cons (pe_gc (by rfl) T.v_InvalidLine) pa_nil))) pa_nil)))))
      (pss_cons (ps_set (i := 1) sc__law_kind.nd rfl (by first | exact Or.inl rfl | exact Or.inr rfl) (pe_op (r := rAddX K) op_addX (pv 1) (pe_lst (pa_cons (pe_callB (r := rIsT K) call_isTr (by rfl) T.n_isinstance (by decide +kernel) (pa_cons (pv 0) (pa_cons (pe_gc (by rfl) T.v_InvalidRanges) pa_nil))) (pa_cons (pe_callB (r := rIsT K) call_isTr (by rfl) T.n_isinstance (by decide +kernel) (pa_cons (pv 0) (pa_cons (pe_gc (by rfl) T.v_InvalidCommand) pa_nil))) pa_nil)))))
      (pss_cons (ps_set (i := 1) sc__law_kind.nd rfl (by first | exact Or.inl rfl | exact Or.inr rfl) (pe_op (r := rAddX K) op_addX (pv 1) (pe_lst (pa_cons (pe_callB (r := rIsT K) call_isTr (by rfl) T.n_isinstance (by decide +kernel) (pa_cons (pv 0) (pa_cons (pe_gc (by rfl) T.v_ParseError) pa_nil))) (pa_cons (pe_callB (r := rIsT K) call_isTr (by rfl) T.n_isinstance (by decide +kernel) (pa_cons (pv 0) (pa_cons (pe_gc (by rfl) T.v_TooMany) pa_nil))) (pa_cons (pe_callB (r := rIsT K) call_isTr (by rfl) T.n_isinstance (by decide +kernel) (pa_cons (pv 0) (pa_cons (pe_gc (by rfl) T.v_NothingToUndo) pa_nil))) pa_nil))))))
      (pss_cons (ps_if (PW.pt (pw_or (pt_cmpR (r := rNeX K) (op_neX hr.units) (pe_bm PySem.F.plainAttrs_list PySem.F.slot_list_count PySem.F.type_list_count mt_countB (pv 1) (pa_cons pe_bl pa_nil)) pe_int (nomark _)) (pw_or1 (pt_cmpR (r := rNeX K) (op_neX hr.units) (pe_callB (r := rIsT K) call_isTr (by rfl) T.n_isinstance (by decide +kernel) (pa_cons (pv 0) (pa_cons (pe_bltn (v := .ty "ValueError") (by rfl) T.n_ValueError (by decide +kernel) rfl) pa_nil))) (pe_cmpR op_ltX (pe_bm PySem.F.plainAttrs_list PySem.F.slot_list_index PySem.F.type_list_index (mt_indexD hu65) (pv 1) (pa_cons pe_bl pa_nil)) pe_int (nomark _)) (nomark _))))) (pss_one (ps_ret pe_str)) pss_nil)
      (pss_cons (ps_set (i := 2) sc__law_kind.nd rfl (by first | exact Or.inl rfl | exact Or.inr rfl) (pe_lst (pa_cons pe_str (pa_cons pe_str (pa_cons pe_str (pa_cons pe_str (pa_cons pe_str (pa_cons pe_str (pa_cons pe_str (pa_cons pe_str (pa_cons pe_str (pa_cons pe_str pa_nil))))))))))))
      (pss_one (ps_ret (pe_ix (r := rIx K) ix_seq (pe_op (r := rAddX K) op_addX (pv 2) (pe_lst (pa_cons pe_str (pa_cons pe_str (pa_cons pe_str (pa_cons pe_str (pa_cons pe_str (pa_cons pe_str pa_nil)))))))) (pe_bm PySem.F.plainAttrs_list PySem.F.slot_list_index PySem.F.type_list_index (mt_indexD hu65) (pv 1) (pa_cons pe_bl pa_nil)) (fun _ _ => rfl))))))))))))), ?_⟩
    walk_at "gx"
    rename_i L1 H1 n1 s1 e1
    have hj := k.lt
    have e1 : H1 L1 = some (.lst ((kB j).map V.bl)) := e1
    have dK : Dp K H1 (.ref L1) (.list ((kB j).map PyData.bool)) := .lst (SqL.of e1) (dp_bls _)
    refine i_bm ?_
    walk_at "gx"
    refine ⟨.inl ⟨rfl, _, SqL.of e1⟩, ?_⟩
    walk_at "gx"
    refine ⟨L1, kB j, true, rfl, rfl, e1, ?_⟩
    rw [kB_count j hj]
    walk_at "gx"
    refine i_bm ?_
    walk_at "gx"
    refine ⟨.inl ⟨rfl, _, SqL.of e1⟩, ?_⟩
    walk_at "gx"
    refine p_ixB j hj dK ?_
    walk_at "gx"
    refine ifb (decide_eq_decide.mpr (by omega)) ?_
    walk_at "gx"
    rename_i M2 H2 n2 s2 e2 M3 H3 n3 s3 e3 L4 H4 n4 s4 e4
    have s14 : Same H1 H4 := (s2.trans s3).trans s4
    refine i_bm ?_
    walk_at "gx"
    refine ⟨.inl ⟨rfl, _, SqL.of (s14 _ _ e1)⟩, ?_⟩
    walk_at "gx"
    refine p_ixB j hj (.lst (SqL.of (s14 _ _ e1)) (dp_bls _)) ?_
    refine p_ixL (SqL.of e4) (kW_get j hj) ?_
    exact q _ (by walk_at "sm")
end

section
variable {P : Program} {w : World} {K : PySem.W.Frag} {mg : Str → Option Value} {base : Heap} {Cs : Nat → Addr} {CL : Addr}
theorem kW_no : ∀ j, j < 13 → (kWord j ≠ "parse" ∧ kWord j ≠ "many") ∧ (inV (.str (kWord j)) [.str "odd", .str "undo"] = false) := by decide +kernel
/-- an error of the j-th class with the value v, shown as z -/
def ErrV (K : PySem.W.Frag) (Cs : Nat → Addr) (CL : Addr) (j : Nat) (z : Str) (R : Hp → Prop) : XK := fun cls d H' => ∃ D dd fs v dat, cls = .ref D ∧ d = some dd ∧ H' dd = some (.xd fs) ∧ KindF K Cs CL D j ∧ PySem.W.findIn K (.ref D) "value" = some none ∧ fs.lookup ("value" : Str) = some v ∧ Shw H' v dat ∧ dat.shown = z ∧ R H'
/-- what _law_caught tells of a lambda's reading: nothing is raised, or an error with a value -/
def TCaught (K : PySem.W.Frag) (Cs : Nat → Addr) (CL : Addr) : (XK → Hp → VK → Prop) → Hp → VK → Prop := fun tl H Q => ∃ (j : Nat) (z : Str), j < 13 ∧ ∀ (E1 : XK) (Q1 : VK),
  (∀ cls d H', ErrV K Cs CL j z (fun H' => ∀ p H'', Same H' H'' → H' p = none → H'' p = some (.lst [.str (kWord j), .str z]) → Q (.ref p) H'') cls d H' → E1 cls d H') →
  (∀ v H', (∀ p H'', Same H' H'' → H' p = none → H'' p = some (.lst [.str "none", .str "None"]) → Q (.ref p) H'') → Q1 v H') → tl E1 H Q1
theorem caught_body (T : KindT K mg Cs CL) {A : Around} {stack : List Env} {s : Shared} {H : Hp} {g f c' : Addr} {cdg : Value} {q : Str} {Q : VK} {tl : XK → Hp → VK → Prop} (gd : A.guards = some []) (hr : Room 3 A)
    (act : ∀ (W : WX) (pn : List (Addr × Obj)) (xe : Value → Shared → Prop) (E : XK) (p1 p2 : Pos), Takes ((cxOf C8.CX0 P w K mg base N__law_caught "_law_caught" (defScope s__law_caught) g cdg A stack s H C8.E0).tr pn xe) W → (∀ cls d σ' H', E cls d H' → W cls d σ' H') →
      PE ((cxOf C8.CX0 P w K mg base N__law_caught "_law_caught" (defScope s__law_caught) g cdg A stack s H C8.E0).tr pn xe) (.Call (.Name "call" p1) [] [] p2) (fun σZ HZ Q => σZ[0]? = some (some (.ref f)) ∧ HZ c' = some (LamX.CodeO c' q) ∧ tl E HZ Q))
    (hc : H c' = some (LamX.CodeO c' q)) (h : TCaught K Cs CL tl H Q) :
    ∃ t, PSs (cxOf C8.CX0 P w K mg base N__law_caught "_law_caught" (defScope s__law_caught) g cdg A stack s H C8.E0).nox (defBody s__law_caught) t ∧ t { nx := fun _ H' => Q .non H', rt := Q } (start N__law_caught [.ref f]) H := by
  have c__law_kind : Cal P w K mg base CX0 1 "_law_kind" (spKind K Cs CL) := c__law_kind T
  have hr : Room 2 (A.deeper (envOfC "_law_caught" (defScope s__law_caught) s.heap.objs.size g cdg)) := hr.deeper _
  refine ⟨_, (pss_cons (ps_set (i := 1) sc__law_caught.nd rfl (by first | exact Or.inl rfl | exact Or.inr rfl) pe_non)
      (pss_cons (ps_try_tup (i := 2) (tb := fun W D σ H => ∃ Ech : XK, (∀ cls d σ' H', Ech cls d H' → W cls d σ' H') ∧ σ[0]? = some (some (.ref f)) ∧ H c' = some (LamX.CodeO c' q) ∧ tl Ech H (fun _ H' => D.nx σ H')) (ts := fun a cls d => tAsg (tVar 2) (gName 1)) (Wout := fun _ _ _ _ => False) rfl rfl rfl sc__law_caught.nd rfl rfl ⟨by rfl, by decide, .inl T.g_line⟩ ⟨by rfl, by decide, .inl T.g_many⟩ ⟨by rfl, by decide, .inl T.g_undo⟩ LamX.takes0 (fun W pn xe tk _ => caught_call (fun E hW => act W pn xe E _ _ tk hW)) (fun a oe cls d pn _ _ => pss_one (ps_set (i := 1) sc__law_caught.nd rfl (Or.inl rfl) (pv 2))))
      (pss_cons (ps_if (pt_cmpR op_isN (pv 1) pe_non (nomark _)) (pss_one (ps_ret (pe_lst (pa_cons pe_str (pa_cons pe_str pa_nil))))) pss_nil)
      (pss_cons (ps_set (i := 3) sc__law_caught.nd rfl (by first | exact Or.inl rfl | exact Or.inr rfl) (pe_c c__law_kind hr (by decide) (by rfl) pass0 (pa_cons (pv 1) pa_nil)))
      (pss_cons (ps_if (pt_cmpR (r := rEqX K) (op_eqX hr.units) (pv 3) pe_str (nomark _)) (pss_one (ps_ret (pe_lst (pa_cons (pv 3) (pa_cons (pe_callB (r := rReprV) (call_reprV hr gd) (by rfl) T.n_repr (by decide +kernel) (pa_cons (pe_xv (pv 1)) pa_nil)) pa_nil))))) pss_nil)
      (pss_cons (ps_if (pt_cmpR (r := rEqX K) (op_eqX hr.units) (pv 3) pe_str (nomark _)) (pss_one (ps_ret (pe_lst (pa_cons (pv 3) (pa_cons (pe_callB (r := rReprV) (call_reprV hr gd) (by rfl) T.n_repr (by decide +kernel) (pa_cons (pe_xv (pv 1)) pa_nil)) pa_nil))))) pss_nil)
      (pss_cons (ps_if (pt_cmpR (r := rIn K false) op_in_seq (pv 3) (pe_tup (pa_cons pe_str (pa_cons pe_str pa_nil))) (by rfl)) (pss_one (ps_ret (pe_lst (pa_cons (pv 3) (pa_cons pe_str pa_nil))))) pss_nil)
      (pss_one (ps_ret (pe_lst (pa_cons (pv 3) (pa_cons (pe_callB (r := rReprV) (call_reprV hr gd) (by rfl) T.n_repr (by decide +kernel) (pa_cons (pe_xv (pv 1)) pa_nil)) pa_nil)))))))))))), ?_⟩
  obtain ⟨j, z, hj, h⟩ := h
  walk_at "gx"
  refine ⟨fun cls d H' => ∀ σ' : L2.St, wTup _ _ _ _ _ _ _ cls d σ' H', fun cls d σ' H' y => y σ', rfl, hc, h _ _ (fun cls d H' y σ' hl => ?_) (fun v H' y => ?_)⟩
  · obtain ⟨D, dd, fs, v, dat, rfl, rfl, e1, k, no, lv, sv, ez, y⟩ := y
    obtain ⟨w1, w2, w3, w4, rfl⟩ : ∃ w1 w2 w3 w4 : Option V, σ' = [w1, w2, w3, w4] := match σ', hl with | [a, b, c, d], _ => ⟨a, b, c, d, rfl⟩
    refine ⟨true, k.hit, fun _ a na => ?_, fun y => nomatch y⟩
    walk_at "gx"
    intro na
    have sa : Same H' (upd H' a (ExT a (.ref D) (some dd))) := same_upd na
    have ea : upd H' a (ExT a (.ref D) (some dd)) a = some (ExT a (.ref D) (some dd)) := upd_same
    have ed := sa _ _ e1
    walk_at "gx"
    refine ⟨rfl, _, rfl, ift (fun hc => nomatch (of_decide_eq_true hc)) (fun _ => ?_)⟩
    walk_at "gx"
    refine ⟨a, D, dd, fs, j, rfl, ea, ed, k, fun H2 s2 => ?_⟩
    have ea := s2 _ _ ea
    have ed := s2 _ _ ed
    obtain ⟨⟨np, nm⟩, ni⟩ := kW_no j hj
    walk_at "gx"
    refine p_eqS rfl ⟨_, rfl, ift (fun hc => absurd (V.str.inj (of_decide_eq_true hc)) np) (fun _ => ?_)⟩
    walk_at "gx"
    refine p_eqS rfl ⟨_, rfl, ift (fun hc => absurd (V.str.inj (of_decide_eq_true hc)) nm) (fun _ => ?_)⟩
    walk_at "gx"
    rename_i M3 H3 n3 s3 e3
    refine ⟨M3, _, rfl, .inr (SqT.of e3), rfl, rfl, ?_⟩
    rw [if_neg Bool.false_ne_true, ni]
    walk_at "gx"
    refine ⟨.ref a, rfl, a, D, dd, fs, v, rfl, s3 _ _ ea, s3 _ _ ed, k.ek, no, lv, ?_⟩
    walk_at "gx"
    refine ⟨v, dat, rfl, (((sv.same sa).same s2).same s3), ?_⟩
    walk_at "gx"
    rename_i M4 H4 n4 s4 e4
    rw [ez] at e4
    exact y M4 H4 (((sa.trans s2).trans s3).trans s4) (Same.free ((sa.trans s2).trans s3) n4) e4
  · walk_at "gx"
    refine ⟨rfl, _, rfl, ift (fun _ => ?_) (fun hc => absurd rfl (of_decide_eq_false hc))⟩
    walk_at "gx"
    rename_i M4 H4 n4 s4 e4
    exact y M4 H4 s4 n4 e4
end

section
structure LamF (base : Heap) (mg : Str → Option Value) (Tb : List (Addr × Str)) (c P : Addr) (q : Str) : Prop where
  tb : LamX.TabB base mg c P
  mem : (P, q ++ ".<locals>." ++ "<lambda>") ∈ Tb
  un : ∀ p ∈ Tb, p.1 = P → p.2 = q ++ ".<locals>." ++ "<lambda>"
variable {Cs : Nat → Addr} {CL : Addr}
theorem pe_caught {X : Cx} {Tb : List (Addr × Str)} {c P : Addr} {k j : Nat} {q : Str} {params : Arguments} {body : Expr} {scope : Scope} {t : XK → TE} {p lpos pos : Pos} (T : KindT X.K X.mg Cs CL) (gd : X.A.guards = some []) (hr : Room j X.A) (hj : k + 3 ≤ j) (hg : Gl X "_law_caught")
    (LF : LamF X.base X.mg Tb c P q) (hq : X.env.qual = q ++ ".<locals>.") (hcode : X.env.code = .ref c) (L : LamX.LamS X.env.scope scope) (hdef : defaultsOf params X.env = ([], []))
    (hbind : ∀ (q : Str) (cl : List (Str × Addr)) (pm cv ctv : Value), bindArgs (PySem.W.kla_fn "<lambda>" q params body scope cl pm cv ctv) ⟨[], []⟩ = pure [])
    (hbody : ∀ (A : Around) (outer : List Env) (s : Shared) (H : Hp) (E : XK) (f c' : Addr), Room k (A.deeper (LamX.lamEnv X scope s.heap.objs.size f c')) → PE (LamX.lamCx X A outer s H E scope f c') body (t E)) :
    PE X (.Call (.Name "_law_caught" p) [.Lambda params body scope lpos] [] pos) (LamX.tLam Tb (TCaught X.K Cs CL) t) := by
  obtain ⟨g, fd, F, m⟩ := T.d_caught.ex
  have hb := F.binds (ps := ["call"]) (fun _ _ _ _ _ _ us hl => match us, hl with | [_], _ => rfl)
  obtain ⟨oc, od, kV, doc, pm, an, cdv, ct, osl, rfl, lk, hcd⟩ := F.ex
  exact LamX.pe_lamcall (k := k) (Ng := N__law_caught) hg m F.kp lk hcd hb sc__law_caught rfl (.inl rfl) (fun f c' s H Q tl act hc h => caught_body T gd (hr.mono (by omega)) act hc h) LF.tb hcode (by rw [hq]; exact LF.mem) (by rw [hq]; exact LF.un) (hr.mono (by omega)) L hdef hbind hbody
end

end Pk

namespace Pk
open PySem PySem.Spec PyProof.Rows L2
local macro_rules | `(tactic| walk_at "sz") => `(tactic| first | assumption | decide +kernel | exact Nat.le_trans (Nat.le_of_ble_eq_true rfl) (show 100000 ≤ sizeLine by decide) | exact Nat.le_trans (by omega) (show 100000 ≤ sizeLine by decide) | (show _ ≤ sizeLine; exact Nat.le_trans (by (simp only [List.length_append, List.length_map, List.length_cons, List.length_nil]; omega)) (show 100000 ≤ sizeLine by decide)))
local macro_rules | `(tactic| walk_at "mul") => `(tactic| first | exact Or.inl (Or.inl ⟨by omega, by omega⟩) | exact Or.inl (Or.inr ⟨by omega, by omega⟩))
local macro_rules | `(tactic| walk_at "ci") => `(tactic| first | assumption | exact (by decide : (0 : Int) < _) | (show (0 : Int) < _; omega) | exact ⟨by assumption, by assumption⟩ | exact ⟨by decide, by decide⟩ | exact ⟨by decide, by decide, by omega⟩)
local macro_rules | `(tactic| walk_at "lk") => `(tactic| first | assumption | exact upd_same | ((refine Eq.trans (upd_ne (by first | assumption | exact Ne.symm (by assumption))) ?_); walk_at "lk") | exact Same.get (by assumption) (by walk_at "lk") | exact Keep.get (by assumption) (by walk_at "lk") (by assumption) (by assumption))
local macro_rules | `(tactic| walk_at "sq") => `(tactic| first | assumption | exact SqL.of (by walk_at "lk") | exact Same.seq (by assumption) (by walk_at "sq"))
local macro_rules | `(tactic| walk_at "stt") => `(tactic| exact SqT.of (by walk_at "lk"))
local macro_rules | `(tactic| walk_at "kd") => `(tactic| first | assumption | exact Kd.str _ (by first | assumption | omega | decide) | exact Kd.bl _ | exact Kd.int _ | exact Kd.non | exact Kd.lst (by walk_at "lk") | exact Kd.tup (by walk_at "lk") | exact Kd.dct (by walk_at "lk") | exact Kd.same (by assumption) (by walk_at "kd"))
local macro_rules | `(tactic| walk_at "sm") => `(tactic| first | assumption | exact Same.refl _ | (refine Same.trans ?_ (by assumption); walk_at "sm"))
local macro_rules | `(tactic| walk_at "st") => `(tactic| first
  | with_reducible refine i_seq ?_ | with_reducible refine i_asg ?_ | with_reducible refine i_ret ?_ | with_reducible refine i_op ?_
  | ((with_reducible show tVar _ _ _ _); refine i_var rfl ?_)
  | with_reducible refine i_c ?_ | with_reducible refine i_cb ?_ | with_reducible refine i_call ?_ | with_reducible refine i_cons ?_ | with_reducible refine i_nil ?_
  | with_reducible refine i_name ?_ | with_reducible refine i_sub ?_ | with_reducible refine i_drop ?_ | with_reducible refine i_ifs ?_ | with_reducible refine i_ife ?_
  | with_reducible refine i_test ?_ | with_reducible refine i_tru ?_ | with_reducible refine i_and ?_ | with_reducible refine i_or ?_ | with_reducible refine i_not ?_
  | with_reducible refine i_andV ?_ | with_reducible refine i_orV ?_ | with_reducible refine i_notV ?_ | with_reducible refine i_un ?_
  | with_reducible refine i_bl ?_ | with_reducible refine i_trB ?_ | with_reducible refine i_next ?_
  | with_reducible refine iteF ?_ | with_reducible refine iteT ?_
  | with_reducible refine i_lstF ?_ | with_reducible refine i_tupF ?_
  | with_reducible refine p_addI ?_ | with_reducible refine p_I0 ?_ | with_reducible refine p_U ?_
  | with_reducible refine p_ltI ?_ | with_reducible refine p_leI ?_ | with_reducible refine p_gtI ?_ | with_reducible refine p_geI ?_
  | with_reducible refine p_ltS ?_ | with_reducible refine p_leS ?_ | with_reducible refine p_gtS ?_
  | with_reducible refine p_eqI ?_ | with_reducible refine p_neI ?_ | with_reducible refine p_int ?_
  | ((with_reducible show rMuXX (V.int _) (V.int _) _ _); refine p_muI (by walk_at "mul") ?_)
  | ((with_reducible show rI _ _ (V.int _) (V.int _) _ _); refine p_I (by walk_at "ci") ?_)
  | ((with_reducible show rIx _ (V.ref _) (V.int _) _ _); (first | refine p_ixL (by walk_at "sq") (by first | exact rfl | assumption) ?_ | refine p_ixT (SqT.of (by walk_at "lk")) (by first | exact rfl | assumption) ?_))
  | ((with_reducible show rSetL (V.ref _) (V.int _) _ _ _); refine p_setL (by walk_at "lk") (by first | exact rfl | assumption) ?_)
  | ((with_reducible show rLenX _ [V.ref _] _ _); (first | refine p_lenL (by walk_at "sq") ?_ | refine p_lenT (SqT.of (by walk_at "lk")) ?_))
  | ((with_reducible show rLenX _ [V.str _] _ _); refine p_lenS (by walk_at "sz") ?_)
  | with_reducible refine i_lc ?_ | with_reducible refine i_for ?_ | with_reducible refine i_itl ?_ | with_reducible refine i_itt ?_ | with_reducible refine i_itr ?_ | with_reducible refine i_its ?_
  | ((with_reducible show ∃ _, V.ref _ = V.ref _ ∧ (∃ _, SqL _ _ _ _) ∧ _); refine p_itl (by walk_at "sq") ?_)
  | ((with_reducible show ∃ _, V.ref _ = V.ref _ ∧ (∃ _, SqT _ _ _ _) ∧ _); refine p_itt (by walk_at "stt") ?_) | with_reducible refine p_its ?_
  | ((with_reducible show ∃ _, [V.int _] = [V.int _] ∧ _); refine p_itr (by omega) (by omega) ?_)
  | with_reducible refine i_sl ?_ | with_reducible refine i_np ?_ | with_reducible refine i_pt ?_ | with_reducible refine i_in ?_
  | ((with_reducible show rSlXX _ (V.ref _) _ _ _ _); refine p_slL (by walk_at "sq") ?_; intro _ _ _ _ _)
  | ((with_reducible show rSlXX _ (V.str _) _ _ _ _); refine p_slS (by walk_at "sz") ?_)
  | ((with_reducible show rIsi _ [_, V.ty "str"] _ _); refine p_isStr (by walk_at "kd") ?_)
  | ((with_reducible show rIsi _ [_, V.ty "int"] _ _); refine p_isInt (by walk_at "kd") ?_)
  | ((with_reducible show rIsi _ [_, V.ty "bool"] _ _); refine p_isBool (by walk_at "kd") ?_)
  | ((with_reducible show rIsiT _ [_, V.ref _] _ _); refine p_isLT (by walk_at "lk") (by walk_at "kd") ?_)
  | with_reducible refine i_chain ?_ | with_reducible refine i_m1 ?_ | with_reducible refine i_m0 ?_ | with_reducible refine i_str ?_
  | ((with_reducible show LstK _ _ _); refine p_lstK (by walk_at "sz") ?_; intro _ _ _ _ _)
  | ((with_reducible show TupK _ _ _); refine p_tupK (by walk_at "sz") ?_; intro _ _ _ _ _)
  | ((with_reducible show (if _ = true then _ else _)); (first | refine ifT' (by first | assumption | exact rfl) ?_ | refine ifF' (by first | assumption | exact rfl) ?_))
  | ((with_reducible show rEqX _ (V.bl _) (V.bl _) _ _); refine p_eqS rfl ?_) | ((with_reducible show rNeX _ (V.bl _) (V.bl _) _ _); refine p_neS rfl ?_)
  | ((with_reducible show rEqX _ (V.ref _) (V.ref _) _ _); refine p_eqNil (by walk_at "lk") (by walk_at "lk") ?_) | ((with_reducible show rNeX _ (V.ref _) (V.ref _) _ _); refine p_neNil (by walk_at "lk") (by walk_at "lk") ?_)
  | ((with_reducible show rAddX _ (V.str _) (V.str _) _ _); refine p_addS (by walk_at "sz") ?_)
  | ((with_reducible show rMuXX (V.str _) (V.int _) _ _); refine p_muS ⟨by decide +kernel, by decide +kernel, by decide +kernel⟩ ?_)
  | ((with_reducible show tDNewK _ _ _); refine i_dnew ?_; intro _ _ _ _ _)
  | ((with_reducible show rTupX _ [V.ref _] _ _); refine p_tupL (by walk_at "sq") ?_; intro _ _ _ _ _)
  | ((with_reducible show rAddX _ (V.ref _) (V.ref _) _ _); refine p_addL (by walk_at "lk") (by walk_at "lk") (by walk_at "sz") ?_; intro _ _ _ _ _)
  | with_reducible refine p_notB ?_ | with_reducible refine p_isB ?_)
local macro_rules | `(tactic| walk_at "go") => `(tactic| (walk_at "st"; (repeat walk_at "st")))

abbrev s_InvalidName___init__ : Stmt := inClass (top 4) 0
abbrev N_InvalidName___init__ : List Str := ["self", "value"]
theorem sc_InvalidName___init__ : FnScope ["self", "value"] ["self", "value"] (defScope s_InvalidName___init__) := ⟨rfl, rfl, rfl, by decide +kernel, rfl, by decide +kernel, by decide +kernel⟩
abbrev s_InvalidParents___init__ : Stmt := inClass (top 5) 0
abbrev N_InvalidParents___init__ : List Str := ["self", "value"]
theorem sc_InvalidParents___init__ : FnScope ["self", "value"] ["self", "value"] (defScope s_InvalidParents___init__) := ⟨rfl, rfl, rfl, by decide +kernel, rfl, by decide +kernel, by decide +kernel⟩
abbrev s_InvalidText___init__ : Stmt := inClass (top 3) 0
abbrev N_InvalidText___init__ : List Str := ["self", "value"]
theorem sc_InvalidText___init__ : FnScope ["self", "value"] ["self", "value"] (defScope s_InvalidText___init__) := ⟨rfl, rfl, rfl, by decide +kernel, rfl, by decide +kernel, by decide +kernel⟩
abbrev s_InvalidNumber___init__ : Stmt := inClass (top 2) 0
abbrev N_InvalidNumber___init__ : List Str := ["self", "value"]
theorem sc_InvalidNumber___init__ : FnScope ["self", "value"] ["self", "value"] (defScope s_InvalidNumber___init__) := ⟨rfl, rfl, rfl, by decide +kernel, rfl, by decide +kernel, by decide +kernel⟩
theorem mono1 {i : Nat} : ∀ (σ : L2.St) (H : Hp) (Q Q' : List V → Hp → Prop), (∀ vs H', Q vs H' → Q' vs H') → tCons (tVar i) tNil σ H Q → tCons (tVar i) tNil σ H Q' := fun σ H Q Q' k h => by
  obtain ⟨v, e, h⟩ := h
  exact ⟨v, e, k _ _ h⟩
theorem i_rz {C : Addr} {f : Str} {W : WX} {t : TA} {σ : L2.St} {H : Hp} {D : Ends} (h : t σ H fun vs H1 => ∃ v, vs = [v] ∧ ∀ d H', H1 d = none → Same H1 H' → H' d = some (.xd [(f, v)]) → W (.ref C) (some d) σ H') : tRz C f W t D σ H := h
section
variable {P : Program} {w : World} {K : PySem.W.Frag} {mg : Str → Option Value} {base : Heap} {C CN : Addr}
theorem e_num (F : ErrF K mg "InvalidNumber" "value" "InvalidNumber.__init__" CN s_InvalidNumber___init__) : ErrM P w K mg base "InvalidNumber" "value" CN := by
  obtain ⟨fI, fd, i1, i2, Fn⟩ := F.ini
  refine ⟨F.gC, F.T, fI, fd, i1, i2, Fn.ok sc_InvalidNumber___init__ (fun vs H Q E h => ?_) (fun cdv A outer s H vs Q E hr h => ?_), Fn.binds (fun _ _ _ _ _ _ us hl => match us, hl with | [_, _], _ => rfl)⟩
  · obtain ⟨a, v, rfl, _⟩ := h
    rfl
  · obtain ⟨a, v, rfl, ha, q⟩ := h
    refine ⟨_, pss_one (ps_ost (pv 0) (pv 1)), ?_⟩
    exact ⟨v, rfl, .ref a, rfl, a, CN, rfl, F.T, F.no, .inl ⟨ha, fun dx n ne => q dx n ne⟩⟩
theorem e_text (F : ErrF K mg "InvalidText" "value" "InvalidText.__init__" CN s_InvalidText___init__) : ErrM P w K mg base "InvalidText" "value" CN := by
  obtain ⟨fI, fd, i1, i2, Fn⟩ := F.ini
  refine ⟨F.gC, F.T, fI, fd, i1, i2, Fn.ok sc_InvalidText___init__ (fun vs H Q E h => ?_) (fun cdv A outer s H vs Q E hr h => ?_), Fn.binds (fun _ _ _ _ _ _ us hl => match us, hl with | [_, _], _ => rfl)⟩
  · obtain ⟨a, v, rfl, _⟩ := h
    rfl
  · obtain ⟨a, v, rfl, ha, q⟩ := h
    refine ⟨_, pss_one (ps_ost (pv 0) (pv 1)), ?_⟩
    exact ⟨v, rfl, .ref a, rfl, a, CN, rfl, F.T, F.no, .inl ⟨ha, fun dx n ne => q dx n ne⟩⟩
theorem e_par (F : ErrF K mg "InvalidParents" "value" "InvalidParents.__init__" CN s_InvalidParents___init__) : ErrM P w K mg base "InvalidParents" "value" CN := by
  obtain ⟨fI, fd, i1, i2, Fn⟩ := F.ini
  refine ⟨F.gC, F.T, fI, fd, i1, i2, Fn.ok sc_InvalidParents___init__ (fun vs H Q E h => ?_) (fun cdv A outer s H vs Q E hr h => ?_), Fn.binds (fun _ _ _ _ _ _ us hl => match us, hl with | [_, _], _ => rfl)⟩
  · obtain ⟨a, v, rfl, _⟩ := h
    rfl
  · obtain ⟨a, v, rfl, ha, q⟩ := h
    refine ⟨_, pss_one (ps_ost (pv 0) (pv 1)), ?_⟩
    exact ⟨v, rfl, .ref a, rfl, a, CN, rfl, F.T, F.no, .inl ⟨ha, fun dx n ne => q dx n ne⟩⟩
theorem e_name (F : ErrF K mg "InvalidName" "value" "InvalidName.__init__" CN s_InvalidName___init__) : ErrM P w K mg base "InvalidName" "value" CN := by
  obtain ⟨fI, fd, i1, i2, Fn⟩ := F.ini
  refine ⟨F.gC, F.T, fI, fd, i1, i2, Fn.ok sc_InvalidName___init__ (fun vs H Q E h => ?_) (fun cdv A outer s H vs Q E hr h => ?_), Fn.binds (fun _ _ _ _ _ _ us hl => match us, hl with | [_, _], _ => rfl)⟩
  · obtain ⟨a, v, rfl, _⟩ := h
    rfl
  · obtain ⟨a, v, rfl, ha, q⟩ := h
    refine ⟨_, pss_one (ps_ost (pv 0) (pv 1)), ?_⟩
    exact ⟨v, rfl, .ref a, rfl, a, CN, rfl, F.T, F.no, .inl ⟨ha, fun dx n ne => q dx n ne⟩⟩
def RaisesV (CN : Addr) (x : V) (H : Hp) (E : XK) : Prop := ∀ d H', H d = none → Same H H' → H' d = some (.xd [(("value" : Str), x)]) → E (.ref CN) (some d) H'
end

section
variable {K : PySem.W.Frag} {σ : L2.St} {H : Hp} {Q : VK} {D : Ends} {t : TA} {ta tv : TE} {f : Str}
theorem i_par {i j : Nat} {D : Ends} (h : t σ H fun vs H1 => ∃ v w, vs = [v, w] ∧ D.nx ((σ.set i (some v)).set j (some w)) H1) : tPar i j t D σ H := h
theorem i_sfl {D : Ends} (h : tv σ H fun y H1 => ta σ H1 fun x H2 => ∃ a C dx fs, x = .ref a ∧ H2 a = some (.ins C dx fs) ∧ Cls K C ∧ NoAttr K C f ∧ fs.length < 1000 ∧ D.nx σ (upd H2 a (.ins C dx (putF f y fs)))) : sFld K ta tv f D σ H := h
end

local macro_rules | `(tactic| walk_at "rx") => `(tactic| first
  | with_reducible refine i_par ?_ | ((with_reducible show ∃ _, [V.int _] = [V.int _] ∧ _); refine ⟨_, rfl, ?_⟩)
  | with_reducible refine i_sfl ?_)
local macro_rules | `(tactic| walk_at "gr") => `(tactic| repeat (first | walk_at "st" | walk_at "rx"))
abbrev s_Version___init__ : Stmt := inClass (top 33) 0
abbrev N_Version___init__ : List Str := ["self", "lines", "parents", "author", "parent"]
theorem sc_Version___init__ : FnScope ["self", "lines", "parents", "author", "parent"] ["self", "lines", "parents", "author"] (defScope s_Version___init__) := ⟨rfl, rfl, rfl, by decide +kernel, rfl, by decide +kernel, by decide +kernel⟩
structure VerF (K : PySem.W.Frag) (mg : Str → Option Value) (C : Addr) : Prop where
  N : CountF K mg
  I : InsF K C
  v_Version : mg "Version" = some (.ref C)
  nL : NoAttr K C "_lines"
  nP : NoAttr K C "_parents"
  nA : NoAttr K C "_author"
  ini : ∃ f fd T0, Mk K C f ∧ Fun K "__init__" "Version.__init__" s_Version___init__ f fd ∧ FunD K "__init__" "Version.__init__" (defArgs s_Version___init__) (defBody s_Version___init__) (defScope s_Version___init__) [] [("parents", .ref T0), ("author", .str "anon")] f fd ∧
    ∃ o n, K.lookup T0 = some o ∧ o.cls = .type "tuple" ∧ o.data = .seq #[] n
  n_int : mg "int" = none
  n_tuple : mg "tuple" = none
  n_sorted : mg "sorted" = none
theorem VerF.cl {K : PySem.W.Frag} {mg : Str → Option Value} {C : Addr} (T : VerF K mg C) : Cls K C := T.I.cl
def vf (L M : Addr) (z : Str) : List (Str × V) := putF "_author" (.str z) (putF "_parents" (.ref M) (putF "_lines" (.ref L) []))
/-- a version stands at a -/
def VAt (C : Addr) (H : Hp) (a : Addr) (ls : List V) (ps : List Int) (z : Str) : Prop := ∃ dx L M, H a = some (.ins C dx (vf L M z)) ∧ H L = some (.tup ls) ∧ H M = some (.tup (ps.map V.int))
theorem VAt.same {C : Addr} {H H' : Hp} {a : Addr} {ls : List V} {ps : List Int} {z : Str} (s : Same H H') (h : VAt C H a ls ps z) : VAt C H' a ls ps z := by
  obtain ⟨dx, L, M, e1, e2, e3⟩ := h
  exact ⟨dx, L, M, s _ _ e1, s _ _ e2, s _ _ e3⟩
def LstV (H : Hp) (x : V) (xs : List V) : Prop := ∃ a, x = .ref a ∧ (H a = some (.lst xs) ∨ H a = some (.tup xs))
theorem LstV.same {H H' : Hp} {x : V} {xs : List V} (s : Same H H') (h : LstV H x xs) : LstV H' x xs := by
  obtain ⟨a, e, h⟩ := h
  exact ⟨a, e, h.imp (s _ _) (s _ _)⟩
theorem p_tupA {K : PySem.W.Frag} {H : Hp} {Q : VK} {x : V} {xs : List V} (h : LstV H x xs) (q : ∀ d H', Same H H' → H' d = some (.tup xs) → Q (.ref d) H') : rTupX K [x] H Q := by
  obtain ⟨a, rfl, h | h⟩ := h
  · exact p_tupL (SqL.of h) fun d H' _ s e => q d H' s e
  · exact ⟨a, xs, rfl, .inr ⟨SqT.of h, q a H (Same.refl H) h⟩⟩
section
variable {P : Program} {w : World} {K : PySem.W.Frag} {mg : Str → Option Value} {base : Heap} {C CT CP CN : Addr}
theorem funD_of {x q : Str} {st : Stmt} {f : Addr} {fd : FuncData} (F : Fun K x q st f fd) : FunD K x q (defArgs st) (defBody st) (defScope st) [] [] f fd := by
  obtain ⟨oc, od, kV, doc, pm, an, cdv, ct, osl, e, lk, hcd⟩ := F.ex
  exact ⟨⟨oc, od, .none, kV, doc, pm, an, cdv, ct, osl, e, lk, hcd, .inl ⟨rfl, rfl⟩, .inl rfl⟩, F.kp⟩
theorem RaisesV.same {x : V} {H H' : Hp} {E : XK} (s : Same H H') (h : RaisesV CN x H E) : RaisesV CN x H' E := fun d H2 nd s2 e => h d H2 (s.free nd) (s.trans s2) e
/-- Version(x, parents=y, author=v): it raises, or a version is made -/
def spVer (K : PySem.W.Frag) (C CT CP CN : Addr) : Sp := fun vs H Q E => ∃ p dx x bt y bp np v kv, vs = [.ref p, x, y, v] ∧ H p = some (.ins C dx []) ∧ TextV H x bt ∧ ((bt = false ∧ RaisesV CT x H E) ∨ (bt = true ∧ ParV K H y bp np ∧ ((bp = false ∧ RaisesV CP y H E) ∨ (bp = true ∧ Kd H v kv ∧ ((nameB v = false ∧ RaisesV CN v H E) ∨
  (nameB v = true ∧ ∀ H' ls z ms, LstV H x ls → v = .str z → ms.Perm np → ms.Pairwise (· ≤ ·) → (∀ b o, b ≠ p → H b = some o → H' b = some o) → VAt C H' p ls ms z → Q .non H'))))))
theorem par_lst {H : Hp} {x : V} {b : Bool} {np : List Int} (h : ParV K H x b np) (hb : b = true) : (∃ xs, parB xs = true ∧ np = xs.map intOf ∧ ((∃ a, x = .ref a ∧ H a = some (.lst xs)) ∨ (∃ a, x = .ref a ∧ H a = some (.tup xs)))) ∨ (np = [] ∧ ∃ a, x = .ref a ∧ SqT K H a []) := by
  cases h with
  | kt _ _ e => exact .inr ⟨rfl, _, rfl, e⟩
  | flat => cases hb
  | lst e _ _ => exact .inl ⟨_, hb, rfl, .inl ⟨_, rfl, e⟩⟩
  | tup e _ _ => exact .inl ⟨_, hb, rfl, .inr ⟨_, rfl, e⟩⟩
theorem text_lst {H : Hp} {x : V} {b : Bool} (h : TextV H x b) (hb : b = true) : ∃ xs, LstV H x xs := by
  cases h with
  | flat => cases hb
  | lst e _ _ => exact ⟨_, _, rfl, .inl e⟩
  | tup e _ _ => exact ⟨_, _, rfl, .inr e⟩
theorem TextV.same {H H' : Hp} {x : V} {b : Bool} (s : Same H H') (h : TextV H x b) : TextV H' x b := by
  cases h with
  | flat h h1 h2 => exact .flat (h.same s) h1 h2
  | lst e hl h => exact .lst (s _ _ e) hl fun y hy => (h y hy).imp fun k hk => hk.same s
  | tup e hl h => exact .tup (s _ _ e) hl fun y hy => (h y hy).imp fun k hk => hk.same s
theorem ParV.same {H H' : Hp} {x : V} {b : Bool} {np : List Int} (s : Same H H') (h : ParV K H x b np) : ParV K H' x b np := by
  cases h with
  | kt lk oc e => exact .kt lk oc (SqT.ext e s)
  | flat h h1 h2 => exact .flat (h.same s) h1 h2
  | lst e hl h => exact .lst (s _ _ e) hl fun y hy => (h y hy).imp fun k hk => hk.same s
  | tup e hl h => exact .tup (s _ _ e) hl fun y hy => (h y hy).imp fun k hk => hk.same s
theorem par_ints {xs : List V} (h : parB xs = true) : xs.length ≤ 3 ∧ xs = (xs.map intOf).map V.int := by
  simp only [parB, Bool.and_eq_true, decide_eq_true_eq] at h
  exact ⟨h.1.1, (ints_back h.1.2).symm⟩
theorem c_ver (T : VerF K mg C) (FT : ErrF K mg "InvalidText" "value" "InvalidText.__init__" CT s_InvalidText___init__) (FP : ErrF K mg "InvalidParents" "value" "InvalidParents.__init__" CP s_InvalidParents___init__) (FN : ErrF K mg "InvalidName" "value" "InvalidName.__init__" CN s_InvalidName___init__) : ∃ f fd T0, Mk K C f ∧ Fun K "__init__" "Version.__init__" s_Version___init__ f fd ∧ FunD K "__init__" "Version.__init__" (defArgs s_Version___init__) (defBody s_Version___init__) (defScope s_Version___init__) [] [("parents", .ref T0), ("author", .str "anon")] f fd ∧
    (∃ o n, K.lookup T0 = some o ∧ o.cls = .type "tuple" ∧ o.data = .seq #[] n) ∧ FnOk P w K mg base (L2.CX P w) 5 f fd ["self", "lines", "parents", "author"] (spVer K C CT CP CN) := by
  have eInvalidText : ErrM P w K mg base "InvalidText" "value" CT := e_text FT
  have eInvalidParents : ErrM P w K mg base "InvalidParents" "value" CP := e_par FP
  have eInvalidName : ErrM P w K mg base "InvalidName" "value" CN := e_name FN
  have c_is_text : Cal P w K mg base CX0 3 "is_text" spText := c_is_text T.N.X
  have c__can_be_parents : Cal P w K mg base CX0 3 "_can_be_parents" (spPar K) := c__can_be_parents T.N
  have c_is_name : Cal P w K mg base CX0 1 "is_name" spName := c_is_name T.N
  obtain ⟨f, fd, T0, M, Fd, D0, t0⟩ := T.ini
  refine ⟨f, fd, T0, M, Fd, D0, t0, (funD_of Fd).ok sc_Version___init__ (fun vs H Q E h => ?_) (fun cdv A outer s H vs Q E hr h => ?_)⟩
  · obtain ⟨p, dx, x, bt, y, bp, np, v, kv, rfl, _⟩ := h
    rfl
  · obtain ⟨p, dx, x, bt, y, bp, np, v, kv, rfl, hp, hx, h⟩ := h
    have hr : Room 4 _ := hr
    refine ⟨_, (pss_cons (ps_if (pt_not (pt_truK (K := K) rfl (pe_c c_is_text hr (by decide) (by rfl) pass0 (pa_cons (pv 1) pa_nil)) (by intro _; rfl))) (pss_one (ps_rz eInvalidText rfl hr (by decide) (takes_of rfl rfl rfl rfl) (by rfl) (pa_cons (pv 1) pa_nil) mono1)) pss_nil)
      (pss_cons (ps_if (pt_not (pt_truK (K := K) rfl (pe_c c__can_be_parents hr (by decide) (by rfl) pass0 (pa_cons (pv 2) pa_nil)) (by intro _; rfl))) (pss_one (ps_rz eInvalidParents rfl hr (by decide) (takes_of rfl rfl rfl rfl) (by rfl) (pa_cons (pv 2) pa_nil) mono1)) pss_nil)
      (pss_cons (ps_if (pt_not (pt_truK (K := K) rfl (pe_c c_is_name hr (by decide) (by rfl) pass0 (pa_cons (pv 3) pa_nil)) (by intro _; rfl))) (pss_one (ps_rz eInvalidName rfl hr (by decide) (takes_of rfl rfl rfl rfl) (by rfl) (pa_cons (pv 3) pa_nil) mono1)) pss_nil)
      (pss_cons (ps_fld (pv 0) (pe_callTy (r := rTupX K) call_tupX (by rfl) T.n_tuple (by decide +kernel) (pa_cons (pv 1) pa_nil)) rfl)
      (pss_cons (ps_fld (pv 0) (pe_callTy (r := rTupX K) call_tupX (by rfl) T.n_tuple (by decide +kernel) (pa_cons (pe_callB (r := rSorted K) cr_sorted (by rfl) T.n_sorted (by decide +kernel) (pa_cons (pe_lc (own := [("parent", 4)]) (g := gName 4) (tt := tYes) rfl sc_Version___init__.nd (pi_or (pi_listK (K := K) rfl (pv 2)) (pi_tupK (K := K) rfl (pv 2))) (blkOk_by (N := N_Version___init__) (sc := defScope s_Version___init__) (by decide +kernel)) (fun _ _ _ _ _ => (pg_name (i := 4) sc_Version___init__.nd rfl (by first | exact Or.inl rfl | exact Or.inr rfl))) (fun _ _ _ _ _ => pts_nil) (fun _ _ _ _ _ => (pe_callTy call_intX (by rfl) T.n_int (by decide +kernel) (pa_cons (pv 4) pa_nil)))) pa_nil)) pa_nil)) rfl)
      (pss_one (ps_fld (pv 0) (pv 3) rfl))))))), ?_⟩
    walk_at "gr"
    refine ⟨x, bt, rfl, hx, fun H1 s1 => ?_⟩
    rcases h with ⟨rfl, q⟩ | ⟨rfl, hy, h⟩
    · walk_at "gr"
      refine i_rz ?_
      walk_at "gr"
      exact ⟨x, rfl, q.same s1⟩
    walk_at "gr"
    refine ⟨y, bp, np, rfl, hy.same s1, fun H2 s2 => ?_⟩
    have s12 := s1.trans s2
    rcases h with ⟨rfl, q⟩ | ⟨rfl, hv, h⟩
    · walk_at "gr"
      refine i_rz ?_
      walk_at "gr"
      exact ⟨y, rfl, q.same s12⟩
    walk_at "gr"
    refine ⟨v, kv, rfl, hv.same s12, fun H3 s3 => ?_⟩
    have s13 := s12.trans s3
    rcases h with ⟨hn, q⟩ | ⟨hn, q⟩
    · rw [hn]
      walk_at "gr"
      refine i_rz ?_
      walk_at "gr"
      exact ⟨v, rfl, q.same s13⟩
    rw [hn]
    walk_at "gr"
    obtain ⟨ls, hls⟩ := text_lst hx rfl
    refine p_tupA (hls.same s13) fun L H4 s4 eL => ?_
    have s14 := s13.trans s4
    obtain ⟨z, rfl⟩ : ∃ z, v = .str z := by
      cases v <;> first | exact ⟨_, rfl⟩ | (simp [nameB] at hn)
    walk_at "gr"
    refine ⟨p, C, dx, [], rfl, s14 _ _ hp, T.cl, T.nL, by decide, ?_⟩
    walk_at "gr"
    have pn : H4 p = some (.ins C dx []) := s14 _ _ hp
    generalize hG : upd H4 p (HO.ins C dx (putF (Str.ofString "_lines") (V.ref L) [])) = G
    have eGp : G p = some (.ins C dx (putF "_lines" (.ref L) [])) := by rw [← hG]; exact upd_same
    have stay : ∀ b o, b ≠ p → H b = some o → G b = some o := fun b o nb e => by
      rw [← hG, upd_ne nb]
      exact s14 _ _ e
    have eLG : G L = some (.tup ls) := by
      rw [← hG, upd_ne (fun e => by rw [e, pn] at eL; cases eL)]
      exact eL
    rcases par_lst hy rfl with ⟨ys, pb, enp, hys⟩ | ⟨enp, a, rfl, hk⟩
    rotate_left
    · have gk : SqT K G a [] := by
        rcases hk with hk | hk
        · rcases hk with e | ⟨o, e⟩
          · exact .inl (.inl (stay _ _ (fun q => by rw [q, hp] at e; cases e) e))
          · exact .inl (.inr ⟨o, stay _ _ (fun q => by rw [q, hp] at e; cases e) e⟩)
        · exact .inr hk
      refine Or.inr ?_
      walk_at "gr"
      refine p_itt gk ?_
      refine lcw_fm (xs := []) (j := 4) wx_tup (fun _ => true) (fun x => x) (fun H' s => SqT.ext gk s) (by decide) (fun _ => rfl) (fun x _ H' R _ k => k H' (Same.refl H')) (fun x hx _ H' R s' k => by cases hx) (fun d H5 n5 s5 h5 => ?_)
      walk_at "gr"
      refine ⟨d, [], rfl, SqL.of h5, by decide, fun ms r pm sm nr => ?_⟩
      walk_at "gr"
      rename_i M H7 nM s7 eM
      have up : Same H5 (upd H5 r (.lst (ms.map V.int))) := same_upd nr
      have gp := s7 _ _ (up _ _ (s5 _ _ eGp))
      have gL := s7 _ _ (up _ _ (s5 _ _ eLG))
      refine ⟨p, C, dx, _, rfl, gp, T.cl, T.nP, (by show 1 < 1000; decide), ?_⟩
      walk_at "gr"
      refine ⟨p, C, dx, _, rfl, upd_same, T.cl, T.nA, (by show 2 < 1000; decide), ?_⟩
      walk_at "gr"
      have Lp : L ≠ p := fun e => by
        rw [e, gp] at gL
        cases gL
      have Mp : M ≠ p := fun e => by
        rw [e, gp] at eM
        cases eM
      refine q _ ls z ms hls rfl (by rw [enp]; exact pm) sm (fun b o nb e => ?_) ⟨dx, L, M, upd_same, ?_, ?_⟩
      · rw [upd_ne nb, upd_ne nb]
        exact s7 _ _ (up _ _ (s5 _ _ (stay b o nb e)))
      · rw [upd_ne Lp, upd_ne Lp]
        exact gL
      · rw [upd_ne Mp, upd_ne Mp]
        exact eM
    obtain ⟨l3, ei⟩ := par_ints pb
    obtain ⟨ns, ens⟩ : ∃ ns, ns = ys.map intOf := ⟨_, rfl⟩
    rcases hys with ⟨a, rfl, ha⟩ | ⟨a, rfl, ha⟩
    all_goals have na : a ≠ p := fun e => by rw [e, hp] at ha; cases ha
    · refine Or.inl ?_
      have ga := stay _ _ na ha
      walk_at "gr"
      refine lcw_fm (xs := ys) (j := 4) wx_list (fun _ => true) (fun x => x) (fun H' s => SqL.of (s _ _ (stay _ _ na ha))) (by omega) (fun _ => rfl) (fun x _ H' R _ k => k H' (Same.refl H')) (fun x hx _ H' R s' k => ?_) (fun d H5 n5 s5 h5 => ?_)
      · obtain ⟨i, rfl⟩ : ∃ i, x = .int i := by
          rw [ei] at hx
          obtain ⟨i, _, e⟩ := List.mem_map.mp hx
          exact ⟨i, e.symm⟩
        walk_at "gr"
        exact k H' (Same.refl H')
      · rw [show (ys.filter fun _ => true).map (fun x => x) = ns.map V.int by rw [List.filter_eq_self.mpr (fun _ _ => rfl), List.map_id', ens]; exact ei] at h5
        walk_at "gr"
        refine ⟨d, ns, rfl, SqL.of h5, by rw [ens, List.length_map]; omega, fun ms r pm sm nr => ?_⟩
        walk_at "gr"
        rename_i M H7 nM s7 eM
        have up : Same H5 (upd H5 r (.lst (ms.map V.int))) := same_upd nr
        have gp := s7 _ _ (up _ _ (s5 _ _ eGp))
        have gL := s7 _ _ (up _ _ (s5 _ _ eLG))
        refine ⟨p, C, dx, _, rfl, gp, T.cl, T.nP, (by show 1 < 1000; decide), ?_⟩
        walk_at "gr"
        refine ⟨p, C, dx, _, rfl, upd_same, T.cl, T.nA, (by show 2 < 1000; decide), ?_⟩
        walk_at "gr"
        have Lp : L ≠ p := fun e => by
          rw [e, gp] at gL
          cases gL
        have Mp : M ≠ p := fun e => by
          rw [e, gp] at eM
          cases eM
        refine q _ ls z ms hls rfl (by rw [enp, ← ens]; exact pm) sm (fun b o nb e => ?_) ⟨dx, L, M, upd_same, ?_, ?_⟩
        · rw [upd_ne nb, upd_ne nb]
          exact s7 _ _ (up _ _ (s5 _ _ (stay b o nb e)))
        · rw [upd_ne Lp, upd_ne Lp]
          exact gL
        · rw [upd_ne Mp, upd_ne Mp]
          exact eM
    · refine Or.inr ?_
      have ga := stay _ _ na ha
      walk_at "gr"
      refine lcw_fm (xs := ys) (j := 4) wx_tup (fun _ => true) (fun x => x) (fun H' s => SqT.of (s _ _ (stay _ _ na ha))) (by omega) (fun _ => rfl) (fun x _ H' R _ k => k H' (Same.refl H')) (fun x hx _ H' R s' k => ?_) (fun d H5 n5 s5 h5 => ?_)
      · obtain ⟨i, rfl⟩ : ∃ i, x = .int i := by
          rw [ei] at hx
          obtain ⟨i, _, e⟩ := List.mem_map.mp hx
          exact ⟨i, e.symm⟩
        walk_at "gr"
        exact k H' (Same.refl H')
      · rw [show (ys.filter fun _ => true).map (fun x => x) = ns.map V.int by rw [List.filter_eq_self.mpr (fun _ _ => rfl), List.map_id', ens]; exact ei] at h5
        walk_at "gr"
        refine ⟨d, ns, rfl, SqL.of h5, by rw [ens, List.length_map]; omega, fun ms r pm sm nr => ?_⟩
        walk_at "gr"
        rename_i M H7 nM s7 eM
        have up : Same H5 (upd H5 r (.lst (ms.map V.int))) := same_upd nr
        have gp := s7 _ _ (up _ _ (s5 _ _ eGp))
        have gL := s7 _ _ (up _ _ (s5 _ _ eLG))
        refine ⟨p, C, dx, _, rfl, gp, T.cl, T.nP, (by show 1 < 1000; decide), ?_⟩
        walk_at "gr"
        refine ⟨p, C, dx, _, rfl, upd_same, T.cl, T.nA, (by show 2 < 1000; decide), ?_⟩
        walk_at "gr"
        have Lp : L ≠ p := fun e => by
          rw [e, gp] at gL
          cases gL
        have Mp : M ≠ p := fun e => by
          rw [e, gp] at eM
          cases eM
        refine q _ ls z ms hls rfl (by rw [enp, ← ens]; exact pm) sm (fun b o nb e => ?_) ⟨dx, L, M, upd_same, ?_, ?_⟩
        · rw [upd_ne nb, upd_ne nb]
          exact s7 _ _ (up _ _ (s5 _ _ (stay b o nb e)))
        · rw [upd_ne Lp, upd_ne Lp]
          exact gL
        · rw [upd_ne Mp, upd_ne Mp]
          exact eM
end
end Pk

namespace Pk
open PySem PySem.Spec PyProof.Rows L2
local macro_rules | `(tactic| walk_at "sz") => `(tactic| first | assumption | decide +kernel | exact Nat.le_trans (Nat.le_of_ble_eq_true rfl) (show 100000 ≤ sizeLine by decide) | exact Nat.le_trans (by omega) (show 100000 ≤ sizeLine by decide) | (show _ ≤ sizeLine; exact Nat.le_trans (by (simp only [List.length_append, List.length_map, List.length_cons, List.length_nil]; omega)) (show 100000 ≤ sizeLine by decide)))
local macro_rules | `(tactic| walk_at "mul") => `(tactic| first | exact Or.inl (Or.inl ⟨by omega, by omega⟩) | exact Or.inl (Or.inr ⟨by omega, by omega⟩))
local macro_rules | `(tactic| walk_at "ci") => `(tactic| first | assumption | exact (by decide : (0 : Int) < _) | (show (0 : Int) < _; omega) | exact ⟨by assumption, by assumption⟩ | exact ⟨by decide, by decide⟩ | exact ⟨by decide, by decide, by omega⟩)
local macro_rules | `(tactic| walk_at "lk") => `(tactic| first | assumption | exact upd_same | ((refine Eq.trans (upd_ne (by first | assumption | exact Ne.symm (by assumption))) ?_); walk_at "lk") | exact Same.get (by assumption) (by walk_at "lk") | exact Keep.get (by assumption) (by walk_at "lk") (by assumption) (by assumption))
local macro_rules | `(tactic| walk_at "sq") => `(tactic| first | assumption | exact SqL.of (by walk_at "lk") | exact Same.seq (by assumption) (by walk_at "sq"))
local macro_rules | `(tactic| walk_at "stt") => `(tactic| exact SqT.of (by walk_at "lk"))
local macro_rules | `(tactic| walk_at "kd") => `(tactic| first | assumption | exact Kd.str _ (by first | assumption | omega | decide) | exact Kd.bl _ | exact Kd.int _ | exact Kd.non | exact Kd.lst (by walk_at "lk") | exact Kd.tup (by walk_at "lk") | exact Kd.dct (by walk_at "lk") | exact Kd.same (by assumption) (by walk_at "kd"))
local macro_rules | `(tactic| walk_at "sm") => `(tactic| first | assumption | exact Same.refl _ | (refine Same.trans ?_ (by assumption); walk_at "sm"))
local macro_rules | `(tactic| walk_at "st") => `(tactic| first
  | with_reducible refine i_seq ?_ | with_reducible refine i_asg ?_ | with_reducible refine i_ret ?_ | with_reducible refine i_op ?_
  | ((with_reducible show tVar _ _ _ _); refine i_var rfl ?_)
  | with_reducible refine i_c ?_ | with_reducible refine i_cb ?_ | with_reducible refine i_call ?_ | with_reducible refine i_cons ?_ | with_reducible refine i_nil ?_
  | with_reducible refine i_name ?_ | with_reducible refine i_sub ?_ | with_reducible refine i_drop ?_ | with_reducible refine i_ifs ?_ | with_reducible refine i_ife ?_
  | with_reducible refine i_test ?_ | with_reducible refine i_tru ?_ | with_reducible refine i_and ?_ | with_reducible refine i_or ?_ | with_reducible refine i_not ?_
  | with_reducible refine i_andV ?_ | with_reducible refine i_orV ?_ | with_reducible refine i_notV ?_ | with_reducible refine i_un ?_
  | with_reducible refine i_bl ?_ | with_reducible refine i_trB ?_ | with_reducible refine i_next ?_
  | with_reducible refine iteF ?_ | with_reducible refine iteT ?_
  | with_reducible refine i_lstF ?_ | with_reducible refine i_tupF ?_
  | with_reducible refine p_addI ?_ | with_reducible refine p_I0 ?_ | with_reducible refine p_U ?_
  | with_reducible refine p_ltI ?_ | with_reducible refine p_leI ?_ | with_reducible refine p_gtI ?_ | with_reducible refine p_geI ?_
  | with_reducible refine p_ltS ?_ | with_reducible refine p_leS ?_ | with_reducible refine p_gtS ?_
  | with_reducible refine p_eqI ?_ | with_reducible refine p_neI ?_ | with_reducible refine p_int ?_
  | ((with_reducible show rMuXX (V.int _) (V.int _) _ _); refine p_muI (by walk_at "mul") ?_)
  | ((with_reducible show rI _ _ (V.int _) (V.int _) _ _); refine p_I (by walk_at "ci") ?_)
  | ((with_reducible show rIx _ (V.ref _) (V.int _) _ _); (first | refine p_ixL (by walk_at "sq") (by first | exact rfl | assumption) ?_ | refine p_ixT (SqT.of (by walk_at "lk")) (by first | exact rfl | assumption) ?_))
  | ((with_reducible show rSetL (V.ref _) (V.int _) _ _ _); refine p_setL (by walk_at "lk") (by first | exact rfl | assumption) ?_)
  | ((with_reducible show rLenX _ [V.ref _] _ _); (first | refine p_lenL (by walk_at "sq") ?_ | refine p_lenT (SqT.of (by walk_at "lk")) ?_))
  | ((with_reducible show rLenX _ [V.str _] _ _); refine p_lenS (by walk_at "sz") ?_)
  | with_reducible refine i_lc ?_ | with_reducible refine i_for ?_ | with_reducible refine i_itl ?_ | with_reducible refine i_itt ?_ | with_reducible refine i_itr ?_ | with_reducible refine i_its ?_
  | ((with_reducible show ∃ _, V.ref _ = V.ref _ ∧ (∃ _, SqL _ _ _ _) ∧ _); refine p_itl (by walk_at "sq") ?_)
  | ((with_reducible show ∃ _, V.ref _ = V.ref _ ∧ (∃ _, SqT _ _ _ _) ∧ _); refine p_itt (by walk_at "stt") ?_) | with_reducible refine p_its ?_
  | ((with_reducible show ∃ _, [V.int _] = [V.int _] ∧ _); refine p_itr (by omega) (by omega) ?_)
  | with_reducible refine i_sl ?_ | with_reducible refine i_np ?_ | with_reducible refine i_pt ?_ | with_reducible refine i_in ?_
  | ((with_reducible show rSlXX _ (V.ref _) _ _ _ _); refine p_slL (by walk_at "sq") ?_; intro _ _ _ _ _)
  | ((with_reducible show rSlXX _ (V.str _) _ _ _ _); refine p_slS (by walk_at "sz") ?_)
  | ((with_reducible show rIsi _ [_, V.ty "str"] _ _); refine p_isStr (by walk_at "kd") ?_)
  | ((with_reducible show rIsi _ [_, V.ty "int"] _ _); refine p_isInt (by walk_at "kd") ?_)
  | ((with_reducible show rIsi _ [_, V.ty "bool"] _ _); refine p_isBool (by walk_at "kd") ?_)
  | ((with_reducible show rIsiT _ [_, V.ref _] _ _); refine p_isLT (by walk_at "lk") (by walk_at "kd") ?_)
  | with_reducible refine i_chain ?_ | with_reducible refine i_m1 ?_ | with_reducible refine i_m0 ?_ | with_reducible refine i_str ?_
  | ((with_reducible show LstK _ _ _); refine p_lstK (by walk_at "sz") ?_; intro _ _ _ _ _)
  | ((with_reducible show TupK _ _ _); refine p_tupK (by walk_at "sz") ?_; intro _ _ _ _ _)
  | ((with_reducible show (if _ = true then _ else _)); (first | refine ifT' (by first | assumption | exact rfl) ?_ | refine ifF' (by first | assumption | exact rfl) ?_))
  | ((with_reducible show rEqX _ (V.bl _) (V.bl _) _ _); refine p_eqS rfl ?_) | ((with_reducible show rNeX _ (V.bl _) (V.bl _) _ _); refine p_neS rfl ?_)
  | ((with_reducible show rEqX _ (V.ref _) (V.ref _) _ _); refine p_eqNil (by walk_at "lk") (by walk_at "lk") ?_) | ((with_reducible show rNeX _ (V.ref _) (V.ref _) _ _); refine p_neNil (by walk_at "lk") (by walk_at "lk") ?_)
  | ((with_reducible show rAddX _ (V.str _) (V.str _) _ _); refine p_addS (by walk_at "sz") ?_)
  | ((with_reducible show rMuXX (V.str _) (V.int _) _ _); refine p_muS ⟨by decide +kernel, by decide +kernel, by decide +kernel⟩ ?_)
  | ((with_reducible show tDNewK _ _ _); refine i_dnew ?_; intro _ _ _ _ _)
  | ((with_reducible show rTupX _ [V.ref _] _ _); refine p_tupL (by walk_at "sq") ?_; intro _ _ _ _ _)
  | ((with_reducible show rAddX _ (V.ref _) (V.ref _) _ _); refine p_addL (by walk_at "lk") (by walk_at "lk") (by walk_at "sz") ?_; intro _ _ _ _ _)
  | with_reducible refine p_notB ?_ | with_reducible refine p_isB ?_)
local macro_rules | `(tactic| walk_at "go") => `(tactic| (walk_at "st"; (repeat walk_at "st")))

section
variable {K : PySem.W.Frag} {mg : Str → Option Value} {C : Addr} {σ : L2.St} {H : Hp} {Q : VK} {ta : TE} {sp : Sp} {f : Str}
def PrK (C : Addr) (sp : Sp) (Q : VK) : V → Hp → Prop := fun x H1 => ∃ a dx fs, x = .ref a ∧ H1 a = some (.ins C dx fs) ∧ sp [.ref a] H1 Q E0
def FlK (K : PySem.W.Frag) (f : Str) (Q : VK) : V → Hp → Prop := fun x H1 => ∃ a C dx fs v, x = .ref a ∧ H1 a = some (.ins C dx fs) ∧ Cls K C ∧ NoAttr K C f ∧ fs.lookup f = some v ∧ Q v H1
theorem i_pr (h : ta σ H (PrK C sp Q)) : tProp C sp [] E0 ta σ H Q := h
theorem i_fl (h : ta σ H (FlK K f Q)) : tFld K ta f σ H Q := h
theorem vf_l (L M : Addr) (z : Str) : (vf L M z).lookup ("_lines" : Str) = some (.ref L) := by
  unfold vf
  rw [lookup_putF, if_neg (by decide +kernel), lookup_putF, if_neg (by decide +kernel), lookup_putF, if_pos rfl]
theorem vf_p (L M : Addr) (z : Str) : (vf L M z).lookup ("_parents" : Str) = some (.ref M) := by
  unfold vf
  rw [lookup_putF, if_neg (by decide +kernel), lookup_putF, if_pos rfl]
theorem vf_a (L M : Addr) (z : Str) : (vf L M z).lookup ("_author" : Str) = some (.str z) := by
  unfold vf
  rw [lookup_putF, if_pos rfl]
end
local macro_rules | `(tactic| walk_at "rx") => `(tactic| first
  | with_reducible refine i_par ?_ | ((with_reducible show ∃ _, [V.int _] = [V.int _] ∧ _); refine ⟨_, rfl, ?_⟩)
  | with_reducible refine i_sfl ?_ | with_reducible refine i_fl ?_ | with_reducible refine i_pr ?_)
local macro_rules | `(tactic| walk_at "gr") => `(tactic| repeat (first | walk_at "st" | walk_at "rx"))
abbrev s_Version_lines : Stmt := inClass (top 33) 1
abbrev N_Version_lines : List Str := ["self"]
theorem sc_Version_lines : FnScope ["self"] ["self"] (defScope s_Version_lines) := ⟨rfl, rfl, rfl, by decide +kernel, rfl, by decide +kernel, by decide +kernel⟩
abbrev s_Version_parents : Stmt := inClass (top 33) 2
abbrev N_Version_parents : List Str := ["self"]
theorem sc_Version_parents : FnScope ["self"] ["self"] (defScope s_Version_parents) := ⟨rfl, rfl, rfl, by decide +kernel, rfl, by decide +kernel, by decide +kernel⟩
abbrev s_Version_author : Stmt := inClass (top 33) 3
abbrev N_Version_author : List Str := ["self"]
theorem sc_Version_author : FnScope ["self"] ["self"] (defScope s_Version_author) := ⟨rfl, rfl, rfl, by decide +kernel, rfl, by decide +kernel, by decide +kernel⟩
abbrev s_Version___len__ : Stmt := inClass (top 33) 4
abbrev N_Version___len__ : List Str := ["self"]
theorem sc_Version___len__ : FnScope ["self"] ["self"] (defScope s_Version___len__) := ⟨rfl, rfl, rfl, by decide +kernel, rfl, by decide +kernel, by decide +kernel⟩
abbrev s_Version___getitem__ : Stmt := inClass (top 33) 5
abbrev N_Version___getitem__ : List Str := ["self", "at"]
theorem sc_Version___getitem__ : FnScope ["self", "at"] ["self", "at"] (defScope s_Version___getitem__) := ⟨rfl, rfl, rfl, by decide +kernel, rfl, by decide +kernel, by decide +kernel⟩
abbrev s_Version___contains__ : Stmt := inClass (top 33) 7
abbrev N_Version___contains__ : List Str := ["self", "x"]
theorem sc_Version___contains__ : FnScope ["self", "x"] ["self", "x"] (defScope s_Version___contains__) := ⟨rfl, rfl, rfl, by decide +kernel, rfl, by decide +kernel, by decide +kernel⟩
abbrev s_Version___eq__ : Stmt := inClass (top 33) 8
abbrev N_Version___eq__ : List Str := ["self", "other"]
theorem sc_Version___eq__ : FnScope ["self", "other"] ["self", "other"] (defScope s_Version___eq__) := ⟨rfl, rfl, rfl, by decide +kernel, rfl, by decide +kernel, by decide +kernel⟩
structure VerM (K : PySem.W.Frag) (mg : Str → Option Value) (C : Addr) : Prop where
  V : VerF K mg C
  n_len : mg "len" = none
  n_isinstance : mg "isinstance" = none
  n_str : mg "str" = none
  v_Version : ∃ u, mg "Version" = some u ∧ RelV (.ref C) u
  pL : PropAt K C "lines" "Version.lines" s_Version_lines
  pP : PropAt K C "parents" "Version.parents" s_Version_parents
  pA : PropAt K C "author" "Version.author" s_Version_author
  mLen : MethAt K C "__len__" "Version.__len__" s_Version___len__
  mGet : ∃ f fd, Fun K "__getitem__" "Version.__getitem__" s_Version___getitem__ f fd ∧ PySem.W.findIn K (.ref C) "__getitem__" = some (some (.ref f)) ∧ PySem.W.isFn K (.ref f) = true ∧ PySem.W.fnIn K f = true
  mIn : MethAt K C "__contains__" "Version.__contains__" s_Version___contains__
  mEq : MethAt K C "__eq__" "Version.__eq__" s_Version___eq__
theorem VerM.cl {K : PySem.W.Frag} {mg : Str → Option Value} {C : Addr} (T : VerM K mg C) : Cls K C := T.V.I.cl
section
variable {P : Program} {w : World} {K : PySem.W.Frag} {mg : Str → Option Value} {base : Heap} {C CI : Addr}
def spLines (C : Addr) : Sp := fun vs H Q _ => ∃ a ls ps z, vs = [.ref a] ∧ VAt C H a ls ps z ∧ ∀ L, H L = some (.tup ls) → Q (.ref L) H
def spPars (C : Addr) : Sp := fun vs H Q _ => ∃ a ls ps z, vs = [.ref a] ∧ VAt C H a ls ps z ∧ ∀ M, H M = some (.tup (ps.map V.int)) → Q (.ref M) H
def spAuth (C : Addr) : Sp := fun vs H Q _ => ∃ a ls ps z, vs = [.ref a] ∧ VAt C H a ls ps z ∧ Q (.str z) H
def spVLen (C : Addr) : Sp := fun vs H Q _ => ∃ a ls ps z, vs = [.ref a] ∧ VAt C H a ls ps z ∧ Q (.int (ls.length : Nat)) H
theorem p_fl {H : Hp} {Q : VK} {a dx L M : Addr} {z : Str} {x : Str} {v : V} (T : VerM K mg C) (e : H a = some (.ins C dx (vf L M z))) (n : NoAttr K C x) (l : (vf L M z).lookup x = some v) (q : Q v H) : FlK K x Q (.ref a) H := ⟨a, C, dx, _, v, rfl, e, T.cl, n, l, q⟩
theorem c_lines (T : VerM K mg C) : PropM P w K mg base 1 C "lines" (spLines C) := by
  refine prop0 T.pL sc_Version_lines (fun _ _ _ _ _ _ us hl => match us, hl with | [_], _ => rfl) (fun vs H Q E h => ?_) (fun f cdv A outer s H vs Q E hr h => ?_)
  · obtain ⟨a, ls, ps, z, rfl, _⟩ := h
    rfl
  · obtain ⟨a, ls, ps, z, rfl, ⟨dx, L, M, e1, e2, e3⟩, q⟩ := h
    refine ⟨_, (pss_one (ps_ret (pe_fld (pv 0) rfl))), ?_⟩
    walk_at "gr"
    exact p_fl T e1 T.V.nL (vf_l _ _ _) (q L e2)
theorem c_pars (T : VerM K mg C) : PropM P w K mg base 1 C "parents" (spPars C) := by
  refine prop0 T.pP sc_Version_parents (fun _ _ _ _ _ _ us hl => match us, hl with | [_], _ => rfl) (fun vs H Q E h => ?_) (fun f cdv A outer s H vs Q E hr h => ?_)
  · obtain ⟨a, ls, ps, z, rfl, _⟩ := h
    rfl
  · obtain ⟨a, ls, ps, z, rfl, ⟨dx, L, M, e1, e2, e3⟩, q⟩ := h
    refine ⟨_, (pss_one (ps_ret (pe_fld (pv 0) rfl))), ?_⟩
    walk_at "gr"
    exact p_fl T e1 T.V.nP (vf_p _ _ _) (q M e3)
theorem c_auth (T : VerM K mg C) : PropM P w K mg base 1 C "author" (spAuth C) := by
  refine prop0 T.pA sc_Version_author (fun _ _ _ _ _ _ us hl => match us, hl with | [_], _ => rfl) (fun vs H Q E h => ?_) (fun f cdv A outer s H vs Q E hr h => ?_)
  · obtain ⟨a, ls, ps, z, rfl, _⟩ := h
    rfl
  · obtain ⟨a, ls, ps, z, rfl, ⟨dx, L, M, e1, e2, e3⟩, q⟩ := h
    refine ⟨_, (pss_one (ps_ret (pe_fld (pv 0) rfl))), ?_⟩
    walk_at "gr"
    exact p_fl T e1 T.V.nA (vf_a _ _ _) q
theorem c_vlen (T : VerM K mg C) : OwnM P w K mg base 1 C "__len__" (spVLen C) := by
  refine own0 T.mLen sc_Version___len__ (fun _ _ _ _ _ _ us hl => match us, hl with | [_], _ => rfl) (fun vs H Q E h => ?_) (fun f cdv A outer s H vs Q E hr h => ?_)
  · obtain ⟨a, ls, ps, z, rfl, _⟩ := h
    rfl
  · obtain ⟨a, ls, ps, z, rfl, ⟨dx, L, M, e1, e2, e3⟩, q⟩ := h
    refine ⟨_, (pss_one (ps_ret (pe_callB (r := rLenX K) call_lenX (by rfl) T.n_len (by decide +kernel) (pa_cons (pe_fld (pv 0) rfl) pa_nil)))), ?_⟩
    walk_at "gr"
    refine p_fl T e1 T.V.nL (vf_l _ _ _) ?_
    walk_at "gr"
    exact q
def hasV (ls : List V) : V → Bool
  | .str s => inV (.str s) ls
  | _ => false
def spHas (C : Addr) : Sp := fun vs H Q _ => ∃ a ls ps z y ky, vs = [.ref a, y] ∧ VAt C H a ls ps z ∧ ls.all flatV = true ∧ Kd H y ky ∧ Q (.bl (hasV ls y)) H
theorem c_has (T : VerM K mg C) : OwnM P w K mg base 1 C "__contains__" (spHas C) := by
  refine own0 T.mIn sc_Version___contains__ (fun _ _ _ _ _ _ us hl => match us, hl with | [_, _], _ => rfl) (fun vs H Q E h => ?_) (fun f cdv A outer s H vs Q E hr h => ?_)
  · obtain ⟨a, ls, ps, z, y, ky, rfl, _⟩ := h
    rfl
  · obtain ⟨a, ls, ps, z, y, ky, rfl, ⟨dx, L, M, e1, e2, e3⟩, fl, hy, q⟩ := h
    refine ⟨_, (pss_one (ps_ret (pe_and (pe_callB (r := rIsi K) call_isi (by rfl) T.n_isinstance (by decide +kernel) (pa_cons (pv 1) (pa_cons (pe_bltn (v := .ty "str") (by rfl) T.n_str (by decide +kernel) rfl) pa_nil))) (pe_one (pe_cmpR (r := rIn K false) op_in_seq (pv 1) (pe_fld (pv 0) rfl) (by rfl)))))), ?_⟩
    cases hy with
    | str s hs =>
      walk_at "gr"
      refine p_fl T e1 T.V.nL (vf_l _ _ _) ?_
      refine ⟨L, ls, rfl, .inr (SqT.of e2), rfl, fl, ?_⟩
      exact q
    | _ => walk_at "gr"; exact q
def spGet (C CI : Addr) : Sp := fun vs H Q E => ∃ a ls ps z y ky, vs = [.ref a, y] ∧ VAt C H a ls ps z ∧ Kd H y ky ∧ ((indexB (ls.length : Nat) y = false ∧ RaisesV CI y H E) ∨ (∃ i v, y = .int i ∧ indexB (ls.length : Nat) y = true ∧ atI ls i = some v ∧ Q v H))
theorem c_get (T : VerM K mg C) (F : ErrF K mg "InvalidNumber" "value" "InvalidNumber.__init__" CI s_InvalidNumber___init__) : GetO P w K mg base (L2.CX P w) 4 C (spGet C CI) := by
  have eInvalidNumber : ErrM P w K mg base "InvalidNumber" "value" CI := e_num F
  have c_is_index : Cal P w K mg base CX0 3 "is_index" spIndex := c_is_index T.V.N
  obtain ⟨f, fd, Fd, g1, g2, g3⟩ := T.mGet
  refine ⟨f, fd, ["self", "at"], (funD_of Fd).ok sc_Version___getitem__ (fun vs H Q E h => ?_) (fun cdv A outer s H vs Q E hr h => ?_), g1, g2, g3, Fd.binds (fun _ _ _ _ _ _ us hl => match us, hl with | [_, _], _ => rfl)⟩
  · obtain ⟨a, ls, ps, z, y, ky, rfl, _⟩ := h
    rfl
  · obtain ⟨a, ls, ps, z, y, ky, rfl, ⟨dx, L, M, e1, e2, e3⟩, hy, h⟩ := h
    have hr : Room 3 _ := hr
    refine ⟨_, (pss_cons (ps_if (pt_not (pt_truK (K := K) rfl (pe_c c_is_index hr (by decide) (by rfl) pass0 (pa_cons (pv 1) (pa_cons (pe_callB (r := rLenX K) call_lenX (by rfl) T.n_len (by decide +kernel) (pa_cons (pe_fld (pv 0) rfl) pa_nil)) pa_nil))) (by intro _; rfl))) (pss_one (ps_rz eInvalidNumber rfl hr (by decide) (takes_of rfl rfl rfl rfl) (by rfl) (pa_cons (pv 1) pa_nil) mono1)) pss_nil)
      (pss_one (ps_ret (pe_ix (r := rIx K) ix_seq (pe_fld (pv 0) rfl) (pv 1) (fun _ _ => rfl))))), ?_⟩
    walk_at "gr"
    refine p_fl T e1 T.V.nL (vf_l _ _ _) ?_
    walk_at "gr"
    refine ⟨y, ky, _, rfl, hy, ?_⟩
    rcases h with ⟨hb, q⟩ | ⟨i, v, rfl, hb, ha, q⟩
    · rw [hb]
      walk_at "gr"
      refine i_rz ?_
      walk_at "gr"
      exact ⟨y, rfl, q⟩
    · rw [hb]
      walk_at "gr"
      refine p_fl T e1 T.V.nL (vf_l _ _ _) ?_
      walk_at "gr"
      exact q
end
end Pk

namespace Pk
open PySem PySem.Spec PyProof.Rows L2
local macro_rules | `(tactic| walk_at "sz") => `(tactic| first | assumption | decide +kernel | exact Nat.le_trans (Nat.le_of_ble_eq_true rfl) (show 100000 ≤ sizeLine by decide) | exact Nat.le_trans (by omega) (show 100000 ≤ sizeLine by decide) | (show _ ≤ sizeLine; exact Nat.le_trans (by (simp only [List.length_append, List.length_map, List.length_cons, List.length_nil]; omega)) (show 100000 ≤ sizeLine by decide)))
local macro_rules | `(tactic| walk_at "mul") => `(tactic| first | exact Or.inl (Or.inl ⟨by omega, by omega⟩) | exact Or.inl (Or.inr ⟨by omega, by omega⟩))
local macro_rules | `(tactic| walk_at "ci") => `(tactic| first | assumption | exact (by decide : (0 : Int) < _) | (show (0 : Int) < _; omega) | exact ⟨by assumption, by assumption⟩ | exact ⟨by decide, by decide⟩ | exact ⟨by decide, by decide, by omega⟩)
local macro_rules | `(tactic| walk_at "lk") => `(tactic| first | assumption | exact upd_same | ((refine Eq.trans (upd_ne (by first | assumption | exact Ne.symm (by assumption))) ?_); walk_at "lk") | exact Same.get (by assumption) (by walk_at "lk") | exact Keep.get (by assumption) (by walk_at "lk") (by assumption) (by assumption))
local macro_rules | `(tactic| walk_at "sq") => `(tactic| first | assumption | exact SqL.of (by walk_at "lk") | exact Same.seq (by assumption) (by walk_at "sq"))
local macro_rules | `(tactic| walk_at "stt") => `(tactic| exact SqT.of (by walk_at "lk"))
local macro_rules | `(tactic| walk_at "kd") => `(tactic| first | assumption | exact Kd.str _ (by first | assumption | omega | decide) | exact Kd.bl _ | exact Kd.int _ | exact Kd.non | exact Kd.lst (by walk_at "lk") | exact Kd.tup (by walk_at "lk") | exact Kd.dct (by walk_at "lk") | exact Kd.same (by assumption) (by walk_at "kd"))
local macro_rules | `(tactic| walk_at "sm") => `(tactic| first | assumption | exact Same.refl _ | (refine Same.trans ?_ (by assumption); walk_at "sm"))
local macro_rules | `(tactic| walk_at "st") => `(tactic| first
  | with_reducible refine i_seq ?_ | with_reducible refine i_asg ?_ | with_reducible refine i_ret ?_ | with_reducible refine i_op ?_
  | ((with_reducible show tVar _ _ _ _); refine i_var rfl ?_)
  | with_reducible refine i_c ?_ | with_reducible refine i_cb ?_ | with_reducible refine i_call ?_ | with_reducible refine i_cons ?_ | with_reducible refine i_nil ?_
  | with_reducible refine i_name ?_ | with_reducible refine i_sub ?_ | with_reducible refine i_drop ?_ | with_reducible refine i_ifs ?_ | with_reducible refine i_ife ?_
  | with_reducible refine i_test ?_ | with_reducible refine i_tru ?_ | with_reducible refine i_and ?_ | with_reducible refine i_or ?_ | with_reducible refine i_not ?_
  | with_reducible refine i_andV ?_ | with_reducible refine i_orV ?_ | with_reducible refine i_notV ?_ | with_reducible refine i_un ?_
  | with_reducible refine i_bl ?_ | with_reducible refine i_trB ?_ | with_reducible refine i_next ?_
  | with_reducible refine iteF ?_ | with_reducible refine iteT ?_
  | with_reducible refine i_lstF ?_ | with_reducible refine i_tupF ?_
  | with_reducible refine p_addI ?_ | with_reducible refine p_I0 ?_ | with_reducible refine p_U ?_
  | with_reducible refine p_ltI ?_ | with_reducible refine p_leI ?_ | with_reducible refine p_gtI ?_ | with_reducible refine p_geI ?_
  | with_reducible refine p_ltS ?_ | with_reducible refine p_leS ?_ | with_reducible refine p_gtS ?_
  | with_reducible refine p_eqI ?_ | with_reducible refine p_neI ?_ | with_reducible refine p_int ?_
  | ((with_reducible show rMuXX (V.int _) (V.int _) _ _); refine p_muI (by walk_at "mul") ?_)
  | ((with_reducible show rI _ _ (V.int _) (V.int _) _ _); refine p_I (by walk_at "ci") ?_)
  | ((with_reducible show rIx _ (V.ref _) (V.int _) _ _); (first | refine p_ixL (by walk_at "sq") (by first | exact rfl | assumption) ?_ | refine p_ixT (SqT.of (by walk_at "lk")) (by first | exact rfl | assumption) ?_))
  | ((with_reducible show rSetL (V.ref _) (V.int _) _ _ _); refine p_setL (by walk_at "lk") (by first | exact rfl | assumption) ?_)
  | ((with_reducible show rLenX _ [V.ref _] _ _); (first | refine p_lenL (by walk_at "sq") ?_ | refine p_lenT (SqT.of (by walk_at "lk")) ?_))
  | ((with_reducible show rLenX _ [V.str _] _ _); refine p_lenS (by walk_at "sz") ?_)
  | with_reducible refine i_lc ?_ | with_reducible refine i_for ?_ | with_reducible refine i_itl ?_ | with_reducible refine i_itt ?_ | with_reducible refine i_itr ?_ | with_reducible refine i_its ?_
  | ((with_reducible show ∃ _, V.ref _ = V.ref _ ∧ (∃ _, SqL _ _ _ _) ∧ _); refine p_itl (by walk_at "sq") ?_)
  | ((with_reducible show ∃ _, V.ref _ = V.ref _ ∧ (∃ _, SqT _ _ _ _) ∧ _); refine p_itt (by walk_at "stt") ?_) | with_reducible refine p_its ?_
  | ((with_reducible show ∃ _, [V.int _] = [V.int _] ∧ _); refine p_itr (by omega) (by omega) ?_)
  | with_reducible refine i_sl ?_ | with_reducible refine i_np ?_ | with_reducible refine i_pt ?_ | with_reducible refine i_in ?_
  | ((with_reducible show rSlXX _ (V.ref _) _ _ _ _); refine p_slL (by walk_at "sq") ?_; intro _ _ _ _ _)
  | ((with_reducible show rSlXX _ (V.str _) _ _ _ _); refine p_slS (by walk_at "sz") ?_)
  | ((with_reducible show rIsi _ [_, V.ty "str"] _ _); refine p_isStr (by walk_at "kd") ?_)
  | ((with_reducible show rIsi _ [_, V.ty "int"] _ _); refine p_isInt (by walk_at "kd") ?_)
  | ((with_reducible show rIsi _ [_, V.ty "bool"] _ _); refine p_isBool (by walk_at "kd") ?_)
  | ((with_reducible show rIsiT _ [_, V.ref _] _ _); refine p_isLT (by walk_at "lk") (by walk_at "kd") ?_)
  | with_reducible refine i_chain ?_ | with_reducible refine i_m1 ?_ | with_reducible refine i_m0 ?_ | with_reducible refine i_str ?_
  | ((with_reducible show LstK _ _ _); refine p_lstK (by walk_at "sz") ?_; intro _ _ _ _ _)
  | ((with_reducible show TupK _ _ _); refine p_tupK (by walk_at "sz") ?_; intro _ _ _ _ _)
  | ((with_reducible show (if _ = true then _ else _)); (first | refine ifT' (by first | assumption | exact rfl) ?_ | refine ifF' (by first | assumption | exact rfl) ?_))
  | ((with_reducible show rEqX _ (V.bl _) (V.bl _) _ _); refine p_eqS rfl ?_) | ((with_reducible show rNeX _ (V.bl _) (V.bl _) _ _); refine p_neS rfl ?_)
  | ((with_reducible show rEqX _ (V.ref _) (V.ref _) _ _); refine p_eqNil (by walk_at "lk") (by walk_at "lk") ?_) | ((with_reducible show rNeX _ (V.ref _) (V.ref _) _ _); refine p_neNil (by walk_at "lk") (by walk_at "lk") ?_)
  | ((with_reducible show rAddX _ (V.str _) (V.str _) _ _); refine p_addS (by walk_at "sz") ?_)
  | ((with_reducible show rMuXX (V.str _) (V.int _) _ _); refine p_muS ⟨by decide +kernel, by decide +kernel, by decide +kernel⟩ ?_)
  | ((with_reducible show tDNewK _ _ _); refine i_dnew ?_; intro _ _ _ _ _)
  | ((with_reducible show rTupX _ [V.ref _] _ _); refine p_tupL (by walk_at "sq") ?_; intro _ _ _ _ _)
  | ((with_reducible show rAddX _ (V.ref _) (V.ref _) _ _); refine p_addL (by walk_at "lk") (by walk_at "lk") (by walk_at "sz") ?_; intro _ _ _ _ _)
  | with_reducible refine p_notB ?_ | with_reducible refine p_isB ?_)
local macro_rules | `(tactic| walk_at "go") => `(tactic| (walk_at "st"; (repeat walk_at "st")))

local macro_rules | `(tactic| walk_at "rx") => `(tactic| first
  | with_reducible refine i_par ?_ | ((with_reducible show ∃ _, [V.int _] = [V.int _] ∧ _); refine ⟨_, rfl, ?_⟩)
  | with_reducible refine i_sfl ?_ | with_reducible refine i_fl ?_ | with_reducible refine i_pr ?_)
local macro_rules | `(tactic| walk_at "gr") => `(tactic| repeat (first | walk_at "st" | walk_at "rx"))
section
variable {P : Program} {w : World} {K : PySem.W.Frag} {mg : Str → Option Value} {base : Heap} {C CI : Addr}
theorem dp_ints {H : Hp} : ∀ ns : List Int, DpAll K H (ns.map V.int) (ns.map PyData.int)
  | [] => .nil
  | n :: r => .cons (.int n) (dp_ints r)
theorem lay_ints : ∀ ns : List Int, PyData.canLayAll0 (ns.map PyData.int) = true
  | [] => rfl
  | n :: r => by
    rw [List.map_cons, PyData.canLayAll0, lay_ints r, PyData.canLay0]
    rfl
theorem deep_strs0 : ∀ ss : List Str, PyData.depthAll (ss.map PyData.str) = 0
  | [] => rfl
  | s :: r => by simp only [List.map, PyData.depthAll, PyData.depth, deep_strs0 r, Nat.max_self]
theorem shaped_strs {ss : List Str} (h : ∀ s ∈ ss, PyData.strOk s = true) : SeqAt.shaped (.tuple (ss.map PyData.str)) = true := by
  show ((PyData.tuple (ss.map PyData.str)).canLay0 && decide ((PyData.tuple (ss.map PyData.str)).depth ≤ 64)) = true
  rw [show (PyData.tuple (ss.map PyData.str)).depth = 1 by simp only [PyData.depth, deep_strs0]]
  rw [show (PyData.tuple (ss.map PyData.str)).canLay0 = true from lay_strs ss h]
  rfl
theorem shaped_ints (ns : List Int) : SeqAt.shaped (.tuple (ns.map PyData.int)) = true := by
  show ((PyData.tuple (ns.map PyData.int)).canLay0 && decide ((PyData.tuple (ns.map PyData.int)).depth ≤ 64)) = true
  rw [show (PyData.tuple (ns.map PyData.int)).depth = 1 by simp only [PyData.depth, depthAll_ints]]
  rw [show (PyData.tuple (ns.map PyData.int)).canLay0 = true from lay_ints ns]
  rfl
def eqLs (a b : List Str) : Bool := PyData.eqv (.tuple (a.map PyData.str)) (.tuple (b.map PyData.str))
def eqPs (a b : List Int) : Bool := PyData.eqv (.tuple (a.map PyData.int)) (.tuple (b.map PyData.int))
def spVEq (C : Addr) : Sp := fun vs H Q _ => ∃ a y ss ps z, vs = [.ref a, y] ∧ VAt C H a (ss.map V.str) ps z ∧ (∀ s ∈ ss, PyData.strOk s = true) ∧ ((∃ ky, Kd H y ky ∧ Q (.bl false) H) ∨
  (∃ b ss' ps' z', y = .ref b ∧ VAt C H b (ss'.map V.str) ps' z' ∧ (∀ s ∈ ss', PyData.strOk s = true) ∧ Q (.bl (decide (z = z') && (eqLs ss ss' && eqPs ps ps'))) H))
theorem p_prL {H : Hp} {Q : VK} {a : Addr} {ls : List V} {ps : List Int} {z : Str} (h : VAt C H a ls ps z) (q : ∀ L, H L = some (.tup ls) → Q (.ref L) H) : PrK C (spLines C) Q (.ref a) H := by
  obtain ⟨dx, L, M, e1, e2, e3⟩ := h
  exact ⟨a, dx, _, rfl, e1, a, ls, ps, z, rfl, ⟨dx, L, M, e1, e2, e3⟩, q⟩
theorem p_prP {H : Hp} {Q : VK} {a : Addr} {ls : List V} {ps : List Int} {z : Str} (h : VAt C H a ls ps z) (q : ∀ L, H L = some (.tup (ps.map V.int)) → Q (.ref L) H) : PrK C (spPars C) Q (.ref a) H := by
  obtain ⟨dx, L, M, e1, e2, e3⟩ := h
  exact ⟨a, dx, _, rfl, e1, a, ls, ps, z, rfl, ⟨dx, L, M, e1, e2, e3⟩, q⟩
theorem p_prA {H : Hp} {Q : VK} {a : Addr} {ls : List V} {ps : List Int} {z : Str} (h : VAt C H a ls ps z) (q : Q (.str z) H) : PrK C (spAuth C) Q (.ref a) H := by
  obtain ⟨dx, L, M, e1, e2, e3⟩ := h
  exact ⟨a, dx, _, rfl, e1, a, ls, ps, z, rfl, ⟨dx, L, M, e1, e2, e3⟩, q⟩
theorem c_veq (T : VerM K mg C) : OwnM P w K mg base 3 C "__eq__" (spVEq C) := by
  have m_lines : PropM P w K mg base 1 C "lines" (spLines C) := c_lines T
  have m_parents : PropM P w K mg base 1 C "parents" (spPars C) := c_pars T
  have m_author : PropM P w K mg base 1 C "author" (spAuth C) := c_auth T
  refine own0 T.mEq sc_Version___eq__ (fun _ _ _ _ _ _ us hl => match us, hl with | [_, _], _ => rfl) (fun vs H Q E h => ?_) (fun f cdv A outer s H vs Q E hr h => ?_)
  · obtain ⟨a, y, ss, ps, z, rfl, _⟩ := h
    rfl
  · obtain ⟨a, y, ss, ps, z, rfl, hV, ok, h⟩ := h
    obtain ⟨dx, L, M, e1, e2, e3⟩ := hV
    refine ⟨_, (pss_cons (ps_if (PW.pt (pw_or (pt_not (pt_truK (K := K) rfl (pe_callB (r := rIsi K) call_isi (by rfl) T.n_isinstance (by decide +kernel) (pa_cons (pv 1) (pa_cons (pe_gc (by rfl) T.v_Version) pa_nil))) (by intro _; rfl))) (pw_or1 (pt_cmpR (r := rNeX K) (op_neX hr.units) (pe_fld (pv 0) rfl) (pe_pr (pv 1) T.cl m_author (by decide) hr) (nomark _))))) (pss_one (ps_ret pe_bl)) pss_nil)
      (pss_one (ps_ret (pe_and (pe_cmpR (r := rEqX K) (op_eqX hr.units) (pe_fld (pv 0) rfl) (pe_pr (pv 1) T.cl m_lines (by decide) hr) (nomark _)) (pe_one (pe_cmpR (r := rEqX K) (op_eqX hr.units) (pe_fld (pv 0) rfl) (pe_pr (pv 1) T.cl m_parents (by decide) hr) (nomark _))))))), ?_⟩
    rcases h with ⟨ky, hy, q⟩ | ⟨b, ss', ps', z', rfl, hW, ok', q⟩
    · walk_at "gr"
      refine p_isCn T.V.I hy ?_
      walk_at "gr"
      exact q
    · obtain ⟨dx', L', M', f1, f2, f3⟩ := id hW
      walk_at "gr"
      refine p_isC T.V.I f1 ?_
      walk_at "gr"
      refine p_fl T e1 T.V.nA (vf_a _ _ _) ?_
      walk_at "gr"
      refine p_prA hW ?_
      walk_at "gr"
      refine p_neS rfl ⟨_, rfl, ift (fun hc => ?_) (fun hc => ?_)⟩
      · have ne : ¬ z = z' := fun e => by
          rw [e] at hc
          simp at hc
        rw [decide_eq_false ne, Bool.false_and] at q
        walk_at "gr"
        exact q
      · have ne : z = z' := by simpa using hc
        rw [decide_eq_true ne, Bool.true_and] at q
        walk_at "gr"
        refine p_fl T e1 T.V.nL (vf_l _ _ _) ?_
        walk_at "gr"
        refine p_prL hW fun L2 g2 => ?_
        refine .inr (.inl ⟨_, _, .tup (SqT.of e2) dp_strs, .tup (SqT.of g2) dp_strs, shaped_strs ok, shaped_strs ok', ?_⟩)
        refine ⟨_, rfl, ift (fun hl => ?_) (fun hl => ?_)⟩
        · rw [show eqLs ss ss' = true from hl, Bool.true_and] at q
          walk_at "gr"
          refine p_fl T e1 T.V.nP (vf_p _ _ _) ?_
          walk_at "gr"
          refine p_prP hW fun M2 g3 => ?_
          exact .inr (.inl ⟨_, _, .tup (SqT.of e3) (dp_ints _), .tup (SqT.of g3) (dp_ints _), shaped_ints _, shaped_ints _, q⟩)
        · rw [show eqLs ss ss' = false from hl, Bool.false_and] at q
          walk_at "gr"
          exact q
end
end Pk

namespace Pk
open PySem PySem.Spec PyProof.Rows L2
local macro_rules | `(tactic| walk_at "sz") => `(tactic| first | assumption | decide +kernel | exact Nat.le_trans (Nat.le_of_ble_eq_true rfl) (show 100000 ≤ sizeLine by decide) | exact Nat.le_trans (by omega) (show 100000 ≤ sizeLine by decide) | (show _ ≤ sizeLine; exact Nat.le_trans (by (simp only [List.length_append, List.length_map, List.length_cons, List.length_nil]; omega)) (show 100000 ≤ sizeLine by decide)))
local macro_rules | `(tactic| walk_at "mul") => `(tactic| first | exact Or.inl (Or.inl ⟨by omega, by omega⟩) | exact Or.inl (Or.inr ⟨by omega, by omega⟩))
local macro_rules | `(tactic| walk_at "ci") => `(tactic| first | assumption | exact (by decide : (0 : Int) < _) | (show (0 : Int) < _; omega) | exact ⟨by assumption, by assumption⟩ | exact ⟨by decide, by decide⟩ | exact ⟨by decide, by decide, by omega⟩)
local macro_rules | `(tactic| walk_at "lk") => `(tactic| first | assumption | exact upd_same | ((refine Eq.trans (upd_ne (by first | assumption | exact Ne.symm (by assumption))) ?_); walk_at "lk") | exact Same.get (by assumption) (by walk_at "lk") | exact Keep.get (by assumption) (by walk_at "lk") (by assumption) (by assumption))
local macro_rules | `(tactic| walk_at "sq") => `(tactic| first | assumption | exact SqL.of (by walk_at "lk") | exact Same.seq (by assumption) (by walk_at "sq"))
local macro_rules | `(tactic| walk_at "stt") => `(tactic| exact SqT.of (by walk_at "lk"))
local macro_rules | `(tactic| walk_at "kd") => `(tactic| first | assumption | exact Kd.str _ (by first | assumption | omega | decide) | exact Kd.bl _ | exact Kd.int _ | exact Kd.non | exact Kd.lst (by walk_at "lk") | exact Kd.tup (by walk_at "lk") | exact Kd.dct (by walk_at "lk") | exact Kd.same (by assumption) (by walk_at "kd"))
local macro_rules | `(tactic| walk_at "sm") => `(tactic| first | assumption | exact Same.refl _ | (refine Same.trans ?_ (by assumption); walk_at "sm"))
local macro_rules | `(tactic| walk_at "st") => `(tactic| first
  | with_reducible refine i_seq ?_ | with_reducible refine i_asg ?_ | with_reducible refine i_ret ?_ | with_reducible refine i_op ?_
  | ((with_reducible show tVar _ _ _ _); refine i_var rfl ?_)
  | with_reducible refine i_c ?_ | with_reducible refine i_cb ?_ | with_reducible refine i_call ?_ | with_reducible refine i_cons ?_ | with_reducible refine i_nil ?_
  | with_reducible refine i_name ?_ | with_reducible refine i_sub ?_ | with_reducible refine i_drop ?_ | with_reducible refine i_ifs ?_ | with_reducible refine i_ife ?_
  | with_reducible refine i_test ?_ | with_reducible refine i_tru ?_ | with_reducible refine i_and ?_ | with_reducible refine i_or ?_ | with_reducible refine i_not ?_
  | with_reducible refine i_andV ?_ | with_reducible refine i_orV ?_ | with_reducible refine i_notV ?_ | with_reducible refine i_un ?_
  | with_reducible refine i_bl ?_ | with_reducible refine i_trB ?_ | with_reducible refine i_next ?_
  | with_reducible refine iteF ?_ | with_reducible refine iteT ?_
  | with_reducible refine i_lstF ?_ | with_reducible refine i_tupF ?_
  | with_reducible refine p_addI ?_ | with_reducible refine p_I0 ?_ | with_reducible refine p_U ?_
  | with_reducible refine p_ltI ?_ | with_reducible refine p_leI ?_ | with_reducible refine p_gtI ?_ | with_reducible refine p_geI ?_
  | with_reducible refine p_ltS ?_ | with_reducible refine p_leS ?_ | with_reducible refine p_gtS ?_
  | with_reducible refine p_eqI ?_ | with_reducible refine p_neI ?_ | with_reducible refine p_int ?_
  | ((with_reducible show rMuXX (V.int _) (V.int _) _ _); refine p_muI (by walk_at "mul") ?_)
  | ((with_reducible show rI _ _ (V.int _) (V.int _) _ _); refine p_I (by walk_at "ci") ?_)
  | ((with_reducible show rIx _ (V.ref _) (V.int _) _ _); (first | refine p_ixL (by walk_at "sq") (by first | exact rfl | assumption) ?_ | refine p_ixT (SqT.of (by walk_at "lk")) (by first | exact rfl | assumption) ?_))
  | ((with_reducible show rSetL (V.ref _) (V.int _) _ _ _); refine p_setL (by walk_at "lk") (by first | exact rfl | assumption) ?_)
  | ((with_reducible show rLenX _ [V.ref _] _ _); (first | refine p_lenL (by walk_at "sq") ?_ | refine p_lenT (SqT.of (by walk_at "lk")) ?_))
  | ((with_reducible show rLenX _ [V.str _] _ _); refine p_lenS (by walk_at "sz") ?_)
  | with_reducible refine i_lc ?_ | with_reducible refine i_for ?_ | with_reducible refine i_itl ?_ | with_reducible refine i_itt ?_ | with_reducible refine i_itr ?_ | with_reducible refine i_its ?_
  | ((with_reducible show ∃ _, V.ref _ = V.ref _ ∧ (∃ _, SqL _ _ _ _) ∧ _); refine p_itl (by walk_at "sq") ?_)
  | ((with_reducible show ∃ _, V.ref _ = V.ref _ ∧ (∃ _, SqT _ _ _ _) ∧ _); refine p_itt (by walk_at "stt") ?_) | with_reducible refine p_its ?_
  | ((with_reducible show ∃ _, [V.int _] = [V.int _] ∧ _); refine p_itr (by omega) (by omega) ?_)
  | with_reducible refine i_sl ?_ | with_reducible refine i_np ?_ | with_reducible refine i_pt ?_ | with_reducible refine i_in ?_
  | ((with_reducible show rSlXX _ (V.ref _) _ _ _ _); refine p_slL (by walk_at "sq") ?_; intro _ _ _ _ _)
  | ((with_reducible show rSlXX _ (V.str _) _ _ _ _); refine p_slS (by walk_at "sz") ?_)
  | ((with_reducible show rIsi _ [_, V.ty "str"] _ _); refine p_isStr (by walk_at "kd") ?_)
  | ((with_reducible show rIsi _ [_, V.ty "int"] _ _); refine p_isInt (by walk_at "kd") ?_)
  | ((with_reducible show rIsi _ [_, V.ty "bool"] _ _); refine p_isBool (by walk_at "kd") ?_)
  | ((with_reducible show rIsiT _ [_, V.ref _] _ _); refine p_isLT (by walk_at "lk") (by walk_at "kd") ?_)
  | with_reducible refine i_chain ?_ | with_reducible refine i_m1 ?_ | with_reducible refine i_m0 ?_ | with_reducible refine i_str ?_
  | ((with_reducible show LstK _ _ _); refine p_lstK (by walk_at "sz") ?_; intro _ _ _ _ _)
  | ((with_reducible show TupK _ _ _); refine p_tupK (by walk_at "sz") ?_; intro _ _ _ _ _)
  | ((with_reducible show (if _ = true then _ else _)); (first | refine ifT' (by first | assumption | exact rfl) ?_ | refine ifF' (by first | assumption | exact rfl) ?_))
  | ((with_reducible show rEqX _ (V.bl _) (V.bl _) _ _); refine p_eqS rfl ?_) | ((with_reducible show rNeX _ (V.bl _) (V.bl _) _ _); refine p_neS rfl ?_)
  | ((with_reducible show rEqX _ (V.ref _) (V.ref _) _ _); refine p_eqNil (by walk_at "lk") (by walk_at "lk") ?_) | ((with_reducible show rNeX _ (V.ref _) (V.ref _) _ _); refine p_neNil (by walk_at "lk") (by walk_at "lk") ?_)
  | ((with_reducible show rAddX _ (V.str _) (V.str _) _ _); refine p_addS (by walk_at "sz") ?_)
  | ((with_reducible show rMuXX (V.str _) (V.int _) _ _); refine p_muS ⟨by decide +kernel, by decide +kernel, by decide +kernel⟩ ?_)
  | ((with_reducible show tDNewK _ _ _); refine i_dnew ?_; intro _ _ _ _ _)
  | ((with_reducible show rTupX _ [V.ref _] _ _); refine p_tupL (by walk_at "sq") ?_; intro _ _ _ _ _)
  | ((with_reducible show rAddX _ (V.ref _) (V.ref _) _ _); refine p_addL (by walk_at "lk") (by walk_at "lk") (by walk_at "sz") ?_; intro _ _ _ _ _)
  | with_reducible refine p_notB ?_ | with_reducible refine p_isB ?_)
local macro_rules | `(tactic| walk_at "go") => `(tactic| (walk_at "st"; (repeat walk_at "st")))

local macro_rules | `(tactic| walk_at "rx") => `(tactic| first
  | with_reducible refine i_par ?_ | ((with_reducible show ∃ _, [V.int _] = [V.int _] ∧ _); refine ⟨_, rfl, ?_⟩))
local macro_rules | `(tactic| walk_at "gr") => `(tactic| repeat (first | walk_at "st" | walk_at "rx"))
abbrev s__law_own_lines : Stmt := top 42
abbrev N__law_own_lines : List Str := ["pool", "words", "k"]
theorem sc__law_own_lines : FnScope ["pool", "words", "k"] ["pool"] (defScope s__law_own_lines) := ⟨rfl, rfl, rfl, by decide +kernel, rfl, by decide +kernel, by decide +kernel⟩
abbrev s__law_parents : Stmt := top 43
abbrev N__law_parents : List Str := ["pool", "found", "k", "number"]
theorem sc__law_parents : FnScope ["pool", "found", "k", "number"] ["pool"] (defScope s__law_parents) := ⟨rfl, rfl, rfl, by decide +kernel, rfl, by decide +kernel, by decide +kernel⟩
structure OwnF (K : PySem.W.Frag) (mg : Str → Option Value) : Prop where
  P : PoolF K mg
  n_range : mg "range" = none
  d_own : DefAt K mg "_law_own_lines" s__law_own_lines
  d_par : DefAt K mg "_law_parents" s__law_parents
section
variable {P : Program} {w : World} {K : PySem.W.Frag} {mg : Str → Option Value} {base : Heap}
def wordsS : List Str := ["a", "b", "", " a", "end {", Txt.mul (Str.ofString "~") 40]
theorem words_at {r : Int} (h0 : 0 ≤ r) (h1 : r < 6) : ∃ s, atI (wordsS.map V.str) r = some (V.str s) ∧ s ∈ wordsS := by
  obtain ⟨i, rfl⟩ := Int.eq_ofNat_of_zero_le h0
  have hl : i < wordsS.length := by show i < 6; omega
  exact ⟨wordsS[i], at_of' (j := i) rfl (by rw [List.getElem?_map, List.getElem?_eq_getElem hl]; rfl), List.getElem_mem hl⟩
theorem six_at {r : Int} (h0 : 0 ≤ r) (h1 : r < 6) : ∃ m : Nat, m ≤ 12 ∧ atI [V.int 0, V.int 1, V.int 3, V.int 6, V.int 11, V.int 12] r = some (V.int m) := by
  obtain ⟨i, rfl⟩ := Int.eq_ofNat_of_zero_le h0
  match i, (show i < 6 by omega) with
  | 0, _ => exact ⟨0, by decide, rfl⟩
  | 1, _ => exact ⟨1, by decide, rfl⟩
  | 2, _ => exact ⟨3, by decide, rfl⟩
  | 3, _ => exact ⟨6, by decide, rfl⟩
  | 4, _ => exact ⟨11, by decide, rfl⟩
  | 5, _ => exact ⟨12, by decide, rfl⟩
def spOwn : Sp := fun vs H Q _ => ∃ (p n : Addr) (k : Int), vs = [.ref p] ∧ PoolAt H p n k ∧ 0 ≤ k ∧ k < 900000000 ∧ ∀ (d : Addr) (ss : List Str) (H' : Hp), ss.length ≤ 12 → (∀ s ∈ ss, s ∈ wordsS) → PoolAt H' p n (k + 20) → Keep p n H H' → H d = none → H' d = some (.lst (ss.map V.str)) → Q (.ref d) H'
theorem c__law_own_lines (T : OwnF K mg) : Cal P w K mg base CX0 3 "_law_own_lines" spOwn := by
  have c__law_draw : Cal P w K mg base CX0 2 "_law_draw" spDraw := c__law_draw T.P
  refine cal0 T.d_own sc__law_own_lines (fun _ _ _ _ _ _ us hl => match us, hl with | [_], _ => rfl) (fun vs H Q E h => ?_) (fun f cdv A outer s H vs Q E hr h => ?_)
  · obtain ⟨p, n, k, rfl, _⟩ := h
    rfl
  · obtain ⟨p, n, k, rfl, hP, k0, k1, q⟩ := h
    refine ⟨_, (pss_cons (ps_set (i := 1) sc__law_own_lines.nd rfl (by first | exact Or.inl rfl | exact Or.inr rfl) (pe_lst (pa_cons pe_str (pa_cons pe_str (pa_cons pe_str (pa_cons pe_str (pa_cons pe_str (pa_cons (pe_op op_muX pe_str pe_int) pa_nil))))))))
      (pss_one (ps_ret (pe_lc (own := [("k", 2)]) (g := gName 2) (tt := tYes) rfl sc__law_own_lines.nd (pi_range1 (by rfl) T.n_range (pa_cons (pe_ix (r := rIx K) ix_seq (pe_lst (pa_cons pe_int (pa_cons pe_int (pa_cons pe_int (pa_cons pe_int (pa_cons pe_int (pa_cons pe_int pa_nil))))))) (pe_c c__law_draw hr (by decide) (by rfl) pass0 (pa_cons (pv 0) (pa_cons pe_int pa_nil))) (fun _ _ => rfl)) pa_nil)) (blkOk_by (N := N__law_own_lines) (sc := defScope s__law_own_lines) (by decide +kernel)) (fun _ _ _ _ _ => (pg_name (i := 2) sc__law_own_lines.nd rfl (by first | exact Or.inl rfl | exact Or.inr rfl))) (fun _ _ _ _ _ => pts_nil) (fun _ _ _ _ _ => (pe_ix (r := rIx K) ix_seq (pv 1) (pe_c c__law_draw hr (by decide) (by rfl) pass0 (pa_cons (pv 0) (pa_cons pe_int pa_nil))) (fun _ _ => rfl))))))), ?_⟩
    walk_at "gr"
    rename_i W H1 n1 s1 e1 B H2 n2 s2 e2
    have hP1 := hP.same s1
    have hP2 := hP1.same s2
    have nW := hP.ne n1
    have nB := hP1.ne n2
    have e12 := s2 _ _ e1
    refine ⟨p, n, 6, k, rfl, hP2, by omega, by omega, by decide, by decide, fun r H3 r0 r1 hP3 k3 => ?_⟩
    obtain ⟨m, hm, ha⟩ := six_at r0 r1
    have e13 := k3 _ _ e12 nW.1 nW.2
    have e23 := k3 _ _ e2 nB.1 nB.2
    refine p_ixL (SqL.of e23) ha ?_
    walk_at "gr"
    refine lcw_pool (xs := intsV m) (j := 2) (d := 1) wx_range (fun i acc => ∃ ss : List Str, acc = ss.map V.str ∧ ss.length = i ∧ ∀ s ∈ ss, s ∈ wordsS) hP3 (fun _ _ => trivial) (by rw [intsV_len]; omega) (fun _ => rfl) ⟨[], rfl, rfl, by simp⟩ (fun i x acc hx ⟨ss, ea, el, ec⟩ H4 R k4 p4 kk => ?_) (fun d H4 acc nd k4 p4 ⟨ss, ea, el, ec⟩ _ hd => ?_)
    · have hi : i < m := by
        have := (List.getElem?_eq_some_iff.mp hx).1
        rw [intsV_len] at this
        exact this
      have eW := k4 _ _ e13 nW.1 nW.2
      walk_at "gr"
      refine ⟨p, n, 6, k + 1 + i * 1, rfl, p4, by omega, by omega, by decide, by decide, fun r H5 r0 r1 p5 k5 => ?_⟩
      obtain ⟨s, hs, ms⟩ := words_at r0 r1
      have eW5 := k5 _ _ eW nW.1 nW.2
      refine p_ixL (xs := wordsS.map V.str) (SqL.of eW5) hs ?_
      refine kk _ H5 k5 (p5.mono (by omega)) ⟨ss ++ [s], by rw [ea, List.map_append]; rfl, by rw [List.length_append, List.length_singleton, el], fun y hy => ?_⟩
      rcases List.mem_append.mp hy with h | h
      · exact ec y h
      · rw [List.mem_singleton.mp h]
        exact ms
    · rw [intsV_len] at el p4
      rw [ea] at hd
      have kp : Keep p n H H4 := ((Keep.same (s1.trans s2)).trans k3).trans k4
      refine q d ss H4 (by omega) ec (p4.mono (by omega)) kp ?_ hd
      cases e : H d with
      | none => rfl
      | some o =>
        exfalso
        obtain ⟨pp, pn⟩ := hP3.ne nd
        have := k3 _ _ ((s1.trans s2) _ _ e) pp pn
        rw [this] at nd
        cases nd
def spPrs : Sp := fun vs H Q _ => ∃ (p n : Addr) (k : Int), vs = [.ref p] ∧ PoolAt H p n k ∧ 0 ≤ k ∧ k < 900000000 ∧ ∀ (d : Addr) (ns : List Int) (H' : Hp), ns.length ≤ 3 → ns.Nodup → (∀ x ∈ ns, 0 ≤ x ∧ x < 10 ^ 20) → PoolAt H' p n (k + 10) → Keep p n H H' → H d = none → H' d = some (.lst (ns.map V.int)) → Q (.ref d) H'
theorem in_ints (r : Int) (ns : List Int) : inV (.int r) (ns.map V.int) = decide (r ∈ ns) := by
  unfold inV
  rw [List.any_map, Bool.eq_iff_iff, List.any_eq_true, decide_eq_true_iff]
  constructor
  · rintro ⟨x, hx, e⟩
    have e : x = r := by simpa [eqV] using e
    exact e ▸ hx
  · intro h
    exact ⟨r, h, by simp [eqV]⟩
theorem par_at {r : Int} (h0 : 0 ≤ r) (h1 : r < 2) : ∃ m : Int, 0 < m ∧ m ≤ 10 ^ 20 ∧ atI [V.int 4, V.int (10 ^ 20)] r = some (V.int m) := by
  obtain ⟨i, rfl⟩ := Int.eq_ofNat_of_zero_le h0
  match i, (show i < 2 by omega) with
  | 0, _ => exact ⟨4, by decide, by decide, rfl⟩
  | 1, _ => exact ⟨10 ^ 20, by decide, by decide, rfl⟩
theorem c__law_parents (T : OwnF K mg) : Cal P w K mg base CX0 3 "_law_parents" spPrs := by
  have c__law_draw : Cal P w K mg base CX0 2 "_law_draw" spDraw := c__law_draw T.P
  refine cal0 T.d_par sc__law_parents (fun _ _ _ _ _ _ us hl => match us, hl with | [_], _ => rfl) (fun vs H Q E h => ?_) (fun f cdv A outer s H vs Q E hr h => ?_)
  · obtain ⟨p, n, k, rfl, _⟩ := h
    rfl
  · obtain ⟨p, n, k, rfl, hP, k0, k1, q⟩ := h
    refine ⟨_, (pss_cons (ps_set (i := 1) sc__law_parents.nd rfl (by first | exact Or.inl rfl | exact Or.inr rfl) (pe_lst pa_nil))
      (pss_cons (ps_for PassesOwn.never rfl (pi_range1 (by rfl) T.n_range (pa_cons (pe_c c__law_draw hr (by decide) (by rfl) pass0 (pa_cons (pv 0) (pa_cons pe_int pa_nil))) pa_nil)) (pg_name (i := 2) sc__law_parents.nd rfl (by first | exact Or.inl rfl | exact Or.inr rfl)) (pss_cons (ps_set (i := 3) sc__law_parents.nd rfl (by first | exact Or.inl rfl | exact Or.inr rfl) (pe_c c__law_draw hr (by decide) (by rfl) pass0 (pa_cons (pv 0) (pa_cons (pe_ix (r := rIx K) ix_seq (pe_lst (pa_cons pe_int (pa_cons (pe_op op_pow pe_int pe_int) pa_nil))) (pe_c c__law_draw hr (by decide) (by rfl) pass0 (pa_cons (pv 0) (pa_cons pe_int pa_nil))) (fun _ _ => rfl)) pa_nil))))
      (pss_one (ps_if (pt_cmpR (r := rIn K true) op_notIn_seq (pv 3) (pv 1) (by rfl)) (pss_one (ps_expr (pe_bm PySem.F.plainAttrs_list PySem.F.slot_list_append PySem.F.type_list_append mt_append (pv 1) (pa_cons (pv 3) pa_nil)))) pss_nil))))
      (pss_one (ps_ret (pv 1))))), ?_⟩
    walk_at "gr"
    rename_i D H1 n1 s1 e1
    have nD := hP.ne n1
    have hP1 := hP.same s1
    refine ⟨p, n, 4, k, rfl, hP1, by omega, by omega, by decide, by decide, fun r H2 r0 r1 hP2 k2 => ?_⟩
    obtain ⟨m, rfl⟩ := Int.eq_ofNat_of_zero_le r0
    have e2 := k2 _ _ e1 nD.1 nD.2
    walk_at "gr"
    refine fow (xs := intsV m) wx_range (fun i σ' H' => ∃ (ns : List Int) (v2 v3 : Option V), σ' = [some (.ref p), some (.ref D), v2, v3] ∧ ns.length ≤ i ∧ ns.Nodup ∧ (∀ x ∈ ns, 0 ≤ x ∧ x < 10 ^ 20) ∧ PoolAt H' p n (k + 1 + 2 * i) ∧ Keep p n H H' ∧ H' D = some (.lst (ns.map V.int)))
      ⟨[], none, none, rfl, by simp, by simp, by simp, hP2.mono (by omega), (Keep.same s1).trans k2, e2⟩ (fun _ _ _ _ => trivial) (fun i x σ' H' hx ⟨ns, v2, v3, es, l1, nd, bd, hP, kp, eD⟩ => ?_) (fun σ' H' ⟨ns, v2, v3, es, l1, nd, bd, hP, kp, eD⟩ => ?_)
    · obtain ⟨hi, rfl⟩ := intsV_at hx
      subst es
      walk_at "gr"
      rename_i B Hb nb sb eb
      have nB := hP.ne nb
      refine ⟨p, n, 2, k + 1 + 2 * i, rfl, hP.same sb, by omega, by omega, by decide, by decide, fun r Hc r0 r1 hPc kc => ?_⟩
      obtain ⟨m2, m0, m1, ha⟩ := par_at r0 r1
      refine p_ixL (SqL.of (kc _ _ eb nB.1 nB.2)) ha ?_
      walk_at "gr"
      refine ⟨p, n, m2, k + 1 + 2 * i + 1, rfl, hPc, by omega, by omega, m0, Nat.lt_of_lt_of_le (PySem.Flt.log2_lt_of (k := 100) (by decide) (Nat.lt_of_le_of_lt (show m2.natAbs ≤ 10 ^ 20 by omega) (by decide))) (by decide), fun x Hd x0 x1 hPd kd => ?_⟩
      have eDd : Hd D = some (.lst (ns.map V.int)) := kd _ _ (kc _ _ (sb _ _ eD) nD.1 nD.2) nD.1 nD.2
      have kpd : Keep p n H Hd := ((kp.trans (Keep.same sb)).trans kc).trans kd
      walk_at "gr"
      refine ⟨D, ns.map V.int, rfl, .inl (SqL.of eDd), rfl, by rw [List.all_map, List.all_eq_true]; intro _ _; rfl, ?_⟩
      rw [if_pos rfl, in_ints]
      refine ⟨_, rfl, ift (fun hc => ?_) (fun hc => ?_)⟩
      · have hn : x ∉ ns := by simpa using hc
        walk_at "gr"
        refine i_bm ?_
        walk_at "gr"
        refine ⟨.inl ⟨rfl, _, SqL.of eDd⟩, ?_⟩
        walk_at "gr"
        refine ⟨D, ns.map V.int, .int x, rfl, rfl, eDd, Nat.lt_of_lt_of_le (show (ns.map V.int).length < 100000 by rw [List.length_map]; omega) (by decide), ?_⟩
        refine ⟨ns ++ [x], _, _, rfl, by rw [List.length_append, List.length_singleton]; omega, ?_, fun y hy => ?_, ?_, ?_, ?_⟩
        · rw [List.nodup_append]
          exact ⟨nd, by simp, fun y hy z hz => by rw [List.mem_singleton.mp hz]; exact fun e => hn (e ▸ hy)⟩
        · rcases List.mem_append.mp hy with h | h
          · exact bd y h
          · rw [List.mem_singleton.mp h]
            exact ⟨x0, by omega⟩
        · exact (hPd.upd nD.1 nD.2).mono (by push_cast; omega)
        · exact fun b o e nb1 nb2 => by
            rw [upd_ne (ne_of_none e n1)]
            exact kpd b o e nb1 nb2
        · rw [upd_same, List.map_append]
          rfl
      · walk_at "gr"
        exact ⟨ns, _, _, rfl, by omega, nd, bd, hPd.mono (by push_cast; omega), kpd, eDd⟩
    · subst es
      rw [intsV_len] at l1 hP
      walk_at "gr"
      exact q D ns H' (by omega) nd bd (hP.mono (by omega)) kp n1 eD
end
end Pk

namespace Pk
open PySem PySem.Spec PyProof.Rows L2
local macro_rules | `(tactic| walk_at "sz") => `(tactic| first | assumption | decide +kernel | exact Nat.le_trans (Nat.le_of_ble_eq_true rfl) (show 100000 ≤ sizeLine by decide) | exact Nat.le_trans (by omega) (show 100000 ≤ sizeLine by decide) | (show _ ≤ sizeLine; exact Nat.le_trans (by (simp only [List.length_append, List.length_map, List.length_cons, List.length_nil]; omega)) (show 100000 ≤ sizeLine by decide)))
local macro_rules | `(tactic| walk_at "mul") => `(tactic| first | exact Or.inl (Or.inl ⟨by omega, by omega⟩) | exact Or.inl (Or.inr ⟨by omega, by omega⟩))
local macro_rules | `(tactic| walk_at "ci") => `(tactic| first | assumption | exact (by decide : (0 : Int) < _) | (show (0 : Int) < _; omega) | exact ⟨by assumption, by assumption⟩ | exact ⟨by decide, by decide⟩ | exact ⟨by decide, by decide, by omega⟩)
local macro_rules | `(tactic| walk_at "lk") => `(tactic| first | assumption | exact upd_same | ((refine Eq.trans (upd_ne (by first | assumption | exact Ne.symm (by assumption))) ?_); walk_at "lk") | exact Same.get (by assumption) (by walk_at "lk") | exact Keep.get (by assumption) (by walk_at "lk") (by assumption) (by assumption))
local macro_rules | `(tactic| walk_at "sq") => `(tactic| first | assumption | exact SqL.of (by walk_at "lk") | exact Same.seq (by assumption) (by walk_at "sq"))
local macro_rules | `(tactic| walk_at "stt") => `(tactic| exact SqT.of (by walk_at "lk"))
local macro_rules | `(tactic| walk_at "kd") => `(tactic| first | assumption | exact Kd.str _ (by first | assumption | omega | decide) | exact Kd.bl _ | exact Kd.int _ | exact Kd.non | exact Kd.lst (by walk_at "lk") | exact Kd.tup (by walk_at "lk") | exact Kd.dct (by walk_at "lk") | exact Kd.same (by assumption) (by walk_at "kd"))
local macro_rules | `(tactic| walk_at "sm") => `(tactic| first | assumption | exact Same.refl _ | (refine Same.trans ?_ (by assumption); walk_at "sm"))
local macro_rules | `(tactic| walk_at "st") => `(tactic| first
  | with_reducible refine i_seq ?_ | with_reducible refine i_asg ?_ | with_reducible refine i_ret ?_ | with_reducible refine i_op ?_
  | ((with_reducible show tVar _ _ _ _); refine i_var rfl ?_)
  | with_reducible refine i_c ?_ | with_reducible refine i_cb ?_ | with_reducible refine i_call ?_ | with_reducible refine i_cons ?_ | with_reducible refine i_nil ?_
  | with_reducible refine i_name ?_ | with_reducible refine i_sub ?_ | with_reducible refine i_drop ?_ | with_reducible refine i_ifs ?_ | with_reducible refine i_ife ?_
  | with_reducible refine i_test ?_ | with_reducible refine i_tru ?_ | with_reducible refine i_and ?_ | with_reducible refine i_or ?_ | with_reducible refine i_not ?_
  | with_reducible refine i_andV ?_ | with_reducible refine i_orV ?_ | with_reducible refine i_notV ?_ | with_reducible refine i_un ?_
  | with_reducible refine i_bl ?_ | with_reducible refine i_trB ?_ | with_reducible refine i_next ?_
  | with_reducible refine iteF ?_ | with_reducible refine iteT ?_
  | with_reducible refine i_lstF ?_ | with_reducible refine i_tupF ?_
  | with_reducible refine p_addI ?_ | with_reducible refine p_I0 ?_ | with_reducible refine p_U ?_
  | with_reducible refine p_ltI ?_ | with_reducible refine p_leI ?_ | with_reducible refine p_gtI ?_ | with_reducible refine p_geI ?_
  | with_reducible refine p_ltS ?_ | with_reducible refine p_leS ?_ | with_reducible refine p_gtS ?_
  | with_reducible refine p_eqI ?_ | with_reducible refine p_neI ?_ | with_reducible refine p_int ?_
  | ((with_reducible show rMuXX (V.int _) (V.int _) _ _); refine p_muI (by walk_at "mul") ?_)
  | ((with_reducible show rI _ _ (V.int _) (V.int _) _ _); refine p_I (by walk_at "ci") ?_)
  | ((with_reducible show rIx _ (V.ref _) (V.int _) _ _); (first | refine p_ixL (by walk_at "sq") (by first | exact rfl | assumption) ?_ | refine p_ixT (SqT.of (by walk_at "lk")) (by first | exact rfl | assumption) ?_))
  | ((with_reducible show rSetL (V.ref _) (V.int _) _ _ _); refine p_setL (by walk_at "lk") (by first | exact rfl | assumption) ?_)
  | ((with_reducible show rLenX _ [V.ref _] _ _); (first | refine p_lenL (by walk_at "sq") ?_ | refine p_lenT (SqT.of (by walk_at "lk")) ?_))
  | ((with_reducible show rLenX _ [V.str _] _ _); refine p_lenS (by walk_at "sz") ?_)
  | with_reducible refine i_lc ?_ | with_reducible refine i_for ?_ | with_reducible refine i_itl ?_ | with_reducible refine i_itt ?_ | with_reducible refine i_itr ?_ | with_reducible refine i_its ?_
  | ((with_reducible show ∃ _, V.ref _ = V.ref _ ∧ (∃ _, SqL _ _ _ _) ∧ _); refine p_itl (by walk_at "sq") ?_)
  | ((with_reducible show ∃ _, V.ref _ = V.ref _ ∧ (∃ _, SqT _ _ _ _) ∧ _); refine p_itt (by walk_at "stt") ?_) | with_reducible refine p_its ?_
  | ((with_reducible show ∃ _, [V.int _] = [V.int _] ∧ _); refine p_itr (by omega) (by omega) ?_)
  | with_reducible refine i_sl ?_ | with_reducible refine i_np ?_ | with_reducible refine i_pt ?_ | with_reducible refine i_in ?_
  | ((with_reducible show rSlXX _ (V.ref _) _ _ _ _); refine p_slL (by walk_at "sq") ?_; intro _ _ _ _ _)
  | ((with_reducible show rSlXX _ (V.str _) _ _ _ _); refine p_slS (by walk_at "sz") ?_)
  | ((with_reducible show rIsi _ [_, V.ty "str"] _ _); refine p_isStr (by walk_at "kd") ?_)
  | ((with_reducible show rIsi _ [_, V.ty "int"] _ _); refine p_isInt (by walk_at "kd") ?_)
  | ((with_reducible show rIsi _ [_, V.ty "bool"] _ _); refine p_isBool (by walk_at "kd") ?_)
  | ((with_reducible show rIsiT _ [_, V.ref _] _ _); refine p_isLT (by walk_at "lk") (by walk_at "kd") ?_)
  | with_reducible refine i_chain ?_ | with_reducible refine i_m1 ?_ | with_reducible refine i_m0 ?_ | with_reducible refine i_str ?_
  | ((with_reducible show LstK _ _ _); refine p_lstK (by walk_at "sz") ?_; intro _ _ _ _ _)
  | ((with_reducible show TupK _ _ _); refine p_tupK (by walk_at "sz") ?_; intro _ _ _ _ _)
  | ((with_reducible show (if _ = true then _ else _)); (first | refine ifT' (by first | assumption | exact rfl) ?_ | refine ifF' (by first | assumption | exact rfl) ?_))
  | ((with_reducible show rEqX _ (V.bl _) (V.bl _) _ _); refine p_eqS rfl ?_) | ((with_reducible show rNeX _ (V.bl _) (V.bl _) _ _); refine p_neS rfl ?_)
  | ((with_reducible show rEqX _ (V.ref _) (V.ref _) _ _); refine p_eqNil (by walk_at "lk") (by walk_at "lk") ?_) | ((with_reducible show rNeX _ (V.ref _) (V.ref _) _ _); refine p_neNil (by walk_at "lk") (by walk_at "lk") ?_)
  | ((with_reducible show rAddX _ (V.str _) (V.str _) _ _); refine p_addS (by walk_at "sz") ?_)
  | ((with_reducible show rMuXX (V.str _) (V.int _) _ _); refine p_muS ⟨by decide +kernel, by decide +kernel, by decide +kernel⟩ ?_)
  | ((with_reducible show tDNewK _ _ _); refine i_dnew ?_; intro _ _ _ _ _)
  | ((with_reducible show rTupX _ [V.ref _] _ _); refine p_tupL (by walk_at "sq") ?_; intro _ _ _ _ _)
  | ((with_reducible show rAddX _ (V.ref _) (V.ref _) _ _); refine p_addL (by walk_at "lk") (by walk_at "lk") (by walk_at "sz") ?_; intro _ _ _ _ _)
  | with_reducible refine p_notB ?_ | with_reducible refine p_isB ?_)
local macro_rules | `(tactic| walk_at "go") => `(tactic| (walk_at "st"; (repeat walk_at "st")))

/-- a class made by one value and keywords, its __init__ may raise -/
structure MakP (P : Program) (w : World) (K : PySem.W.Frag) (mg : Str → Option Value) (base : Heap) (k : Nat) (x : Str) (C : Addr) (sp : Sp) (ks : List Str) (gV : List V → List V → List V) : Prop where
  ex : ∃ (f : Addr) (fd : FuncData) (ps : List Str) (g : List Value → List Value → List Value), Mk K C f ∧ FnOk P w K mg base (L2.CX P w) k f fd ps sp ∧ mg x = some (.ref C) ∧ KBn K fd ps 2 ks g gV
section
variable {X : Cx} {k j : Nat} {x : Str} {C : Addr} {sp : Sp} {ks : List Str} {gV : List V → List V → List V} {W : WX} {E : XK} {p pos : Pos} {e : Expr} {kws : List Keyword} {t tk : TA}
theorem pass_no {X : Cx} : Passes (L2.CX X.prog X.w) X E0 := fun _ _ _ _ _ _ _ c => by
  obtain ⟨_, _, _, _, _, _, _, _, _, _, _, _, z⟩ := c
  exact z.elim
theorem pe_mkP (c : MakP X.prog X.w X.K X.mg X.base k x C sp ks gV) (hr : Room j X.A) (hk : k + 1 ≤ j) (hx : Passes (L2.CX X.prog X.w) X E) (hg : Gl X x) (ha : PA X [e] t) (hkw : PK X kws tk)
    (hall : (backToKw pos (keywordEach kws X.env)).all (·.1.isSome) = true := by rfl) (hks : (backToKw pos (keywordEach kws X.env)).filterMap (·.1) = ks := by rfl) (hdb : (x == ("__debug__" : Str)) = false := by decide)
    (he : starEach [e] X.env = (false, eval e X.env) :: starEach [] X.env := by rfl) (hpl : ((backTo pos (starEach [e] X.env)).any (·.1) || (backToKw pos (keywordEach kws X.env)).any (·.1.isNone)) = false := by rfl) : PE X (.Call (.Name x p) [e] kws pos) (tMakeK C 1 ks.length sp gV E t tk) := by
  obtain ⟨f, fd, ps, g, M, F, hm, b⟩ := c.ex
  exact pe_makeK M F (hr.mono hk) hg hm b hx ha hkw hall hks hdb he hpl
end
section
variable {P : Program} {w : World} {K : PySem.W.Frag} {mg : Str → Option Value} {base : Heap} {C CT CP CN : Addr}
/-- the empty tuple that the text holds stands for the parents left out -/
def Emp (K : PySem.W.Frag) (T0 : Addr) : Prop := ∃ o n, K.lookup T0 = some o ∧ o.cls = .type "tuple" ∧ o.data = .seq #[] n
theorem Emp.par {K : PySem.W.Frag} {T0 : Addr} (h : Emp K T0) {H : Hp} : ParV K H (.ref T0) true [] := by
  obtain ⟨o, n, h1, h2, h3⟩ := h
  exact .kt h1 h2 (.inr ⟨o, #[], n, h1, h2, h3, by decide, .nil⟩)
theorem x_ver2 (T : VerF K mg C) (FT : ErrF K mg "InvalidText" "value" "InvalidText.__init__" CT s_InvalidText___init__) (FP : ErrF K mg "InvalidParents" "value" "InvalidParents.__init__" CP s_InvalidParents___init__) (FN : ErrF K mg "InvalidName" "value" "InvalidName.__init__" CN s_InvalidName___init__) :
    MakP P w K mg base 5 "Version" C (spVer K C CT CP CN) ["parents", "author"] (fun vs zs => vs ++ zs) := by
  obtain ⟨f, fd, T0, M, Fd, D0, t0, G⟩ := c_ver (P := P) (w := w) (base := base) T FT FP FN
  obtain ⟨oc, od, kV, doc, pm, an, cdv, ct, osl, rfl, lk, hcd⟩ := Fd.ex
  refine ⟨f, _, _, fun us ws => us ++ ws, M, G, T.v_Version, fun s us ws _ l1 l2 => ?_, fun a b => a.append b⟩
  match us, ws, l1, l2 with
  | [a, b], [c, d], _, _ => exact .of_eq rfl
theorem x_ver1 (T : VerF K mg C) (FT : ErrF K mg "InvalidText" "value" "InvalidText.__init__" CT s_InvalidText___init__) (FP : ErrF K mg "InvalidParents" "value" "InvalidParents.__init__" CP s_InvalidParents___init__) (FN : ErrF K mg "InvalidName" "value" "InvalidName.__init__" CN s_InvalidName___init__) :
    ∃ T0, Emp K T0 ∧ MakP P w K mg base 5 "Version" C (spVer K C CT CP CN) ["author"] (fun vs zs => vs ++ [.ref T0] ++ zs) := by
  obtain ⟨f, fd, T0, M, Fd, D0, t0, G⟩ := c_ver (P := P) (w := w) (base := base) T FT FP FN
  obtain ⟨mv, b⟩ := D0.kbinds0 (ps := ["self", "lines", "parents", "author"]) 2 ["author"] [("parents", .ref T0)] (fun us ms ws => us ++ ms ++ ws) (by simp) (by simp) (fun r1 r2 r3 => (r1.append r2).append r3)
    (fun D doc pm an cdv ct us mv ws l1 l2 l3 => match us, mv, ws, l1, l2, l3 with | [a, b], [c], [d], _, _, _ => ⟨_, _, _, _, _, _, rfl, rfl, rfl⟩)
  exact ⟨T0, t0, f, _, _, _, M, G, T.v_Version, b⟩
theorem x_ver0 (T : VerF K mg C) (FT : ErrF K mg "InvalidText" "value" "InvalidText.__init__" CT s_InvalidText___init__) (FP : ErrF K mg "InvalidParents" "value" "InvalidParents.__init__" CP s_InvalidParents___init__) (FN : ErrF K mg "InvalidName" "value" "InvalidName.__init__" CN s_InvalidName___init__) :
    ∃ T0, Emp K T0 ∧ MakX P w K mg base 5 "Version" C (spVer K C CT CP CN) [.ref T0, .str "anon"] := by
  obtain ⟨f, fd, T0, M, Fd, D0, t0, G⟩ := c_ver (P := P) (w := w) (base := base) T FT FP FN
  obtain ⟨ds, r, b⟩ := D0.binds0 (ps := ["self", "lines", "parents", "author"]) 2 (by simp) rfl (fun D doc pm an cdv ct us ks l1 l2 => match us, ks, l1, l2 with | [a, b], [c, d], _, _ => ⟨_, _, _, _, _, _, rfl, rfl, _, _, _, _, _, _, rfl, rfl, rfl⟩)
  exact ⟨T0, t0, f, fd, _, ds, M, G, T.v_Version, b, r⟩
end
end Pk

namespace Pk
open PySem PySem.Spec PyProof.Rows L2
local macro_rules | `(tactic| walk_at "sz") => `(tactic| first | assumption | decide +kernel | exact Nat.le_trans (Nat.le_of_ble_eq_true rfl) (show 100000 ≤ sizeLine by decide) | exact Nat.le_trans (by omega) (show 100000 ≤ sizeLine by decide) | (show _ ≤ sizeLine; exact Nat.le_trans (by (simp only [List.length_append, List.length_map, List.length_cons, List.length_nil]; omega)) (show 100000 ≤ sizeLine by decide)))
local macro_rules | `(tactic| walk_at "mul") => `(tactic| first | exact Or.inl (Or.inl ⟨by omega, by omega⟩) | exact Or.inl (Or.inr ⟨by omega, by omega⟩))
local macro_rules | `(tactic| walk_at "ci") => `(tactic| first | assumption | exact (by decide : (0 : Int) < _) | (show (0 : Int) < _; omega) | exact ⟨by assumption, by assumption⟩ | exact ⟨by decide, by decide⟩ | exact ⟨by decide, by decide, by omega⟩)
local macro_rules | `(tactic| walk_at "lk") => `(tactic| first | assumption | exact upd_same | ((refine Eq.trans (upd_ne (by first | assumption | exact Ne.symm (by assumption))) ?_); walk_at "lk") | exact Same.get (by assumption) (by walk_at "lk") | exact Keep.get (by assumption) (by walk_at "lk") (by assumption) (by assumption))
local macro_rules | `(tactic| walk_at "sq") => `(tactic| first | assumption | exact SqL.of (by walk_at "lk") | exact Same.seq (by assumption) (by walk_at "sq"))
local macro_rules | `(tactic| walk_at "stt") => `(tactic| exact SqT.of (by walk_at "lk"))
local macro_rules | `(tactic| walk_at "kd") => `(tactic| first | assumption | exact Kd.str _ (by first | assumption | omega | decide) | exact Kd.bl _ | exact Kd.int _ | exact Kd.non | exact Kd.lst (by walk_at "lk") | exact Kd.tup (by walk_at "lk") | exact Kd.dct (by walk_at "lk") | exact Kd.same (by assumption) (by walk_at "kd"))
local macro_rules | `(tactic| walk_at "sm") => `(tactic| first | assumption | exact Same.refl _ | (refine Same.trans ?_ (by assumption); walk_at "sm"))
local macro_rules | `(tactic| walk_at "st") => `(tactic| first
  | with_reducible refine i_seq ?_ | with_reducible refine i_asg ?_ | with_reducible refine i_ret ?_ | with_reducible refine i_op ?_
  | ((with_reducible show tVar _ _ _ _); refine i_var rfl ?_)
  | with_reducible refine i_c ?_ | with_reducible refine i_cb ?_ | with_reducible refine i_call ?_ | with_reducible refine i_cons ?_ | with_reducible refine i_nil ?_
  | with_reducible refine i_name ?_ | with_reducible refine i_sub ?_ | with_reducible refine i_drop ?_ | with_reducible refine i_ifs ?_ | with_reducible refine i_ife ?_
  | with_reducible refine i_test ?_ | with_reducible refine i_tru ?_ | with_reducible refine i_and ?_ | with_reducible refine i_or ?_ | with_reducible refine i_not ?_
  | with_reducible refine i_andV ?_ | with_reducible refine i_orV ?_ | with_reducible refine i_notV ?_ | with_reducible refine i_un ?_
  | with_reducible refine i_bl ?_ | with_reducible refine i_trB ?_ | with_reducible refine i_next ?_
  | with_reducible refine iteF ?_ | with_reducible refine iteT ?_
  | with_reducible refine i_lstF ?_ | with_reducible refine i_tupF ?_
  | with_reducible refine p_addI ?_ | with_reducible refine p_I0 ?_ | with_reducible refine p_U ?_
  | with_reducible refine p_ltI ?_ | with_reducible refine p_leI ?_ | with_reducible refine p_gtI ?_ | with_reducible refine p_geI ?_
  | with_reducible refine p_ltS ?_ | with_reducible refine p_leS ?_ | with_reducible refine p_gtS ?_
  | with_reducible refine p_eqI ?_ | with_reducible refine p_neI ?_ | with_reducible refine p_int ?_
  | ((with_reducible show rMuXX (V.int _) (V.int _) _ _); refine p_muI (by walk_at "mul") ?_)
  | ((with_reducible show rI _ _ (V.int _) (V.int _) _ _); refine p_I (by walk_at "ci") ?_)
  | ((with_reducible show rIx _ (V.ref _) (V.int _) _ _); (first | refine p_ixL (by walk_at "sq") (by first | exact rfl | assumption) ?_ | refine p_ixT (SqT.of (by walk_at "lk")) (by first | exact rfl | assumption) ?_))
  | ((with_reducible show rSetL (V.ref _) (V.int _) _ _ _); refine p_setL (by walk_at "lk") (by first | exact rfl | assumption) ?_)
  | ((with_reducible show rLenX _ [V.ref _] _ _); (first | refine p_lenL (by walk_at "sq") ?_ | refine p_lenT (SqT.of (by walk_at "lk")) ?_))
  | ((with_reducible show rLenX _ [V.str _] _ _); refine p_lenS (by walk_at "sz") ?_)
  | with_reducible refine i_lc ?_ | with_reducible refine i_for ?_ | with_reducible refine i_itl ?_ | with_reducible refine i_itt ?_ | with_reducible refine i_itr ?_ | with_reducible refine i_its ?_
  | ((with_reducible show ∃ _, V.ref _ = V.ref _ ∧ (∃ _, SqL _ _ _ _) ∧ _); refine p_itl (by walk_at "sq") ?_)
  | ((with_reducible show ∃ _, V.ref _ = V.ref _ ∧ (∃ _, SqT _ _ _ _) ∧ _); refine p_itt (by walk_at "stt") ?_) | with_reducible refine p_its ?_
  | ((with_reducible show ∃ _, [V.int _] = [V.int _] ∧ _); refine p_itr (by omega) (by omega) ?_)
  | with_reducible refine i_sl ?_ | with_reducible refine i_np ?_ | with_reducible refine i_pt ?_ | with_reducible refine i_in ?_
  | ((with_reducible show rSlXX _ (V.ref _) _ _ _ _); refine p_slL (by walk_at "sq") ?_; intro _ _ _ _ _)
  | ((with_reducible show rSlXX _ (V.str _) _ _ _ _); refine p_slS (by walk_at "sz") ?_)
  | ((with_reducible show rIsi _ [_, V.ty "str"] _ _); refine p_isStr (by walk_at "kd") ?_)
  | ((with_reducible show rIsi _ [_, V.ty "int"] _ _); refine p_isInt (by walk_at "kd") ?_)
  | ((with_reducible show rIsi _ [_, V.ty "bool"] _ _); refine p_isBool (by walk_at "kd") ?_)
  | ((with_reducible show rIsiT _ [_, V.ref _] _ _); refine p_isLT (by walk_at "lk") (by walk_at "kd") ?_)
  | with_reducible refine i_chain ?_ | with_reducible refine i_m1 ?_ | with_reducible refine i_m0 ?_ | with_reducible refine i_str ?_
  | ((with_reducible show LstK _ _ _); refine p_lstK (by walk_at "sz") ?_; intro _ _ _ _ _)
  | ((with_reducible show TupK _ _ _); refine p_tupK (by walk_at "sz") ?_; intro _ _ _ _ _)
  | ((with_reducible show (if _ = true then _ else _)); (first | refine ifT' (by first | assumption | exact rfl) ?_ | refine ifF' (by first | assumption | exact rfl) ?_))
  | ((with_reducible show rEqX _ (V.bl _) (V.bl _) _ _); refine p_eqS rfl ?_) | ((with_reducible show rNeX _ (V.bl _) (V.bl _) _ _); refine p_neS rfl ?_)
  | ((with_reducible show rEqX _ (V.ref _) (V.ref _) _ _); refine p_eqNil (by walk_at "lk") (by walk_at "lk") ?_) | ((with_reducible show rNeX _ (V.ref _) (V.ref _) _ _); refine p_neNil (by walk_at "lk") (by walk_at "lk") ?_)
  | ((with_reducible show rAddX _ (V.str _) (V.str _) _ _); refine p_addS (by walk_at "sz") ?_)
  | ((with_reducible show rMuXX (V.str _) (V.int _) _ _); refine p_muS ⟨by decide +kernel, by decide +kernel, by decide +kernel⟩ ?_)
  | ((with_reducible show tDNewK _ _ _); refine i_dnew ?_; intro _ _ _ _ _)
  | ((with_reducible show rTupX _ [V.ref _] _ _); refine p_tupL (by walk_at "sq") ?_; intro _ _ _ _ _)
  | ((with_reducible show rAddX _ (V.ref _) (V.ref _) _ _); refine p_addL (by walk_at "lk") (by walk_at "lk") (by walk_at "sz") ?_; intro _ _ _ _ _)
  | with_reducible refine p_notB ?_ | with_reducible refine p_isB ?_)
local macro_rules | `(tactic| walk_at "go") => `(tactic| (walk_at "st"; (repeat walk_at "st")))

local macro_rules | `(tactic| walk_at "gr") => `(tactic| walk_at "go")
abbrev s__law_exact : Stmt := top 39
abbrev N__law_exact : List Str := ["found", "due"]
theorem sc__law_exact : FnScope ["found", "due"] ["found", "due"] (defScope s__law_exact) := ⟨rfl, rfl, rfl, by decide +kernel, rfl, by decide +kernel, by decide +kernel⟩
structure ExF (K : PySem.W.Frag) (mg : Str → Option Value) : Prop where
  n_isinstance : mg "isinstance" = none
  n_tuple : mg "tuple" = none
  n_repr : mg "repr" = none
  d_exact : DefAt K mg "_law_exact" s__law_exact
section
variable {P : Program} {w : World} {K : PySem.W.Frag} {mg : Str → Option Value} {base : Heap}
theorem piled_le {B : Nat} : ∀ ts : List Str, (∀ t ∈ ts, t.length ≤ B) → piled ts ≤ ts.length * (B + 2)
  | [], _ => by simp [piled]
  | t :: r, h => by
    have h1 := piled_le r fun x hx => h x (List.mem_cons_of_mem _ hx)
    have h2 := h t List.mem_cons_self
    rw [piled_cons, List.length_cons, Nat.succ_mul]
    omega
theorem tup_len {ds : List PyData} (hl : ds.length ≤ 20) (h : ∀ d ∈ ds, d.shown.length ≤ 2000) : (PyData.tuple ds).shown.length ≤ sizeLine := by
  have big : 100000 ≤ sizeLine := by decide
  have e : (PyData.tuple ds).shown = tupleText (ds.map PyData.shown) := by simp only [PyData.shown, shownAll_eq_map]
  rw [e]
  have p1 : piled (ds.map PyData.shown) ≤ (ds.map PyData.shown).length * 2002 := piled_le _ fun t ht => by
    obtain ⟨d, hd, rfl⟩ := List.mem_map.mp ht
    exact h d hd
  rw [List.length_map] at p1
  have j : (Str.join ", " (ds.map PyData.shown)).length ≤ 20 * 2002 := by
    by_cases z : ds.map PyData.shown = []
    · rw [z]
      decide
    · have := join_length_add _ z
      have := Nat.mul_le_mul_right 2002 hl
      omega
  unfold tupleText
  rw [app_len, app_len]
  have a1 : (Str.ofString "(").length = 1 := rfl
  have a2 : (Str.ofString ",)").length = 2 := rfl
  have a3 : (Str.ofString ")").length = 1 := rfl
  split <;> omega
theorem rda_strs {H : Hp} : ∀ ss : List Str, RdA H (ss.map V.str) (ss.map PyData.str)
  | [] => .nil
  | s :: r => .cons (.str s) (rda_strs r)
theorem rda_ints {H : Hp} : ∀ ns : List Int, RdA H (ns.map V.int) (ns.map PyData.int)
  | [] => .nil
  | n :: r => .cons (.int n) (rda_ints r)
theorem showable_strs : ∀ ss : List Str, PyData.showableAll (ss.map PyData.str) = true
  | [] => rfl
  | s :: r => by
    rw [List.map_cons, PyData.showableAll, showable_strs r]
    rfl
theorem showable_ints : ∀ {ns : List Int}, (∀ n ∈ ns, n.natAbs.log2 < 1920) → PyData.showableAll (ns.map PyData.int) = true
  | [], _ => rfl
  | n :: r, h => by
    rw [List.map_cons, PyData.showableAll, showable_ints fun m hm => h m (List.mem_cons_of_mem _ hm), Bool.and_true, PyData.showable]
    exact decide_eq_true (h n List.mem_cons_self)
theorem hasDict_strs : ∀ ss : List Str, PyData.hasDictAll (ss.map PyData.str) = false
  | [] => rfl
  | s :: r => by
    rw [List.map_cons, PyData.hasDictAll, hasDict_strs r]
    rfl
theorem hasDict_ints : ∀ ns : List Int, PyData.hasDictAll (ns.map PyData.int) = false
  | [] => rfl
  | s :: r => by
    rw [List.map_cons, PyData.hasDictAll, hasDict_ints r]
    rfl
theorem shw_strs {H : Hp} {a : Addr} {ss : List Str} (e : H a = some (.tup (ss.map V.str))) (hl : ss.length ≤ 20) (h : ∀ s ∈ ss, (reprText s).length ≤ 2000) : Shw H (.ref a) (.tuple (ss.map PyData.str)) := by
  refine .inl ⟨.tup e (rda_strs ss), showable_strs ss, hasDict_strs ss, ?_, tup_len (by rw [List.length_map]; exact hl) fun d hd => ?_⟩
  · simp only [PyData.depth, deep_strs0]
    decide
  · obtain ⟨s, hs, rfl⟩ := List.mem_map.mp hd
    exact h s hs
theorem shw_ints {H : Hp} {a : Addr} {ns : List Int} (e : H a = some (.tup (ns.map V.int))) (hl : ns.length ≤ 20) (h : ∀ n ∈ ns, n.natAbs.log2 < 1500) : Shw H (.ref a) (.tuple (ns.map PyData.int)) := by
  refine .inl ⟨.tup e (rda_ints ns), showable_ints fun n hn => Nat.lt_trans (h n hn) (by decide), hasDict_ints ns, ?_, tup_len (by rw [List.length_map]; exact hl) fun d hd => ?_⟩
  · simp only [PyData.depth, depthAll_ints]
    decide
  · obtain ⟨n, hn, rfl⟩ := List.mem_map.mp hd
    exact Nat.le_trans (PyProof.Rows.int_text_len_1921 (Nat.lt_trans (h n hn) (by decide))) (by decide)
def spEx : Sp := fun vs H Q _ => ∃ L D xs dat, vs = [.ref L, .ref D] ∧ H L = some (.tup xs) ∧ H D = some (.lst xs) ∧ (∀ (H' : Hp) a, H' a = some (.tup xs) → Shw H' (.ref a) dat) ∧ ∀ H', Same H H' → Q (.bl true) H'
theorem c__law_exact (T : ExF K mg) : CalG P w K mg base CX0 2 "_law_exact" spEx := by
  refine calg T.d_exact sc__law_exact (fun _ _ _ _ _ _ us hl => match us, hl with | [_, _], _ => rfl) (fun vs H Q E h => ?_) (fun f cdv A outer s H vs Q E gd hr h => ?_)
  · obtain ⟨L, D, xs, dat, rfl, _⟩ := h
    rfl
  · obtain ⟨L, D, xs, dat, rfl, eL, eD, sh, q⟩ := h
    refine ⟨_, (pss_one (ps_ret (pe_and (pe_callB (r := rIsi K) call_isi (by rfl) T.n_isinstance (by decide +kernel) (pa_cons (pv 0) (pa_cons (pe_bltn (v := .ty "tuple") (by rfl) T.n_tuple (by decide +kernel) rfl) pa_nil))) (pe_one (pe_cmpR (r := rEqX K) (op_eqX hr.units) (pe_callB (r := rReprV) (call_reprV hr gd) (by rfl) T.n_repr (by decide +kernel) (pa_cons (pv 0) pa_nil)) (pe_callB (r := rReprV) (call_reprV hr gd) (by rfl) T.n_repr (by decide +kernel) (pa_cons (pe_callTy (r := rTupX K) call_tupX (by rfl) T.n_tuple (by decide +kernel) (pa_cons (pv 1) pa_nil)) pa_nil)) (nomark _)))))), ?_⟩
    walk_at "gr"
    refine p_isi (a := .tup) .tup (by decide) (.tup eL) ?_
    walk_at "gr"
    refine ⟨.ref L, dat, rfl, sh H L eL, ?_⟩
    walk_at "gr"
    rename_i M H1 nM s1 e1
    refine ⟨.ref M, dat, rfl, sh H1 M e1, ?_⟩
    refine p_eqS rfl ?_
    rw [decide_eq_true rfl]
    exact q _ s1
end
end Pk

namespace Pk
open PySem PySem.Spec PyProof.Rows L2
local macro_rules | `(tactic| walk_at "sz") => `(tactic| first | assumption | decide +kernel | exact Nat.le_trans (Nat.le_of_ble_eq_true rfl) (show 100000 ≤ sizeLine by decide) | exact Nat.le_trans (by omega) (show 100000 ≤ sizeLine by decide) | (show _ ≤ sizeLine; exact Nat.le_trans (by (simp only [List.length_append, List.length_map, List.length_cons, List.length_nil]; omega)) (show 100000 ≤ sizeLine by decide)))
local macro_rules | `(tactic| walk_at "mul") => `(tactic| first | exact Or.inl (Or.inl ⟨by omega, by omega⟩) | exact Or.inl (Or.inr ⟨by omega, by omega⟩))
local macro_rules | `(tactic| walk_at "ci") => `(tactic| first | assumption | exact (by decide : (0 : Int) < _) | (show (0 : Int) < _; omega) | exact ⟨by assumption, by assumption⟩ | exact ⟨by decide, by decide⟩ | exact ⟨by decide, by decide, by omega⟩)
local macro_rules | `(tactic| walk_at "lk") => `(tactic| first | assumption | exact upd_same | ((refine Eq.trans (upd_ne (by first | assumption | exact Ne.symm (by assumption))) ?_); walk_at "lk") | exact Same.get (by assumption) (by walk_at "lk") | exact Keep.get (by assumption) (by walk_at "lk") (by assumption) (by assumption))
local macro_rules | `(tactic| walk_at "sq") => `(tactic| first | assumption | exact SqL.of (by walk_at "lk") | exact Same.seq (by assumption) (by walk_at "sq"))
local macro_rules | `(tactic| walk_at "stt") => `(tactic| exact SqT.of (by walk_at "lk"))
local macro_rules | `(tactic| walk_at "kd") => `(tactic| first | assumption | exact Kd.str _ (by first | assumption | omega | decide) | exact Kd.bl _ | exact Kd.int _ | exact Kd.non | exact Kd.lst (by walk_at "lk") | exact Kd.tup (by walk_at "lk") | exact Kd.dct (by walk_at "lk") | exact Kd.same (by assumption) (by walk_at "kd"))
local macro_rules | `(tactic| walk_at "sm") => `(tactic| first | assumption | exact Same.refl _ | (refine Same.trans ?_ (by assumption); walk_at "sm"))
local macro_rules | `(tactic| walk_at "st") => `(tactic| first
  | with_reducible refine i_seq ?_ | with_reducible refine i_asg ?_ | with_reducible refine i_ret ?_ | with_reducible refine i_op ?_
  | ((with_reducible show tVar _ _ _ _); refine i_var rfl ?_)
  | with_reducible refine i_c ?_ | with_reducible refine i_cb ?_ | with_reducible refine i_call ?_ | with_reducible refine i_cons ?_ | with_reducible refine i_nil ?_
  | with_reducible refine i_name ?_ | with_reducible refine i_sub ?_ | with_reducible refine i_drop ?_ | with_reducible refine i_ifs ?_ | with_reducible refine i_ife ?_
  | with_reducible refine i_test ?_ | with_reducible refine i_tru ?_ | with_reducible refine i_and ?_ | with_reducible refine i_or ?_ | with_reducible refine i_not ?_
  | with_reducible refine i_andV ?_ | with_reducible refine i_orV ?_ | with_reducible refine i_notV ?_ | with_reducible refine i_un ?_
  | with_reducible refine i_bl ?_ | with_reducible refine i_trB ?_ | with_reducible refine i_next ?_
  | with_reducible refine iteF ?_ | with_reducible refine iteT ?_
  | with_reducible refine i_lstF ?_ | with_reducible refine i_tupF ?_
  | with_reducible refine p_addI ?_ | with_reducible refine p_I0 ?_ | with_reducible refine p_U ?_
  | with_reducible refine p_ltI ?_ | with_reducible refine p_leI ?_ | with_reducible refine p_gtI ?_ | with_reducible refine p_geI ?_
  | with_reducible refine p_ltS ?_ | with_reducible refine p_leS ?_ | with_reducible refine p_gtS ?_
  | with_reducible refine p_eqI ?_ | with_reducible refine p_neI ?_ | with_reducible refine p_int ?_
  | ((with_reducible show rMuXX (V.int _) (V.int _) _ _); refine p_muI (by walk_at "mul") ?_)
  | ((with_reducible show rI _ _ (V.int _) (V.int _) _ _); refine p_I (by walk_at "ci") ?_)
  | ((with_reducible show rIx _ (V.ref _) (V.int _) _ _); (first | refine p_ixL (by walk_at "sq") (by first | exact rfl | assumption) ?_ | refine p_ixT (SqT.of (by walk_at "lk")) (by first | exact rfl | assumption) ?_))
  | ((with_reducible show rSetL (V.ref _) (V.int _) _ _ _); refine p_setL (by walk_at "lk") (by first | exact rfl | assumption) ?_)
  | ((with_reducible show rLenX _ [V.ref _] _ _); (first | refine p_lenL (by walk_at "sq") ?_ | refine p_lenT (SqT.of (by walk_at "lk")) ?_))
  | ((with_reducible show rLenX _ [V.str _] _ _); refine p_lenS (by walk_at "sz") ?_)
  | with_reducible refine i_lc ?_ | with_reducible refine i_for ?_ | with_reducible refine i_itl ?_ | with_reducible refine i_itt ?_ | with_reducible refine i_itr ?_ | with_reducible refine i_its ?_
  | ((with_reducible show ∃ _, V.ref _ = V.ref _ ∧ (∃ _, SqL _ _ _ _) ∧ _); refine p_itl (by walk_at "sq") ?_)
  | ((with_reducible show ∃ _, V.ref _ = V.ref _ ∧ (∃ _, SqT _ _ _ _) ∧ _); refine p_itt (by walk_at "stt") ?_) | with_reducible refine p_its ?_
  | ((with_reducible show ∃ _, [V.int _] = [V.int _] ∧ _); refine p_itr (by omega) (by omega) ?_)
  | with_reducible refine i_sl ?_ | with_reducible refine i_np ?_ | with_reducible refine i_pt ?_ | with_reducible refine i_in ?_
  | ((with_reducible show rSlXX _ (V.ref _) _ _ _ _); refine p_slL (by walk_at "sq") ?_; intro _ _ _ _ _)
  | ((with_reducible show rSlXX _ (V.str _) _ _ _ _); refine p_slS (by walk_at "sz") ?_)
  | ((with_reducible show rIsi _ [_, V.ty "str"] _ _); refine p_isStr (by walk_at "kd") ?_)
  | ((with_reducible show rIsi _ [_, V.ty "int"] _ _); refine p_isInt (by walk_at "kd") ?_)
  | ((with_reducible show rIsi _ [_, V.ty "bool"] _ _); refine p_isBool (by walk_at "kd") ?_)
  | ((with_reducible show rIsiT _ [_, V.ref _] _ _); refine p_isLT (by walk_at "lk") (by walk_at "kd") ?_)
  | with_reducible refine i_chain ?_ | with_reducible refine i_m1 ?_ | with_reducible refine i_m0 ?_ | with_reducible refine i_str ?_
  | ((with_reducible show LstK _ _ _); refine p_lstK (by walk_at "sz") ?_; intro _ _ _ _ _)
  | ((with_reducible show TupK _ _ _); refine p_tupK (by walk_at "sz") ?_; intro _ _ _ _ _)
  | ((with_reducible show (if _ = true then _ else _)); (first | refine ifT' (by first | assumption | exact rfl) ?_ | refine ifF' (by first | assumption | exact rfl) ?_))
  | ((with_reducible show rEqX _ (V.bl _) (V.bl _) _ _); refine p_eqS rfl ?_) | ((with_reducible show rNeX _ (V.bl _) (V.bl _) _ _); refine p_neS rfl ?_)
  | ((with_reducible show rEqX _ (V.ref _) (V.ref _) _ _); refine p_eqNil (by walk_at "lk") (by walk_at "lk") ?_) | ((with_reducible show rNeX _ (V.ref _) (V.ref _) _ _); refine p_neNil (by walk_at "lk") (by walk_at "lk") ?_)
  | ((with_reducible show rAddX _ (V.str _) (V.str _) _ _); refine p_addS (by walk_at "sz") ?_)
  | ((with_reducible show rMuXX (V.str _) (V.int _) _ _); refine p_muS ⟨by decide +kernel, by decide +kernel, by decide +kernel⟩ ?_)
  | ((with_reducible show tDNewK _ _ _); refine i_dnew ?_; intro _ _ _ _ _)
  | ((with_reducible show rTupX _ [V.ref _] _ _); refine p_tupL (by walk_at "sq") ?_; intro _ _ _ _ _)
  | ((with_reducible show rAddX _ (V.ref _) (V.ref _) _ _); refine p_addL (by walk_at "lk") (by walk_at "lk") (by walk_at "sz") ?_; intro _ _ _ _ _)
  | with_reducible refine p_notB ?_ | with_reducible refine p_isB ?_)
local macro_rules | `(tactic| walk_at "go") => `(tactic| (walk_at "st"; (repeat walk_at "st")))

local macro_rules | `(tactic| walk_at "rx") => `(tactic| first
  | with_reducible refine i_par ?_ | ((with_reducible show ∃ _, [V.int _] = [V.int _] ∧ _); refine ⟨_, rfl, ?_⟩)
  | with_reducible refine i_sfl ?_ | with_reducible refine i_fl ?_ | with_reducible refine i_pr ?_)
local macro_rules | `(tactic| walk_at "gr") => `(tactic| repeat (first | walk_at "st" | walk_at "rx"))
section
variable {K : PySem.W.Frag} {Cs : Nat → Addr} {CL CN : Addr} {Tb : List (Addr × Str)} {t : XK → TE} {σ : L2.St} {H : Hp} {Q : VK}
/-- _law_caught(lambda: ..) where the lambda raises an error of the j-th class, its value shown as z -/
theorem p_lam (hT : LamX.Tabs Tb H) (j : Nat) (z : Str) (hj : j < 13) (h : ∀ H1 (E1 : XK) (Q1 : VK), Ext Tb H H1 → (∀ cls d H', ErrV K Cs CL j z (Same H1) cls d H' → E1 cls d H') → t E1 σ H1 Q1)
    (q : ∀ p H', Ext Tb H H' → LamX.Tabs Tb H' → H' p = some (.lst [.str (kWord j), .str z]) → Q (.ref p) H') : LamX.tLam Tb (TCaught K Cs CL) t σ H Q := by
  refine ⟨hT, fun H1 e1 t1 => ⟨j, z, hj, fun E1 Q1 hE _ => ?_⟩⟩
  have x1 : Ext Tb H H1 := ⟨e1, fun _ => t1⟩
  refine h H1 E1 Q1 x1 fun cls d H' y => hE cls d H' ?_
  obtain ⟨D, dd, fs, v, dat, c1, c2, c3, c4, c5, c6, c7, c8, s1⟩ := y
  refine ⟨D, dd, fs, v, dat, c1, c2, c3, c4, c5, c6, c7, c8, fun p H'' s2 _ e => ?_⟩
  have x2 : Ext Tb H H'' := x1.trans (Ext.of (s1.trans s2))
  exact q p H'' x2 (x2.tab hT) e
theorem p_raiseV {x : V} {dat : PyData} {j : Nat} {z : Str} {E1 : XK} (kf : KindF K Cs CL CN j) (no : PySem.W.findIn K (.ref CN) "value" = some none) (sh : Shw H x dat) (hz : dat.shown = z) (hE : ∀ cls d H', ErrV K Cs CL j z (Same H) cls d H' → E1 cls d H') : RaisesV CN x H E1 := fun d H' _ s e =>
  hE _ _ _ ⟨CN, d, _, x, dat, rfl, rfl, e, kf, no, rfl, sh.same s, hz, s⟩
theorem lay2 {x y : Str} (hx : PyData.strOk x = true) (hy : PyData.strOk y = true) : (PyData.list [.str x, .str y]).canLay0 = true := by simp [PyData.canLay0, PyData.canLayAll0, hx, hy]
theorem shaped2 {x y : Str} (hx : PyData.strOk x = true) (hy : PyData.strOk y = true) : SeqAt.shaped (.list [.str x, .str y]) = true := by
  show ((PyData.list [.str x, .str y]).canLay0 && decide ((PyData.list [.str x, .str y]).depth ≤ 64)) = true
  rw [lay2 hx hy]
  rfl
theorem p_strs {a b : Addr} {x y : Str} (hx : PyData.strOk x = true) (hy : PyData.strOk y = true) (ha : H a = some (.lst [.str x, .str y])) (hb : H b = some (.lst [.str x, .str y])) (q : Q (.bl false) H) : rNeX K (.ref a) (.ref b) H Q := by
  refine .inr (.inl ⟨.list [.str x, .str y], .list [.str x, .str y], .lst (SqL.of ha) (.cons (.str x) (.cons (.str y) .nil)), .lst (SqL.of hb) (.cons (.str x) (.cons (.str y) .nil)), shaped2 hx hy, shaped2 hx hy, ?_⟩)
  rw [SeqAt.eqv_refl _ (lay2 hx hy)]
  exact q
theorem p_strsE {a b : Addr} {x y : Str} (hx : PyData.strOk x = true) (hy : PyData.strOk y = true) (ha : H a = some (.lst [.str x, .str y])) (hb : H b = some (.lst [.str x, .str y])) (q : Q (.bl true) H) : rEqX K (.ref a) (.ref b) H Q := by
  refine .inr (.inl ⟨.list [.str x, .str y], .list [.str x, .str y], .lst (SqL.of ha) (.cons (.str x) (.cons (.str y) .nil)), .lst (SqL.of hb) (.cons (.str x) (.cons (.str y) .nil)), shaped2 hx hy, shaped2 hx hy, ?_⟩)
  rw [SeqAt.eqv_refl _ (lay2 hx hy)]
  exact q
end

abbrev s__law_right : Stmt := top 44
abbrev N__law_right : List Str := ["version", "lines", "elders", "name", "odd", "k", "line", "parent"]
theorem sc__law_right : FnScope ["version", "lines", "elders", "name", "odd", "k", "line", "parent"] ["version", "lines", "elders", "name"] (defScope s__law_right) := ⟨rfl, rfl, rfl, by decide +kernel, rfl, by decide +kernel, by decide +kernel⟩
structure RtF (K : PySem.W.Frag) (mg : Str → Option Value) (C CI : Addr) (Cs : Nat → Addr) (CL cr : Addr) : Prop where
  M : VerM K mg C
  KT : KindT K mg Cs CL
  X : ExF K mg
  eI : ErrF K mg "InvalidNumber" "value" "InvalidNumber.__init__" CI s_InvalidNumber___init__
  kf : KindF K Cs CL CI 0
  n_len : mg "len" = none
  n_repr : mg "repr" = none
  n_range : mg "range" = none
  n_int : mg "int" = none
  n_sorted : mg "sorted" = none
  d_right : DefC K mg "_law_right" s__law_right cr
theorem RtF.cl {K : PySem.W.Frag} {mg : Str → Option Value} {C CI : Addr} {Cs : Nat → Addr} {CL cr : Addr} (T : RtF K mg C CI Cs CL cr) : Cls K C := T.M.V.I.cl
section
variable {P : Program} {w : World} {K : PySem.W.Frag} {mg : Str → Option Value} {base : Heap} {C CI : Addr} {Cs : Nat → Addr} {CL cr : Addr} {Tb : List (Addr × Str)} {Pr : Addr}
theorem p_lenV {H : Hp} {Q : VK} {v : Addr} {ls : List V} {ps : List Int} {z : Str} (h : VAt C H v ls ps z) (l : ls.length < 1000000) (q : Q (.int (ls.length : Nat)) H) : rLenO C (spVLen C) [.ref v] H Q := by
  obtain ⟨dx, L, M, e1, e2, e3⟩ := h
  exact ⟨v, dx, _, rfl, e1, v, ls, ps, z, rfl, ⟨dx, L, M, e1, e2, e3⟩, ls.length, rfl, l, q⟩
theorem p_inV {H : Hp} {Q : VK} {v : Addr} {ls : List V} {ps : List Int} {z : Str} {y : V} {ky : Kn} {g : Bool → Bool} (h : VAt C H v ls ps z) (fl : ls.all flatV = true) (hy : Kd H y ky) (q : Q (.bl (g (hasV ls y))) H) : rInO C (spHas C) g y (.ref v) H Q := by
  obtain ⟨dx, L, M, e1, e2, e3⟩ := h
  exact ⟨v, dx, _, rfl, e1, v, ls, ps, z, y, ky, rfl, ⟨dx, L, M, e1, e2, e3⟩, fl, hy, _, rfl, q⟩
theorem i_ixO {sp : Sp} {E : XK} {ta tb : TE} {σ : L2.St} {H : Hp} {Q : VK} (h : ta σ H fun x H1 => tb σ H1 fun y H2 => ∃ a dx fs, x = .ref a ∧ H2 a = some (.ins C dx fs) ∧ sp [.ref a, y] H2 Q E) : tIxO C sp E ta tb σ H Q := h
theorem p_getV {H : Hp} {Q : VK} {E : XK} {v : Addr} {ls : List V} {ps : List Int} {z : Str} {y : V} {ky : Kn} (h : VAt C H v ls ps z) (hy : Kd H y ky) (q : (indexB (ls.length : Nat) y = false ∧ RaisesV CI y H E) ∨ (∃ i u, y = .int i ∧ indexB (ls.length : Nat) y = true ∧ atI ls i = some u ∧ Q u H)) :
    ∃ a dx fs, V.ref v = .ref a ∧ H a = some (.ins C dx fs) ∧ spGet C CI [.ref a, y] H Q E := by
  obtain ⟨dx, L, M, e1, e2, e3⟩ := h
  exact ⟨v, dx, _, rfl, e1, v, ls, ps, z, y, ky, rfl, ⟨dx, L, M, e1, e2, e3⟩, hy, q⟩
theorem flat_strs (ss : List Str) : (ss.map V.str).all flatV = true := by
  rw [List.all_map, List.all_eq_true]
  intro _ _
  rfl
theorem has_strs (ss : List Str) (s : Str) : hasV (ss.map V.str) (.str s) = inV (.str s) (ss.map V.str) := rfl
theorem has_mem {ss : List Str} {s : Str} (h : s ∈ ss) : hasV (ss.map V.str) (.str s) = true := by
  rw [has_strs]
  unfold inV
  rw [List.any_map, List.any_eq_true]
  exact ⟨s, h, by simp [eqV]⟩
theorem has_no {ss : List Str} {s : Str} (h : ∀ t ∈ ss, (s == t) = false) : hasV (ss.map V.str) (.str s) = false := by
  rw [has_strs]
  unfold inV
  rw [List.any_map, List.any_eq_false]
  intro t ht
  have := h t ht
  simp only [Function.comp, eqV, Bool.not_eq_true, beq_eq_false_iff_ne, ne_eq] at this ⊢
  exact fun e => this e.symm
theorem shaped_strsL {ss : List Str} (h : ∀ s ∈ ss, PyData.strOk s = true) : SeqAt.shaped (.list (ss.map PyData.str)) = true := by
  show ((PyData.list (ss.map PyData.str)).canLay0 && decide ((PyData.list (ss.map PyData.str)).depth ≤ 64)) = true
  rw [show (PyData.list (ss.map PyData.str)).depth = 1 by simp only [PyData.depth, deep_strs0]]
  rw [show (PyData.list (ss.map PyData.str)).canLay0 = true from lay_strs ss h]
  rfl
theorem p_neL {H : Hp} {Q : VK} {a b : Addr} {ss : List Str} (h : ∀ s ∈ ss, PyData.strOk s = true) (ha : H a = some (.lst (ss.map V.str))) (hb : H b = some (.lst (ss.map V.str))) (q : Q (.bl false) H) : rNeX K (.ref a) (.ref b) H Q := by
  refine .inr (.inl ⟨_, _, .lst (SqL.of ha) dp_strs, .lst (SqL.of hb) dp_strs, shaped_strsL h, shaped_strsL h, ?_⟩)
  rw [SeqAt.eqv_refl _ (show (PyData.list (ss.map PyData.str)).canLay0 = true from lay_strs ss h)]
  exact q
def itemV (ss : List Str) : V → V
  | .int j => .str (ss.getD j.toNat Str.empty)
  | _ => .non
theorem items_all (ss : List Str) : ((intsV ss.length).filter fun _ => true).map (itemV ss) = ss.map V.str := by
  rw [List.filter_eq_self.mpr (fun _ _ => rfl), intsV, List.map_map]
  refine List.ext_getElem (by simp) fun i h1 h2 => ?_
  have hi : i < ss.length := by simpa using h2
  simp only [List.getElem_map, List.getElem_range, Function.comp, itemV, Int.toNat_natCast]
  rw [List.getD_eq_getElem?_getD, List.getElem?_eq_getElem hi]
  rfl
theorem VAt.ext {H H' : Hp} {a : Addr} {ls : List V} {ps : List Int} {z : Str} (e : Ext Tb H H') (h : VAt C H a ls ps z) : VAt C H' a ls ps z := by
  obtain ⟨dx, L, M, e1, e2, e3⟩ := h
  exact ⟨dx, L, M, e.get e1 (fun _ z => nomatch z), e.get e2 (fun _ z => nomatch z), e.get e3 (fun _ z => nomatch z)⟩
theorem small_ok : ∀ n ≤ 12, PyData.strOk (PyData.int (n : Nat)).shown = true ∧ (PyData.int (n : Nat)).shown.length ≤ 100 := by decide +kernel
theorem words_ok : ∀ s ∈ wordsS, PyData.strOk s = true ∧ (reprText s).length ≤ 2000 ∧ (Str.ofString "no such line" == s) = false := by decide +kernel
def spRt (C : Addr) (Tb : List (Addr × Str)) : Sp := fun vs H Q _ => ∃ (v D G : Addr) (ss : List Str) (ns ps : List Int) (z : Str), vs = [.ref v, .ref D, .ref G, .str z] ∧ VAt C H v (ss.map V.str) ps z ∧ H D = some (.lst (ss.map V.str)) ∧ H G = some (.lst (ns.map V.int)) ∧ ss.length ≤ 12 ∧ (∀ s ∈ ss, s ∈ wordsS) ∧ ns.length ≤ 3 ∧
  (∀ x ∈ ns, 0 ≤ x ∧ x < 10 ^ 20) ∧ ps.Perm ns ∧ ps.Pairwise (· ≤ ·) ∧ LamX.Tabs Tb H ∧ ∀ H', Ext Tb H H' → Q (.bl true) H'
theorem c__law_right (T : RtF K mg C CI Cs CL cr) (lf__law_right : LamF base mg Tb cr Pr "_law_right") : CalG P w K mg base CX0 12 "_law_right" (spRt C Tb) := by
  have m_lines : PropM P w K mg base 1 C "lines" (spLines C) := c_lines T.M
  have m_parents : PropM P w K mg base 1 C "parents" (spPars C) := c_pars T.M
  have m_author : PropM P w K mg base 1 C "author" (spAuth C) := c_auth T.M
  have o_len : OwnM P w K mg base 1 C "__len__" (spVLen C) := c_vlen T.M
  have o_in : OwnM P w K mg base 1 C "__contains__" (spHas C) := c_has T.M
  have g_ver : GetO P w K mg base (L2.CX P w) 4 C (spGet C CI) := c_get T.M T.eI
  have c__law_exact : CalG P w K mg base CX0 2 "_law_exact" spEx := c__law_exact T.X
  refine calgC T.d_right sc__law_right (fun _ _ _ _ _ _ us hl => match us, hl with | [_, _, _, _], _ => rfl) (fun vs H Q E h => ?_) (fun f A outer s H vs Q E gd hr h => ?_)
  · obtain ⟨v, D, G, ss, ns, ps, z, rfl, _⟩ := h
    rfl
  · obtain ⟨v, D, G, ss, ns, ps, z, rfl, hV, eD, eG, ls, ws, ln, bd, pm, sm, hT, q⟩ := h
    refine ⟨_, (pss_cons (ps_if (PW.pt (pw_or (pt_not (pt_truK (K := K) rfl (pe_cG c__law_exact hr gd (by decide) (by rfl) pass0 (pa_cons (pe_pr (pv 0) T.cl m_lines (by decide) hr) (pa_cons (pv 1) pa_nil))) (by intro _; rfl))) (pw_or1 (pt_cmpR (r := rNeX K) (op_neX hr.units) (pe_pr (pv 0) T.cl m_author (by decide) hr) (pv 3) (nomark _))))) (pss_one (ps_ret pe_bl)) pss_nil)
      (pss_cons (ps_if (pt_not (pt_truK (K := K) rfl (pe_cG c__law_exact hr gd (by decide) (by rfl) pass0 (pa_cons (pe_pr (pv 0) T.cl m_parents (by decide) hr) (pa_cons (pe_callB (r := rSorted K) cr_sorted (by rfl) T.n_sorted (by decide +kernel) (pa_cons (pe_lc (own := [("parent", 7)]) (g := gName 7) (tt := tYes) rfl sc__law_right.nd (pi_listK (K := K) rfl (pv 2)) (blkOk_by (N := N__law_right) (sc := defScope s__law_right) (by decide +kernel)) (fun _ _ _ _ _ => (pg_name (i := 7) sc__law_right.nd rfl (by first | exact Or.inl rfl | exact Or.inr rfl))) (fun _ _ _ _ _ => pts_nil) (fun _ _ _ _ _ => (pe_callTy call_intX (by rfl) T.n_int (by decide +kernel) (pa_cons (pv 7) pa_nil)))) pa_nil)) pa_nil))) (by intro _; rfl))) (pss_one (ps_ret pe_bl)) pss_nil)
      (pss_cons (ps_if (pt_cmpR (r := rNeX K) (op_neX hr.units) (pe_callB (call_lenO o_len (by decide) hr) (by rfl) T.n_len (by decide +kernel) (pa_cons (pv 0) pa_nil)) (pe_callB (r := rLenX K) call_lenX (by rfl) T.n_len (by decide +kernel) (pa_cons (pv 1) pa_nil)) (nomark _)) (pss_one (ps_ret pe_bl)) pss_nil)
      (pss_cons (ps_if (pt_cmpR (r := rNeX K) (op_neX hr.units) (pe_lc (own := [("k", 5)]) (g := gName 5) (tt := tYes) rfl sc__law_right.nd (pi_range1 (by rfl) T.n_range (pa_cons (pe_callB (r := rLenX K) call_lenX (by rfl) T.n_len (by decide +kernel) (pa_cons (pv 1) pa_nil)) pa_nil)) (blkOk_by (N := N__law_right) (sc := defScope s__law_right) (by decide +kernel)) (fun _ _ _ _ _ => (pg_name (i := 5) sc__law_right.nd rfl (by first | exact Or.inl rfl | exact Or.inr rfl))) (fun _ _ _ _ _ => pts_nil) (fun _ _ _ _ _ => (pe_ixO g_ver (by decide) hr pass_no (pv 0) (pv 5)))) (pv 1) (nomark _)) (pss_one (ps_ret pe_bl)) pss_nil)
      (pss_cons (ps_if (pt_cmpR (r := rNeX K) (op_neX hr.units) (pe_lc (own := [("line", 6)]) (g := gName 6) rfl sc__law_right.nd (pi_listK (K := K) rfl (pv 1)) (blkOk_by (N := N__law_right) (sc := defScope s__law_right) (by decide +kernel)) (fun _ _ _ _ _ => (pg_name (i := 6) sc__law_right.nd rfl (by first | exact Or.inl rfl | exact Or.inr rfl))) (fun _ _ _ _ _ => pts_one (pt_cmpR (op_niO o_in (by decide) hr) (pv 6) (pv 0) (by rfl))) (fun _ _ _ _ _ => (pv 6))) (pe_lst pa_nil) (nomark _)) (pss_one (ps_ret pe_bl)) pss_nil)
      (pss_cons (ps_if (PW.pt (pw_or (pt_cmpR (op_inO o_in (by decide) hr) pe_str (pv 0) (by rfl)) (pw_or1 (pt_cmpR (r := rNeX K) (op_neX hr.units) (pe_cmpR (op_inO o_in (by decide) hr) pe_str (pv 0) (by rfl)) (pe_cmpR (r := rIn K false) op_in_seq pe_str (pv 1) (by rfl)) (nomark _))))) (pss_one (ps_ret pe_bl)) pss_nil)
      (pss_cons (ps_for PassesOwn.never rfl (pi_listK (K := K) rfl (pe_lst (pa_cons (pe_un un_neg pe_int) (pa_cons (pe_callB (r := rLenX K) call_lenX (by rfl) T.n_len (by decide +kernel) (pa_cons (pv 1) pa_nil)) (pa_cons pe_non (pa_cons pe_bl (pa_cons pe_str (pa_cons (pe_op op_pow pe_int pe_int) (pa_cons (pe_lst (pa_cons pe_int pa_nil)) (pa_cons (pe_tup (pa_cons pe_int pa_nil)) pa_nil)))))))))) (pg_name (i := 4) sc__law_right.nd rfl (by first | exact Or.inl rfl | exact Or.inr rfl)) (pss_one (ps_if (pt_cmpR (r := rNeX K) (op_neX hr.units) (pe_caught (k := 8) T.KT gd hr (by decide) (by rfl) lf__law_right rfl rfl (LamX.lamS_by (sc := defScope s__law_right) (by decide +kernel)) rfl (fun _ _ _ _ _ => rfl) (fun A outer s H E f c' hr => (pe_ixO g_ver (by decide) hr (passes_call (takes_of rfl rfl rfl rfl) (fun _ _ _ _ h => h)) (pv 0) (pv 4)))) (pe_lst (pa_cons pe_str (pa_cons (pe_callB (r := rReprV) (call_reprV hr gd) (by rfl) T.n_repr (by decide +kernel) (pa_cons (pv 4) pa_nil)) pa_nil))) (nomark _)) (pss_one (ps_ret pe_bl)) pss_nil)))
      (pss_one (ps_ret pe_bl))))))))), ?_⟩
    walk_at "gr"
    refine p_prL hV fun L eL => ?_
    walk_at "gr"
    have wk : ∀ s ∈ ss, PyData.strOk s = true ∧ (reprText s).length ≤ 2000 ∧ (Str.ofString "no such line" == s) = false := fun s hs => words_ok s (ws s hs)
    refine ⟨L, D, _, _, rfl, eL, eD, fun H' a e => shw_strs e (by omega) fun s hs => (wk s hs).2.1, fun H1 s1 => ?_⟩
    have hV1 := hV.same s1
    walk_at "gr"
    refine p_prA hV1 ?_
    walk_at "gr"
    refine p_neS rfl ⟨_, rfl, ?_⟩
    rw [decide_eq_true rfl]
    have eG1 := s1 _ _ eG
    have eD1 := s1 _ _ eD
    walk_at "gr"
    refine p_prP hV1 fun M eM => ?_
    walk_at "gr"
    refine lcw_fm (xs := ns.map V.int) (j := 7) wx_list (fun _ => true) (fun x => x) (fun H' s => SqL.of (s _ _ eG1)) (by rw [List.length_map]; omega) (fun _ => rfl) (fun x _ H' R _ k => k H' (Same.refl H')) (fun x hx _ H' R s' k => ?_) (fun d H2 n2 s2 h2 => ?_)
    · obtain ⟨i, _, rfl⟩ := List.mem_map.mp hx
      walk_at "gr"
      exact k H' (Same.refl H')
    rw [show ((ns.map V.int).filter fun _ => true).map (fun x => x) = ns.map V.int by rw [List.filter_eq_self.mpr (fun _ _ => rfl), List.map_id']] at h2
    walk_at "gr"
    refine ⟨d, ns, rfl, SqL.of h2, by omega, fun ms r pm2 sm2 nr => ?_⟩
    have em : ms = ps := (pm2.trans pm.symm).eq_of_pairwise (fun x y _ _ h1 h2 => Int.le_antisymm h1 h2) sm2 sm
    subst em
    have up : Same H2 (upd H2 r (.lst (ms.map V.int))) := same_upd nr
    walk_at "gr"
    refine ⟨M, r, _, _, rfl, up _ _ (s2 _ _ eM), upd_same, fun H' a e => shw_ints e (by rw [pm2.length_eq]; omega) fun x hx => ?_, fun H3 s3 => ?_⟩
    · obtain ⟨b0, b1⟩ := bd x (pm2.mem_iff.mp hx)
      exact Nat.lt_of_lt_of_le (PySem.Flt.log2_lt_of (k := 100) (by decide) (Nat.lt_trans (show x.natAbs < 10 ^ 20 by omega) (by decide))) (by decide)
    have s13 : Same H1 H3 := (s2.trans up).trans s3
    have hV3 := hV1.same s13
    have eD3 := s13 _ _ eD1
    walk_at "gr"
    have lm : (ss.map V.str).length ≤ 12 := by rw [List.length_map]; exact ls
    refine p_lenV hV3 (by omega) ?_
    walk_at "gr"
    rw [decide_eq_true rfl]
    walk_at "gr"
    rw [show (((ss.map V.str).length : Nat) : Int).toNat = ss.length by rw [List.length_map]; rfl]
    refine lcw_fm (xs := intsV ss.length) (j := 5) wx_range (fun _ => true) (itemV ss) (fun _ _ => trivial) (by rw [intsV_len]; omega) (fun _ => rfl) (fun x _ H' R _ k => k H' (Same.refl H')) (fun x hx _ H' R s' k => ?_) (fun d2 H4 n4 s4 h4 => ?_)
    · obtain ⟨j, hj, rfl⟩ := List.mem_map.mp hx
      have hj := List.mem_range.mp hj
      refine i_ixO ?_
      walk_at "gr"
      refine p_getV (hV3.same s') (.int _) (.inr ⟨j, .str (ss.getD j Str.empty), rfl, ?_, at_of' (j := j) rfl ?_, k H' (Same.refl H')⟩)
      · simp [indexB, hj]
      · rw [List.getElem?_map, List.getElem?_eq_getElem hj, List.getD_eq_getElem?_getD, List.getElem?_eq_getElem hj]
        rfl
    rw [items_all] at h4
    have hV4 := hV3.same s4
    have eD4 := s4 _ _ eD3
    walk_at "gr"
    refine p_neL (fun s hs => (wk s hs).1) h4 eD4 ?_
    walk_at "gr"
    refine lcw_fm (xs := ss.map V.str) (j := 6) wx_list (fun _ => false) (fun x => x) (fun H' s => SqL.of (s _ _ eD4)) (by rw [List.length_map]; omega) (fun _ => rfl) (fun x hx H' R s' k => ?_) (fun x hx hp H' R s' k => by cases hp) (fun d3 H5 n5 s5 h5 => ?_)
    · obtain ⟨s, hs, rfl⟩ := List.mem_map.mp hx
      have kd : Kd H' (.str s) .str := .str s (by
        have : ∀ s ∈ wordsS, s.length ≤ 10000 := by decide +kernel
        exact this s (ws s hs))
      walk_at "gr"
      refine p_inV (hV4.same s') (flat_strs ss) kd ?_
      rw [has_mem hs]
      exact ⟨false, rfl, k H' (Same.refl H')⟩
    rw [show ((ss.map V.str).filter fun _ => false).map (fun x => x) = [] by simp] at h5
    have hV5 := hV4.same s5
    have eD5 := s5 _ _ eD4
    walk_at "gr"
    rename_i Nl H6 n6 s6 e6
    have hV6 := hV5.same s6
    have eD6 := s6 _ _ eD5
    refine p_inV hV6 (flat_strs ss) (.str _ (by decide)) ?_
    rw [has_no fun t ht => (wk t ht).2.2]
    refine ⟨_, rfl, ?_⟩
    rw [if_neg (by simp)]
    walk_at "gr"
    refine p_inV hV6 (flat_strs ss) (.str _ (by decide)) ?_
    walk_at "gr"
    refine ⟨D, ss.map V.str, rfl, .inl (SqL.of eD6), rfl, flat_strs ss, ?_⟩
    refine p_neS rfl ⟨_, rfl, ?_⟩
    rw [if_neg Bool.false_ne_true, decide_eq_true (show V.bl (id (hasV (ss.map V.str) (.str " a"))) = V.bl (inV (.str " a") (ss.map V.str)) from rfl)]
    walk_at "gr"
    rename_i B1 H7 n7 s7 e7 B2 H8 n8 s8 e8 O H9 n9 s9 e9
    have e79 := s9 _ _ (s8 _ _ e7)
    have e89 := s9 _ _ e8
    have s69 := (s7.trans s8).trans s9
    have hV9 := hV6.same s69
    have x9 : Ext Tb H H9 := Ext.of (((s1.trans s13).trans (s4.trans (s5.trans s6))).trans s69)
    obtain ⟨xs, exs⟩ : ∃ xs, xs = [V.int (-1), V.int ((ss.map V.str).length : Nat), V.non, V.bl true, V.str "0", V.int (10 ^ Int.toNat 30), V.ref B1, V.ref B2] := ⟨_, rfl⟩
    have e9 : H9 O = some (.lst xs) := by rw [exs]; exact e9
    have facts : ∀ x ∈ xs, indexB ((ss.map V.str).length : Nat) x = false ∧ ∃ k dat, PyData.strOk dat.shown = true ∧ ∀ H', Ext Tb H9 H' → Kd H' x k ∧ Shw H' x dat := fun x hx => by
      rw [exs] at hx
      simp only [List.mem_cons, List.not_mem_nil, or_false] at hx
      rcases hx with rfl | rfl | rfl | rfl | rfl | rfl | rfl | rfl
      · exact ⟨by simp [indexB], _, _, by decide +kernel, fun H' _ => ⟨.int _, .inl ⟨.int _, rfl, rfl, by decide, by decide +kernel⟩⟩⟩
      · obtain ⟨w1, w2⟩ := small_ok _ lm
        exact ⟨by simp [indexB], _, _, w1, fun H' _ => ⟨.int _, .inl ⟨.int _, decide_eq_true (Nat.lt_of_lt_of_le (PySem.Flt.log2_lt_of (k := 100) (by decide) (Nat.lt_of_le_of_lt (show (((ss.map V.str).length : Nat) : Int).natAbs ≤ 12 by omega) (by decide))) (by decide)), rfl, by show 0 ≤ 50; omega, Nat.le_trans w2 (by decide)⟩⟩⟩
      · exact ⟨rfl, _, _, by decide +kernel, fun H' _ => ⟨.non, .inl ⟨.non, rfl, rfl, by decide, by decide +kernel⟩⟩⟩
      · exact ⟨rfl, _, _, by decide +kernel, fun H' _ => ⟨.bl _, .inl ⟨.bl _, rfl, rfl, by decide, by decide +kernel⟩⟩⟩
      · exact ⟨rfl, _, _, by decide +kernel, fun H' _ => ⟨.str _ (by decide), .inl ⟨.str _, rfl, rfl, by decide, by decide +kernel⟩⟩⟩
      · exact ⟨by
          have : ¬ ((10 : Int) ^ Int.toNat 30 < ((ss.map V.str).length : Nat)) := by
            have : (10 : Int) ^ Int.toNat 30 = 1000000000000000000000000000000 := by decide +kernel
            omega
          simp only [indexB, decide_eq_false this, Bool.and_false], _, _, by decide +kernel, fun H' _ => ⟨.int _, .inl ⟨.int _, by decide +kernel, rfl, by decide, by decide +kernel⟩⟩⟩
      · exact ⟨rfl, _, _, by decide +kernel, fun H' y => ⟨.lst (y.get e79 (fun _ z => nomatch z)), .inl ⟨.lst (y.get e79 (fun _ z => nomatch z)) (.cons (.int 0) .nil), rfl, rfl, by decide, by decide +kernel⟩⟩⟩
      · exact ⟨rfl, _, _, by decide +kernel, fun H' y => ⟨.tup (y.get e89 (fun _ z => nomatch z)), .inl ⟨.tup (y.get e89 (fun _ z => nomatch z)) (.cons (.int 0) .nil), rfl, rfl, by decide, by decide +kernel⟩⟩⟩
    refine fow (xs := xs) wx_list (fun i σ' H' => ∃ o : Option V, σ' = [some (.ref v), some (.ref D), some (.ref G), some (.str z), o, none, none, none] ∧ Ext Tb H9 H') ⟨none, rfl, Ext.refl _⟩ (fun i σ' H' ⟨_, _, y⟩ => SqL.of (y.get e9 (fun _ z => nomatch z))) (fun i x σ' H' hx ⟨o, es, x10⟩ => ?_) (fun σ' H' ⟨o, es, x10⟩ => ?_)
    · subst es
      obtain ⟨ib, kx, dat, ok, F⟩ := facts x (List.mem_of_getElem? hx)
      have hT4 := (x9.trans x10).tab hT
      walk_at "gr"
      refine p_lam hT4 0 dat.shown (by decide) (fun H11 E1 Q1 x11 hE => ?_) (fun p H12 x12 t12 e12 => ?_)
      · have xx := x10.trans x11
        refine i_ixO ?_
        walk_at "gr"
        exact p_getV (hV9.ext xx) (F H11 xx).1 (.inl ⟨ib, p_raiseV T.kf T.eI.no (F H11 xx).2 rfl hE⟩)
      have x13 := x10.trans x12
      walk_at "gr"
      refine ⟨x, dat, rfl, (F H12 x13).2, ?_⟩
      walk_at "gr"
      rename_i p14 H14 n14 s14 e14
      refine p_strs (by decide +kernel) ok (s14 _ _ e12) e14 ?_
      walk_at "gr"
      exact ⟨_, rfl, x13.trans (Ext.of s14)⟩
    · subst es
      walk_at "gr"
      exact q _ (x9.trans x10)
end
end Pk

namespace Pk
open PySem PySem.Spec PyProof.Rows L2
local macro_rules | `(tactic| walk_at "sz") => `(tactic| first | assumption | decide +kernel | exact Nat.le_trans (Nat.le_of_ble_eq_true rfl) (show 100000 ≤ sizeLine by decide) | exact Nat.le_trans (by omega) (show 100000 ≤ sizeLine by decide) | (show _ ≤ sizeLine; exact Nat.le_trans (by (simp only [List.length_append, List.length_map, List.length_cons, List.length_nil]; omega)) (show 100000 ≤ sizeLine by decide)))
local macro_rules | `(tactic| walk_at "mul") => `(tactic| first | exact Or.inl (Or.inl ⟨by omega, by omega⟩) | exact Or.inl (Or.inr ⟨by omega, by omega⟩))
local macro_rules | `(tactic| walk_at "ci") => `(tactic| first | assumption | exact (by decide : (0 : Int) < _) | (show (0 : Int) < _; omega) | exact ⟨by assumption, by assumption⟩ | exact ⟨by decide, by decide⟩ | exact ⟨by decide, by decide, by omega⟩)
local macro_rules | `(tactic| walk_at "lk") => `(tactic| first | assumption | exact upd_same | ((refine Eq.trans (upd_ne (by first | assumption | exact Ne.symm (by assumption))) ?_); walk_at "lk") | exact Same.get (by assumption) (by walk_at "lk") | exact Keep.get (by assumption) (by walk_at "lk") (by assumption) (by assumption))
local macro_rules | `(tactic| walk_at "sq") => `(tactic| first | assumption | exact SqL.of (by walk_at "lk") | exact Same.seq (by assumption) (by walk_at "sq"))
local macro_rules | `(tactic| walk_at "stt") => `(tactic| exact SqT.of (by walk_at "lk"))
local macro_rules | `(tactic| walk_at "kd") => `(tactic| first | assumption | exact Kd.str _ (by first | assumption | omega | decide) | exact Kd.bl _ | exact Kd.int _ | exact Kd.non | exact Kd.lst (by walk_at "lk") | exact Kd.tup (by walk_at "lk") | exact Kd.dct (by walk_at "lk") | exact Kd.same (by assumption) (by walk_at "kd"))
local macro_rules | `(tactic| walk_at "sm") => `(tactic| first | assumption | exact Same.refl _ | (refine Same.trans ?_ (by assumption); walk_at "sm"))
local macro_rules | `(tactic| walk_at "st") => `(tactic| first
  | with_reducible refine i_seq ?_ | with_reducible refine i_asg ?_ | with_reducible refine i_ret ?_ | with_reducible refine i_op ?_
  | ((with_reducible show tVar _ _ _ _); refine i_var rfl ?_)
  | with_reducible refine i_c ?_ | with_reducible refine i_cb ?_ | with_reducible refine i_call ?_ | with_reducible refine i_cons ?_ | with_reducible refine i_nil ?_
  | with_reducible refine i_name ?_ | with_reducible refine i_sub ?_ | with_reducible refine i_drop ?_ | with_reducible refine i_ifs ?_ | with_reducible refine i_ife ?_
  | with_reducible refine i_test ?_ | with_reducible refine i_tru ?_ | with_reducible refine i_and ?_ | with_reducible refine i_or ?_ | with_reducible refine i_not ?_
  | with_reducible refine i_andV ?_ | with_reducible refine i_orV ?_ | with_reducible refine i_notV ?_ | with_reducible refine i_un ?_
  | with_reducible refine i_bl ?_ | with_reducible refine i_trB ?_ | with_reducible refine i_next ?_
  | with_reducible refine iteF ?_ | with_reducible refine iteT ?_
  | with_reducible refine i_lstF ?_ | with_reducible refine i_tupF ?_
  | with_reducible refine p_addI ?_ | with_reducible refine p_I0 ?_ | with_reducible refine p_U ?_
  | with_reducible refine p_ltI ?_ | with_reducible refine p_leI ?_ | with_reducible refine p_gtI ?_ | with_reducible refine p_geI ?_
  | with_reducible refine p_ltS ?_ | with_reducible refine p_leS ?_ | with_reducible refine p_gtS ?_
  | with_reducible refine p_eqI ?_ | with_reducible refine p_neI ?_ | with_reducible refine p_int ?_
  | ((with_reducible show rMuXX (V.int _) (V.int _) _ _); refine p_muI (by walk_at "mul") ?_)
  | ((with_reducible show rI _ _ (V.int _) (V.int _) _ _); refine p_I (by walk_at "ci") ?_)
  | ((with_reducible show rIx _ (V.ref _) (V.int _) _ _); (first | refine p_ixL (by walk_at "sq") (by first | exact rfl | assumption) ?_ | refine p_ixT (SqT.of (by walk_at "lk")) (by first | exact rfl | assumption) ?_))
  | ((with_reducible show rSetL (V.ref _) (V.int _) _ _ _); refine p_setL (by walk_at "lk") (by first | exact rfl | assumption) ?_)
  | ((with_reducible show rLenX _ [V.ref _] _ _); (first | refine p_lenL (by walk_at "sq") ?_ | refine p_lenT (SqT.of (by walk_at "lk")) ?_))
  | ((with_reducible show rLenX _ [V.str _] _ _); refine p_lenS (by walk_at "sz") ?_)
  | with_reducible refine i_lc ?_ | with_reducible refine i_for ?_ | with_reducible refine i_itl ?_ | with_reducible refine i_itt ?_ | with_reducible refine i_itr ?_ | with_reducible refine i_its ?_
  | ((with_reducible show ∃ _, V.ref _ = V.ref _ ∧ (∃ _, SqL _ _ _ _) ∧ _); refine p_itl (by walk_at "sq") ?_)
  | ((with_reducible show ∃ _, V.ref _ = V.ref _ ∧ (∃ _, SqT _ _ _ _) ∧ _); refine p_itt (by walk_at "stt") ?_) | with_reducible refine p_its ?_
  | ((with_reducible show ∃ _, [V.int _] = [V.int _] ∧ _); refine p_itr (by omega) (by omega) ?_)
  | with_reducible refine i_sl ?_ | with_reducible refine i_np ?_ | with_reducible refine i_pt ?_ | with_reducible refine i_in ?_
  | ((with_reducible show rSlXX _ (V.ref _) _ _ _ _); refine p_slL (by walk_at "sq") ?_; intro _ _ _ _ _)
  | ((with_reducible show rSlXX _ (V.str _) _ _ _ _); refine p_slS (by walk_at "sz") ?_)
  | ((with_reducible show rIsi _ [_, V.ty "str"] _ _); refine p_isStr (by walk_at "kd") ?_)
  | ((with_reducible show rIsi _ [_, V.ty "int"] _ _); refine p_isInt (by walk_at "kd") ?_)
  | ((with_reducible show rIsi _ [_, V.ty "bool"] _ _); refine p_isBool (by walk_at "kd") ?_)
  | ((with_reducible show rIsiT _ [_, V.ref _] _ _); refine p_isLT (by walk_at "lk") (by walk_at "kd") ?_)
  | with_reducible refine i_chain ?_ | with_reducible refine i_m1 ?_ | with_reducible refine i_m0 ?_ | with_reducible refine i_str ?_
  | ((with_reducible show LstK _ _ _); refine p_lstK (by walk_at "sz") ?_; intro _ _ _ _ _)
  | ((with_reducible show TupK _ _ _); refine p_tupK (by walk_at "sz") ?_; intro _ _ _ _ _)
  | ((with_reducible show (if _ = true then _ else _)); (first | refine ifT' (by first | assumption | exact rfl) ?_ | refine ifF' (by first | assumption | exact rfl) ?_))
  | ((with_reducible show rEqX _ (V.bl _) (V.bl _) _ _); refine p_eqS rfl ?_) | ((with_reducible show rNeX _ (V.bl _) (V.bl _) _ _); refine p_neS rfl ?_)
  | ((with_reducible show rEqX _ (V.ref _) (V.ref _) _ _); refine p_eqNil (by walk_at "lk") (by walk_at "lk") ?_) | ((with_reducible show rNeX _ (V.ref _) (V.ref _) _ _); refine p_neNil (by walk_at "lk") (by walk_at "lk") ?_)
  | ((with_reducible show rAddX _ (V.str _) (V.str _) _ _); refine p_addS (by walk_at "sz") ?_)
  | ((with_reducible show rMuXX (V.str _) (V.int _) _ _); refine p_muS ⟨by decide +kernel, by decide +kernel, by decide +kernel⟩ ?_)
  | ((with_reducible show tDNewK _ _ _); refine i_dnew ?_; intro _ _ _ _ _)
  | ((with_reducible show rTupX _ [V.ref _] _ _); refine p_tupL (by walk_at "sq") ?_; intro _ _ _ _ _)
  | ((with_reducible show rAddX _ (V.ref _) (V.ref _) _ _); refine p_addL (by walk_at "lk") (by walk_at "lk") (by walk_at "sz") ?_; intro _ _ _ _ _)
  | with_reducible refine p_notB ?_ | with_reducible refine p_isB ?_)
local macro_rules | `(tactic| walk_at "go") => `(tactic| (walk_at "st"; (repeat walk_at "st")))

local macro_rules | `(tactic| walk_at "gr") => `(tactic| walk_at "go")
abbrev s__law_refused : Stmt := top 45
abbrev N__law_refused : List Str := ["lines", "elders", "name", "odd"]
theorem sc__law_refused : FnScope ["lines", "elders", "name", "odd"] ["lines", "elders", "name"] (defScope s__law_refused) := ⟨rfl, rfl, rfl, by decide +kernel, rfl, by decide +kernel, by decide +kernel⟩
structure RfF (K : PySem.W.Frag) (mg : Str → Option Value) (C CT CP CN : Addr) (Cs : Nat → Addr) (CL cf : Addr) : Prop where
  V : VerF K mg C
  KT : KindT K mg Cs CL
  eT : ErrF K mg "InvalidText" "value" "InvalidText.__init__" CT s_InvalidText___init__
  eP : ErrF K mg "InvalidParents" "value" "InvalidParents.__init__" CP s_InvalidParents___init__
  eN : ErrF K mg "InvalidName" "value" "InvalidName.__init__" CN s_InvalidName___init__
  k1 : KindF K Cs CL CT 1
  k3 : KindF K Cs CL CP 3
  k2 : KindF K Cs CL CN 2
  n_repr : mg "repr" = none
  d_refused : DefC K mg "_law_refused" s__law_refused cf
section
variable {P : Program} {w : World} {K : PySem.W.Frag} {mg : Str → Option Value} {base : Heap} {C CT CP CN : Addr} {Cs : Nat → Addr} {CL cf : Addr} {Tb : List (Addr × Str)} {Pf : Addr}
def MkV (C : Addr) (sp : Sp) (E : XK) (Q : VK) : List V → List V → Hp → Prop := fun vs zs H2 => vs.length = 1 ∧ zs.length = 2 ∧ ∀ x dx, H2 x = none → H2 dx = none → dx ≠ x → sp ((.ref x :: vs) ++ zs) (upd (upd H2 dx (.own x)) x (.ins C dx [])) (fun v H3 => v = .non ∧ Q (.ref x) H3) E
theorem i_mkV {σ : L2.St} {H : Hp} {Q : VK} {E : XK} {sp : Sp} {t tk : TA} (h : t σ H fun vs H1 => tk σ H1 (MkV C sp E Q vs)) : tMakeK C 1 2 sp (fun vs zs => vs ++ zs) E t tk σ H Q := h
theorem p_ver {H : Hp} {Q : VK} {E : XK} {x y v : V} {bt bp : Bool} {np : List Int} {kv : Kn} (hx : TextV H x bt) (h : (bt = false ∧ RaisesV CT x H E) ∨ (bt = true ∧ ParV K H y bp np ∧ ((bp = false ∧ RaisesV CP y H E) ∨ (bp = true ∧ Kd H v kv ∧ ((nameB v = false ∧ RaisesV CN v H E) ∨
    (nameB v = true ∧ ∀ a H' G ls z ms, Same H G → LstV G x ls → v = .str z → ms.Perm np → ms.Pairwise (· ≤ ·) → Same H H' → H a = none → VAt C H' a ls ms z → Q (.ref a) H')))))) : MkV C (spVer K C CT CP CN) E Q [x] [y, v] H := by
  refine ⟨rfl, rfl, fun p dx n1 n2 ne => ?_⟩
  have s : Same H (upd (upd H dx (.own p)) p (.ins C dx [])) := fun b o eb => by
    rw [upd_ne (ne_of_none eb n1), upd_ne (ne_of_none eb n2)]
    exact eb
  refine ⟨p, dx, x, bt, y, bp, np, v, kv, rfl, upd_same, hx.same s, ?_⟩
  rcases h with ⟨h1, q⟩ | ⟨h1, hy, h⟩
  · exact .inl ⟨h1, q.same s⟩
  refine .inr ⟨h1, hy.same s, ?_⟩
  rcases h with ⟨h2, q⟩ | ⟨h2, hv, h⟩
  · exact .inl ⟨h2, q.same s⟩
  refine .inr ⟨h2, hv.same s, ?_⟩
  rcases h with ⟨h3, q⟩ | ⟨h3, q⟩
  · exact .inl ⟨h3, q.same s⟩
  exact .inr ⟨h3, fun H' ls z ms a1 a3 a4 a5 a6 a7 => ⟨rfl, q p H' _ ls z ms s a1 a3 a4 a5 (fun b o eb => a6 b o (ne_of_none eb n1) (s _ _ eb)) n1 a7⟩⟩
theorem Kd.get {H H' : Hp} {x : V} {k : Kn} (e : Ext Tb H H') (h : Kd H x k) : Kd H' x k := by
  cases h with
  | non => exact .non
  | bl b => exact .bl b
  | int i => exact .int i
  | str z hz => exact .str z hz
  | lst h => exact .lst (e.get h (fun _ z => nomatch z))
  | tup h => exact .tup (e.get h (fun _ z => nomatch z))
  | dct h => exact .dct (e.get h (fun _ z => nomatch z))
theorem TextV.get {H H' : Hp} {x : V} {b : Bool} (s : Ext Tb H H') (h : TextV H x b) : TextV H' x b := by
  cases h with
  | flat h h1 h2 => exact .flat (h.get s) h1 h2
  | lst e hl h => exact .lst (s.get e (fun _ z => nomatch z)) hl fun y hy => (h y hy).imp fun k hk => hk.get s
  | tup e hl h => exact .tup (s.get e (fun _ z => nomatch z)) hl fun y hy => (h y hy).imp fun k hk => hk.get s
theorem seqT_get {H H' : Hp} {p : Addr} {xs : List V} (s : Ext Tb H H') (h : SqT K H p xs) : SqT K H' p xs := by
  rcases h with (e | ⟨o, e⟩) | h
  · exact .inl (.inl (s.get e (fun _ z => nomatch z)))
  · exact .inl (.inr ⟨o, s.get e (fun _ z => nomatch z)⟩)
  · exact .inr h
theorem ParV.get {H H' : Hp} {x : V} {b : Bool} {np : List Int} (s : Ext Tb H H') (h : ParV K H x b np) : ParV K H' x b np := by
  cases h with
  | kt lk oc e => exact .kt lk oc (seqT_get s e)
  | flat h h1 h2 => exact .flat (h.get s) h1 h2
  | lst e hl h => exact .lst (s.get e (fun _ z => nomatch z)) hl fun y hy => (h y hy).imp fun k hk => hk.get s
  | tup e hl h => exact .tup (s.get e (fun _ z => nomatch z)) hl fun y hy => (h y hy).imp fun k hk => hk.get s
theorem Rd.get {H H' : Hp} (s : Ext Tb H H') {x : V} {d : PyData} (h : Rd H x d) : Rd H' x d := by
  refine Rd.rec (motive_1 := fun x d _ => Rd H' x d) (motive_2 := fun xs ds _ => RdA H' xs ds) ?_ ?_ ?_ ?_ ?_ ?_ ?_ ?_ h
  · exact .non
  · intro b; exact .bl b
  · intro i; exact .int i
  · intro z; exact .str z
  · intro a xs ds e r ih; exact .lst (s.get e (fun _ z => nomatch z)) ih
  · intro a xs ds e r ih; exact .tup (s.get e (fun _ z => nomatch z)) ih
  · exact .nil
  · intro x xs d ds h t i1 i2; exact .cons i1 i2
theorem Shw.get {H H' : Hp} (s : Ext Tb H H') {x : V} {d : PyData} (h : Shw H x d) : Shw H' x d := by
  rcases h with ⟨h, r⟩ | ⟨a, e, h, r⟩
  · exact .inl ⟨h.get s, r⟩
  · exact .inr ⟨a, e, s.get h (fun _ z => nomatch z), r⟩
/-- x can be shown -/
def Sw (H : Hp) (x : V) : Prop := ∃ dat, PyData.strOk dat.shown = true ∧ Shw H x dat
theorem sw_non {H : Hp} : Sw H .non := ⟨_, by decide +kernel, .inl ⟨.non, rfl, rfl, by decide, by decide +kernel⟩⟩
theorem sw_dct {H : Hp} {a : Addr} (e : H a = some (.dK [])) : Sw H (.ref a) := ⟨_, by decide +kernel, .inr ⟨a, rfl, e, rfl⟩⟩
theorem kinds1 {H : Hp} {x : V} {k : Kn} (h : Kd H x k) : ∀ y ∈ [x], ∃ k, Kd H y k := fun y hy => by
  rw [List.mem_singleton.mp hy]
  exact ⟨k, h⟩
def spRf (K : PySem.W.Frag) (Tb : List (Addr × Str)) : Sp := fun vs H Q _ => ∃ (x y : V) (z : Str) (np : List Int), vs = [x, y, .str z] ∧ TextV H x true ∧ ParV K H y true np ∧ LamX.Tabs Tb H ∧ ∀ H', Ext Tb H H' → Q (.bl true) H'
theorem c__law_refused (T : RfF K mg C CT CP CN Cs CL cf) (lf__law_refused : LamF base mg Tb cf Pf "_law_refused") : CalG P w K mg base CX0 13 "_law_refused" (spRf K Tb) := by
  have x_ver2 : MakP P w K mg base 5 "Version" C (spVer K C CT CP CN) ["parents", "author"] (fun vs zs => vs ++ zs) := x_ver2 T.V T.eT T.eP T.eN
  refine calgC T.d_refused sc__law_refused (fun _ _ _ _ _ _ us hl => match us, hl with | [_, _, _], _ => rfl) (fun vs H Q E h => ?_) (fun f A outer s H vs Q E gd hr h => ?_)
  · obtain ⟨x, y, z, np, rfl, _⟩ := h
    rfl
  · obtain ⟨x, y, z, np, rfl, hx, hy, hT, q⟩ := h
    refine ⟨_, (pss_cons (ps_for PassesOwn.never rfl (pi_listK (K := K) rfl (pe_lst (pa_cons pe_non (pa_cons pe_str (pa_cons pe_int (pa_cons (pe_lst (pa_cons pe_str (pa_cons pe_int pa_nil))) (pa_cons (pe_lst (pa_cons pe_str pa_nil)) (pa_cons (pe_op (r := rRep) op_rep (pe_lst (pa_cons pe_str pa_nil)) pe_int) (pa_cons pe_dnewK (pa_cons (pe_lst (pa_cons (pe_op op_muX pe_str pe_int) pa_nil)) pa_nil)))))))))) (pg_name (i := 3) sc__law_refused.nd rfl (by first | exact Or.inl rfl | exact Or.inr rfl)) (pss_one (ps_if (pt_cmpR (r := rNeX K) (op_neX hr.units) (pe_caught (k := 9) T.KT gd hr (by decide) (by rfl) lf__law_refused rfl rfl (LamX.lamS_by (sc := defScope s__law_refused) (by decide +kernel)) rfl (fun _ _ _ _ _ => rfl) (fun A outer s H E f c' hr => (pe_mkP x_ver2 hr (by decide) (passes_call (takes_of rfl rfl rfl rfl) (fun _ _ _ _ h => h)) (by rfl) (pa_cons (pv 3) pa_nil) (pk_cons pe_non (pk_cons pe_non pk_nil))))) (pe_lst (pa_cons pe_str (pa_cons (pe_callB (r := rReprV) (call_reprV hr gd) (by rfl) T.n_repr (by decide +kernel) (pa_cons (pv 3) pa_nil)) pa_nil))) (nomark _)) (pss_one (ps_ret pe_bl)) pss_nil)))
      (pss_cons (ps_for PassesOwn.never rfl (pi_listK (K := K) rfl (pe_lst (pa_cons pe_non (pa_cons pe_int (pa_cons (pe_lst (pa_cons (pe_un un_neg pe_int) pa_nil)) (pa_cons (pe_lst (pa_cons pe_int (pa_cons pe_int pa_nil))) (pa_cons (pe_lst (pa_cons pe_int (pa_cons pe_bl pa_nil))) (pa_cons (pe_tup (pa_cons pe_int (pa_cons pe_int (pa_cons pe_int (pa_cons pe_int pa_nil))))) (pa_cons pe_str (pa_cons pe_dnewK (pa_cons (pe_lst (pa_cons pe_non pa_nil)) (pa_cons (pe_lst (pa_cons (pe_lst (pa_cons pe_int pa_nil)) pa_nil)) pa_nil)))))))))))) (pg_name (i := 3) sc__law_refused.nd rfl (by first | exact Or.inl rfl | exact Or.inr rfl)) (pss_one (ps_if (pt_cmpR (r := rNeX K) (op_neX hr.units) (pe_caught (k := 9) T.KT gd hr (by decide) (by rfl) lf__law_refused rfl rfl (LamX.lamS_by (sc := defScope s__law_refused) (by decide +kernel)) rfl (fun _ _ _ _ _ => rfl) (fun A outer s H E f c' hr => (pe_mkP x_ver2 hr (by decide) (passes_call (takes_of rfl rfl rfl rfl) (fun _ _ _ _ h => h)) (by rfl) (pa_cons (pv 0) pa_nil) (pk_cons (pv 3) (pk_cons pe_str pk_nil))))) (pe_lst (pa_cons pe_str (pa_cons (pe_callB (r := rReprV) (call_reprV hr gd) (by rfl) T.n_repr (by decide +kernel) (pa_cons (pv 3) pa_nil)) pa_nil))) (nomark _)) (pss_one (ps_ret pe_bl)) pss_nil)))
      (pss_cons (ps_for PassesOwn.never rfl (pi_listK (K := K) rfl (pe_lst (pa_cons pe_non (pa_cons pe_str (pa_cons pe_str (pa_cons pe_str (pa_cons pe_str (pa_cons pe_int (pa_cons (pe_lst (pa_cons pe_str pa_nil)) (pa_cons pe_str (pa_cons pe_str pa_nil))))))))))) (pg_name (i := 3) sc__law_refused.nd rfl (by first | exact Or.inl rfl | exact Or.inr rfl)) (pss_one (ps_if (pt_cmpR (r := rNeX K) (op_neX hr.units) (pe_caught (k := 9) T.KT gd hr (by decide) (by rfl) lf__law_refused rfl rfl (LamX.lamS_by (sc := defScope s__law_refused) (by decide +kernel)) rfl (fun _ _ _ _ _ => rfl) (fun A outer s H E f c' hr => (pe_mkP x_ver2 hr (by decide) (passes_call (takes_of rfl rfl rfl rfl) (fun _ _ _ _ h => h)) (by rfl) (pa_cons (pv 0) pa_nil) (pk_cons (pv 1) (pk_cons (pv 3) pk_nil))))) (pe_lst (pa_cons pe_str (pa_cons (pe_callB (r := rReprV) (call_reprV hr gd) (by rfl) T.n_repr (by decide +kernel) (pa_cons (pv 3) pa_nil)) pa_nil))) (nomark _)) (pss_one (ps_ret pe_bl)) pss_nil)))
      (pss_one (ps_ret pe_bl))))), ?_⟩
    walk_at "gr"
    rename_i O1 H1 n1 s1 e1 O2 H2 n2 s2 e2 O3 H3 n3 s3 e3
    refine ⟨O3, 13, [.str "a"], rfl, rfl, e3, by decide, by decide, by decide +kernel, fun O4 n4 => ?_⟩
    have s4 : Same H3 (upd H3 O4 (.lst (List.replicate (Int.toNat 13) [V.str "a"]).flatten)) := same_upd n4
    have e4 : upd H3 O4 (.lst (List.replicate (Int.toNat 13) [V.str "a"]).flatten) O4 = some (.lst (List.replicate 13 (V.str "a"))) := upd_same
    generalize upd H3 O4 (.lst (List.replicate (Int.toNat 13) [V.str "a"]).flatten) = H4 at s4 e4
    walk_at "gr"
    rename_i O5 H5 n5 s5 e5 O6 H6 n6 s6 e6 L H7 n7 s7 e7
    have s47 := (s5.trans s6).trans s7
    have s17 : Same H1 H7 := ((s2.trans s3).trans s4).trans s47
    have g1 := s17 _ _ e1
    have g2 := s47 _ _ (s4 _ _ (s3 _ _ e2))
    have g4 := s47 _ _ e4
    have g5 := s7 _ _ (s6 _ _ e5)
    have g6 := s7 _ _ e6
    have x7 : Ext Tb H H7 := Ext.of (s1.trans s17)
    obtain ⟨xs, exs⟩ : ∃ xs, xs = [V.non, .str "ab", .int 3, .ref O1, .ref O2, .ref O4, .ref O5, .ref O6] := ⟨_, rfl⟩
    have e7 : H7 L = some (.lst xs) := by rw [exs]; exact e7
    have facts : ∀ x ∈ xs, TextV H7 x false ∧ Sw H7 x := fun x hx => by
      rw [exs] at hx
      simp only [List.mem_cons, List.not_mem_nil, or_false] at hx
      rcases hx with rfl | rfl | rfl | rfl | rfl | rfl | rfl | rfl
      · exact ⟨.flat .non rfl rfl, sw_non⟩
      · exact ⟨.flat (.str _ (by decide)) rfl rfl, _, by decide +kernel, .inl ⟨.str _, rfl, rfl, by decide, by decide +kernel⟩⟩
      · exact ⟨.flat (.int _) rfl rfl, _, by decide +kernel, .inl ⟨.int _, rfl, rfl, by decide, by decide +kernel⟩⟩
      · refine ⟨TextV.lst (xs := [.str "a", .int 1]) g1 (by decide) fun y hy => ?_, _, by decide +kernel, .inl ⟨.lst g1 (.cons (.str _) (.cons (.int _) .nil)), rfl, rfl, by decide, by decide +kernel⟩⟩
        simp only [List.mem_cons, List.not_mem_nil, or_false] at hy
        rcases hy with rfl | rfl
        · exact ⟨_, .str _ (by decide)⟩
        · exact ⟨_, .int _⟩
      · exact ⟨TextV.lst (xs := [.str "a\n"]) g2 (by decide) (kinds1 (.str _ (by decide))), _, by decide +kernel, .inl ⟨.lst g2 (.cons (.str _) .nil), rfl, rfl, by decide, by decide +kernel⟩⟩
      · refine ⟨TextV.lst (xs := List.replicate 13 (V.str "a")) g4 (by decide) fun y hy => ?_, .list (List.replicate 13 (.str "a")), by decide +kernel, .inl ⟨.lst g4 ?_, by decide +kernel, by decide +kernel, by decide +kernel, by decide +kernel⟩⟩
        · rw [List.eq_of_mem_replicate hy]
          exact ⟨_, .str _ (by decide)⟩
        · exact .cons (.str _) (.cons (.str _) (.cons (.str _) (.cons (.str _) (.cons (.str _) (.cons (.str _) (.cons (.str _) (.cons (.str _) (.cons (.str _) (.cons (.str _) (.cons (.str _) (.cons (.str _) (.cons (.str _) .nil))))))))))))
      · exact ⟨.flat (.dct g5) rfl rfl, sw_dct g5⟩
      · exact ⟨TextV.lst (xs := [.str (Txt.mul (Str.ofString "a") 41)]) g6 (by decide) (kinds1 (.str _ (by decide +kernel))), _, by decide +kernel, .inl ⟨.lst g6 (.cons (.str _) .nil), rfl, rfl, by decide, by decide +kernel⟩⟩
    refine fow (xs := xs) wx_list (fun i σ' H' => ∃ o : Option V, σ' = [some x, some y, some (.str z), o] ∧ Ext Tb H7 H') ⟨none, rfl, Ext.refl _⟩ (fun i σ' H' ⟨_, _, y⟩ => SqL.of (y.get e7 (fun _ z => nomatch z))) (fun i w σ' H' hw ⟨o, es, x10⟩ => ?_) (fun σ' H' ⟨o, es, x10⟩ => ?_)
    · subst es
      obtain ⟨tv, dat, ok, sh⟩ := facts w (List.mem_of_getElem? hw)
      have hT4 := (x7.trans x10).tab hT
      walk_at "gr"
      refine p_lam hT4 1 dat.shown (by decide) (fun H11 E1 Q1 x11 hE => ?_) (fun p H12 x12 t12 e12 => ?_)
      · have xx := x10.trans x11
        refine i_mkV ?_
        walk_at "gr"
        exact p_ver (bp := false) (np := []) (kv := .non) (tv.get xx) (.inl ⟨rfl, p_raiseV T.k1 T.eT.no (sh.get xx) rfl hE⟩)
      have x13 := x10.trans x12
      walk_at "gr"
      refine ⟨w, dat, rfl, sh.get x13, ?_⟩
      walk_at "gr"
      rename_i p14 H14 n14 s14 e14
      refine p_strs (by decide +kernel) ok (s14 _ _ e12) e14 ?_
      walk_at "gr"
      exact ⟨_, rfl, x13.trans (Ext.of s14)⟩
    subst es
    have x8 := x7.trans x10
    clear facts e7 exs x10
    walk_at "gr"
    rename_i P1 J1 m1 u1 f1 P2 J2 m2 u2 f2 P3 J3 m3 u3 f3 P4 J4 m4 u4 f4 P5 J5 m5 u5 f5 P6 J6 m6 u6 f6 P7 J7 m7 u7 f7 P8 J8 m8 u8 f8 L2 J9 m9 u9 f9
    have v8 := u9
    have v7 := u8.trans v8
    have v6 := u7.trans v7
    have v5 := u6.trans v6
    have v4 := u5.trans v5
    have v3 := u4.trans v4
    have v2 := u3.trans v3
    have v1 := u2.trans v2
    have g1 := v1 _ _ f1
    have g2 := v2 _ _ f2
    have g3 := v3 _ _ f3
    have g4 := v4 _ _ f4
    have g5 := v5 _ _ f5
    have g6 := v6 _ _ f6
    have g7 := v7 _ _ f7
    have g8 := v8 _ _ f8
    have x9 : Ext Tb H J9 := x8.trans (Ext.of (u1.trans v1))
    obtain ⟨ys, eys⟩ : ∃ ys, ys = [V.non, .int 1, .ref P1, .ref P2, .ref P3, .ref P4, .str "01", .ref P5, .ref P6, .ref P8] := ⟨_, rfl⟩
    have f9 : J9 L2 = some (.lst ys) := by rw [eys]; exact f9
    have facts : ∀ w ∈ ys, (∃ np, ParV K J9 w false np) ∧ Sw J9 w := fun w hw => by
      rw [eys] at hw
      simp only [List.mem_cons, List.not_mem_nil, or_false] at hw
      rcases hw with rfl | rfl | rfl | rfl | rfl | rfl | rfl | rfl | rfl | rfl
      · exact ⟨⟨_, .flat .non rfl rfl⟩, sw_non⟩
      · exact ⟨⟨_, .flat (.int _) rfl rfl⟩, _, by decide +kernel, .inl ⟨.int _, rfl, rfl, by decide, by decide +kernel⟩⟩
      · exact ⟨⟨_, (show parB [V.int (-1)] = false by decide +kernel) ▸ ParV.lst g1 (by decide) (kinds1 (.int _))⟩, _, by decide +kernel, .inl ⟨.lst g1 (.cons (.int _) .nil), rfl, rfl, by decide, by decide +kernel⟩⟩
      · exact ⟨⟨_, (show parB [V.int 0, V.int 0] = false by decide +kernel) ▸ ParV.lst g2 (by decide) (fun y hy => by simp only [List.mem_cons, List.not_mem_nil, or_false] at hy; rcases hy with rfl | rfl <;> exact ⟨_, .int _⟩)⟩, _, by decide +kernel, .inl ⟨.lst g2 (.cons (.int _) (.cons (.int _) .nil)), rfl, rfl, by decide, by decide +kernel⟩⟩
      · exact ⟨⟨_, (show parB [V.int 0, V.bl true] = false by decide +kernel) ▸ ParV.lst g3 (by decide) (fun y hy => by simp only [List.mem_cons, List.not_mem_nil, or_false] at hy; rcases hy with rfl | rfl; exact ⟨_, .int _⟩; exact ⟨_, .bl _⟩)⟩, _, by decide +kernel, .inl ⟨.lst g3 (.cons (.int _) (.cons (.bl _) .nil)), rfl, rfl, by decide, by decide +kernel⟩⟩
      · exact ⟨⟨_, (show parB [V.int 1, V.int 2, V.int 3, V.int 4] = false by decide +kernel) ▸ ParV.tup g4 (by decide) (fun y hy => by simp only [List.mem_cons, List.not_mem_nil, or_false] at hy; rcases hy with rfl | rfl | rfl | rfl <;> exact ⟨_, .int _⟩)⟩, _, by decide +kernel, .inl ⟨.tup g4 (.cons (.int _) (.cons (.int _) (.cons (.int _) (.cons (.int _) .nil)))), rfl, rfl, by decide, by decide +kernel⟩⟩
      · exact ⟨⟨_, .flat (.str _ (by decide)) rfl rfl⟩, _, by decide +kernel, .inl ⟨.str _, rfl, rfl, by decide, by decide +kernel⟩⟩
      · exact ⟨⟨_, .flat (.dct g5) rfl rfl⟩, sw_dct g5⟩
      · exact ⟨⟨_, (show parB [V.non] = false by decide +kernel) ▸ ParV.lst g6 (by decide) (kinds1 .non)⟩, _, by decide +kernel, .inl ⟨.lst g6 (.cons .non .nil), rfl, rfl, by decide, by decide +kernel⟩⟩
      · exact ⟨⟨_, (show parB [V.ref P7] = false from rfl) ▸ ParV.lst g8 (by show 1 ≤ 1000; decide) (kinds1 (.lst g7))⟩, .list [.list [.int 0]], by decide +kernel, .inl ⟨.lst g8 (.cons (.lst g7 (.cons (.int _) .nil)) .nil), rfl, rfl, by decide, by decide +kernel⟩⟩
    refine fow (xs := ys) wx_list (fun i σ' H' => ∃ o : Option V, σ' = [some x, some y, some (.str z), o] ∧ Ext Tb J9 H') ⟨o, rfl, Ext.refl _⟩ (fun i σ' H' ⟨_, _, y⟩ => SqL.of (y.get f9 (fun _ z => nomatch z))) (fun i w σ' H' hw ⟨o, es, x10⟩ => ?_) (fun σ' H' ⟨o, es, x10⟩ => ?_)
    · subst es
      obtain ⟨⟨np2, tv⟩, dat, ok, sh⟩ := facts w (List.mem_of_getElem? hw)
      have hT4 := (x9.trans x10).tab hT
      walk_at "gr"
      refine p_lam hT4 3 dat.shown (by decide) (fun H11 E1 Q1 x11 hE => ?_) (fun p H12 x12 t12 e12 => ?_)
      · have xx := x10.trans x11
        refine i_mkV ?_
        walk_at "gr"
        exact p_ver (bp := false) (kv := .non) (hx.get (x9.trans xx)) (.inr ⟨rfl, tv.get xx, .inl ⟨rfl, p_raiseV T.k3 T.eP.no (sh.get xx) rfl hE⟩⟩)
      have x13 := x10.trans x12
      walk_at "gr"
      refine ⟨w, dat, rfl, sh.get x13, ?_⟩
      walk_at "gr"
      rename_i p14 H14 n14 s14 e14
      refine p_strs (by decide +kernel) ok (s14 _ _ e12) e14 ?_
      walk_at "gr"
      exact ⟨_, rfl, x13.trans (Ext.of s14)⟩
    subst es
    have xA := x9.trans x10
    clear facts f9 eys x10
    walk_at "gr"
    rename_i R1 I1 l1 t1 r1 L3 I2 l2 t2 r2
    have h1 := t2 _ _ r1
    have xB : Ext Tb H I2 := xA.trans (Ext.of (t1.trans t2))
    obtain ⟨ws, ews⟩ : ∃ ws, ws = [V.non, .str "", .str "Ann", .str "a b", .str "abcdefghi", .int 5, .ref R1, .str "a1", .str "ann\n"] := ⟨_, rfl⟩
    have r2 : I2 L3 = some (.lst ws) := by rw [ews]; exact r2
    have facts : ∀ w ∈ ws, nameB w = false ∧ (∃ k, Kd I2 w k) ∧ Sw I2 w := fun w hw => by
      rw [ews] at hw
      simp only [List.mem_cons, List.not_mem_nil, or_false] at hw
      rcases hw with rfl | rfl | rfl | rfl | rfl | rfl | rfl | rfl | rfl
      · exact ⟨rfl, ⟨_, .non⟩, sw_non⟩
      · exact ⟨by decide +kernel, ⟨_, .str _ (by decide)⟩, _, by decide +kernel, .inl ⟨.str _, rfl, rfl, by decide, by decide +kernel⟩⟩
      · exact ⟨by decide +kernel, ⟨_, .str _ (by decide)⟩, _, by decide +kernel, .inl ⟨.str _, rfl, rfl, by decide, by decide +kernel⟩⟩
      · exact ⟨by decide +kernel, ⟨_, .str _ (by decide)⟩, _, by decide +kernel, .inl ⟨.str _, rfl, rfl, by decide, by decide +kernel⟩⟩
      · exact ⟨by decide +kernel, ⟨_, .str _ (by decide)⟩, _, by decide +kernel, .inl ⟨.str _, rfl, rfl, by decide, by decide +kernel⟩⟩
      · exact ⟨rfl, ⟨_, .int _⟩, _, by decide +kernel, .inl ⟨.int _, rfl, rfl, by decide, by decide +kernel⟩⟩
      · exact ⟨rfl, ⟨_, .lst h1⟩, _, by decide +kernel, .inl ⟨.lst h1 (.cons (.str _) .nil), rfl, rfl, by decide, by decide +kernel⟩⟩
      · exact ⟨by decide +kernel, ⟨_, .str _ (by decide)⟩, _, by decide +kernel, .inl ⟨.str _, rfl, rfl, by decide, by decide +kernel⟩⟩
      · exact ⟨by decide +kernel, ⟨_, .str _ (by decide)⟩, _, by decide +kernel, .inl ⟨.str _, rfl, rfl, by decide, by decide +kernel⟩⟩
    refine fow (xs := ws) wx_list (fun i σ' H' => ∃ o : Option V, σ' = [some x, some y, some (.str z), o] ∧ Ext Tb I2 H') ⟨o, rfl, Ext.refl _⟩ (fun i σ' H' ⟨_, _, y⟩ => SqL.of (y.get r2 (fun _ z => nomatch z))) (fun i w σ' H' hw ⟨o, es, x10⟩ => ?_) (fun σ' H' ⟨o, es, x10⟩ => ?_)
    · subst es
      obtain ⟨nb, ⟨kw, hk⟩, dat, ok, sh⟩ := facts w (List.mem_of_getElem? hw)
      have hT4 := (xB.trans x10).tab hT
      walk_at "gr"
      refine p_lam hT4 2 dat.shown (by decide) (fun H11 E1 Q1 x11 hE => ?_) (fun p H12 x12 t12 e12 => ?_)
      · have xx := x10.trans x11
        refine i_mkV ?_
        walk_at "gr"
        exact p_ver (hx.get (xB.trans xx)) (.inr ⟨rfl, hy.get (xB.trans xx), .inr ⟨rfl, hk.get xx, .inl ⟨nb, p_raiseV T.k2 T.eN.no (sh.get xx) rfl hE⟩⟩⟩)
      have x13 := x10.trans x12
      walk_at "gr"
      refine ⟨w, dat, rfl, sh.get x13, ?_⟩
      walk_at "gr"
      rename_i p14 H14 n14 s14 e14
      refine p_strs (by decide +kernel) ok (s14 _ _ e12) e14 ?_
      walk_at "gr"
      exact ⟨_, rfl, x13.trans (Ext.of s14)⟩
    subst es
    walk_at "gr"
    exact q _ (xB.trans x10)
end
end Pk

namespace Pk
open PySem PySem.Spec PyProof.Rows L2
local macro_rules | `(tactic| walk_at "sz") => `(tactic| first | assumption | decide +kernel | exact Nat.le_trans (Nat.le_of_ble_eq_true rfl) (show 100000 ≤ sizeLine by decide) | exact Nat.le_trans (by omega) (show 100000 ≤ sizeLine by decide) | (show _ ≤ sizeLine; exact Nat.le_trans (by (simp only [List.length_append, List.length_map, List.length_cons, List.length_nil]; omega)) (show 100000 ≤ sizeLine by decide)))
local macro_rules | `(tactic| walk_at "mul") => `(tactic| first | exact Or.inl (Or.inl ⟨by omega, by omega⟩) | exact Or.inl (Or.inr ⟨by omega, by omega⟩))
local macro_rules | `(tactic| walk_at "ci") => `(tactic| first | assumption | exact (by decide : (0 : Int) < _) | (show (0 : Int) < _; omega) | exact ⟨by assumption, by assumption⟩ | exact ⟨by decide, by decide⟩ | exact ⟨by decide, by decide, by omega⟩)
local macro_rules | `(tactic| walk_at "lk") => `(tactic| first | assumption | exact upd_same | ((refine Eq.trans (upd_ne (by first | assumption | exact Ne.symm (by assumption))) ?_); walk_at "lk") | exact Same.get (by assumption) (by walk_at "lk") | exact Keep.get (by assumption) (by walk_at "lk") (by assumption) (by assumption))
local macro_rules | `(tactic| walk_at "sq") => `(tactic| first | assumption | exact SqL.of (by walk_at "lk") | exact Same.seq (by assumption) (by walk_at "sq"))
local macro_rules | `(tactic| walk_at "stt") => `(tactic| exact SqT.of (by walk_at "lk"))
local macro_rules | `(tactic| walk_at "kd") => `(tactic| first | assumption | exact Kd.str _ (by first | assumption | omega | decide) | exact Kd.bl _ | exact Kd.int _ | exact Kd.non | exact Kd.lst (by walk_at "lk") | exact Kd.tup (by walk_at "lk") | exact Kd.dct (by walk_at "lk") | exact Kd.same (by assumption) (by walk_at "kd"))
local macro_rules | `(tactic| walk_at "sm") => `(tactic| first | assumption | exact Same.refl _ | (refine Same.trans ?_ (by assumption); walk_at "sm"))
local macro_rules | `(tactic| walk_at "st") => `(tactic| first
  | with_reducible refine i_seq ?_ | with_reducible refine i_asg ?_ | with_reducible refine i_ret ?_ | with_reducible refine i_op ?_
  | ((with_reducible show tVar _ _ _ _); refine i_var rfl ?_)
  | with_reducible refine i_c ?_ | with_reducible refine i_cb ?_ | with_reducible refine i_call ?_ | with_reducible refine i_cons ?_ | with_reducible refine i_nil ?_
  | with_reducible refine i_name ?_ | with_reducible refine i_sub ?_ | with_reducible refine i_drop ?_ | with_reducible refine i_ifs ?_ | with_reducible refine i_ife ?_
  | with_reducible refine i_test ?_ | with_reducible refine i_tru ?_ | with_reducible refine i_and ?_ | with_reducible refine i_or ?_ | with_reducible refine i_not ?_
  | with_reducible refine i_andV ?_ | with_reducible refine i_orV ?_ | with_reducible refine i_notV ?_ | with_reducible refine i_un ?_
  | with_reducible refine i_bl ?_ | with_reducible refine i_trB ?_ | with_reducible refine i_next ?_
  | with_reducible refine iteF ?_ | with_reducible refine iteT ?_
  | with_reducible refine i_lstF ?_ | with_reducible refine i_tupF ?_
  | with_reducible refine p_addI ?_ | with_reducible refine p_I0 ?_ | with_reducible refine p_U ?_
  | with_reducible refine p_ltI ?_ | with_reducible refine p_leI ?_ | with_reducible refine p_gtI ?_ | with_reducible refine p_geI ?_
  | with_reducible refine p_ltS ?_ | with_reducible refine p_leS ?_ | with_reducible refine p_gtS ?_
  | with_reducible refine p_eqI ?_ | with_reducible refine p_neI ?_ | with_reducible refine p_int ?_
  | ((with_reducible show rMuXX (V.int _) (V.int _) _ _); refine p_muI (by walk_at "mul") ?_)
  | ((with_reducible show rI _ _ (V.int _) (V.int _) _ _); refine p_I (by walk_at "ci") ?_)
  | ((with_reducible show rIx _ (V.ref _) (V.int _) _ _); (first | refine p_ixL (by walk_at "sq") (by first | exact rfl | assumption) ?_ | refine p_ixT (SqT.of (by walk_at "lk")) (by first | exact rfl | assumption) ?_))
  | ((with_reducible show rSetL (V.ref _) (V.int _) _ _ _); refine p_setL (by walk_at "lk") (by first | exact rfl | assumption) ?_)
  | ((with_reducible show rLenX _ [V.ref _] _ _); (first | refine p_lenL (by walk_at "sq") ?_ | refine p_lenT (SqT.of (by walk_at "lk")) ?_))
  | ((with_reducible show rLenX _ [V.str _] _ _); refine p_lenS (by walk_at "sz") ?_)
  | with_reducible refine i_lc ?_ | with_reducible refine i_for ?_ | with_reducible refine i_itl ?_ | with_reducible refine i_itt ?_ | with_reducible refine i_itr ?_ | with_reducible refine i_its ?_
  | ((with_reducible show ∃ _, V.ref _ = V.ref _ ∧ (∃ _, SqL _ _ _ _) ∧ _); refine p_itl (by walk_at "sq") ?_)
  | ((with_reducible show ∃ _, V.ref _ = V.ref _ ∧ (∃ _, SqT _ _ _ _) ∧ _); refine p_itt (by walk_at "stt") ?_) | with_reducible refine p_its ?_
  | ((with_reducible show ∃ _, [V.int _] = [V.int _] ∧ _); refine p_itr (by omega) (by omega) ?_)
  | with_reducible refine i_sl ?_ | with_reducible refine i_np ?_ | with_reducible refine i_pt ?_ | with_reducible refine i_in ?_
  | ((with_reducible show rSlXX _ (V.ref _) _ _ _ _); refine p_slL (by walk_at "sq") ?_; intro _ _ _ _ _)
  | ((with_reducible show rSlXX _ (V.str _) _ _ _ _); refine p_slS (by walk_at "sz") ?_)
  | ((with_reducible show rIsi _ [_, V.ty "str"] _ _); refine p_isStr (by walk_at "kd") ?_)
  | ((with_reducible show rIsi _ [_, V.ty "int"] _ _); refine p_isInt (by walk_at "kd") ?_)
  | ((with_reducible show rIsi _ [_, V.ty "bool"] _ _); refine p_isBool (by walk_at "kd") ?_)
  | ((with_reducible show rIsiT _ [_, V.ref _] _ _); refine p_isLT (by walk_at "lk") (by walk_at "kd") ?_)
  | with_reducible refine i_chain ?_ | with_reducible refine i_m1 ?_ | with_reducible refine i_m0 ?_ | with_reducible refine i_str ?_
  | ((with_reducible show LstK _ _ _); refine p_lstK (by walk_at "sz") ?_; intro _ _ _ _ _)
  | ((with_reducible show TupK _ _ _); refine p_tupK (by walk_at "sz") ?_; intro _ _ _ _ _)
  | ((with_reducible show (if _ = true then _ else _)); (first | refine ifT' (by first | assumption | exact rfl) ?_ | refine ifF' (by first | assumption | exact rfl) ?_))
  | ((with_reducible show rEqX _ (V.bl _) (V.bl _) _ _); refine p_eqS rfl ?_) | ((with_reducible show rNeX _ (V.bl _) (V.bl _) _ _); refine p_neS rfl ?_)
  | ((with_reducible show rEqX _ (V.ref _) (V.ref _) _ _); refine p_eqNil (by walk_at "lk") (by walk_at "lk") ?_) | ((with_reducible show rNeX _ (V.ref _) (V.ref _) _ _); refine p_neNil (by walk_at "lk") (by walk_at "lk") ?_)
  | ((with_reducible show rAddX _ (V.str _) (V.str _) _ _); refine p_addS (by walk_at "sz") ?_)
  | ((with_reducible show rMuXX (V.str _) (V.int _) _ _); refine p_muS ⟨by decide +kernel, by decide +kernel, by decide +kernel⟩ ?_)
  | ((with_reducible show tDNewK _ _ _); refine i_dnew ?_; intro _ _ _ _ _)
  | ((with_reducible show rTupX _ [V.ref _] _ _); refine p_tupL (by walk_at "sq") ?_; intro _ _ _ _ _)
  | ((with_reducible show rAddX _ (V.ref _) (V.ref _) _ _); refine p_addL (by walk_at "lk") (by walk_at "lk") (by walk_at "sz") ?_; intro _ _ _ _ _)
  | with_reducible refine p_notB ?_ | with_reducible refine p_isB ?_)
local macro_rules | `(tactic| walk_at "go") => `(tactic| (walk_at "st"; (repeat walk_at "st")))

local macro_rules | `(tactic| walk_at "rx") => `(tactic| first
  | with_reducible refine i_par ?_ | ((with_reducible show ∃ _, [V.int _] = [V.int _] ∧ _); refine ⟨_, rfl, ?_⟩))
local macro_rules | `(tactic| walk_at "gr") => `(tactic| repeat (first | walk_at "st" | walk_at "rx"))
abbrev s_law : Stmt := top 46
abbrev N_law : List Str := ["script", "pool", "k", "name", "version", "others", "lines", "elders", "given", "named"]
theorem sc_law : FnScope ["script", "pool", "k", "name", "version", "others", "lines", "elders", "given", "named"] ["script"] (defScope s_law) := ⟨rfl, rfl, rfl, by decide +kernel, rfl, by decide +kernel, by decide +kernel⟩
structure Tl (K : PySem.W.Frag) (mg : Str → Option Value) (C CI CT CP CN : Addr) (Cs : Nat → Addr) (CL cr cf : Addr) : Prop where
  W : OwnF K mg
  R : RtF K mg C CI Cs CL cr
  F : RfF K mg C CT CP CN Cs CL cf
  ne : PySem.W.findIn K (.ref C) "__ne__" = some (some (.builtin "object.__ne__"))
  top : PySem.W.subIn K (.ref C) (.type "object") = some true
  ap : Apart K C
  n_range : mg "range" = none
  n_list : mg "list" = none
  n_tuple : mg "tuple" = none
  n_len : mg "len" = none
section
variable {X : Cx} {k j : Nat} {x : Str} {C : Addr} {sp : Sp} {dvs : List V} {E : XK} {p pos : Pos} {e : Expr} {t : TA}
theorem pe_mk0 (c : MakX X.prog X.w X.K X.mg X.base k x C sp dvs) (hr : Room j X.A) (hk : k + 1 ≤ j) (hx : Passes (L2.CX X.prog X.w) X E) (hg : Gl X x) (ha : PA X [e] t)
    (hdb : (x == ("__debug__" : Str)) = false := by decide) (he : starEach [e] X.env = (false, eval e X.env) :: starEach [] X.env := by rfl) (hpl : (backTo pos (starEach [] X.env)).any (·.1) = false := by rfl) :
    PE X (.Call (.Name x p) [e] [] pos) (tMake C sp dvs E t) := by
  obtain ⟨f, fd, ps, ds, M, F, hm, b, d⟩ := c.ex
  exact pe_make M F (hr.mono hk) hg hm b d hx ha hdb he hpl
end
section
variable {P : Program} {w : World} {K : PySem.W.Frag} {mg : Str → Option Value} {base : Heap} {C CI CT CP CN : Addr} {Cs : Nat → Addr} {CL cr cf : Addr} {Tb : List (Addr × Str)} {Pr Pf : Addr}
theorem seen_no {ns : List Int} (nd : ns.Nodup) : ∀ i, i ≤ ns.length → ∀ j, j < ns.length → i ≤ j → seenI (at0 ns) i (at0 ns j) = false
  | 0, _, _, _, _ => rfl
  | i + 1, hi, j, hj, hij => by
    unfold seenI
    rw [seen_no nd i (by omega) j hj (by omega), Bool.false_or]
    refine decide_eq_false fun e => ?_
    have hi2 : i < ns.length := by omega
    have e1 : at0 ns j = ns[j] := by unfold at0; rw [List.getD_eq_getElem?_getD, List.getElem?_eq_getElem hj]; rfl
    have e2 : at0 ns i = ns[i] := by unfold at0; rw [List.getD_eq_getElem?_getD, List.getElem?_eq_getElem hi2]; rfl
    rw [e1, e2] at e
    exact List.pairwise_iff_getElem.mp nd i j hi2 hj (by omega) e.symm
theorem unlike_nodup {ns : List Int} (nd : ns.Nodup) : unlikeI ns = ns.length := by
  have : ∀ i, i ≤ ns.length → numI (at0 ns) i = i := fun i => by
    induction i with
    | zero => intro _; rfl
    | succ i ih =>
      intro h
      unfold numI
      rw [seen_no nd i (by omega) i (by omega) (Nat.le_refl i), ih (by omega)]
      rfl
  exact this _ (Nat.le_refl _)
theorem int_back (ns : List Int) : (ns.map V.int).map intOf = ns := by
  rw [List.map_map]
  exact List.map_id ns
theorem par_true {ns : List Int} (l : ns.length ≤ 3) (nd : ns.Nodup) (nn : ∀ x ∈ ns, 0 ≤ x ∧ x < 10 ^ 20) : parB (ns.map V.int) = true := by
  simp only [parB, int_back, unlike_nodup nd, List.length_map, l, decide_true, Bool.true_and, Bool.and_true]
  rw [List.all_map, List.all_eq_true]
  exact fun x hx => decide_eq_true (nn x hx).1
theorem kinds_int {H : Hp} {ns : List Int} : ∀ y ∈ ns.map V.int, ∃ k, Kd H y k := fun y hy => by
  obtain ⟨i, _, rfl⟩ := List.mem_map.mp hy
  exact ⟨_, .int i⟩
theorem kinds_str {H : Hp} {ss : List Str} (h : ∀ s ∈ ss, s.length ≤ 10000) : ∀ y ∈ ss.map V.str, ∃ k, Kd H y k := fun y hy => by
  obtain ⟨s, hs, rfl⟩ := List.mem_map.mp hy
  exact ⟨_, .str s (h s hs)⟩
theorem line_ok : ∀ s ∈ (Str.ofString "x" :: wordsS), lineB (.str s) = true ∧ s.length ≤ 10000 ∧ PyData.strOk s = true := by decide +kernel
theorem text_true {ss : List Str} (l : ss.length ≤ 12) (h : ∀ s ∈ ss, s ∈ (Str.ofString "x" :: wordsS)) : (decide ((ss.map V.str).length ≤ 12) && (ss.map V.str).all lineB) = true := by
  rw [List.length_map, decide_eq_true l, Bool.true_and, List.all_map, List.all_eq_true]
  exact fun s hs => (line_ok s (h s hs)).1
theorem tv_lst {H : Hp} {a : Addr} {ss : List Str} (e : H a = some (.lst (ss.map V.str))) (l : ss.length ≤ 12) (h : ∀ s ∈ ss, s ∈ (Str.ofString "x" :: wordsS)) : TextV H (.ref a) true :=
  (text_true l h) ▸ TextV.lst e (by rw [List.length_map]; omega) (kinds_str fun s hs => (line_ok s (h s hs)).2.1)
theorem tv_tup {H : Hp} {a : Addr} {ss : List Str} (e : H a = some (.tup (ss.map V.str))) (l : ss.length ≤ 12) (h : ∀ s ∈ ss, s ∈ (Str.ofString "x" :: wordsS)) : TextV H (.ref a) true :=
  (text_true l h) ▸ TextV.tup e (by rw [List.length_map]; omega) (kinds_str fun s hs => (line_ok s (h s hs)).2.1)
theorem pv_lst {H : Hp} {a : Addr} {ns : List Int} (e : H a = some (.lst (ns.map V.int))) (l : ns.length ≤ 3) (nd : ns.Nodup) (nn : ∀ x ∈ ns, 0 ≤ x ∧ x < 10 ^ 20) : ParV K H (.ref a) true ns := by
  have h := ParV.lst (K := K) e (by rw [List.length_map]; omega) kinds_int
  rw [par_true l nd nn, int_back] at h
  exact h
theorem pv_tup {H : Hp} {a : Addr} {ns : List Int} (e : H a = some (.tup (ns.map V.int))) (l : ns.length ≤ 3) (nd : ns.Nodup) (nn : ∀ x ∈ ns, 0 ≤ x ∧ x < 10 ^ 20) : ParV K H (.ref a) true ns := by
  have h := ParV.tup (K := K) e (by rw [List.length_map]; omega) kinds_int
  rw [par_true l nd nn, int_back] at h
  exact h
def nm : Str := "abcdefghijklmnop"
theorem name_ok : ∀ i < 8, ∀ j < 8, nameB (.str (cutS (cutS nm (some (i : Nat)) none) none (some (1 + (j : Nat))))) = true ∧ (cutS (cutS nm (some (i : Nat)) none) none (some (1 + (j : Nat))) == Str.ofString "zz") = false ∧ (cutS nm (some (i : Nat)) none).length ≤ 16 ∧ (cutS (cutS nm (some (i : Nat)) none) none (some (1 + (j : Nat)))).length ≤ 16 := by decide +kernel
/-- a version is made, nothing is raised -/
theorem p_made {H : Hp} {Q : VK} {x y : V} {z : Str} {ss : List Str} {np : List Int} (hx : TextV H x true) (hl : LstV H x (ss.map V.str)) (hy : ParV K H y true np) (hz : z.length ≤ 16) (hn : nameB (.str z) = true)
    (q : ∀ a H' ms, ms.Perm np → ms.Pairwise (· ≤ ·) → Same H H' → H a = none → VAt C H' a (ss.map V.str) ms z → Q (.ref a) H') : MkV C (spVer K C CT CP CN) E0 Q [x] [y, .str z] H := by
  refine p_ver (kv := .str) hx (.inr ⟨rfl, hy, .inr ⟨rfl, .str z (by omega), .inr ⟨hn, fun a H' G ls z' ms sG hls ez pm sm s na hv => ?_⟩⟩⟩)
  cases ez
  obtain ⟨b, e1, h1⟩ := hl.same sG
  obtain ⟨c, e2, h2⟩ := hls
  rw [e1] at e2
  cases e2
  have el : ls = ss.map V.str := by
    rcases h1 with h1 | h1 <;> rcases h2 with h2 | h2 <;> rw [h1] at h2 <;> cases h2 <;> rfl
  rw [el] at hv
  exact q a H' ms pm sm s na hv
theorem tabs_upd {T : List (Addr × Str)} {H : Hp} {g : Addr} {xs ys : List V} (e : H g = some (.lst xs)) (t : LamX.Tabs T H) : LamX.Tabs T (upd H g (.lst ys)) := fun q hq => by
  have np : ∀ b o, H b = some o → (∀ xs, o ≠ .lst xs) → upd H g (.lst ys) b = some o := fun b o e' no => by
    rw [upd_ne (fun y => by rw [y, e] at e'; exact no _ (Option.some.inj e').symm)]
    exact e'
  obtain ⟨ps, a1, a2, a3⟩ := t q hq
  refine ⟨ps, np _ _ a1 (fun _ z => nomatch z), a2, fun pos cv hc => ?_⟩
  obtain ⟨c', e1, e2⟩ := a3 pos cv hc
  exact ⟨c', e1, np _ _ e2 (fun _ z => by unfold LamX.CodeO at z; cases z)⟩
theorem VAt.upd {H : Hp} {a g : Addr} {ls : List V} {ps : List Int} {z : Str} {xs ys : List V} (e : H g = some (.lst xs)) (h : VAt C H a ls ps z) : VAt C (L2.upd H g (.lst ys)) a ls ps z := by
  obtain ⟨dx, L, M, e1, e2, e3⟩ := h
  refine ⟨dx, L, M, ?_, ?_, ?_⟩
  · rw [upd_ne (fun y => by rw [y, e] at e1; cases e1)]
    exact e1
  · rw [upd_ne (fun y => by rw [y, e] at e2; cases e2)]
    exact e2
  · rw [upd_ne (fun y => by rw [y, e] at e3; cases e3)]
    exact e3
theorem i_revL {K : PySem.W.Frag} {te : TE} {σ : L2.St} {H : Hp} {Q : VK} (h : te σ H fun x H1 => ∃ a xs, x = .ref a ∧ SqL K H1 a xs ∧ ∀ p, H1 p = none → Q (.ref p) (L2.upd H1 p (.lst xs.reverse))) : tRevL K te σ H Q := h
theorem eqPs_nil : ∀ qs : List Int, eqPs qs [] = qs.isEmpty
  | [] => by decide +kernel
  | q :: r => by
    show PyData.eqv (.tuple ((q :: r).map PyData.int)) (.tuple []) = false
    simp [PyData.eqv, PyData.eqvAll]
theorem empty_perm {a b : List Int} (h : a.Perm b) : a.isEmpty = b.isEmpty := by
  cases a with
  | nil => rw [List.Perm.eq_nil h.symm]
  | cons x r =>
    cases b with
    | nil => exact absurd (List.Perm.eq_nil h) (by simp)
    | cons y t => rfl
theorem p_neV {H : Hp} {Q : VK} {a b : Addr} {ss ss' : List Str} {ps ps' : List Int} {z z' : Str} (h : VAt C H a (ss.map V.str) ps z) (ok : ∀ s ∈ ss, PyData.strOk s = true) (h' : VAt C H b (ss'.map V.str) ps' z') (ok' : ∀ s ∈ ss', PyData.strOk s = true)
    (q : Q (.bl (!(decide (z = z') && (eqLs ss ss' && eqPs ps ps')))) H) : rNeOwn C (spVEq C) (.ref a) (.ref b) H Q := by
  obtain ⟨dx, L, M, e1, e2, e3⟩ := id h
  obtain ⟨dx', L', M', f1, f2, f3⟩ := id h'
  exact ⟨a, dx, _, rfl, e1, .inr ⟨b, dx', _, rfl, f1⟩, a, .ref b, ss, ps, z, rfl, h, ok, .inr ⟨b, ss', ps', z', rfl, h', ok', _, rfl, q⟩⟩
theorem p_eqV {H : Hp} {Q : VK} {a b : Addr} {ss ss' : List Str} {ps ps' : List Int} {z z' : Str} (h : VAt C H a (ss.map V.str) ps z) (ok : ∀ s ∈ ss, PyData.strOk s = true) (h' : VAt C H b (ss'.map V.str) ps' z') (ok' : ∀ s ∈ ss', PyData.strOk s = true)
    (q : Q (.bl (decide (z = z') && (eqLs ss ss' && eqPs ps ps'))) H) : rOwn C (spVEq C) (.ref a) (.ref b) H Q := by
  obtain ⟨dx, L, M, e1, e2, e3⟩ := id h
  obtain ⟨dx', L', M', f1, f2, f3⟩ := id h'
  exact ⟨a, dx, _, rfl, e1, .inr ⟨b, dx', _, rfl, f1⟩, a, .ref b, ss, ps, z, rfl, h, ok, .inr ⟨b, ss', ps', z', rfl, h', ok', q⟩⟩
theorem p_eqO {H : Hp} {Q : VK} {a : Addr} {ss : List Str} {ps : List Int} {z : Str} {y : V} {k : Kn} (h : VAt C H a (ss.map V.str) ps z) (ok : ∀ s ∈ ss, PyData.strOk s = true) (hy : Kd H y k) (q : Q (.bl false) H) : rOwn C (spVEq C) (.ref a) y H Q := by
  obtain ⟨dx, L, M, e1, e2, e3⟩ := id h
  exact ⟨a, dx, _, rfl, e1, .inl ⟨k, hy⟩, a, y, ss, ps, z, rfl, h, ok, .inl ⟨k, hy, q⟩⟩
def MkV1 (C : Addr) (T1 : Addr) (sp : Sp) (E : XK) (Q : VK) : List V → List V → Hp → Prop := fun vs zs H2 => vs.length = 1 ∧ zs.length = 1 ∧ ∀ x dx, H2 x = none → H2 dx = none → dx ≠ x → sp ((.ref x :: vs) ++ [.ref T1] ++ zs) (L2.upd (L2.upd H2 dx (.own x)) x (.ins C dx [])) (fun v H3 => v = .non ∧ Q (.ref x) H3) E
theorem i_mkV1 {T1 : Addr} {σ : L2.St} {H : Hp} {Q : VK} {E : XK} {sp : Sp} {t tk : TA} (h : t σ H fun vs H1 => tk σ H1 (MkV1 C T1 sp E Q vs)) : tMakeK C 1 1 sp (fun vs zs => vs ++ [.ref T1] ++ zs) E t tk σ H Q := h
theorem p_made1 {H : Hp} {Q : VK} {x : V} {z : Str} {ss : List Str} {T1 : Addr} {np : List Int} (hx : TextV H x true) (hl : LstV H x (ss.map V.str)) (hy : ParV K H (.ref T1) true np) (hz : z.length ≤ 16) (hn : nameB (.str z) = true)
    (q : ∀ a H' ms, ms.Perm np → ms.Pairwise (· ≤ ·) → Same H H' → H a = none → VAt C H' a (ss.map V.str) ms z → Q (.ref a) H') : MkV1 C T1 (spVer K C CT CP CN) E0 Q [x] [.str z] H := ⟨rfl, rfl, (p_made hx hl hy hz hn q).2.2⟩
def Mk0 (C : Addr) (T0 : Addr) (sp : Sp) (E : XK) (Q : VK) : List V → Hp → Prop := fun vs H2 => ∀ x dx, H2 x = none → H2 dx = none → dx ≠ x → sp (.ref x :: (vs ++ [.ref T0, .str "anon"])) (L2.upd (L2.upd H2 dx (.own x)) x (.ins C dx [])) (fun v H3 => v = .non ∧ Q (.ref x) H3) E
theorem i_mk0 {T0 : Addr} {σ : L2.St} {H : Hp} {Q : VK} {E : XK} {sp : Sp} {t : TA} (h : t σ H (Mk0 C T0 sp E Q)) : tMake C sp [.ref T0, .str "anon"] E t σ H Q := h
theorem p_made0 {H : Hp} {Q : VK} {x : V} {ss : List Str} {T0 : Addr} {np : List Int} (hx : TextV H x true) (hl : LstV H x (ss.map V.str)) (hy : ParV K H (.ref T0) true np)
    (q : ∀ a H' ms, ms.Perm np → ms.Pairwise (· ≤ ·) → Same H H' → H a = none → VAt C H' a (ss.map V.str) ms "anon" → Q (.ref a) H') : Mk0 C T0 (spVer K C CT CP CN) E0 Q [x] H := (p_made hx hl hy (by decide) (by decide +kernel) q).2.2
def spLaw (K : PySem.W.Frag) (Tb : List (Addr × Str)) : Sp := fun vs H Q _ => ∃ (a : Addr) (ns : List Int), vs = [.ref a] ∧ SqL K H a (ns.map V.int) ∧ ns.length ≤ 63 ∧ LamX.Tabs Tb H ∧ ∀ H', Q (.bl true) H'
theorem ok_law (T : Tl K mg C CI CT CP CN Cs CL cr cf) (lf__law_right : LamF base mg Tb cr Pr "_law_right") (lf__law_refused : LamF base mg Tb cf Pf "_law_refused") {f : Addr} {fd : FuncData} (F : Fun K "law" "law" s_law f fd) : GOk P w K mg base CX0 16 f fd ["script"] (spLaw K Tb) := by
  have c__law_pool : Cal P w K mg base CX0 1 "_law_pool" (spPool K) := c__law_pool T.W.P
  have c__law_draw : Cal P w K mg base CX0 2 "_law_draw" spDraw := c__law_draw T.W.P
  have c__law_own_lines : Cal P w K mg base CX0 3 "_law_own_lines" spOwn := c__law_own_lines T.W
  have c__law_parents : Cal P w K mg base CX0 3 "_law_parents" spPrs := c__law_parents T.W
  have c__law_right : CalG P w K mg base CX0 12 "_law_right" (spRt C Tb) := c__law_right T.R lf__law_right
  have c__law_refused : CalG P w K mg base CX0 13 "_law_refused" (spRf K Tb) := c__law_refused T.F lf__law_refused
  have x_ver2 : MakP P w K mg base 5 "Version" C (spVer K C CT CP CN) ["parents", "author"] (fun vs zs => vs ++ zs) := x_ver2 T.F.V T.F.eT T.F.eP T.F.eN
  obtain ⟨T1, em1, x_ver1⟩ := x_ver1 (P := P) (w := w) (base := base) T.F.V T.F.eT T.F.eP T.F.eN
  obtain ⟨T0, em0, x_ver0⟩ := x_ver0 (P := P) (w := w) (base := base) T.F.V T.F.eT T.F.eP T.F.eN
  have o_eq : OwnM P w K mg base 3 C "__eq__" (spVEq C) := c_veq T.R.M
  refine g_of F sc_law (fun vs H Q E h => ?_) (fun cdv A outer s H vs Q E gd hr h => ?_)
  · obtain ⟨a, ns, rfl, _⟩ := h
    rfl
  · obtain ⟨a, ns, rfl, hS, hl, hT, q⟩ := h
    have hr : Room 15 _ := hr
    refine (?_ : ∃ t, PSs (cxOf CX0 P w K mg base N_law "law" (defScope s_law) f cdv A outer s H E).nox (defBody s_law) t ∧ t { nx := fun _ H' => Q .non H', rt := Q } (start N_law [.ref a]) H).elim fun t z => ⟨t, z.1.nox, z.2⟩
    refine ⟨_, (pss_cons (ps_set (i := 1) sc_law.nd rfl (by first | exact Or.inl rfl | exact Or.inr rfl) (pe_c c__law_pool hr (by decide) (by rfl) pass0 (pa_cons (pv 0) pa_nil)))
      (pss_cons (ps_for PassesOwn.never rfl (pi_range1 (by rfl) T.n_range (pa_cons pe_int pa_nil)) (pg_name (i := 2) sc_law.nd rfl (by first | exact Or.inl rfl | exact Or.inr rfl)) (pss_cons (ps_par (i := 6) (j := 7) (by rfl) sc_law.nd rfl rfl (by decide) rfl rfl (pa_cons (pe_c c__law_own_lines hr (by decide) (by rfl) pass0 (pa_cons (pv 1) pa_nil)) (pa_cons (pe_c c__law_parents hr (by decide) (by rfl) pass0 (pa_cons (pv 1) pa_nil)) pa_nil)) (by rfl))
      (pss_cons (ps_set (i := 3) sc_law.nd rfl (by first | exact Or.inl rfl | exact Or.inr rfl) (pe_slice (r := rSlXX K) sl_X (pe_slice (r := rSlXX K) sl_X pe_str (po_some (pe_c c__law_draw hr (by decide) (by rfl) pass0 (pa_cons (pv 1) (pa_cons pe_int pa_nil)))) po_none) po_none (po_some (pe_op (r := rAddX K) op_addX pe_int (pe_c c__law_draw hr (by decide) (by rfl) pass0 (pa_cons (pv 1) (pa_cons pe_int pa_nil)))))))
      (pss_cons (ps_par (i := 8) (j := 9) (by rfl) sc_law.nd rfl rfl (by decide) rfl rfl (pa_cons (pe_callTy call_list_of (by rfl) T.n_list (by decide +kernel) (pa_cons (pv 6) pa_nil)) (pa_cons (pe_callTy call_list_of (by rfl) T.n_list (by decide +kernel) (pa_cons (pv 7) pa_nil)) pa_nil)) (by rfl))
      (pss_cons (ps_set (i := 4) sc_law.nd rfl (by first | exact Or.inl rfl | exact Or.inr rfl) (pe_mkP x_ver2 hr (by decide) pass_no (by rfl) (pa_cons (pv 8) pa_nil) (pk_cons (pv 9) (pk_cons (pv 3) pk_nil))))
      (pss_cons (ps_expr (pe_bm PySem.F.plainAttrs_list PySem.F.slot_list_append PySem.F.type_list_append mt_append (pv 8) (pa_cons pe_str pa_nil)))
      (pss_cons (ps_expr (pe_bm PySem.F.plainAttrs_list PySem.F.slot_list_append PySem.F.type_list_append mt_append (pv 9) (pa_cons pe_int pa_nil)))
      (pss_cons (ps_if (pt_not (pt_truK (K := K) rfl (pe_cG c__law_right hr gd (by decide) (by rfl) pass0 (pa_cons (pv 4) (pa_cons (pv 6) (pa_cons (pv 7) (pa_cons (pv 3) pa_nil))))) (by intro _; rfl))) (pss_one (ps_ret pe_bl)) pss_nil)
      (pss_cons (ps_if (pt_cmpR (op_neOwn o_eq T.ne T.top (by decide) hr T.ap) (pv 4) (pe_mkP x_ver2 hr (by decide) pass_no (by rfl) (pa_cons (pe_callTy (r := rTupX K) call_tupX (by rfl) T.n_tuple (by decide +kernel) (pa_cons (pv 6) pa_nil)) pa_nil) (pk_cons (pe_callTy (r := rTupX K) call_tupX (by rfl) T.n_tuple (by decide +kernel) (pa_cons (pe_revL (pv 7)) pa_nil)) (pk_cons (pv 3) pk_nil))) (nomark _)) (pss_one (ps_ret pe_bl)) pss_nil)
      (pss_cons (ps_if (pt_cmpR (op_own (fun _ _ => rfl) o_eq rfl (by decide) hr T.ap) (pv 4) (pv 6) (nomark _)) (pss_one (ps_ret pe_bl)) pss_nil)
      (pss_cons (ps_set (i := 5) sc_law.nd rfl (by first | exact Or.inl rfl | exact Or.inr rfl) (pe_lst (pa_cons (pe_mkP x_ver2 hr (by decide) pass_no (by rfl) (pa_cons (pe_op (r := rAddX K) op_addX (pv 6) (pe_slice (r := rSlXX K) sl_X (pe_lst (pa_cons pe_str pa_nil)) po_none (po_some (pe_op op_sub pe_int (pe_callB (r := rLenX K) call_lenX (by rfl) T.n_len (by decide +kernel) (pa_cons (pv 6) pa_nil)))))) pa_nil) (pk_cons (pv 7) (pk_cons pe_str pk_nil))) (pa_cons (pe_mkP x_ver1 hr (by decide) pass_no (by rfl) (pa_cons (pv 6) pa_nil) (pk_cons (pv 3) pk_nil)) pa_nil))))
      (pss_cons (ps_if (PW.pt (pw_or (pt_cmpR (op_own (fun _ _ => rfl) o_eq rfl (by decide) hr T.ap) (pv 4) (pe_ix (r := rIx K) ix_seq (pv 5) pe_int (fun _ _ => rfl)) (nomark _)) (pw_or1 (pt_cmpR (r := rNeX K) (op_neX hr.units) (pe_cmpR (op_own (fun _ _ => rfl) o_eq rfl (by decide) hr T.ap) (pv 4) (pe_ix (r := rIx K) ix_seq (pv 5) pe_int (fun _ _ => rfl)) (nomark _)) (pe_cmpR (r := rEqX K) (op_eqX hr.units) (pv 7) (pe_lst pa_nil) (nomark _)) (nomark _))))) (pss_one (ps_ret pe_bl)) pss_nil)
      (pss_cons (ps_if (pt_not (pt_truK (K := K) rfl (pe_cG c__law_right hr gd (by decide) (by rfl) pass0 (pa_cons (pe_mk0 x_ver0 hr (by decide) pass_no (by rfl) (pa_cons (pv 6) pa_nil)) (pa_cons (pv 6) (pa_cons (pe_lst pa_nil) (pa_cons pe_str pa_nil))))) (by intro _; rfl))) (pss_one (ps_ret pe_bl)) pss_nil)
      (pss_one (ps_if (pt_not (pt_truK (K := K) rfl (pe_cG c__law_refused hr gd (by decide) (by rfl) pass0 (pa_cons (pv 6) (pa_cons (pv 7) (pa_cons (pv 3) pa_nil)))) (by intro _; rfl))) (pss_one (ps_ret pe_bl)) pss_nil)))))))))))))))
      (pss_one (ps_ret pe_bl)))), ?_⟩
    walk_at "gr"
    refine ⟨a, ns, rfl, hS, hl, fun p n H1 hP s1 np nn => ?_⟩
    have hT1 := hT.ext s1
    walk_at "gr"
    refine fow (xs := intsV 6) wx_range (fun i σ' H' => ∃ v2 v3 v4 v5 v6 v7 v8 v9 : Option V, σ' = [some (.ref a), some (.ref p), v2, v3, v4, v5, v6, v7, v8, v9] ∧ PoolAt H' p n (100 * i) ∧ LamX.Tabs Tb H')
      ⟨none, none, none, none, none, none, none, none, rfl, hP.mono (by omega), hT1⟩ (fun _ _ _ _ => trivial) (fun i x σ' H' hx ⟨v2, v3, v4, v5, v6, v7, v8, v9, es, hP, hT⟩ => ?_) (fun σ' H' ⟨v2, v3, v4, v5, v6, v7, v8, v9, es, hP, hT⟩ => ?_)
    · obtain ⟨hi, rfl⟩ := intsV_at hx
      subst es
      walk_at "gr"
      refine ⟨p, n, 100 * i, rfl, hP, by omega, by omega, fun D ss Ha l1 ws hPa ka nD eD => ?_⟩
      have nD' := hP.ne nD
      have hTa := ka.tabs hP hT
      walk_at "gr"
      refine ⟨p, n, 100 * i + 20, rfl, hPa, by omega, by omega, fun G ns Hb l2 nd bd hPb kb nG eG => ?_⟩
      have nG' := hPa.ne nG
      have hTb := kb.tabs hPa hTa
      have eDb := kb _ _ eD nD'.1 nD'.2
      walk_at "gr"
      refine ⟨_, _, rfl, ?_⟩
      walk_at "gr"
      refine ⟨p, n, 8, 100 * i + 30, rfl, hPb.mono (by omega), by omega, by omega, by decide, by decide, fun r1 Hc r10 r11 hPc kc => ?_⟩
      obtain ⟨m1, rfl⟩ := Int.eq_ofNat_of_zero_le r10
      have hTc := kc.tabs (hPb.mono (j := 100 * i + 30) (by omega)) hTb
      have eDc := kc _ _ eDb nD'.1 nD'.2
      have eGc := kc _ _ eG nG'.1 nG'.2
      walk_at "gr"
      refine ⟨p, n, 8, 100 * i + 31, rfl, hPc.mono (by omega), by omega, by omega, by decide, by decide, fun r2 Hd r20 r21 hPd kd => ?_⟩
      obtain ⟨m2, rfl⟩ := Int.eq_ofNat_of_zero_le r20
      have hTd := kd.tabs (hPc.mono (j := 100 * i + 31) (by omega)) hTc
      have eDd := kd _ _ eDc nD'.1 nD'.2
      have eGd := kd _ _ eGc nG'.1 nG'.2
      obtain ⟨nb, nz, nl1, nl2⟩ := name_ok m1 (by omega) m2 (by omega)
      have sl1 : (cutS (Str.ofString "abcdefghijklmnop") (some (m1 : Int)) none).length ≤ sizeLine := Nat.le_trans nl1 (by decide)
      walk_at "gr"
      generalize hz : cutS (cutS (Str.ofString "abcdefghijklmnop") (some (m1 : Int)) none) none (some (1 + (m2 : Int))) = z
      rw [show cutS (cutS nm (some (m1 : Int)) none) none (some (1 + (m2 : Int))) = z from hz] at nb nz nl2
      refine ⟨D, ss.map V.str, rfl, .inl (SqL.of eDd), fun g ng => ?_⟩
      walk_at "gr"
      have sg : Same Hd (upd Hd g (.lst (ss.map V.str))) := same_upd ng
      refine ⟨G, ns.map V.int, rfl, .inl (SqL.of (sg _ _ eGd)), fun h nh => ?_⟩
      have sh := same_upd (o := .lst (ns.map V.int)) nh
      have ngp := hPd.ne ng
      have nhp := (hPd.same sg).ne nh
      have eg5 := sh _ _ (upd_same : upd Hd g (.lst (ss.map V.str)) g = some (.lst (ss.map V.str)))
      have eh5 : upd (upd Hd g (.lst (ss.map V.str))) h (.lst (ns.map V.int)) h = some (.lst (ns.map V.int)) := upd_same
      have ngh : g ≠ h := fun y => by
        rw [← y, upd_same] at nh
        cases nh
      have hP5 := (hPd.same sg).same sh
      have hT5 := (hTd.ext sg).ext sh
      have eD5 := sh _ _ (sg _ _ eDd)
      have eG5 := sh _ _ (sg _ _ eGd)
      have nDg : D ≠ g := ne_of_none eDd ng
      have nGg : G ≠ g := ne_of_none eGd ng
      have nDh : D ≠ h := ne_of_none (sg _ _ eDd) nh
      have nGh : G ≠ h := ne_of_none (sg _ _ eGd) nh
      generalize upd (upd Hd g (.lst (ss.map V.str))) h (.lst (ns.map V.int)) = H5 at eg5 eh5 hP5 hT5 eD5 eG5
      walk_at "gr"
      refine ⟨_, _, rfl, ?_⟩
      walk_at "gr"
      refine i_mkV ?_
      walk_at "gr"
      have wx : ∀ s ∈ ss, s ∈ (Str.ofString "x" :: wordsS) := fun s hs => List.mem_cons_of_mem _ (ws s hs)
      refine p_made (tv_lst eg5 l1 wx) ⟨g, rfl, .inl eg5⟩ (pv_lst eh5 l2 nd bd) nl2 nb fun v H6 ms pm sm s6 nv hV6 => ?_
      have eg6 := s6 _ _ eg5
      have eh6 := s6 _ _ eh5
      walk_at "gr"
      refine i_bm ?_
      walk_at "gr"
      refine ⟨.inl ⟨rfl, _, SqL.of eg6⟩, ?_⟩
      walk_at "gr"
      refine ⟨g, ss.map V.str, .str "more", rfl, rfl, eg6, Nat.lt_of_lt_of_le (show (ss.map V.str).length < 100000 by rw [List.length_map]; omega) (by decide), ?_⟩
      have eh7 : upd H6 g (.lst (ss.map V.str ++ [.str "more"])) h = some (.lst (ns.map V.int)) := by rw [upd_ne ngh.symm]; exact eh6
      have hV7 := hV6.upd (ys := ss.map V.str ++ [.str "more"]) eg6
      have hT7 := tabs_upd (ys := ss.map V.str ++ [.str "more"]) eg6 (hT5.ext s6)
      have hP7 : PoolAt (upd H6 g (.lst (ss.map V.str ++ [.str "more"]))) p n (100 * i + 40) := ((hP5.same s6).upd ngp.1 ngp.2).mono (by omega)
      have eD7 : upd H6 g (.lst (ss.map V.str ++ [.str "more"])) D = some (.lst (ss.map V.str)) := by rw [upd_ne nDg]; exact s6 _ _ eD5
      have eG7 : upd H6 g (.lst (ss.map V.str ++ [.str "more"])) G = some (.lst (ns.map V.int)) := by rw [upd_ne nGg]; exact s6 _ _ eG5
      generalize upd H6 g (.lst (ss.map V.str ++ [.str "more"])) = H7 at eh7 hV7 hT7 hP7 eD7 eG7
      walk_at "gr"
      refine i_bm ?_
      walk_at "gr"
      refine ⟨.inl ⟨rfl, _, SqL.of eh7⟩, ?_⟩
      walk_at "gr"
      refine ⟨h, ns.map V.int, .int 3, rfl, rfl, eh7, Nat.lt_of_lt_of_le (show (ns.map V.int).length < 100000 by rw [List.length_map]; omega) (by decide), ?_⟩
      have hV8 := hV7.upd (ys := ns.map V.int ++ [.int 3]) eh7
      have hT8 := tabs_upd (ys := ns.map V.int ++ [.int 3]) eh7 hT7
      have hP8 : PoolAt (upd H7 h (.lst (ns.map V.int ++ [.int 3]))) p n (100 * i + 40) := hP7.upd nhp.1 nhp.2
      have eD8 : upd H7 h (.lst (ns.map V.int ++ [.int 3])) D = some (.lst (ss.map V.str)) := by rw [upd_ne nDh]; exact eD7
      have eG8 : upd H7 h (.lst (ns.map V.int ++ [.int 3])) G = some (.lst (ns.map V.int)) := by rw [upd_ne nGh]; exact eG7
      generalize upd H7 h (.lst (ns.map V.int ++ [.int 3])) = H8 at hV8 hT8 hP8 eD8 eG8
      walk_at "gr"
      refine ⟨v, D, G, ss, ns, ms, z, rfl, hV8, eD8, eG8, l1, ws, l2, bd, pm, sm, hT8, fun H9 x9 => ?_⟩
      have hV9 := hV8.ext x9
      have eD9 := x9.get eD8 (fun _ z => nomatch z)
      have eG9 := x9.get eG8 (fun _ z => nomatch z)
      have hP9 := x9.pool hP8
      have hT9 := x9.tab hT8
      walk_at "gr"
      refine i_mkV ?_
      walk_at "gr"
      rename_i Lt H10 n10 s10 e10
      refine i_revL ?_
      walk_at "gr"
      refine ⟨G, ns.map V.int, rfl, SqL.of (s10 _ _ eG9), fun r nr => ?_⟩
      have sr := same_upd (o := .lst (ns.map V.int).reverse) nr
      walk_at "gr"
      rename_i Rt H12 n12 s12 e12
      have s912 : Same H9 H12 := (s10.trans sr).trans s12
      have e12 : H12 Rt = some (.tup (ns.reverse.map V.int)) := by rw [e12, List.map_reverse]
      have e10b := s12 _ _ (sr _ _ e10)
      have ndr : ns.reverse.Nodup := (List.reverse_perm ns).nodup_iff.mpr nd
      refine p_made (tv_tup e10b l1 wx) ⟨Lt, rfl, .inr e10b⟩ (pv_tup e12 (by rw [List.length_reverse]; exact l2) ndr fun x hx => bd x (List.mem_reverse.mp hx)) nl2 nb fun v2 H13 ms2 pm2 sm2 s13 nv2 hW => ?_
      have em : ms2 = ms := ((pm2.trans (List.reverse_perm ns)).trans pm.symm).eq_of_pairwise (fun x y _ _ h1 h2 => Int.le_antisymm h1 h2) sm2 sm
      subst em
      have hV13 := (hV9.same s912).same s13
      have ok : ∀ s ∈ ss, PyData.strOk s = true := fun s hs => (line_ok s (wx s hs)).2.2
      have eqL : eqLs ss ss = true := SeqAt.eqv_refl _ (show (PyData.tuple (ss.map PyData.str)).canLay0 = true from lay_strs ss ok)
      have eqP : ∀ qs : List Int, eqPs qs qs = true := fun qs => SeqAt.eqv_refl _ (show (PyData.tuple (qs.map PyData.int)).canLay0 = true from lay_ints qs)
      refine p_neV hV13 ok hW ok ?_
      rw [decide_eq_true rfl, eqL, eqP]
      walk_at "gr"
      have s1013 := s912.trans s13
      have eD13 := s1013 _ _ eD9
      have eG13 := s1013 _ _ eG9
      refine p_eqO hV13 ok (.lst eD13) ?_
      walk_at "gr"
      refine i_mkV ?_
      have big : 100000 ≤ sizeLine := by decide
      walk_at "gr"
      rename_i X1 H14 n14 s14 e14 X2 H15 n15 s15 e15
      have ek : (12 : Int) - (((ss.map V.str).length : Nat) : Int) = ((12 - ss.length : Nat) : Int) := by rw [List.length_map]; omega
      rw [ek, cutV_to] at e15
      refine p_addL (s15 _ _ (s14 _ _ eD13)) e15 (Nat.le_trans (show (ss.map V.str).length + (List.take (12 - ss.length) [V.str (Str.ofString "x")]).length ≤ 100 by rw [List.length_map, List.length_take]; show ss.length + min (12 - ss.length) 1 ≤ 100; omega) (by decide)) fun X3 H16 n16 s16 e16 => ?_
      obtain ⟨s3, es3⟩ : ∃ s3, s3 = ss ++ [Str.ofString "x"].take (12 - ss.length) := ⟨_, rfl⟩
      have e16 : H16 X3 = some (.lst (s3.map V.str)) := by
        rw [e16, es3, List.map_append, List.map_take]
        rfl
      have l3 : s3.length ≤ 12 := by
        rw [es3, List.length_append, List.length_take]
        show ss.length + min (12 - ss.length) 1 ≤ 12
        omega
      have w3 : ∀ s ∈ s3, s ∈ (Str.ofString "x" :: wordsS) := fun s hs => by
        rw [es3] at hs
        rcases List.mem_append.mp hs with h | h
        · exact wx s h
        · have := List.mem_of_mem_take h
          rw [List.mem_singleton.mp this]
          exact List.mem_cons_self
      have s1316 := (s14.trans s15).trans s16
      walk_at "gr"
      have eG16 := s1316 _ _ eG13
      refine p_made (tv_lst e16 l3 w3) ⟨X3, rfl, .inl e16⟩ (pv_lst eG16 l2 nd bd) (by decide) (by decide +kernel) fun v3 H17 ms3 pm3 sm3 s17 nv3 hW3 => ?_
      have s1317 := s1316.trans s17
      walk_at "gr"
      refine i_mkV1 ?_
      have eD17 := s1317 _ _ eD13
      walk_at "gr"
      refine p_made1 (tv_lst eD17 l1 wx) ⟨D, rfl, .inl eD17⟩ em1.par nl2 nb fun v4 H18 ms4 pm4 sm4 s18 nv4 hW4 => ?_
      have em4 : ms4 = [] := List.Perm.eq_nil pm4
      subst em4
      walk_at "gr"
      rename_i O H19 n19 s19 e19
      have s1819 := s18.trans s19
      have sA : Same H13 H19 := s1317.trans s1819
      have hV19 := hV13.same sA
      have hX19 := hW3.same s1819
      have hY19 := hW4.same s19
      have eD19 := sA _ _ eD13
      have eG19 := sA _ _ eG13
      have ok3 : ∀ s ∈ s3, PyData.strOk s = true := fun s hs => (line_ok s (w3 s hs)).2.2
      have zz : z ≠ Str.ofString "zz" := fun e => by
        rw [e] at nz
        simp at nz
      refine p_eqV hV19 ok hX19 ok3 ?_
      rw [decide_eq_false zz, Bool.false_and]
      refine ⟨_, rfl, ?_⟩
      rw [if_neg Bool.false_ne_true]
      walk_at "gr"
      refine p_eqV hV19 ok hY19 ok ?_
      rw [decide_eq_true rfl, eqL, Bool.true_and, Bool.true_and]
      walk_at "gr"
      have eb : eqPs ms2 [] = (ns.map V.int).isEmpty := by
        rw [eqPs_nil, empty_perm pm]
        cases ns <;> rfl
      rw [eb, decide_eq_true rfl]
      walk_at "gr"
      rename_i N0 H20 n20 s20 e20
      have eD20 := s20 _ _ eD19
      refine i_mk0 ?_
      walk_at "gr"
      refine p_made0 (tv_lst eD20 l1 wx) ⟨D, rfl, .inl eD20⟩ em0.par fun vZ H21 ms5 pm5 sm5 s21 nv5 hZ => ?_
      have em5 : ms5 = [] := List.Perm.eq_nil pm5
      subst em5
      walk_at "gr"
      rename_i N1 H22 n22 s22 e22
      have s1922 := (s20.trans s21).trans s22
      have eD22 := s1922 _ _ eD19
      have eG22 := s1922 _ _ eG19
      have s922 : Same H9 H22 := (s1013.trans sA).trans s1922
      have hT22 := hT9.ext s922
      have hP22 := hP9.same s922
      refine ⟨vZ, D, N1, ss, [], [], _, rfl, hZ.same s22, eD22, e22, l1, ws, by simp, by simp, List.Perm.refl _, List.Pairwise.nil, hT22, fun H23 x23 => ?_⟩
      have hT23 := x23.tab hT22
      have hP23 := x23.pool hP22
      have eD23 := x23.get eD22 (fun _ z => nomatch z)
      have eG23 := x23.get eG22 (fun _ z => nomatch z)
      walk_at "gr"
      refine ⟨.ref D, .ref G, z, ns, rfl, tv_lst eD23 l1 wx, pv_lst eG23 l2 nd bd, hT23, fun H24 x24 => ?_⟩
      walk_at "gr"
      exact ⟨_, _, _, _, _, _, _, _, rfl, (x24.pool hP23).mono (by push_cast; omega), x24.tab hT23⟩
    · subst es
      walk_at "gr"
      exact q _
end
end Pk

/-! the end of a law whose defs make lambdas, its guards empty -/
namespace Pk
open PySem PySem.Spec PyProof.Rows L2
/-- the law's own heap: its script, if the text doesn't hold it, and the tables -/
def lawH (K : PySem.W.Frag) (a : Addr) (ob : Obj) (zs : List V) (ts : List Addr) : Hp := fun b => if b = a ∧ (K.lookup a).isNone = true then some (.frz ob (.lst zs)) else if b ∈ ts then some (.tbl #[]) else none
section
variable {P : Program} {w : World} {K : PySem.W.Frag} {mg mb : Str → Option Value} {CX : CXT} {k : Nat} {fa a : Addr} {cs : List (Addr × Addr)} {fd : FuncData} {x : Str} {sp : Sp} {s₁ : Shared} {vs : List Value} {ns : List Int} {ob : Obj} {zs : List V} {ts : List Addr} {b : Addr} {o : HO}
theorem lawH_is (e : lawH K a ob zs ts b = some o) : (b = a ∧ K.lookup a = none ∧ o = .frz ob (.lst zs)) ∨ (b ∈ ts ∧ o = .tbl #[]) := by
  unfold lawH at e
  by_cases h1 : b = a ∧ (K.lookup a).isNone = true
  · rw [if_pos h1] at e
    exact .inl ⟨h1.1, Option.isNone_iff_eq_none.mp h1.2, (Option.some.inj e).symm⟩
  · rw [if_neg h1] at e
    by_cases h2 : b ∈ ts
    · rw [if_pos h2] at e
      exact .inr ⟨h2, (Option.some.inj e).symm⟩
    · rw [if_neg h2] at e
      cases e
theorem lawH_tab (h1 : b ∈ ts) (h2 : b ≠ a) : lawH K a ob zs ts b = some (.tbl #[]) := by
  unfold lawH
  rw [if_neg fun z => h2 z.1, if_pos h1]
theorem lawH_at (h : K.lookup a = none) : lawH K a ob zs ts a = some (.frz ob (.lst zs)) := by
  unfold lawH
  rw [if_pos ⟨rfl, by rw [h]; rfl⟩]
structure Tabled (h : Heap) (K : PySem.W.Frag) (cs : List (Addr × Addr)) : Prop where
  new : ∀ p ∈ cs, h.get? p.2 = some { cls := .none, data := .fields #[] }
  out : ∀ p ∈ cs, K.lookup p.2 = none
  code : ∀ p ∈ cs, PySem.W.CodeHd h p.1 p.2
theorem law_callGT (KX : K.In s₁.heap) (hns : s₁.heap.Ns mainGlobals mg) (hb : s₁.heap.Ns builtinsNs mb) (hbb : ∀ x : Str, x ≠ "__name__" → mb x = bootBuiltins x) (free : s₁.heap.NoLimit) (hg : s₁.gens = #[]) (tb : Tabled s₁.heap K cs)
    (hbm : ∃ (bm : Addr) (ob : Obj), mg "__builtins__" = some (.ref bm) ∧ bm ≠ builtinsNs ∧ s₁.heap.get? bm = some ob ∧ ob.cls = .type "module" ∧ ob.dict = some builtinsNs ∧ ob.data = .plain)
    (ha : s₁.heap.get? a = some { cls := .type "list", data := .seq vs.toArray }) (hi : IntsAre vs ns) (hl : ns.length ≤ sizeLine) (room : Room k callerA)
    (F : ∀ base : Heap, K.In base → base.Ns mainGlobals mg → (∀ p ∈ cs, LamX.TabB base mg p.1 p.2) → GOk P w K mg base CX k fa fd [x] sp) (binds : ∀ (s : Shared) (u : Value), BindsTo s fd ⟨[u], []⟩ [(x, u)])
    (hsp : ∀ H : Hp, (∀ p ∈ cs, H p.2 = some (.tbl #[])) → SqL K H a (ns.map V.int) → sp [.ref a] H (fun v _ => v = .bl true) fun _ _ _ => False) (calm : ∀ H e s', CX [] H s₁ (fun _ _ _ => False) e s' → False) :
    codeAny (model P w) callerA (.call (.ref fa) ⟨[.ref a], []⟩) (fun r s' => r = .ok (.ret (.bool true)) ∧ OldK s₁.heap s'.heap ∧ s'.os = s₁.os ∧ AllBare s'.gens) s₁ := by
  have rel := vals_ints hi
  obtain ⟨ts, hts⟩ : ∃ ts, ts = cs.map (·.2) := ⟨_, rfl⟩
  have tin : ∀ p ∈ cs, p.2 ∈ ts := fun p hp => by rw [hts]; exact List.mem_map_of_mem hp
  have tat : ∀ b ∈ ts, ∃ p ∈ cs, p.2 = b := fun b hb => by
    rw [hts] at hb
    obtain ⟨p, hp, e⟩ := List.mem_map.mp hb
    exact ⟨p, hp, e⟩
  have ta : ∀ b ∈ ts, b ≠ a := fun b hb z => by
    obtain ⟨p, hp, e⟩ := tat b hb
    have q := tb.new p hp
    rw [e, z, ha] at q
    cases congrArg Obj.data (Option.some.inj q)
  obtain ⟨H, hH⟩ : ∃ H, H = lawH K a { cls := .type "list", data := .seq vs.toArray } (ns.map V.int) ts := ⟨_, rfl⟩
  have isH : ∀ {b o}, H b = some o → (b = a ∧ K.lookup a = none ∧ o = .frz { cls := .type "list", data := .seq vs.toArray } (.lst (ns.map V.int))) ∨ (b ∈ ts ∧ o = .tbl #[]) := fun e => lawH_is (by rw [← hH]; exact e)
  have okL : ObjOk P w H s₁.heap a (.lst (ns.map V.int)) := ⟨by rw [List.length_map]; exact hl, vs, _, rel, ha⟩
  have ok : HOk P w H s₁.heap := fun b o e => by
    rcases isH e with ⟨rfl, _, rfl⟩ | ⟨h1, rfl⟩
    · exact ⟨ha, okL⟩
    · obtain ⟨p, hp, rfl⟩ := tat b h1
      exact tb.new p hp
  have hS : SqL K H a (ns.map V.int) := by
    cases q : K.lookup a with
    | none => exact .inl (.inr ⟨_, by rw [hH]; exact lawH_at q⟩)
    | some o =>
      have e := KX a o q
      rw [ha] at e
      cases e
      exact .inr ⟨_, vs.toArray, _, q, rfl, rfl, rfl, by rw [List.size_toArray, hi.length]; exact hl, by simpa using rel⟩
  have bare : ∀ {b : Addr} {ob : Obj}, s₁.heap.get? b = some ob → (∀ us n, ob.data ≠ .seq us n) → ob.data ≠ .fields #[] → H b = none := fun {b ob} e n1 n2 => by
    cases q : H b with
    | none => rfl
    | some u =>
      rcases isH q with ⟨rfl, _, _⟩ | ⟨h1, _⟩
      · rw [ha] at e
        cases e
        exact absurd rfl (n1 _ _)
      · obtain ⟨p, hp, rfl⟩ := tat b h1
        rw [tb.new p hp] at e
        cases e
        exact absurd rfl n2
  have stays : ∀ {b : Addr} {m : Str → Option Value}, s₁.heap.Ns b m → (hidT s₁.heap H).Ns b m := fun {b m} z => by
    obtain ⟨o, es, ep, e, d, r⟩ := z
    refine ⟨o, es, ep, hidT_get e (bare e (fun us n y => ?_) fun y => ?_), d, r⟩
    · rw [d] at y
      cases y
    · rw [d] at y
      cases y
  have kin : K.In (hidT s₁.heap H) := fun b o e => by
    refine hidT_get (KX b o e) ?_
    cases q : H b with
    | none => rfl
    | some u =>
      rcases isH q with ⟨rfl, y, _⟩ | ⟨h1, _⟩
      · rw [e] at y
        cases y
      · obtain ⟨p, hp, rfl⟩ := tat b h1
        rw [tb.out p hp] at e
        cases e
  have tabs : ∀ p ∈ cs, LamX.TabB (hidT s₁.heap H) mg p.1 p.2 := fun p hp => by
    refine ⟨?_, ?_, fun z => ?_⟩
    · obtain ⟨o, us, file, tf, flags, tg, inF, text, tt, e1, r1, r2, r3, r⟩ := tb.code p hp
      refine ⟨o, us, file, tf, flags, tg, inF, text, tt, hidT_get e1 (bare e1 (fun us n y => ?_) fun y => ?_), r1, r2, r3, r⟩
      · rw [r2] at y
        cases y
      · rw [r2] at y
        cases y
        simp at r3
    · obtain ⟨bm, ob, b1, b2, b3, b4, b5, b6⟩ := hbm
      refine ⟨bm, ob, b1, b2, fun q => ?_, fun q => ?_, hidT_get b3 (bare b3 (fun us n y => ?_) fun y => ?_), b4, b5, b6⟩
      · obtain ⟨o, es, ep, e, d, _⟩ := hns
        rw [q, e] at b3
        cases b3
        rw [d] at b6
        cases b6
      · rw [q, tb.new p hp] at b3
        cases b3
        cases b6
      · rw [b6] at y
        cases y
      · rw [b6] at y
        cases y
    · obtain ⟨o, es, ep, e, d, _⟩ := hns
      rw [z, tb.new p hp] at e
      cases e
      cases d
  have e0 : Env0 P w K mg (hidT s₁.heap H) callerA [] s₁ H := ⟨rfl, ⟨kin, stays hns, ⟨mb, stays hb, hbb⟩, free.elim fun mc z => ⟨mc, stays z.1, z.2⟩⟩, fun b o e => of_hidT e, Nat.le_of_eq (hidT_size _ _), trivial, fun b z => absurd (show b ∈ ([] : List Addr) from z) (by simp), ok, .of_eq hg⟩
  have hTb : ∀ p ∈ cs, H p.2 = some (.tbl #[]) := fun p hp => by
    rw [hH]
    exact lawH_tab (tin p hp) (ta _ (tin p hp))
  refine codeAny_mono ((F _ kin (stays hns) tabs).go callerA [] s₁ H ⟨[.ref a], []⟩ [.ref a] [.ref a] _ _ rfl room e0 (binds s₁ (.ref a)) (.cons rfl .nil) (hsp H hTb hS)) fun r s' h => ?_
  match r, h with
  | .error e, h => exact (calm H e s' h).elim
  | .ok (.ret u), h =>
    obtain ⟨v, H', os, bare', un, ok', ru, rfl⟩ := h
    obtain rfl : u = Value.bool true := ru
    have kept : ∀ b o, b ∉ ts → s₁.heap.get? b = some o → s'.heap.get? b = some o := fun b o nb e => by
      cases q : H b with
      | none => exact un.keep b o e q (by intro z; exact absurd (show b ∈ ([] : List Addr) from z) (by simp)) (by simp)
      | some u =>
        rcases isH q with ⟨rfl, _, rfl⟩ | ⟨h1, _⟩
        · have e1 := (ok b _ q).1
          have e2 := (ok' b _ (un.frzs b _ _ q)).1
          rw [e] at e1
          cases e1
          exact e2
        · exact absurd h1 nb
    have grown : ∀ p ∈ cs, ∃ more : Array Value, s'.heap.get? p.2 = some { cls := .none, data := .fields more } := fun p hp => by
      obtain ⟨more, z⟩ := un.tbls p.2 #[] (hTb p hp)
      exact ⟨_, ok' p.2 _ z⟩
    refine ⟨rfl, ⟨fun b o e => ?_, fun b o e => ?_⟩, os, bare'⟩
    · by_cases q : b ∈ ts
      · obtain ⟨p, hp, rfl⟩ := tat b q
        obtain ⟨more, hm⟩ := grown p hp
        have e' := e
        rw [tb.new p hp] at e'
        cases e'
        exact .inr (.inl ⟨((tb.code p hp).tab (tb.new p hp)).isCodeTable, rfl, #[], more, rfl, by rw [Array.empty_append]; exact hm⟩)
      · exact .inl (kept b o q e)
    · by_cases q : b ∈ ts
      · obtain ⟨p, hp, rfl⟩ := tat b q
        obtain ⟨more, hm⟩ := grown p hp
        exact ⟨_, hm⟩
      · exact ⟨o, kept b o q e⟩
  | .ok .next, h => exact h.elim
  | .ok .brk, h => exact h.elim
  | .ok .cont, h => exact h.elim
/-- what is known of the law at the heap that the top leaves -/
def LawAtG (l : PySem.W.OpenLaw) (w : World) (K : PySem.W.Frag) (CX : CXT) (k n : Nat) (x : Str) (mg : Str → Option Value) (fa : Addr) (h : Heap) : Prop :=
  ∃ (fd : FuncData) (cs : List (Addr × Addr)) (sp : Sp), Tabled h K cs ∧ (∀ (s : Shared) (u : Value), BindsTo s fd ⟨[u], []⟩ [(x, u)]) ∧ (∀ (H : Hp) (a : Addr) (ns : List Int), ns.length ≤ n → (∀ p ∈ cs, H p.2 = some (.tbl #[])) → SqL K H a (ns.map V.int) → sp [.ref a] H (fun v _ => v = .bl true) fun _ _ _ => False) ∧
    ∀ base : Heap, K.In base → base.Ns mainGlobals mg → (∀ p ∈ cs, LamX.TabB base mg p.1 p.2) → GOk l.prog w K mg base CX k fa fd [x] sp
theorem walk_GT {l : PySem.W.OpenLaw} {n k : Nat} {q : Program} {loose : List Str} {XP : (Str → Option Value) → Heap → Prop} {YP : World → Heap → Prop} {d : DefRec} {K : Params → PySem.W.Frag} {CX : World → CXT} {x : Str} (hn : l.most = some n) (hn2 : n ≤ sizeLine) (hdf : d.params.defaults = []) (room : Room k callerA)
    (hY : ∀ (w : World) (h : Heap), YP w h → (K w.params).In h) (F : ∀ (w : World) (mg : Str → Option Value) (fa : Addr) (h : Heap), YP w h → (K w.params).In h → h.Ns mainGlobals mg → mg d.name = some (.ref fa) → LawAtG l w (K w.params) (CX w) k n x mg fa h)
    (calm : ∀ (w : World) (H : Hp) (s : Shared) (e : Value) (s' : Shared), CX w [] H s (fun _ _ _ => False) e s' → False) :
    PySem.W.WalkO q loose XP YP l.row.toRowW d [] (fun f vs => PySem.call f vs) := by
  refine Att.attach_callB hn hdf fun w s₀ s₁ mg mb fa o pm cd doc a vs ns G Y ho hd hcd hmg hobj hints hlen hbits hg => ?_
  have KX := hY w _ Y
  obtain ⟨fd, cs, sp, tb, hb, hsp, hF⟩ := F w mg fa _ Y KX G.T.g hmg
  exact law_callGT KX G.T.g G.T.b G.T.builtins G.T.nolimit hg tb G.T.bmain hobj hints (Nat.le_trans hlen hn2) room hF hb (fun H h1 h2 => hsp H a ns hlen h1 h2) fun H e s' => calm w H s₁ e s'
end
end Pk

namespace Pk
open PySem PySem.Spec PyProof.Rows L2
/-! ### what the top has written; the law's own head -/
theorem any3 {K : PySem.W.Frag} {cls a b c : Value} {x y z : Bool} (h1 : PySem.W.exmOne K cls a = some x) (h2 : PySem.W.exmOne K cls b = some y) (h3 : PySem.W.exmOne K cls c = some z) : PySem.W.exmAny K cls [a, b, c] = some (x || (y || (z || false))) := by
  simp [PySem.W.exmAny, h1, h2, h3]
theorem all_mk {l : PySem.W.OpenLaw} {w : World} {K : PySem.W.Frag} {h : Heap} {mg : Str → Option Value} {fa : Addr} (X : K.In h) (G : h.Ns mainGlobals mg) (hfa : mg "law" = some (.ref fa))
    {C : Addr}
    {t_MOST_CHARACTERS : Tok}
    {t_MOST_LINES : Tok}
    {f0 : Addr} {od0 an0 : Option Addr} {sl0 : Array (Option Value)} {oc0 kV0 dc0 pm0 cd0 ct0 : Value}
    {f1 : Addr} {od1 an1 : Option Addr} {sl1 : Array (Option Value)} {oc1 kV1 dc1 pm1 cd1 ct1 : Value}
    {f2 : Addr} {od2 an2 : Option Addr} {sl2 : Array (Option Value)} {oc2 kV2 dc2 pm2 cd2 ct2 : Value}
    {f3 : Addr} {od3 an3 : Option Addr} {sl3 : Array (Option Value)} {oc3 kV3 dc3 pm3 cd3 ct3 : Value}
    {t_MOST_NAME_LETTERS : Tok}
    {t_MOST_PARENTS : Tok}
    {f4 : Addr} {od4 an4 : Option Addr} {sl4 : Array (Option Value)} {oc4 kV4 dc4 pm4 cd4 ct4 : Value}
    {f5 : Addr} {od5 an5 : Option Addr} {sl5 : Array (Option Value)} {oc5 kV5 dc5 pm5 cd5 ct5 : Value}
    {f6 : Addr} {od6 an6 : Option Addr} {sl6 : Array (Option Value)} {oc6 kV6 dc6 pm6 cd6 ct6 : Value}
    {f7 : Addr} {od7 an7 : Option Addr} {sl7 : Array (Option Value)} {oc7 kV7 dc7 pm7 cd7 ct7 : Value}
    {f8 : Addr} {od8 an8 : Option Addr} {sl8 : Array (Option Value)} {oc8 kV8 dc8 pm8 cd8 ct8 : Value}
    {f9 D1 T0 : Addr} {od9 an9 odT : Option Addr} {sl9 slT : Array (Option Value)} {oc9 dc9 pm9 cd9 ct9 : Value} {nT : Nat} {tkA : Tok}
    {f10 : Addr} {od10 an10 : Option Addr} {sl10 : Array (Option Value)} {oc10 kV10 dc10 pm10 cd10 ct10 : Value}
    {p10 : Addr} {r10 : List Value}
    {f11 : Addr} {od11 an11 : Option Addr} {sl11 : Array (Option Value)} {oc11 kV11 dc11 pm11 cd11 ct11 : Value}
    {p11 : Addr} {r11 : List Value}
    {f12 : Addr} {od12 an12 : Option Addr} {sl12 : Array (Option Value)} {oc12 kV12 dc12 pm12 cd12 ct12 : Value}
    {p12 : Addr} {r12 : List Value}
    {f13 : Addr} {od13 an13 : Option Addr} {sl13 : Array (Option Value)} {oc13 kV13 dc13 pm13 cd13 ct13 : Value}
    {f14 : Addr} {od14 an14 : Option Addr} {sl14 : Array (Option Value)} {oc14 kV14 dc14 pm14 cd14 ct14 : Value}
    {f15 : Addr} {od15 an15 : Option Addr} {sl15 : Array (Option Value)} {oc15 kV15 dc15 pm15 cd15 ct15 : Value}
    {f16 : Addr} {od16 an16 : Option Addr} {sl16 : Array (Option Value)} {oc16 kV16 dc16 pm16 cd16 ct16 : Value}
    {f17 : Addr} {od17 an17 : Option Addr} {sl17 : Array (Option Value)} {oc17 kV17 dc17 pm17 cd17 ct17 : Value}
    {f18 : Addr} {od18 an18 : Option Addr} {sl18 : Array (Option Value)} {oc18 kV18 dc18 pm18 cd18 ct18 : Value}
    {f19 : Addr} {od19 an19 : Option Addr} {sl19 : Array (Option Value)} {oc19 kV19 dc19 pm19 cd19 ct19 : Value}
    {f20 : Addr} {od20 an20 : Option Addr} {sl20 : Array (Option Value)} {oc20 kV20 dc20 pm20 cd20 ct20 : Value}
    {f21 : Addr} {od21 an21 : Option Addr} {sl21 : Array (Option Value)} {oc21 kV21 dc21 pm21 cd21 ct21 : Value}
    {f22 : Addr} {od22 an22 : Option Addr} {sl22 : Array (Option Value)} {oc22 kV22 dc22 pm22 cd22 ct22 : Value}
    {E0 : Addr}
    {E1 : Addr}
    {E2 : Addr}
    {E3 : Addr}
    {E4 : Addr}
    {E5 : Addr}
    {E6 : Addr}
    {E7 : Addr}
    {E8 : Addr}
    {E9 : Addr}
    {E10 : Addr}
    {E11 : Addr}
    {E12 : Addr}
    {E13 : Addr}
    {E14 : Addr}
    {E15 : Addr}
    {EL : Addr}
    {f23 : Addr} {od23 an23 : Option Addr} {sl23 : Array (Option Value)} {oc23 kV23 dc23 pm23 cd23 ct23 : Value}
    {f24 : Addr} {od24 an24 : Option Addr} {sl24 : Array (Option Value)} {oc24 kV24 dc24 pm24 cd24 ct24 : Value}
    {nm_E0 q_E0 : Str} {N_E0 : Addr} {bs_E0 bm_E0 sub_E0 : List Value} {sn_E0 : List Str} {ab_E0 : Bool} {col_E0 : Option Bool} {dd_E0 : Option Addr} {m0_E0 m1_E0 m2_E0 m3_E0 m5_E0 : Option Value}
    {f25 : Addr} {od25 an25 : Option Addr} {sl25 : Array (Option Value)} {oc25 kV25 dc25 pm25 cd25 ct25 : Value}
    {nm_E1 q_E1 : Str} {N_E1 : Addr} {bs_E1 bm_E1 sub_E1 : List Value} {sn_E1 : List Str} {ab_E1 : Bool} {col_E1 : Option Bool} {dd_E1 : Option Addr} {m0_E1 m1_E1 m2_E1 m3_E1 m5_E1 : Option Value}
    {f26 : Addr} {od26 an26 : Option Addr} {sl26 : Array (Option Value)} {oc26 kV26 dc26 pm26 cd26 ct26 : Value}
    {nm_E2 q_E2 : Str} {N_E2 : Addr} {bs_E2 bm_E2 sub_E2 : List Value} {sn_E2 : List Str} {ab_E2 : Bool} {col_E2 : Option Bool} {dd_E2 : Option Addr} {m0_E2 m1_E2 m2_E2 m3_E2 m5_E2 : Option Value}
    {f27 : Addr} {od27 an27 : Option Addr} {sl27 : Array (Option Value)} {oc27 kV27 dc27 pm27 cd27 ct27 : Value}
    {nm_E3 q_E3 : Str} {N_E3 : Addr} {bs_E3 bm_E3 sub_E3 : List Value} {sn_E3 : List Str} {ab_E3 : Bool} {col_E3 : Option Bool} {dd_E3 : Option Addr} {m0_E3 m1_E3 m2_E3 m3_E3 m5_E3 : Option Value}
    {f28 : Addr} {od28 an28 : Option Addr} {sl28 : Array (Option Value)} {oc28 kV28 dc28 pm28 cd28 ct28 : Value}
    {f29 : Addr} {od29 an29 : Option Addr} {sl29 : Array (Option Value)} {oc29 kV29 dc29 pm29  ct29 : Value}
    {cr : Addr}
    {Pr : Addr} {ob_Pr : Obj} {vs_Pr : Array Value}
    {f30 : Addr} {od30 an30 : Option Addr} {sl30 : Array (Option Value)} {oc30 kV30 dc30 pm30  ct30 : Value}
    {cf : Addr}
    {Pf : Addr} {ob_Pf : Obj} {vs_Pf : Array Value}
    {f31 : Addr} {od31 an31 : Option Addr} {sl31 : Array (Option Value)} {oc31 kV31 dc31 pm31 cd31 ct31 : Value}
    (aC : PySem.W.nsIn K mainGlobals "Version" = some (some (.ref C)))
    (C_pg : PySem.W.plainGet K C Str.empty = true)
    (C_hd : PySem.W.hasDictIn K C = true)
    (C_po : PySem.W.plainOver K C = true)
    (C_sa : PySem.W.findIn K (.ref C) "__setattr__" = some (some (.builtin "object.__setattr__")))
    (C_mk : PySem.W.makesIn K C = true)
    (C_kc : PySem.W.keepIn K (.ref C) = true)
    (C_ca : PySem.W.findIn K (.ref C) "__class__" = some (some (.builtin "object.__class__")))
    (cnk0 : PySem.W.specialIn K (.builtin "object.__class__") "__get__" = some (some (.builtin "getset_descriptor.__get__")))
    (ctk0 : PySem.W.takesIn K (.builtin "object.__class__") = some true)
    (C_cm : PySem.W.mroIn K C (.type "object") = some true)
    (C_sf : PySem.W.kitOne K (.ref C) (.ref C) = some true)
    (C_si : PySem.W.kitOne K (.ref C) (.type "int") = some false)
    (C_sk0 : PySem.W.kitOne K (.type "NoneType") (.ref C) = some false)
    (C_sk1 : PySem.W.kitOne K (.type "bool") (.ref C) = some false)
    (C_sk2 : PySem.W.kitOne K (.type "int") (.ref C) = some false)
    (C_sk3 : PySem.W.kitOne K (.type "str") (.ref C) = some false)
    (C_sk4 : PySem.W.kitOne K (.type "list") (.ref C) = some false)
    (C_sk5 : PySem.W.kitOne K (.type "tuple") (.ref C) = some false)
    (C_sk6 : PySem.W.kitOne K (.type "dict") (.ref C) = some false)
    (z_isinstance : PySem.W.nsIn K mainGlobals "isinstance" = some none)
    (z_str : PySem.W.nsIn K mainGlobals "str" = some none)
    (z_list : PySem.W.nsIn K mainGlobals "list" = some none)
    (z_tuple : PySem.W.nsIn K mainGlobals "tuple" = some none)
    (z_len : PySem.W.nsIn K mainGlobals "len" = some none)
    (z_all : PySem.W.nsIn K mainGlobals "all" = some none)
    (g_MOST_CHARACTERS : PySem.W.nsIn K mainGlobals "MOST_CHARACTERS" = some (some (.int 40 t_MOST_CHARACTERS)))
    (g_MOST_LINES : PySem.W.nsIn K mainGlobals "MOST_LINES" = some (some (.int 12 t_MOST_LINES)))
    (a0 : PySem.W.nsIn K mainGlobals "is_listing" = some (some (.ref f0)))
    (l0 : K.lookup f0 = some ⟨oc0, od0, .func (PySem.W.fnOf "is_listing" "is_listing" (defArgs s_is_listing) (defBody s_is_listing) (defScope s_is_listing) .none kV0 dc0 pm0 an0 cd0 ct0), sl0⟩)
    (c0 : PySem.W.codeIn K cd0 "is_listing" = true)
    (k0 : PySem.W.keepIn K (.ref f0) = true)
    (a1 : PySem.W.nsIn K mainGlobals "is_plain" = some (some (.ref f1)))
    (l1 : K.lookup f1 = some ⟨oc1, od1, .func (PySem.W.fnOf "is_plain" "is_plain" (defArgs s_is_plain) (defBody s_is_plain) (defScope s_is_plain) .none kV1 dc1 pm1 an1 cd1 ct1), sl1⟩)
    (c1 : PySem.W.codeIn K cd1 "is_plain" = true)
    (k1 : PySem.W.keepIn K (.ref f1) = true)
    (a2 : PySem.W.nsIn K mainGlobals "is_line" = some (some (.ref f2)))
    (l2 : K.lookup f2 = some ⟨oc2, od2, .func (PySem.W.fnOf "is_line" "is_line" (defArgs s_is_line) (defBody s_is_line) (defScope s_is_line) .none kV2 dc2 pm2 an2 cd2 ct2), sl2⟩)
    (c2 : PySem.W.codeIn K cd2 "is_line" = true)
    (k2 : PySem.W.keepIn K (.ref f2) = true)
    (a3 : PySem.W.nsIn K mainGlobals "is_text" = some (some (.ref f3)))
    (l3 : K.lookup f3 = some ⟨oc3, od3, .func (PySem.W.fnOf "is_text" "is_text" (defArgs s_is_text) (defBody s_is_text) (defScope s_is_text) .none kV3 dc3 pm3 an3 cd3 ct3), sl3⟩)
    (c3 : PySem.W.codeIn K cd3 "is_text" = true)
    (k3 : PySem.W.keepIn K (.ref f3) = true)
    (z_int : PySem.W.nsIn K mainGlobals "int" = some none)
    (z_bool : PySem.W.nsIn K mainGlobals "bool" = some none)
    (z_set : PySem.W.nsIn K mainGlobals "set" = some none)
    (g_MOST_NAME_LETTERS : PySem.W.nsIn K mainGlobals "MOST_NAME_LETTERS" = some (some (.int 8 t_MOST_NAME_LETTERS)))
    (g_MOST_PARENTS : PySem.W.nsIn K mainGlobals "MOST_PARENTS" = some (some (.int 3 t_MOST_PARENTS)))
    (a4 : PySem.W.nsIn K mainGlobals "is_whole" = some (some (.ref f4)))
    (l4 : K.lookup f4 = some ⟨oc4, od4, .func (PySem.W.fnOf "is_whole" "is_whole" (defArgs s_is_whole) (defBody s_is_whole) (defScope s_is_whole) .none kV4 dc4 pm4 an4 cd4 ct4), sl4⟩)
    (c4 : PySem.W.codeIn K cd4 "is_whole" = true)
    (k4 : PySem.W.keepIn K (.ref f4) = true)
    (a5 : PySem.W.nsIn K mainGlobals "is_count" = some (some (.ref f5)))
    (l5 : K.lookup f5 = some ⟨oc5, od5, .func (PySem.W.fnOf "is_count" "is_count" (defArgs s_is_count) (defBody s_is_count) (defScope s_is_count) .none kV5 dc5 pm5 an5 cd5 ct5), sl5⟩)
    (c5 : PySem.W.codeIn K cd5 "is_count" = true)
    (k5 : PySem.W.keepIn K (.ref f5) = true)
    (a6 : PySem.W.nsIn K mainGlobals "is_index" = some (some (.ref f6)))
    (l6 : K.lookup f6 = some ⟨oc6, od6, .func (PySem.W.fnOf "is_index" "is_index" (defArgs s_is_index) (defBody s_is_index) (defScope s_is_index) .none kV6 dc6 pm6 an6 cd6 ct6), sl6⟩)
    (c6 : PySem.W.codeIn K cd6 "is_index" = true)
    (k6 : PySem.W.keepIn K (.ref f6) = true)
    (a7 : PySem.W.nsIn K mainGlobals "is_name" = some (some (.ref f7)))
    (l7 : K.lookup f7 = some ⟨oc7, od7, .func (PySem.W.fnOf "is_name" "is_name" (defArgs s_is_name) (defBody s_is_name) (defScope s_is_name) .none kV7 dc7 pm7 an7 cd7 ct7), sl7⟩)
    (c7 : PySem.W.codeIn K cd7 "is_name" = true)
    (k7 : PySem.W.keepIn K (.ref f7) = true)
    (a8 : PySem.W.nsIn K mainGlobals "_can_be_parents" = some (some (.ref f8)))
    (l8 : K.lookup f8 = some ⟨oc8, od8, .func (PySem.W.fnOf "_can_be_parents" "_can_be_parents" (defArgs s__can_be_parents) (defBody s__can_be_parents) (defScope s__can_be_parents) .none kV8 dc8 pm8 an8 cd8 ct8), sl8⟩)
    (c8 : PySem.W.codeIn K cd8 "_can_be_parents" = true)
    (k8 : PySem.W.keepIn K (.ref f8) = true)
    (a9 : PySem.W.findIn K (.ref C) "__init__" = some (some (.ref f9)))
    (i9 : PySem.W.isFn K (.ref f9) = true)
    (l9 : K.lookup f9 = some ⟨oc9, od9, .func (PySem.W.fnOf "__init__" "Version.__init__" (defArgs s_Version___init__) (defBody s_Version___init__) (defScope s_Version___init__) .none (.ref D1) dc9 pm9 an9 cd9 ct9), sl9⟩)
    (c9 : PySem.W.codeIn K cd9 "Version.__init__" = true)
    (k9 : PySem.W.keepIn K (.ref f9) = true)
    (dP : PySem.W.nsIn K D1 "parents" = some (some (.ref T0)))
    (dA : PySem.W.nsIn K D1 "author" = some (some (.str "anon" tkA)))
    (lT0 : K.lookup T0 = some ⟨.type "tuple", odT, .seq #[] nT, slT⟩)
    (no_C_lines : PySem.W.findIn K (.ref C) "_lines" = some none)
    (no_C_parents : PySem.W.findIn K (.ref C) "_parents" = some none)
    (no_C_author : PySem.W.findIn K (.ref C) "_author" = some none)
    (z_sorted : PySem.W.nsIn K mainGlobals "sorted" = some none)
    (a10 : PySem.W.findIn K (.ref C) "lines" = some (some (.ref p10)))
    (g10 : PySem.W.specialIn K (.ref p10) "__get__" = some (some (.builtin "property.__get__")))
    (t10 : PySem.W.takesIn K (.ref p10) = some true)
    (q10 : PySem.W.recIn K p10 "property" = some (.ref f10 :: r10))
    (l10 : K.lookup f10 = some ⟨oc10, od10, .func (PySem.W.fnOf "lines" "Version.lines" (defArgs s_Version_lines) (defBody s_Version_lines) (defScope s_Version_lines) .none kV10 dc10 pm10 an10 cd10 ct10), sl10⟩)
    (c10 : PySem.W.codeIn K cd10 "Version.lines" = true)
    (k10 : PySem.W.keepIn K (.ref f10) = true)
    (a11 : PySem.W.findIn K (.ref C) "parents" = some (some (.ref p11)))
    (g11 : PySem.W.specialIn K (.ref p11) "__get__" = some (some (.builtin "property.__get__")))
    (t11 : PySem.W.takesIn K (.ref p11) = some true)
    (q11 : PySem.W.recIn K p11 "property" = some (.ref f11 :: r11))
    (l11 : K.lookup f11 = some ⟨oc11, od11, .func (PySem.W.fnOf "parents" "Version.parents" (defArgs s_Version_parents) (defBody s_Version_parents) (defScope s_Version_parents) .none kV11 dc11 pm11 an11 cd11 ct11), sl11⟩)
    (c11 : PySem.W.codeIn K cd11 "Version.parents" = true)
    (k11 : PySem.W.keepIn K (.ref f11) = true)
    (a12 : PySem.W.findIn K (.ref C) "author" = some (some (.ref p12)))
    (g12 : PySem.W.specialIn K (.ref p12) "__get__" = some (some (.builtin "property.__get__")))
    (t12 : PySem.W.takesIn K (.ref p12) = some true)
    (q12 : PySem.W.recIn K p12 "property" = some (.ref f12 :: r12))
    (l12 : K.lookup f12 = some ⟨oc12, od12, .func (PySem.W.fnOf "author" "Version.author" (defArgs s_Version_author) (defBody s_Version_author) (defScope s_Version_author) .none kV12 dc12 pm12 an12 cd12 ct12), sl12⟩)
    (c12 : PySem.W.codeIn K cd12 "Version.author" = true)
    (k12 : PySem.W.keepIn K (.ref f12) = true)
    (a13 : PySem.W.findIn K (.ref C) "__len__" = some (some (.ref f13)))
    (i13 : PySem.W.isFn K (.ref f13) = true)
    (l13 : K.lookup f13 = some ⟨oc13, od13, .func (PySem.W.fnOf "__len__" "Version.__len__" (defArgs s_Version___len__) (defBody s_Version___len__) (defScope s_Version___len__) .none kV13 dc13 pm13 an13 cd13 ct13), sl13⟩)
    (c13 : PySem.W.codeIn K cd13 "Version.__len__" = true)
    (k13 : PySem.W.keepIn K (.ref f13) = true)
    (a14 : PySem.W.findIn K (.ref C) "__getitem__" = some (some (.ref f14)))
    (i14 : PySem.W.isFn K (.ref f14) = true)
    (fi14 : PySem.W.fnIn K f14 = true)
    (l14 : K.lookup f14 = some ⟨oc14, od14, .func (PySem.W.fnOf "__getitem__" "Version.__getitem__" (defArgs s_Version___getitem__) (defBody s_Version___getitem__) (defScope s_Version___getitem__) .none kV14 dc14 pm14 an14 cd14 ct14), sl14⟩)
    (c14 : PySem.W.codeIn K cd14 "Version.__getitem__" = true)
    (k14 : PySem.W.keepIn K (.ref f14) = true)
    (a15 : PySem.W.findIn K (.ref C) "__contains__" = some (some (.ref f15)))
    (i15 : PySem.W.isFn K (.ref f15) = true)
    (l15 : K.lookup f15 = some ⟨oc15, od15, .func (PySem.W.fnOf "__contains__" "Version.__contains__" (defArgs s_Version___contains__) (defBody s_Version___contains__) (defScope s_Version___contains__) .none kV15 dc15 pm15 an15 cd15 ct15), sl15⟩)
    (c15 : PySem.W.codeIn K cd15 "Version.__contains__" = true)
    (k15 : PySem.W.keepIn K (.ref f15) = true)
    (a16 : PySem.W.findIn K (.ref C) "__eq__" = some (some (.ref f16)))
    (i16 : PySem.W.isFn K (.ref f16) = true)
    (l16 : K.lookup f16 = some ⟨oc16, od16, .func (PySem.W.fnOf "__eq__" "Version.__eq__" (defArgs s_Version___eq__) (defBody s_Version___eq__) (defScope s_Version___eq__) .none kV16 dc16 pm16 an16 cd16 ct16), sl16⟩)
    (c16 : PySem.W.codeIn K cd16 "Version.__eq__" = true)
    (k16 : PySem.W.keepIn K (.ref f16) = true)
    (a17 : PySem.W.nsIn K mainGlobals "_law_pool" = some (some (.ref f17)))
    (l17 : K.lookup f17 = some ⟨oc17, od17, .func (PySem.W.fnOf "_law_pool" "_law_pool" (defArgs s__law_pool) (defBody s__law_pool) (defScope s__law_pool) .none kV17 dc17 pm17 an17 cd17 ct17), sl17⟩)
    (c17 : PySem.W.codeIn K cd17 "_law_pool" = true)
    (k17 : PySem.W.keepIn K (.ref f17) = true)
    (a18 : PySem.W.nsIn K mainGlobals "_law_mixed" = some (some (.ref f18)))
    (l18 : K.lookup f18 = some ⟨oc18, od18, .func (PySem.W.fnOf "_law_mixed" "_law_mixed" (defArgs s__law_mixed) (defBody s__law_mixed) (defScope s__law_mixed) .none kV18 dc18 pm18 an18 cd18 ct18), sl18⟩)
    (c18 : PySem.W.codeIn K cd18 "_law_mixed" = true)
    (k18 : PySem.W.keepIn K (.ref f18) = true)
    (a19 : PySem.W.nsIn K mainGlobals "_law_draw" = some (some (.ref f19)))
    (l19 : K.lookup f19 = some ⟨oc19, od19, .func (PySem.W.fnOf "_law_draw" "_law_draw" (defArgs s__law_draw) (defBody s__law_draw) (defScope s__law_draw) .none kV19 dc19 pm19 an19 cd19 ct19), sl19⟩)
    (c19 : PySem.W.codeIn K cd19 "_law_draw" = true)
    (k19 : PySem.W.keepIn K (.ref f19) = true)
    (z_range : PySem.W.nsIn K mainGlobals "range" = some none)
    (a20 : PySem.W.nsIn K mainGlobals "_law_own_lines" = some (some (.ref f20)))
    (l20 : K.lookup f20 = some ⟨oc20, od20, .func (PySem.W.fnOf "_law_own_lines" "_law_own_lines" (defArgs s__law_own_lines) (defBody s__law_own_lines) (defScope s__law_own_lines) .none kV20 dc20 pm20 an20 cd20 ct20), sl20⟩)
    (c20 : PySem.W.codeIn K cd20 "_law_own_lines" = true)
    (k20 : PySem.W.keepIn K (.ref f20) = true)
    (a21 : PySem.W.nsIn K mainGlobals "_law_parents" = some (some (.ref f21)))
    (l21 : K.lookup f21 = some ⟨oc21, od21, .func (PySem.W.fnOf "_law_parents" "_law_parents" (defArgs s__law_parents) (defBody s__law_parents) (defScope s__law_parents) .none kV21 dc21 pm21 an21 cd21 ct21), sl21⟩)
    (c21 : PySem.W.codeIn K cd21 "_law_parents" = true)
    (k21 : PySem.W.keepIn K (.ref f21) = true)
    (z_repr : PySem.W.nsIn K mainGlobals "repr" = some none)
    (a22 : PySem.W.nsIn K mainGlobals "_law_exact" = some (some (.ref f22)))
    (l22 : K.lookup f22 = some ⟨oc22, od22, .func (PySem.W.fnOf "_law_exact" "_law_exact" (defArgs s__law_exact) (defBody s__law_exact) (defScope s__law_exact) .none kV22 dc22 pm22 an22 cd22 ct22), sl22⟩)
    (c22 : PySem.W.codeIn K cd22 "_law_exact" = true)
    (k22 : PySem.W.keepIn K (.ref f22) = true)
    (z_ValueError : PySem.W.nsIn K mainGlobals "ValueError" = some none)
    (aE0 : PySem.W.nsIn K mainGlobals "InvalidNumber" = some (some (.ref E0)))
    (aE1 : PySem.W.nsIn K mainGlobals "InvalidText" = some (some (.ref E1)))
    (aE2 : PySem.W.nsIn K mainGlobals "InvalidName" = some (some (.ref E2)))
    (aE3 : PySem.W.nsIn K mainGlobals "InvalidParents" = some (some (.ref E3)))
    (aE4 : PySem.W.nsIn K mainGlobals "InvalidVersion" = some (some (.ref E4)))
    (aE5 : PySem.W.nsIn K mainGlobals "InvalidHistory" = some (some (.ref E5)))
    (aE6 : PySem.W.nsIn K mainGlobals "InvalidLayout" = some (some (.ref E6)))
    (aE7 : PySem.W.nsIn K mainGlobals "InvalidPrices" = some (some (.ref E7)))
    (aE8 : PySem.W.nsIn K mainGlobals "InvalidTelling" = some (some (.ref E8)))
    (aE9 : PySem.W.nsIn K mainGlobals "InvalidDeeds" = some (some (.ref E9)))
    (aE10 : PySem.W.nsIn K mainGlobals "InvalidLine" = some (some (.ref E10)))
    (aE11 : PySem.W.nsIn K mainGlobals "InvalidRanges" = some (some (.ref E11)))
    (aE12 : PySem.W.nsIn K mainGlobals "InvalidCommand" = some (some (.ref E12)))
    (aE13 : PySem.W.nsIn K mainGlobals "ParseError" = some (some (.ref E13)))
    (aE14 : PySem.W.nsIn K mainGlobals "TooMany" = some (some (.ref E14)))
    (aE15 : PySem.W.nsIn K mainGlobals "NothingToUndo" = some (some (.ref E15)))
    (aEL : PySem.W.nsIn K mainGlobals "LineError" = some (some (.ref EL)))
    (a23 : PySem.W.nsIn K mainGlobals "_law_kind" = some (some (.ref f23)))
    (l23 : K.lookup f23 = some ⟨oc23, od23, .func (PySem.W.fnOf "_law_kind" "_law_kind" (defArgs s__law_kind) (defBody s__law_kind) (defScope s__law_kind) .none kV23 dc23 pm23 an23 cd23 ct23), sl23⟩)
    (c23 : PySem.W.codeIn K cd23 "_law_kind" = true)
    (k23 : PySem.W.keepIn K (.ref f23) = true)
    (a24 : PySem.W.nsIn K mainGlobals "_law_caught" = some (some (.ref f24)))
    (l24 : K.lookup f24 = some ⟨oc24, od24, .func (PySem.W.fnOf "_law_caught" "_law_caught" (defArgs s__law_caught) (defBody s__law_caught) (defScope s__law_caught) .none kV24 dc24 pm24 an24 cd24 ct24), sl24⟩)
    (c24 : PySem.W.codeIn K cd24 "_law_caught" = true)
    (k24 : PySem.W.keepIn K (.ref f24) = true)
    (E0_x : K.lookup E0 = some (excClassObj nm_E0 q_E0 E0 N_E0 bs_E0 bm_E0 true sn_E0 sub_E0 ab_E0 col_E0 dd_E0 m0_E0 m1_E0 m2_E0 m3_E0 m5_E0 "ValueError.__new__"))
    (E0_rv : PySem.HandSPX.refsVE bm_E0 = true)
    (E0_sa : PySem.W.findIn K (.ref E0) "__setattr__" = some (some (.builtin "object.__setattr__")))
    (E0_ex : PySem.W.subIn K (.ref E0) (.type "BaseException") = some true)
    (E0_ty : PySem.W.typeIn K (.ref E0) = some (.type "type"))
    (E0_kc : PySem.W.keepIn K (.ref E0) = true)
    (E0_no : PySem.W.findIn K (.ref E0) "value" = some none)
    (a25 : PySem.W.findIn K (.ref E0) "__init__" = some (some (.ref f25)))
    (t25 : PySem.W.typeIn K (.ref f25) = some (.type "function"))
    (l25 : K.lookup f25 = some ⟨oc25, od25, .func (PySem.W.fnOf "__init__" "InvalidNumber.__init__" (defArgs s_InvalidNumber___init__) (defBody s_InvalidNumber___init__) (defScope s_InvalidNumber___init__) .none kV25 dc25 pm25 an25 cd25 ct25), sl25⟩)
    (c25 : PySem.W.codeIn K cd25 "InvalidNumber.__init__" = true)
    (k25 : PySem.W.keepIn K (.ref f25) = true)
    (E1_x : K.lookup E1 = some (excClassObj nm_E1 q_E1 E1 N_E1 bs_E1 bm_E1 true sn_E1 sub_E1 ab_E1 col_E1 dd_E1 m0_E1 m1_E1 m2_E1 m3_E1 m5_E1 "ValueError.__new__"))
    (E1_rv : PySem.HandSPX.refsVE bm_E1 = true)
    (E1_sa : PySem.W.findIn K (.ref E1) "__setattr__" = some (some (.builtin "object.__setattr__")))
    (E1_ex : PySem.W.subIn K (.ref E1) (.type "BaseException") = some true)
    (E1_ty : PySem.W.typeIn K (.ref E1) = some (.type "type"))
    (E1_kc : PySem.W.keepIn K (.ref E1) = true)
    (E1_no : PySem.W.findIn K (.ref E1) "value" = some none)
    (a26 : PySem.W.findIn K (.ref E1) "__init__" = some (some (.ref f26)))
    (t26 : PySem.W.typeIn K (.ref f26) = some (.type "function"))
    (l26 : K.lookup f26 = some ⟨oc26, od26, .func (PySem.W.fnOf "__init__" "InvalidText.__init__" (defArgs s_InvalidText___init__) (defBody s_InvalidText___init__) (defScope s_InvalidText___init__) .none kV26 dc26 pm26 an26 cd26 ct26), sl26⟩)
    (c26 : PySem.W.codeIn K cd26 "InvalidText.__init__" = true)
    (k26 : PySem.W.keepIn K (.ref f26) = true)
    (E2_x : K.lookup E2 = some (excClassObj nm_E2 q_E2 E2 N_E2 bs_E2 bm_E2 true sn_E2 sub_E2 ab_E2 col_E2 dd_E2 m0_E2 m1_E2 m2_E2 m3_E2 m5_E2 "ValueError.__new__"))
    (E2_rv : PySem.HandSPX.refsVE bm_E2 = true)
    (E2_sa : PySem.W.findIn K (.ref E2) "__setattr__" = some (some (.builtin "object.__setattr__")))
    (E2_ex : PySem.W.subIn K (.ref E2) (.type "BaseException") = some true)
    (E2_ty : PySem.W.typeIn K (.ref E2) = some (.type "type"))
    (E2_kc : PySem.W.keepIn K (.ref E2) = true)
    (E2_no : PySem.W.findIn K (.ref E2) "value" = some none)
    (a27 : PySem.W.findIn K (.ref E2) "__init__" = some (some (.ref f27)))
    (t27 : PySem.W.typeIn K (.ref f27) = some (.type "function"))
    (l27 : K.lookup f27 = some ⟨oc27, od27, .func (PySem.W.fnOf "__init__" "InvalidName.__init__" (defArgs s_InvalidName___init__) (defBody s_InvalidName___init__) (defScope s_InvalidName___init__) .none kV27 dc27 pm27 an27 cd27 ct27), sl27⟩)
    (c27 : PySem.W.codeIn K cd27 "InvalidName.__init__" = true)
    (k27 : PySem.W.keepIn K (.ref f27) = true)
    (E3_x : K.lookup E3 = some (excClassObj nm_E3 q_E3 E3 N_E3 bs_E3 bm_E3 true sn_E3 sub_E3 ab_E3 col_E3 dd_E3 m0_E3 m1_E3 m2_E3 m3_E3 m5_E3 "ValueError.__new__"))
    (E3_rv : PySem.HandSPX.refsVE bm_E3 = true)
    (E3_sa : PySem.W.findIn K (.ref E3) "__setattr__" = some (some (.builtin "object.__setattr__")))
    (E3_ex : PySem.W.subIn K (.ref E3) (.type "BaseException") = some true)
    (E3_ty : PySem.W.typeIn K (.ref E3) = some (.type "type"))
    (E3_kc : PySem.W.keepIn K (.ref E3) = true)
    (E3_no : PySem.W.findIn K (.ref E3) "value" = some none)
    (a28 : PySem.W.findIn K (.ref E3) "__init__" = some (some (.ref f28)))
    (t28 : PySem.W.typeIn K (.ref f28) = some (.type "function"))
    (l28 : K.lookup f28 = some ⟨oc28, od28, .func (PySem.W.fnOf "__init__" "InvalidParents.__init__" (defArgs s_InvalidParents___init__) (defBody s_InvalidParents___init__) (defScope s_InvalidParents___init__) .none kV28 dc28 pm28 an28 cd28 ct28), sl28⟩)
    (c28 : PySem.W.codeIn K cd28 "InvalidParents.__init__" = true)
    (k28 : PySem.W.keepIn K (.ref f28) = true)
    (cb_EL : PySem.W.subIn K (.ref EL) (.type "BaseException") = some true)
    (cd_EL : PySem.W.hasDictIn K EL = true)
    (cy_EL : PySem.W.typeIn K (.ref EL) = some (.type "type"))
    (cb_E14 : PySem.W.subIn K (.ref E14) (.type "BaseException") = some true)
    (cd_E14 : PySem.W.hasDictIn K E14 = true)
    (cy_E14 : PySem.W.typeIn K (.ref E14) = some (.type "type"))
    (cb_E15 : PySem.W.subIn K (.ref E15) (.type "BaseException") = some true)
    (cd_E15 : PySem.W.hasDictIn K E15 = true)
    (cy_E15 : PySem.W.typeIn K (.ref E15) = some (.type "type"))
    (E0_hd : PySem.W.hasDictIn K E0 = true)
    (E0_ga : PySem.W.findIn K (.ref E0) "__getattribute__" = some (some (.builtin "BaseException.__getattribute__")))
    (E0_gg : PySem.W.findIn K (.ref E0) "__getattr__" = some none)
    (E0_ex2 : PySem.W.subIn K (.ref E0) (.type "BaseException") = some true)
    (E0_ca : PySem.W.findIn K (.ref E0) "__class__" = some (some (.builtin "object.__class__")))
    (E0_cm : PySem.W.mroIn K E0 (.type "object") = some true)
    (E0_t0 : PySem.W.kitOne K (.ref E0) (.ref E0) = some true)
    (E0_t1 : PySem.W.kitOne K (.ref E0) (.ref E1) = some false)
    (E0_t2 : PySem.W.kitOne K (.ref E0) (.ref E2) = some false)
    (E0_t3 : PySem.W.kitOne K (.ref E0) (.ref E3) = some false)
    (E0_t4 : PySem.W.kitOne K (.ref E0) (.ref E4) = some false)
    (E0_t5 : PySem.W.kitOne K (.ref E0) (.ref E5) = some false)
    (E0_t6 : PySem.W.kitOne K (.ref E0) (.ref E6) = some false)
    (E0_t7 : PySem.W.kitOne K (.ref E0) (.ref E7) = some false)
    (E0_t8 : PySem.W.kitOne K (.ref E0) (.ref E8) = some false)
    (E0_t9 : PySem.W.kitOne K (.ref E0) (.ref E9) = some false)
    (E0_t10 : PySem.W.kitOne K (.ref E0) (.ref E10) = some false)
    (E0_t11 : PySem.W.kitOne K (.ref E0) (.ref E11) = some false)
    (E0_t12 : PySem.W.kitOne K (.ref E0) (.ref E12) = some false)
    (E0_t13 : PySem.W.kitOne K (.ref E0) (.ref E13) = some false)
    (E0_t14 : PySem.W.kitOne K (.ref E0) (.ref E14) = some false)
    (E0_t15 : PySem.W.kitOne K (.ref E0) (.ref E15) = some false)
    (E0_ve : PySem.W.kitOne K (.ref E0) (.type "ValueError") = some true)
    (E0_sEL : PySem.W.subIn K (.ref E0) (.ref EL) = some true)
    (E0_sE14 : PySem.W.subIn K (.ref E0) (.ref E14) = some false)
    (E0_sE15 : PySem.W.subIn K (.ref E0) (.ref E15) = some false)
    (E1_hd : PySem.W.hasDictIn K E1 = true)
    (E1_ga : PySem.W.findIn K (.ref E1) "__getattribute__" = some (some (.builtin "BaseException.__getattribute__")))
    (E1_gg : PySem.W.findIn K (.ref E1) "__getattr__" = some none)
    (E1_ex2 : PySem.W.subIn K (.ref E1) (.type "BaseException") = some true)
    (E1_ca : PySem.W.findIn K (.ref E1) "__class__" = some (some (.builtin "object.__class__")))
    (E1_cm : PySem.W.mroIn K E1 (.type "object") = some true)
    (E1_t0 : PySem.W.kitOne K (.ref E1) (.ref E0) = some false)
    (E1_t1 : PySem.W.kitOne K (.ref E1) (.ref E1) = some true)
    (E1_t2 : PySem.W.kitOne K (.ref E1) (.ref E2) = some false)
    (E1_t3 : PySem.W.kitOne K (.ref E1) (.ref E3) = some false)
    (E1_t4 : PySem.W.kitOne K (.ref E1) (.ref E4) = some false)
    (E1_t5 : PySem.W.kitOne K (.ref E1) (.ref E5) = some false)
    (E1_t6 : PySem.W.kitOne K (.ref E1) (.ref E6) = some false)
    (E1_t7 : PySem.W.kitOne K (.ref E1) (.ref E7) = some false)
    (E1_t8 : PySem.W.kitOne K (.ref E1) (.ref E8) = some false)
    (E1_t9 : PySem.W.kitOne K (.ref E1) (.ref E9) = some false)
    (E1_t10 : PySem.W.kitOne K (.ref E1) (.ref E10) = some false)
    (E1_t11 : PySem.W.kitOne K (.ref E1) (.ref E11) = some false)
    (E1_t12 : PySem.W.kitOne K (.ref E1) (.ref E12) = some false)
    (E1_t13 : PySem.W.kitOne K (.ref E1) (.ref E13) = some false)
    (E1_t14 : PySem.W.kitOne K (.ref E1) (.ref E14) = some false)
    (E1_t15 : PySem.W.kitOne K (.ref E1) (.ref E15) = some false)
    (E1_ve : PySem.W.kitOne K (.ref E1) (.type "ValueError") = some true)
    (E1_sEL : PySem.W.subIn K (.ref E1) (.ref EL) = some true)
    (E1_sE14 : PySem.W.subIn K (.ref E1) (.ref E14) = some false)
    (E1_sE15 : PySem.W.subIn K (.ref E1) (.ref E15) = some false)
    (E2_hd : PySem.W.hasDictIn K E2 = true)
    (E2_ga : PySem.W.findIn K (.ref E2) "__getattribute__" = some (some (.builtin "BaseException.__getattribute__")))
    (E2_gg : PySem.W.findIn K (.ref E2) "__getattr__" = some none)
    (E2_ex2 : PySem.W.subIn K (.ref E2) (.type "BaseException") = some true)
    (E2_ca : PySem.W.findIn K (.ref E2) "__class__" = some (some (.builtin "object.__class__")))
    (E2_cm : PySem.W.mroIn K E2 (.type "object") = some true)
    (E2_t0 : PySem.W.kitOne K (.ref E2) (.ref E0) = some false)
    (E2_t1 : PySem.W.kitOne K (.ref E2) (.ref E1) = some false)
    (E2_t2 : PySem.W.kitOne K (.ref E2) (.ref E2) = some true)
    (E2_t3 : PySem.W.kitOne K (.ref E2) (.ref E3) = some false)
    (E2_t4 : PySem.W.kitOne K (.ref E2) (.ref E4) = some false)
    (E2_t5 : PySem.W.kitOne K (.ref E2) (.ref E5) = some false)
    (E2_t6 : PySem.W.kitOne K (.ref E2) (.ref E6) = some false)
    (E2_t7 : PySem.W.kitOne K (.ref E2) (.ref E7) = some false)
    (E2_t8 : PySem.W.kitOne K (.ref E2) (.ref E8) = some false)
    (E2_t9 : PySem.W.kitOne K (.ref E2) (.ref E9) = some false)
    (E2_t10 : PySem.W.kitOne K (.ref E2) (.ref E10) = some false)
    (E2_t11 : PySem.W.kitOne K (.ref E2) (.ref E11) = some false)
    (E2_t12 : PySem.W.kitOne K (.ref E2) (.ref E12) = some false)
    (E2_t13 : PySem.W.kitOne K (.ref E2) (.ref E13) = some false)
    (E2_t14 : PySem.W.kitOne K (.ref E2) (.ref E14) = some false)
    (E2_t15 : PySem.W.kitOne K (.ref E2) (.ref E15) = some false)
    (E2_ve : PySem.W.kitOne K (.ref E2) (.type "ValueError") = some true)
    (E2_sEL : PySem.W.subIn K (.ref E2) (.ref EL) = some true)
    (E2_sE14 : PySem.W.subIn K (.ref E2) (.ref E14) = some false)
    (E2_sE15 : PySem.W.subIn K (.ref E2) (.ref E15) = some false)
    (E3_hd : PySem.W.hasDictIn K E3 = true)
    (E3_ga : PySem.W.findIn K (.ref E3) "__getattribute__" = some (some (.builtin "BaseException.__getattribute__")))
    (E3_gg : PySem.W.findIn K (.ref E3) "__getattr__" = some none)
    (E3_ex2 : PySem.W.subIn K (.ref E3) (.type "BaseException") = some true)
    (E3_ca : PySem.W.findIn K (.ref E3) "__class__" = some (some (.builtin "object.__class__")))
    (E3_cm : PySem.W.mroIn K E3 (.type "object") = some true)
    (E3_t0 : PySem.W.kitOne K (.ref E3) (.ref E0) = some false)
    (E3_t1 : PySem.W.kitOne K (.ref E3) (.ref E1) = some false)
    (E3_t2 : PySem.W.kitOne K (.ref E3) (.ref E2) = some false)
    (E3_t3 : PySem.W.kitOne K (.ref E3) (.ref E3) = some true)
    (E3_t4 : PySem.W.kitOne K (.ref E3) (.ref E4) = some false)
    (E3_t5 : PySem.W.kitOne K (.ref E3) (.ref E5) = some false)
    (E3_t6 : PySem.W.kitOne K (.ref E3) (.ref E6) = some false)
    (E3_t7 : PySem.W.kitOne K (.ref E3) (.ref E7) = some false)
    (E3_t8 : PySem.W.kitOne K (.ref E3) (.ref E8) = some false)
    (E3_t9 : PySem.W.kitOne K (.ref E3) (.ref E9) = some false)
    (E3_t10 : PySem.W.kitOne K (.ref E3) (.ref E10) = some false)
    (E3_t11 : PySem.W.kitOne K (.ref E3) (.ref E11) = some false)
    (E3_t12 : PySem.W.kitOne K (.ref E3) (.ref E12) = some false)
    (E3_t13 : PySem.W.kitOne K (.ref E3) (.ref E13) = some false)
    (E3_t14 : PySem.W.kitOne K (.ref E3) (.ref E14) = some false)
    (E3_t15 : PySem.W.kitOne K (.ref E3) (.ref E15) = some false)
    (E3_ve : PySem.W.kitOne K (.ref E3) (.type "ValueError") = some true)
    (E3_sEL : PySem.W.subIn K (.ref E3) (.ref EL) = some true)
    (E3_sE14 : PySem.W.subIn K (.ref E3) (.ref E14) = some false)
    (E3_sE15 : PySem.W.subIn K (.ref E3) (.ref E15) = some false)
    (a29 : PySem.W.nsIn K mainGlobals "_law_right" = some (some (.ref f29)))
    (l29 : K.lookup f29 = some ⟨oc29, od29, .func (PySem.W.fnOf "_law_right" "_law_right" (defArgs s__law_right) (defBody s__law_right) (defScope s__law_right) .none kV29 dc29 pm29 an29 (.ref cr) ct29), sl29⟩)
    (c29 : PySem.W.codeIn K (.ref cr) "_law_right" = true)
    (k29 : PySem.W.keepIn K (.ref f29) = true)
    (lc_Pr : K.lookup cr = some ob_Pr)
    (lf_Pr : ob_Pr.data = .fields vs_Pr)
    (h11_Pr : (vs_Pr[11]? : Option Value) = some (.ref Pr))
    (hd_Pr : PySem.W.codeHdIn K cr Pr = true)
    (ho_Pr : K.lookup Pr = none)
    (ht_Pr : h.get? Pr = some (PySem.W.tabObj #[]))
    (a30 : PySem.W.nsIn K mainGlobals "_law_refused" = some (some (.ref f30)))
    (l30 : K.lookup f30 = some ⟨oc30, od30, .func (PySem.W.fnOf "_law_refused" "_law_refused" (defArgs s__law_refused) (defBody s__law_refused) (defScope s__law_refused) .none kV30 dc30 pm30 an30 (.ref cf) ct30), sl30⟩)
    (c30 : PySem.W.codeIn K (.ref cf) "_law_refused" = true)
    (k30 : PySem.W.keepIn K (.ref f30) = true)
    (lc_Pf : K.lookup cf = some ob_Pf)
    (lf_Pf : ob_Pf.data = .fields vs_Pf)
    (h11_Pf : (vs_Pf[11]? : Option Value) = some (.ref Pf))
    (hd_Pf : PySem.W.codeHdIn K cf Pf = true)
    (ho_Pf : K.lookup Pf = none)
    (ht_Pf : h.get? Pf = some (PySem.W.tabObj #[]))
    (apart : Pr ≠ Pf)
    (neV : PySem.W.findIn K (.ref C) "__ne__" = some (some (.builtin "object.__ne__")))
    (topV : PySem.W.subIn K (.ref C) (.type "object") = some true)
    (ap0 : PySem.W.subIn K (.type "NoneType") (.ref C) = some false)
    (ap1 : PySem.W.subIn K (.type "bool") (.ref C) = some false)
    (ap2 : PySem.W.subIn K (.type "int") (.ref C) = some false)
    (ap3 : PySem.W.subIn K (.type "str") (.ref C) = some false)
    (ap4 : PySem.W.subIn K (.type "list") (.ref C) = some false)
    (ap5 : PySem.W.subIn K (.type "tuple") (.ref C) = some false)
    (ap6 : PySem.W.subIn K (.type "dict") (.ref C) = some false)
    (a31 : PySem.W.nsIn K mainGlobals "law" = some (some (.ref f31)))
    (l31 : K.lookup f31 = some ⟨oc31, od31, .func (PySem.W.fnOf "law" "law" (defArgs s_law) (defBody s_law) (defScope s_law) .none kV31 dc31 pm31 an31 cd31 ct31), sl31⟩)
    (c31 : PySem.W.codeIn K cd31 "law" = true)
    (k31 : PySem.W.keepIn K (.ref f31) = true) :
    LawAtG l w K L2.CX0 16 63 "script" mg fa h := by
  have e := hfa.symm.trans (PySem.W.mg_of X G a31)
  cases e
  have kwd : ∀ q ∈ ([("parents", .ref T0), ("author", .str "anon")] : List (Str × V)), ∃ u, PySem.W.nsIn K D1 q.1 = some (some u) ∧ RelV q.2 u := fun q hq => by
    rcases List.mem_cons.mp hq with rfl | hq
    · exact ⟨_, dP, rfl⟩
    · rw [List.mem_singleton.mp hq]
      exact ⟨_, dA, ⟨_, rfl⟩⟩
  have tx : TextF K mg := ⟨PySem.W.mg_none_of X G z_isinstance, PySem.W.mg_none_of X G z_str, PySem.W.mg_none_of X G z_list, PySem.W.mg_none_of X G z_tuple, PySem.W.mg_none_of X G z_len, PySem.W.mg_none_of X G z_all, ⟨_, PySem.W.mg_of X G g_MOST_CHARACTERS, ⟨t_MOST_CHARACTERS, rfl⟩⟩, ⟨_, PySem.W.mg_of X G g_MOST_LINES, ⟨t_MOST_LINES, rfl⟩⟩, ⟨⟨_, _, fun_mk (st := s_is_listing) l0 c0 k0, PySem.W.mg_of X G a0⟩⟩, ⟨⟨_, _, fun_mk (st := s_is_plain) l1 c1 k1, PySem.W.mg_of X G a1⟩⟩, ⟨⟨_, _, fun_mk (st := s_is_line) l2 c2 k2, PySem.W.mg_of X G a2⟩⟩, ⟨⟨_, _, fun_mk (st := s_is_text) l3 c3 k3, PySem.W.mg_of X G a3⟩⟩⟩
  have cn : CountF K mg := ⟨tx, PySem.W.mg_none_of X G z_isinstance, PySem.W.mg_none_of X G z_int, PySem.W.mg_none_of X G z_bool, PySem.W.mg_none_of X G z_str, PySem.W.mg_none_of X G z_len, PySem.W.mg_none_of X G z_all, PySem.W.mg_none_of X G z_set, ⟨_, PySem.W.mg_of X G g_MOST_NAME_LETTERS, ⟨t_MOST_NAME_LETTERS, rfl⟩⟩, ⟨_, PySem.W.mg_of X G g_MOST_PARENTS, ⟨t_MOST_PARENTS, rfl⟩⟩, ⟨⟨_, _, fun_mk (st := s_is_whole) l4 c4 k4, PySem.W.mg_of X G a4⟩⟩, ⟨⟨_, _, fun_mk (st := s_is_count) l5 c5 k5, PySem.W.mg_of X G a5⟩⟩, ⟨⟨_, _, fun_mk (st := s_is_index) l6 c6 k6, PySem.W.mg_of X G a6⟩⟩, ⟨⟨_, _, fun_mk (st := s_is_name) l7 c7 k7, PySem.W.mg_of X G a7⟩⟩, ⟨⟨_, _, fun_mk (st := s__can_be_parents) l8 c8 k8, PySem.W.mg_of X G a8⟩⟩⟩
  have vf : VerF K mg C := ⟨cn, ⟨⟨C_pg, C_hd, C_po, C_sa⟩, C_ca, cnk0, ctk0, C_cm, C_sf, C_si, fun kn => by cases kn <;> assumption⟩, PySem.W.mg_of X G aC, no_C_lines, no_C_parents, no_C_author, ⟨f9, _, T0, ⟨C_mk, a9, i9, C_kc⟩, fun_mk (st := s_Version___init__) l9 c9 k9, ⟨⟨oc9, od9, .none, .ref D1, dc9, pm9, an9, cd9, ct9, sl9, rfl, l9, c9, .inl ⟨rfl, rfl⟩, .inr ⟨D1, rfl, kwd⟩⟩, k9⟩, _, _, lT0, rfl, rfl⟩, PySem.W.mg_none_of X G z_int, PySem.W.mg_none_of X G z_tuple, PySem.W.mg_none_of X G z_sorted⟩
  have vm : VerM K mg C := ⟨vf, PySem.W.mg_none_of X G z_len, PySem.W.mg_none_of X G z_isinstance, PySem.W.mg_none_of X G z_str, ⟨_, PySem.W.mg_of X G aC, rfl⟩, ⟨⟨_, _, _, fun_mk (st := s_Version_lines) l10 c10 k10, ⟨a10, g10, t10, _, q10⟩⟩⟩, ⟨⟨_, _, _, fun_mk (st := s_Version_parents) l11 c11 k11, ⟨a11, g11, t11, _, q11⟩⟩⟩, ⟨⟨_, _, _, fun_mk (st := s_Version_author) l12 c12 k12, ⟨a12, g12, t12, _, q12⟩⟩⟩, ⟨⟨_, _, fun_mk (st := s_Version___len__) l13 c13 k13, ⟨a13, i13, k13⟩⟩⟩, ⟨f14, _, fun_mk (st := s_Version___getitem__) l14 c14 k14, a14, i14, fi14⟩, ⟨⟨_, _, fun_mk (st := s_Version___contains__) l15 c15 k15, ⟨a15, i15, k15⟩⟩⟩, ⟨⟨_, _, fun_mk (st := s_Version___eq__) l16 c16 k16, ⟨a16, i16, k16⟩⟩⟩⟩
  have pf : PoolF K mg := ⟨PySem.W.mg_none_of X G z_int, PySem.W.mg_none_of X G z_len, ⟨⟨_, _, fun_mk (st := s__law_pool) l17 c17 k17, PySem.W.mg_of X G a17⟩⟩, ⟨⟨_, _, fun_mk (st := s__law_mixed) l18 c18 k18, PySem.W.mg_of X G a18⟩⟩, ⟨⟨_, _, fun_mk (st := s__law_draw) l19 c19 k19, PySem.W.mg_of X G a19⟩⟩⟩
  have ow : OwnF K mg := ⟨pf, PySem.W.mg_none_of X G z_range, ⟨⟨_, _, fun_mk (st := s__law_own_lines) l20 c20 k20, PySem.W.mg_of X G a20⟩⟩, ⟨⟨_, _, fun_mk (st := s__law_parents) l21 c21 k21, PySem.W.mg_of X G a21⟩⟩⟩
  have ex : ExF K mg := ⟨PySem.W.mg_none_of X G z_isinstance, PySem.W.mg_none_of X G z_tuple, PySem.W.mg_none_of X G z_repr, ⟨⟨_, _, fun_mk (st := s__law_exact) l22 c22 k22, PySem.W.mg_of X G a22⟩⟩⟩
  have kt : KindT K mg (fun i : Nat => ([E0, E1, E2, E3, E4, E5, E6, E7, E8, E9, E10, E11, E12, E13, E14, E15] : List Addr).getD i 0) EL := ⟨PySem.W.mg_none_of X G z_isinstance, PySem.W.mg_none_of X G z_ValueError, PySem.W.mg_none_of X G z_repr, ⟨_, PySem.W.mg_of X G aE0, rfl⟩, ⟨_, PySem.W.mg_of X G aE1, rfl⟩, ⟨_, PySem.W.mg_of X G aE2, rfl⟩, ⟨_, PySem.W.mg_of X G aE3, rfl⟩, ⟨_, PySem.W.mg_of X G aE4, rfl⟩, ⟨_, PySem.W.mg_of X G aE5, rfl⟩, ⟨_, PySem.W.mg_of X G aE6, rfl⟩, ⟨_, PySem.W.mg_of X G aE7, rfl⟩, ⟨_, PySem.W.mg_of X G aE8, rfl⟩, ⟨_, PySem.W.mg_of X G aE9, rfl⟩, ⟨_, PySem.W.mg_of X G aE10, rfl⟩, ⟨_, PySem.W.mg_of X G aE11, rfl⟩, ⟨_, PySem.W.mg_of X G aE12, rfl⟩, ⟨_, PySem.W.mg_of X G aE13, rfl⟩, ⟨_, PySem.W.mg_of X G aE14, rfl⟩, ⟨_, PySem.W.mg_of X G aE15, rfl⟩, PySem.W.mg_of X G aEL, PySem.W.mg_of X G aE14, PySem.W.mg_of X G aE15, ⟨⟨_, _, fun_mk (st := s__law_kind) l23 c23 k23, PySem.W.mg_of X G a23⟩⟩, ⟨⟨_, _, fun_mk (st := s__law_caught) l24 c24 k24, PySem.W.mg_of X G a24⟩⟩⟩
  have e0 : ErrF K mg "InvalidNumber" "value" "InvalidNumber.__init__" E0 s_InvalidNumber___init__ := ⟨PySem.W.mg_of X G aE0, ⟨⟨nm_E0, q_E0, N_E0, bs_E0, bm_E0, sn_E0, sub_E0, ab_E0, col_E0, dd_E0, m0_E0, m1_E0, m2_E0, m3_E0, m5_E0, E0_x, E0_rv⟩, E0_sa, E0_ex, E0_ty, E0_kc⟩, E0_no, _, _, a25, t25, fun_mk (st := s_InvalidNumber___init__) l25 c25 k25⟩
  have k_0 : KindF K (fun i : Nat => ([E0, E1, E2, E3, E4, E5, E6, E7, E8, E9, E10, E11, E12, E13, E14, E15] : List Addr).getD i 0) EL E0 0 := ⟨⟨E0_hd, E0_ga, E0_gg, E0_ex2, E0_ca, cnk0, ctk0, E0_cm⟩, fun i hi => match i, hi with | 0, _ => E0_t0 | 1, _ => E0_t1 | 2, _ => E0_t2 | 3, _ => E0_t3 | 4, _ => E0_t4 | 5, _ => E0_t5 | 6, _ => E0_t6 | 7, _ => E0_t7 | 8, _ => E0_t8 | 9, _ => E0_t9 | 10, _ => E0_t10 | 11, _ => E0_t11 | 12, _ => E0_t12 | 13, _ => E0_t13 | 14, _ => E0_t14 | 15, _ => E0_t15 | n + 16, h => absurd h (by omega), E0_ve, by decide, any3 (PySem.W.exm_ref cb_EL cd_EL cy_EL E0_sEL) (PySem.W.exm_ref cb_E14 cd_E14 cy_E14 E0_sE14) (PySem.W.exm_ref cb_E15 cd_E15 cy_E15 E0_sE15)⟩
  have e1 : ErrF K mg "InvalidText" "value" "InvalidText.__init__" E1 s_InvalidText___init__ := ⟨PySem.W.mg_of X G aE1, ⟨⟨nm_E1, q_E1, N_E1, bs_E1, bm_E1, sn_E1, sub_E1, ab_E1, col_E1, dd_E1, m0_E1, m1_E1, m2_E1, m3_E1, m5_E1, E1_x, E1_rv⟩, E1_sa, E1_ex, E1_ty, E1_kc⟩, E1_no, _, _, a26, t26, fun_mk (st := s_InvalidText___init__) l26 c26 k26⟩
  have k_1 : KindF K (fun i : Nat => ([E0, E1, E2, E3, E4, E5, E6, E7, E8, E9, E10, E11, E12, E13, E14, E15] : List Addr).getD i 0) EL E1 1 := ⟨⟨E1_hd, E1_ga, E1_gg, E1_ex2, E1_ca, cnk0, ctk0, E1_cm⟩, fun i hi => match i, hi with | 0, _ => E1_t0 | 1, _ => E1_t1 | 2, _ => E1_t2 | 3, _ => E1_t3 | 4, _ => E1_t4 | 5, _ => E1_t5 | 6, _ => E1_t6 | 7, _ => E1_t7 | 8, _ => E1_t8 | 9, _ => E1_t9 | 10, _ => E1_t10 | 11, _ => E1_t11 | 12, _ => E1_t12 | 13, _ => E1_t13 | 14, _ => E1_t14 | 15, _ => E1_t15 | n + 16, h => absurd h (by omega), E1_ve, by decide, any3 (PySem.W.exm_ref cb_EL cd_EL cy_EL E1_sEL) (PySem.W.exm_ref cb_E14 cd_E14 cy_E14 E1_sE14) (PySem.W.exm_ref cb_E15 cd_E15 cy_E15 E1_sE15)⟩
  have e2 : ErrF K mg "InvalidName" "value" "InvalidName.__init__" E2 s_InvalidName___init__ := ⟨PySem.W.mg_of X G aE2, ⟨⟨nm_E2, q_E2, N_E2, bs_E2, bm_E2, sn_E2, sub_E2, ab_E2, col_E2, dd_E2, m0_E2, m1_E2, m2_E2, m3_E2, m5_E2, E2_x, E2_rv⟩, E2_sa, E2_ex, E2_ty, E2_kc⟩, E2_no, _, _, a27, t27, fun_mk (st := s_InvalidName___init__) l27 c27 k27⟩
  have k_2 : KindF K (fun i : Nat => ([E0, E1, E2, E3, E4, E5, E6, E7, E8, E9, E10, E11, E12, E13, E14, E15] : List Addr).getD i 0) EL E2 2 := ⟨⟨E2_hd, E2_ga, E2_gg, E2_ex2, E2_ca, cnk0, ctk0, E2_cm⟩, fun i hi => match i, hi with | 0, _ => E2_t0 | 1, _ => E2_t1 | 2, _ => E2_t2 | 3, _ => E2_t3 | 4, _ => E2_t4 | 5, _ => E2_t5 | 6, _ => E2_t6 | 7, _ => E2_t7 | 8, _ => E2_t8 | 9, _ => E2_t9 | 10, _ => E2_t10 | 11, _ => E2_t11 | 12, _ => E2_t12 | 13, _ => E2_t13 | 14, _ => E2_t14 | 15, _ => E2_t15 | n + 16, h => absurd h (by omega), E2_ve, by decide, any3 (PySem.W.exm_ref cb_EL cd_EL cy_EL E2_sEL) (PySem.W.exm_ref cb_E14 cd_E14 cy_E14 E2_sE14) (PySem.W.exm_ref cb_E15 cd_E15 cy_E15 E2_sE15)⟩
  have e3 : ErrF K mg "InvalidParents" "value" "InvalidParents.__init__" E3 s_InvalidParents___init__ := ⟨PySem.W.mg_of X G aE3, ⟨⟨nm_E3, q_E3, N_E3, bs_E3, bm_E3, sn_E3, sub_E3, ab_E3, col_E3, dd_E3, m0_E3, m1_E3, m2_E3, m3_E3, m5_E3, E3_x, E3_rv⟩, E3_sa, E3_ex, E3_ty, E3_kc⟩, E3_no, _, _, a28, t28, fun_mk (st := s_InvalidParents___init__) l28 c28 k28⟩
  have k_3 : KindF K (fun i : Nat => ([E0, E1, E2, E3, E4, E5, E6, E7, E8, E9, E10, E11, E12, E13, E14, E15] : List Addr).getD i 0) EL E3 3 := ⟨⟨E3_hd, E3_ga, E3_gg, E3_ex2, E3_ca, cnk0, ctk0, E3_cm⟩, fun i hi => match i, hi with | 0, _ => E3_t0 | 1, _ => E3_t1 | 2, _ => E3_t2 | 3, _ => E3_t3 | 4, _ => E3_t4 | 5, _ => E3_t5 | 6, _ => E3_t6 | 7, _ => E3_t7 | 8, _ => E3_t8 | 9, _ => E3_t9 | 10, _ => E3_t10 | 11, _ => E3_t11 | 12, _ => E3_t12 | 13, _ => E3_t13 | 14, _ => E3_t14 | 15, _ => E3_t15 | n + 16, h => absurd h (by omega), E3_ve, by decide, any3 (PySem.W.exm_ref cb_EL cd_EL cy_EL E3_sEL) (PySem.W.exm_ref cb_E14 cd_E14 cy_E14 E3_sE14) (PySem.W.exm_ref cb_E15 cd_E15 cy_E15 E3_sE15)⟩
  have rt : RtF K mg C E0 (fun i : Nat => ([E0, E1, E2, E3, E4, E5, E6, E7, E8, E9, E10, E11, E12, E13, E14, E15] : List Addr).getD i 0) EL cr := ⟨vm, kt, ex, e0, k_0, PySem.W.mg_none_of X G z_len, PySem.W.mg_none_of X G z_repr, PySem.W.mg_none_of X G z_range, PySem.W.mg_none_of X G z_int, PySem.W.mg_none_of X G z_sorted, ⟨⟨_, _, ⟨⟨oc29, od29, kV29, dc29, pm29, an29, ct29, sl29, rfl, l29, c29⟩, k29⟩, PySem.W.mg_of X G a29⟩⟩⟩
  have rf : RfF K mg C E1 E3 E2 (fun i : Nat => ([E0, E1, E2, E3, E4, E5, E6, E7, E8, E9, E10, E11, E12, E13, E14, E15] : List Addr).getD i 0) EL cf := ⟨vf, kt, e1, e3, e2, k_1, k_3, k_2, PySem.W.mg_none_of X G z_repr, ⟨⟨_, _, ⟨⟨oc30, od30, kV30, dc30, pm30, an30, ct30, sl30, rfl, l30, c30⟩, k30⟩, PySem.W.mg_of X G a30⟩⟩⟩
  have T : Tl K mg C E0 E1 E3 E2 (fun i : Nat => ([E0, E1, E2, E3, E4, E5, E6, E7, E8, E9, E10, E11, E12, E13, E14, E15] : List Addr).getD i 0) EL cr cf := ⟨ow, rt, rf, neV, topV, fun kn => by cases kn <;> assumption, PySem.W.mg_none_of X G z_range, PySem.W.mg_none_of X G z_list, PySem.W.mg_none_of X G z_tuple, PySem.W.mg_none_of X G z_len⟩
  refine ⟨PySem.W.fnOf "law" "law" (defArgs s_law) (defBody s_law) (defScope s_law) .none kV31 dc31 pm31 an31 cd31 ct31, [(cr, Pr), (cf, Pf)], spLaw K [(Pr, "_law_right" ++ ".<locals>." ++ "<lambda>"), (Pf, "_law_refused" ++ ".<locals>." ++ "<lambda>")], ⟨fun p hp => ?_, fun p hp => ?_, fun p hp => ?_⟩, fun s v => .of_eq rfl, fun H a ns hl hT hS => ⟨a, ns, rfl, hS, hl, fun p hp => ?_, fun _ => rfl⟩, fun base _ _ tb => ok_law (Pr := Pr) (Pf := Pf) T ⟨tb (cr, Pr) List.mem_cons_self, List.mem_cons_self, fun p hp h1 => ?_⟩ ⟨tb (cf, Pf) (List.mem_cons_of_mem _ List.mem_cons_self), List.mem_cons_of_mem _ List.mem_cons_self, fun p hp h1 => ?_⟩ (fun_mk (st := s_law) l31 c31 k31)⟩
  · simp only [List.mem_cons, List.not_mem_nil, or_false] at hp
    rcases hp with rfl | rfl
    · exact ht_Pr
    · exact ht_Pf
  · simp only [List.mem_cons, List.not_mem_nil, or_false] at hp
    rcases hp with rfl | rfl
    · exact ho_Pr
    · exact ho_Pf
  · simp only [List.mem_cons, List.not_mem_nil, or_false] at hp
    rcases hp with rfl | rfl
    · exact PySem.W.codeHd_of_K X hd_Pr
    · exact PySem.W.codeHd_of_K X hd_Pf
  · simp only [List.mem_cons, List.not_mem_nil, or_false] at hp
    rcases hp with rfl | rfl
    · exact LamX.TabS.nil (hT (cr, Pr) List.mem_cons_self)
    · exact LamX.TabS.nil (hT (cf, Pf) (List.mem_cons_of_mem _ List.mem_cons_self))
  · simp only [List.mem_cons, List.not_mem_nil, or_false] at hp
    rcases hp with rfl | rfl
    · rfl
    · exact absurd h1.symm apart
  · simp only [List.mem_cons, List.not_mem_nil, or_false] at hp
    rcases hp with rfl | rfl
    · exact absurd h1 apart
    · rfl
end Pk
open PySem PySem.W PyProof.Rows
set_option maxRecDepth 100000 in
set_option maxHeartbeats 0 in
theorem PySem.Challenge.cw_lineorigins_k09_versions_holds : PySem.Challenge.rw_lineorigins_k09_versions.Holds := by
  w_on; o_law; k_head; (case hw => w_witness2)
  k_fill
  refine Pk.walk_GT (l := PySem.Challenge.rw_lineorigins_k09_versions) (n := 63) (k := 16) (x := "script") (CX := fun _ => L2.CX0) rfl (by decide) rfl ⟨rfl, by decide, by decide⟩ (fun w h Y => PySem.W.km_in_of Y) ?F (fun _ _ _ _ _ h => h)
  case F =>
    intro w mg fa h Y KX G hmg
    refine' Pk.all_mk KX G hmg ?aC ?C_pg ?C_hd ?C_po ?C_sa ?C_mk ?C_kc ?C_ca ?cnk0 ?ctk0 ?C_cm ?C_sf ?C_si ?C_sk0 ?C_sk1 ?C_sk2 ?C_sk3 ?C_sk4 ?C_sk5 ?C_sk6 ?z_isinstance ?z_str ?z_list ?z_tuple ?z_len ?z_all ?g_MOST_CHARACTERS ?g_MOST_LINES ?a0 ?l0 ?c0 ?k0 ?a1 ?l1 ?c1 ?k1 ?a2 ?l2 ?c2 ?k2 ?a3 ?l3 ?c3 ?k3 ?z_int ?z_bool ?z_set ?g_MOST_NAME_LETTERS ?g_MOST_PARENTS ?a4 ?l4 ?c4 ?k4 ?a5 ?l5 ?c5 ?k5 ?a6 ?l6 ?c6 ?k6 ?a7 ?l7 ?c7 ?k7 ?a8 ?l8 ?c8 ?k8 ?a9 ?i9 ?l9 ?c9 ?k9 ?dP ?dA ?lT0 ?no_C_lines ?no_C_parents ?no_C_author ?z_sorted ?a10 ?g10 ?t10 ?q10 ?l10 ?c10 ?k10 ?a11 ?g11 ?t11 ?q11 ?l11 ?c11 ?k11 ?a12 ?g12 ?t12 ?q12 ?l12 ?c12 ?k12 ?a13 ?i13 ?l13 ?c13 ?k13 ?a14 ?i14 ?fi14 ?l14 ?c14 ?k14 ?a15 ?i15 ?l15 ?c15 ?k15 ?a16 ?i16 ?l16 ?c16 ?k16 ?a17 ?l17 ?c17 ?k17 ?a18 ?l18 ?c18 ?k18 ?a19 ?l19 ?c19 ?k19 ?z_range ?a20 ?l20 ?c20 ?k20 ?a21 ?l21 ?c21 ?k21 ?z_repr ?a22 ?l22 ?c22 ?k22 ?z_ValueError ?aE0 ?aE1 ?aE2 ?aE3 ?aE4 ?aE5 ?aE6 ?aE7 ?aE8 ?aE9 ?aE10 ?aE11 ?aE12 ?aE13 ?aE14 ?aE15 ?aEL ?a23 ?l23 ?c23 ?k23 ?a24 ?l24 ?c24 ?k24 ?E0_x ?E0_rv ?E0_sa ?E0_ex ?E0_ty ?E0_kc ?E0_no ?a25 ?t25 ?l25 ?c25 ?k25 ?E1_x ?E1_rv ?E1_sa ?E1_ex ?E1_ty ?E1_kc ?E1_no ?a26 ?t26 ?l26 ?c26 ?k26 ?E2_x ?E2_rv ?E2_sa ?E2_ex ?E2_ty ?E2_kc ?E2_no ?a27 ?t27 ?l27 ?c27 ?k27 ?E3_x ?E3_rv ?E3_sa ?E3_ex ?E3_ty ?E3_kc ?E3_no ?a28 ?t28 ?l28 ?c28 ?k28 ?cb_EL ?cd_EL ?cy_EL ?cb_E14 ?cd_E14 ?cy_E14 ?cb_E15 ?cd_E15 ?cy_E15 ?E0_hd ?E0_ga ?E0_gg ?E0_ex2 ?E0_ca ?E0_cm ?E0_t0 ?E0_t1 ?E0_t2 ?E0_t3 ?E0_t4 ?E0_t5 ?E0_t6 ?E0_t7 ?E0_t8 ?E0_t9 ?E0_t10 ?E0_t11 ?E0_t12 ?E0_t13 ?E0_t14 ?E0_t15 ?E0_ve ?E0_sEL ?E0_sE14 ?E0_sE15 ?E1_hd ?E1_ga ?E1_gg ?E1_ex2 ?E1_ca ?E1_cm ?E1_t0 ?E1_t1 ?E1_t2 ?E1_t3 ?E1_t4 ?E1_t5 ?E1_t6 ?E1_t7 ?E1_t8 ?E1_t9 ?E1_t10 ?E1_t11 ?E1_t12 ?E1_t13 ?E1_t14 ?E1_t15 ?E1_ve ?E1_sEL ?E1_sE14 ?E1_sE15 ?E2_hd ?E2_ga ?E2_gg ?E2_ex2 ?E2_ca ?E2_cm ?E2_t0 ?E2_t1 ?E2_t2 ?E2_t3 ?E2_t4 ?E2_t5 ?E2_t6 ?E2_t7 ?E2_t8 ?E2_t9 ?E2_t10 ?E2_t11 ?E2_t12 ?E2_t13 ?E2_t14 ?E2_t15 ?E2_ve ?E2_sEL ?E2_sE14 ?E2_sE15 ?E3_hd ?E3_ga ?E3_gg ?E3_ex2 ?E3_ca ?E3_cm ?E3_t0 ?E3_t1 ?E3_t2 ?E3_t3 ?E3_t4 ?E3_t5 ?E3_t6 ?E3_t7 ?E3_t8 ?E3_t9 ?E3_t10 ?E3_t11 ?E3_t12 ?E3_t13 ?E3_t14 ?E3_t15 ?E3_ve ?E3_sEL ?E3_sE14 ?E3_sE15 ?a29 ?l29 ?c29 ?k29 ?lc_Pr ?lf_Pr ?h11_Pr ?hd_Pr ?ho_Pr ?ht_Pr ?a30 ?l30 ?c30 ?k30 ?lc_Pf ?lf_Pf ?h11_Pf ?hd_Pf ?ho_Pf ?ht_Pf ?apart ?neV ?topV ?ap0 ?ap1 ?ap2 ?ap3 ?ap4 ?ap5 ?ap6 ?a31 ?l31 ?c31 ?k31
    (case aC => k_is)
    (case C_pg => k_is)
    (case C_hd => k_is)
    (case C_po => k_is)
    (case C_sa => k_is)
    (case C_mk => k_is)
    (case C_kc => k_is)
    (case C_ca => k_is)
    (case cnk0 => k_is)
    (case ctk0 => k_is)
    (case C_cm => k_is)
    (case C_sf => kit_is)
    (case C_si => kit_is)
    (case C_sk0 => kit_is)
    (case C_sk1 => kit_is)
    (case C_sk2 => kit_is)
    (case C_sk3 => kit_is)
    (case C_sk4 => kit_is)
    (case C_sk5 => kit_is)
    (case C_sk6 => kit_is)
    (case z_isinstance => k_is)
    (case z_str => k_is)
    (case z_list => k_is)
    (case z_tuple => k_is)
    (case z_len => k_is)
    (case z_all => k_is)
    (case g_MOST_CHARACTERS => k_is)
    (case g_MOST_LINES => k_is)
    (case a0 => k_is)
    (case l0 => k_is)
    (case c0 => k_is)
    (case k0 => k_is)
    (case a1 => k_is)
    (case l1 => k_is)
    (case c1 => k_is)
    (case k1 => k_is)
    (case a2 => k_is)
    (case l2 => k_is)
    (case c2 => k_is)
    (case k2 => k_is)
    (case a3 => k_is)
    (case l3 => k_is)
    (case c3 => k_is)
    (case k3 => k_is)
    (case z_int => k_is)
    (case z_bool => k_is)
    (case z_set => k_is)
    (case g_MOST_NAME_LETTERS => k_is)
    (case g_MOST_PARENTS => k_is)
    (case a4 => k_is)
    (case l4 => k_is)
    (case c4 => k_is)
    (case k4 => k_is)
    (case a5 => k_is)
    (case l5 => k_is)
    (case c5 => k_is)
    (case k5 => k_is)
    (case a6 => k_is)
    (case l6 => k_is)
    (case c6 => k_is)
    (case k6 => k_is)
    (case a7 => k_is)
    (case l7 => k_is)
    (case c7 => k_is)
    (case k7 => k_is)
    (case a8 => k_is)
    (case l8 => k_is)
    (case c8 => k_is)
    (case k8 => k_is)
    (case a9 => k_is)
    (case i9 => k_is)
    (case l9 => k_is)
    (case c9 => k_is)
    (case k9 => k_is)
    (case dP => k_is)
    (case dA => k_is)
    (case lT0 => k_is)
    (case no_C_lines => k_is)
    (case no_C_parents => k_is)
    (case no_C_author => k_is)
    (case z_sorted => k_is)
    (case a10 => k_is)
    (case g10 => k_is)
    (case t10 => k_is)
    (case q10 => k_is)
    (case l10 => k_is)
    (case c10 => k_is)
    (case k10 => k_is)
    (case a11 => k_is)
    (case g11 => k_is)
    (case t11 => k_is)
    (case q11 => k_is)
    (case l11 => k_is)
    (case c11 => k_is)
    (case k11 => k_is)
    (case a12 => k_is)
    (case g12 => k_is)
    (case t12 => k_is)
    (case q12 => k_is)
    (case l12 => k_is)
    (case c12 => k_is)
    (case k12 => k_is)
    (case a13 => k_is)
    (case i13 => k_is)
    (case l13 => k_is)
    (case c13 => k_is)
    (case k13 => k_is)
    (case a14 => k_is)
    (case i14 => k_is)
    (case fi14 => k_is)
    (case l14 => k_is)
    (case c14 => k_is)
    (case k14 => k_is)
    (case a15 => k_is)
    (case i15 => k_is)
    (case l15 => k_is)
    (case c15 => k_is)
    (case k15 => k_is)
    (case a16 => k_is)
    (case i16 => k_is)
    (case l16 => k_is)
    (case c16 => k_is)
    (case k16 => k_is)
    (case a17 => k_is)
    (case l17 => k_is)
    (case c17 => k_is)
    (case k17 => k_is)
    (case a18 => k_is)
    (case l18 => k_is)
    (case c18 => k_is)
    (case k18 => k_is)
    (case a19 => k_is)
    (case l19 => k_is)
    (case c19 => k_is)
    (case k19 => k_is)
    (case z_range => k_is)
    (case a20 => k_is)
    (case l20 => k_is)
    (case c20 => k_is)
    (case k20 => k_is)
    (case a21 => k_is)
    (case l21 => k_is)
    (case c21 => k_is)
    (case k21 => k_is)
    (case z_repr => k_is)
    (case a22 => k_is)
    (case l22 => k_is)
    (case c22 => k_is)
    (case k22 => k_is)
    (case z_ValueError => k_is)
    (case aE0 => k_is)
    (case aE1 => k_is)
    (case aE2 => k_is)
    (case aE3 => k_is)
    (case aE4 => k_is)
    (case aE5 => k_is)
    (case aE6 => k_is)
    (case aE7 => k_is)
    (case aE8 => k_is)
    (case aE9 => k_is)
    (case aE10 => k_is)
    (case aE11 => k_is)
    (case aE12 => k_is)
    (case aE13 => k_is)
    (case aE14 => k_is)
    (case aE15 => k_is)
    (case aEL => k_is)
    (case a23 => k_is)
    (case l23 => k_is)
    (case c23 => k_is)
    (case k23 => k_is)
    (case a24 => k_is)
    (case l24 => k_is)
    (case c24 => k_is)
    (case k24 => k_is)
    (case E0_x => k_is)
    (case E0_rv => exact rfl)
    (case E0_sa => k_is)
    (case E0_ex => k_is)
    (case E0_ty => k_is)
    (case E0_kc => k_is)
    (case E0_no => k_is)
    (case a25 => k_is)
    (case t25 => k_is)
    (case l25 => k_is)
    (case c25 => k_is)
    (case k25 => k_is)
    (case E1_x => k_is)
    (case E1_rv => exact rfl)
    (case E1_sa => k_is)
    (case E1_ex => k_is)
    (case E1_ty => k_is)
    (case E1_kc => k_is)
    (case E1_no => k_is)
    (case a26 => k_is)
    (case t26 => k_is)
    (case l26 => k_is)
    (case c26 => k_is)
    (case k26 => k_is)
    (case E2_x => k_is)
    (case E2_rv => exact rfl)
    (case E2_sa => k_is)
    (case E2_ex => k_is)
    (case E2_ty => k_is)
    (case E2_kc => k_is)
    (case E2_no => k_is)
    (case a27 => k_is)
    (case t27 => k_is)
    (case l27 => k_is)
    (case c27 => k_is)
    (case k27 => k_is)
    (case E3_x => k_is)
    (case E3_rv => exact rfl)
    (case E3_sa => k_is)
    (case E3_ex => k_is)
    (case E3_ty => k_is)
    (case E3_kc => k_is)
    (case E3_no => k_is)
    (case a28 => k_is)
    (case t28 => k_is)
    (case l28 => k_is)
    (case c28 => k_is)
    (case k28 => k_is)
    (case cb_EL => k_is)
    (case cd_EL => k_is)
    (case cy_EL => k_is)
    (case cb_E14 => k_is)
    (case cd_E14 => k_is)
    (case cy_E14 => k_is)
    (case cb_E15 => k_is)
    (case cd_E15 => k_is)
    (case cy_E15 => k_is)
    (case E0_hd => k_is)
    (case E0_ga => k_is)
    (case E0_gg => k_is)
    (case E0_ex2 => k_is)
    (case E0_ca => k_is)
    (case E0_cm => k_is)
    (case E0_t0 => kit_is)
    (case E0_t1 => kit_is)
    (case E0_t2 => kit_is)
    (case E0_t3 => kit_is)
    (case E0_t4 => kit_is)
    (case E0_t5 => kit_is)
    (case E0_t6 => kit_is)
    (case E0_t7 => kit_is)
    (case E0_t8 => kit_is)
    (case E0_t9 => kit_is)
    (case E0_t10 => kit_is)
    (case E0_t11 => kit_is)
    (case E0_t12 => kit_is)
    (case E0_t13 => kit_is)
    (case E0_t14 => kit_is)
    (case E0_t15 => kit_is)
    (case E0_ve => kit_is)
    (case E0_sEL => k_is)
    (case E0_sE14 => k_is)
    (case E0_sE15 => k_is)
    (case E1_hd => k_is)
    (case E1_ga => k_is)
    (case E1_gg => k_is)
    (case E1_ex2 => k_is)
    (case E1_ca => k_is)
    (case E1_cm => k_is)
    (case E1_t0 => kit_is)
    (case E1_t1 => kit_is)
    (case E1_t2 => kit_is)
    (case E1_t3 => kit_is)
    (case E1_t4 => kit_is)
    (case E1_t5 => kit_is)
    (case E1_t6 => kit_is)
    (case E1_t7 => kit_is)
    (case E1_t8 => kit_is)
    (case E1_t9 => kit_is)
    (case E1_t10 => kit_is)
    (case E1_t11 => kit_is)
    (case E1_t12 => kit_is)
    (case E1_t13 => kit_is)
    (case E1_t14 => kit_is)
    (case E1_t15 => kit_is)
    (case E1_ve => kit_is)
    (case E1_sEL => k_is)
    (case E1_sE14 => k_is)
    (case E1_sE15 => k_is)
    (case E2_hd => k_is)
    (case E2_ga => k_is)
    (case E2_gg => k_is)
    (case E2_ex2 => k_is)
    (case E2_ca => k_is)
    (case E2_cm => k_is)
    (case E2_t0 => kit_is)
    (case E2_t1 => kit_is)
    (case E2_t2 => kit_is)
    (case E2_t3 => kit_is)
    (case E2_t4 => kit_is)
    (case E2_t5 => kit_is)
    (case E2_t6 => kit_is)
    (case E2_t7 => kit_is)
    (case E2_t8 => kit_is)
    (case E2_t9 => kit_is)
    (case E2_t10 => kit_is)
    (case E2_t11 => kit_is)
    (case E2_t12 => kit_is)
    (case E2_t13 => kit_is)
    (case E2_t14 => kit_is)
    (case E2_t15 => kit_is)
    (case E2_ve => kit_is)
    (case E2_sEL => k_is)
    (case E2_sE14 => k_is)
    (case E2_sE15 => k_is)
    (case E3_hd => k_is)
    (case E3_ga => k_is)
    (case E3_gg => k_is)
    (case E3_ex2 => k_is)
    (case E3_ca => k_is)
    (case E3_cm => k_is)
    (case E3_t0 => kit_is)
    (case E3_t1 => kit_is)
    (case E3_t2 => kit_is)
    (case E3_t3 => kit_is)
    (case E3_t4 => kit_is)
    (case E3_t5 => kit_is)
    (case E3_t6 => kit_is)
    (case E3_t7 => kit_is)
    (case E3_t8 => kit_is)
    (case E3_t9 => kit_is)
    (case E3_t10 => kit_is)
    (case E3_t11 => kit_is)
    (case E3_t12 => kit_is)
    (case E3_t13 => kit_is)
    (case E3_t14 => kit_is)
    (case E3_t15 => kit_is)
    (case E3_ve => kit_is)
    (case E3_sEL => k_is)
    (case E3_sE14 => k_is)
    (case E3_sE15 => k_is)
    (case a29 => k_is)
    (case l29 => k_is)
    (case c29 => k_is)
    (case k29 => k_is)
    (case lc_Pr => k_is)
    (case lf_Pr => exact rfl)
    (case h11_Pr => exact rfl)
    (case hd_Pr => kernel_rfl)
    (case ho_Pr => kernel_rfl)
    (case ht_Pr => exact PySem.W.km_tabs_of Y _ (by k_mem))
    (case a30 => k_is)
    (case l30 => k_is)
    (case c30 => k_is)
    (case k30 => k_is)
    (case lc_Pf => k_is)
    (case lf_Pf => exact rfl)
    (case h11_Pf => exact rfl)
    (case hd_Pf => kernel_rfl)
    (case ho_Pf => kernel_rfl)
    (case ht_Pf => exact PySem.W.km_tabs_of Y _ (by k_mem))
    (case apart => decide)
    (case neV => k_is)
    (case topV => k_is)
    (case ap0 => k_is)
    (case ap1 => k_is)
    (case ap2 => k_is)
    (case ap3 => k_is)
    (case ap4 => k_is)
    (case ap5 => k_is)
    (case ap6 => k_is)
    (case a31 => k_is)
    (case l31 => k_is)
    (case c31 => k_is)
    (case k31 => k_is)
