import PyProof.Rows.All
import Wide.All
import OpenK.AllK
import Wide.FinOn
import HandS.ForMost
import HandS.IsInst
import HandS.Wide
import HandS.Style
import HandS.Walk
import HandS.StrMore
import PyProof.StrBlock2
import PyProof.EqAt
import PyProof.NeKinds
import HandS.Property
import HandS.Gcd
import HandS.OwnEq
import HandS.Defaults
import HandS.Codes
import HandS.Ends
import PyProof.ReprRoads
import HandS.Exc
import HandS.ExcInit
import HandS.ExcOwn
import HandS.WordsExc
import HandS.Lambda
import KE.KExcIs
import KE.KTryMore
import HandS.MakeKwOnly
import HandS.MakeKw
import HandS.Deep
import HandS.NoneIn
import HandS.Strs
import HandS.FStr
import HandS.RaiseMore
import HandS.EndTab
import KE.KNestM
import HandS.ExcIs
import KE.KLam
import PySem.Challenge.RW_lineorigins_k08_layouts_refused
set_option Elab.async false
set_option linter.all false
set_option maxRecDepth 100000
set_option maxHeartbeats 4000000
namespace Pk
open PySem PySem.Spec PyProof.Rows L2

theorem same_upd {H : Hp} {p : Addr} {o : HO} (h : H p = none) : Same H (upd H p o) := fun b x e => by
  rw [upd_ne (ne_of_none e h)]
  exact e
theorem Same.get {H H' : Hp} {a : Addr} {o : HO} (e : Same H H') (h : H a = some o) : H' a = some o := e a o h
/-- a new object, the heap behind it forgotten but for what stands -/
theorem al {H : Hp} {o : HO} {Q : VK} (h : ∀ p H', H p = none → Same H H' → H' p = some o → Q (.ref p) H') : ∀ p, H p = none → Q (.ref p) (upd H p o) :=
  fun p hp => h p _ hp (same_upd hp) upd_same

/-! ### the written part by its name -/
section
variable {X : Cx} {K : PySem.W.Frag}
theorem pi_listK (hK : X.K = K) {tg l : Expr} {tl : TE} (hl : PE X l tl) : PI X tg l (iList K tl) := hK ▸ pi_list hl
theorem pi_tupK (hK : X.K = K) {tg l : Expr} {tl : TE} (hl : PE X l tl) : PI X tg l (iTup K tl) := hK ▸ pi_tup hl
end
/-! ### a thing walked in one of two ways -/
theorem pi_or {X : Cx} {tg l : Expr} {w1 w2 : TI} (a : PI X tg l w1) (b : PI X tg l w2) : PI X tg l (fun σ H R => w1 σ H R ∨ w2 σ H R) :=
  ⟨fun pins s σ H R I h => h.elim (a.run pins s σ H R I) (b.run pins s σ H R I)⟩
theorem pe_alt {X : Cx} {e : Expr} {t1 t2 : TE} (a : PE X e t1) (b : PE X e t2) : PE X e (fun σ H Q => t1 σ H Q ∨ t2 σ H Q) :=
  ⟨fun pins s σ H Q I h => h.elim (a.run pins s σ H Q I) (b.run pins s σ H Q I)⟩

/-! ### operators of more than one kind -/
def rAddX (K : PySem.W.Frag) : R2 := fun x y H Q => rI0 (fun i j => .int (i + j)) x y H Q ∨ ((∃ i j, x = .str i ∧ y = .str j ∧ i.length + j.length ≤ sizeLine ∧ Q (.str (i ++ j)) H) ∨ (rCat x y H Q ∨ rCatT K x y H Q))
theorem op_addX {X : Cx} : OpR X (binaryOp .Add) (rAddX X.K) := op_add.or (op_add_str.or (op_cat.or op_catT))
def rEqN : R2 := fun x y H Q => ∃ a b xs ys, x = .ref a ∧ y = .ref b ∧ H a = some (.lst xs) ∧ H b = some (.lst ys) ∧ xs.length ≠ ys.length ∧ Q (.bl false) H
theorem op_eqN {X : Cx} (hu : X.A.units < cLine) : OpR X (compareOp .Eq) rEqN := by
  intro pins s σ H x y v u Q I rx ry h
  obtain ⟨a, b, xs, ys, rfl, rfl, ha, hb, hn, q⟩ := h
  cases (show v = Value.ref a from rx)
  cases (show u = Value.ref b from ry)
  obtain ⟨is, r1, p1, _⟩ := I.list (SqL.of ha)
  obtain ⟨js, r2, p2, _⟩ := I.list (SqL.of hb)
  obtain ⟨o1, n1, e1, c1, _, d1⟩ := p1
  obtain ⟨o2, n2, e2, c2, _, d2⟩ := p2
  refine SeqAt.eq_list_lengthsAt ⟨o1, e1, c1, n1, d1⟩ ⟨o2, e2, c2, n2, d2⟩ ?_ hu ⟨.bl false, H, I, rfl, q⟩
  have l1 := r1.length
  have l2 := r2.length
  simp only [bne_iff_ne, List.size_toArray]
  omega
def rNeN : R2 := fun x y H Q => ∃ a b xs ys, x = .ref a ∧ y = .ref b ∧ H a = some (.lst xs) ∧ H b = some (.lst ys) ∧ xs.length ≠ ys.length ∧ Q (.bl true) H
theorem op_neN {X : Cx} (hu : X.A.units < cLine) : OpR X (compareOp .NotEq) rNeN := by
  intro pins s σ H x y v u Q I rx ry h
  obtain ⟨a, b, xs, ys, rfl, rfl, ha, hb, hn, q⟩ := h
  cases (show v = Value.ref a from rx)
  cases (show u = Value.ref b from ry)
  obtain ⟨is, r1, p1, _⟩ := I.list (SqL.of ha)
  obtain ⟨js, r2, p2, _⟩ := I.list (SqL.of hb)
  obtain ⟨o1, n1, e1, c1, _, d1⟩ := p1
  obtain ⟨o2, n2, e2, c2, _, d2⟩ := p2
  refine SeqAt.RcNeAt.lists_lengths ⟨o1, e1, c1, n1, d1⟩ ⟨o2, e2, c2, n2, d2⟩ ?_ hu X.prog X.w X.xe (EP X pins σ Q) ⟨.bl true, H, I, rfl, q⟩
  have l1 := r1.length
  have l2 := r2.length
  simp only [bne_iff_ne, List.size_toArray]
  omega
def rEqX (K : PySem.W.Frag) : R2 := fun x y H Q => rEq x y H Q ∨ (rEqD K x y H Q ∨ rEqN x y H Q)
theorem op_eqX {X : Cx} (hu : X.A.units + 64 < cLine) : OpR X (compareOp .Eq) (rEqX X.K) := op_eq.or ((op_eqD hu).or (op_eqN (by omega)))
def rNeX (K : PySem.W.Frag) : R2 := fun x y H Q => rNe x y H Q ∨ (rNeD K x y H Q ∨ rNeN x y H Q)
theorem op_neX {X : Cx} (hu : X.A.units + 64 < cLine) : OpR X (compareOp .NotEq) (rNeX X.K) := op_ne.or ((op_neD hu).or (op_neN (by omega)))

def rMuX : R2 := fun x y H Q => rI CMul (fun i j => .int (i * j)) x y H Q ∨ rI CMulW (fun i j => .int (i * j)) x y H Q
theorem op_muI {X : Cx} : OpR X (binaryOp .Mult) rMuX := op_mul.or op_mulW
/-- a text, several times -/
def rRepS : R2 := fun x y H Q => ∃ z k, x = .str z ∧ y = .int k ∧ MulOk z k ∧ Q (.str (Txt.mul z k)) H
theorem op_repS {X : Cx} : OpR X (binaryOp .Mult) rRepS := by
  intro pins s σ H x y v u Q I rx ry h
  obtain ⟨z, k, rfl, rfl, ok, q⟩ := h
  obtain ⟨t, rfl⟩ := rx
  obtain ⟨t2, rfl⟩ := ry
  exact PySem.SB.mul ok fun t' k' => ⟨.str (Txt.mul z k), H, I.tok _, ⟨_, rfl⟩, q⟩
def rMuXX : R2 := fun x y H Q => rMuX x y H Q ∨ (rRepS x y H Q ∨ rRep x y H Q)
theorem op_muX {X : Cx} : OpR X (binaryOp .Mult) rMuXX := op_muI.or (op_repS.or op_rep)
def rLtX : R2 := fun x y H Q => rI0 (fun i j => .bl (decide (i < j))) x y H Q ∨ (∃ i j, x = .str i ∧ y = .str j ∧ Q (.bl (decide (i.cps.toList < j.cps.toList))) H)
theorem op_ltX {X : Cx} : OpR X (compareOp .Lt) rLtX := op_lt.or op_lt_str
def rLeX : R2 := fun x y H Q => rI0 (fun i j => .bl (decide (i ≤ j))) x y H Q ∨ (∃ i j, x = .str i ∧ y = .str j ∧ Q (.bl (!decide (j.cps.toList < i.cps.toList))) H)
theorem op_leX {X : Cx} : OpR X (compareOp .LtE) rLeX := op_le.or op_le_str
def rGtX : R2 := fun x y H Q => rI0 (fun i j => .bl (decide (j < i))) x y H Q ∨ (∃ i j, x = .str i ∧ y = .str j ∧ Q (.bl (decide (j.cps.toList < i.cps.toList))) H)
theorem op_gtX {X : Cx} : OpR X (compareOp .Gt) rGtX := op_gt.or op_gt_str
def rGeX : R2 := fun x y H Q => rI0 (fun i j => .bl (decide (j ≤ i))) x y H Q ∨ (∃ i j, x = .str i ∧ y = .str j ∧ Q (.bl (!decide (i.cps.toList < j.cps.toList))) H)
theorem op_geX {X : Cx} : OpR X (compareOp .GtE) rGeX := op_ge.or op_ge_str
theorem op_fdX {X : Cx} : OpR X (binaryOp .FloorDiv) (rI CDivW fun i j => .int (i / j)) := op_fdivW
def rSlXX (K : PySem.W.Frag) : V → Option Int → Option Int → Hp → VK → Prop := fun x lo hi H Q => rSlL K x lo hi H Q ∨ rSlS x lo hi H Q
theorem sl_X {X : Cx} : SlR X (rSlXX X.K) := sl_list.or sl_str
def rIntX : List V → Hp → VK → Prop := fun xs H Q => ((∃ i, xs = [.int i] ∧ Q (.int i) H) ∨ ∃ k, xs = [.bl k] ∧ Q (.int (if k then 1 else 0)) H) ∨ (∃ a n, xs = [.str a] ∧ PySem.intText? a = some n ∧ a.length ≤ 640 ∧ Q (.int n) H)
theorem call_intX {X : Cx} : CallR X (.type "int") rIntX := call_int1.or call_int_str
def rLenX (K : PySem.W.Frag) : List V → Hp → VK → Prop := fun xs H Q => ∃ x n, xs = [x] ∧ LenV K x H n ∧ Q (.int n) H
theorem call_lenX {X : Cx} : CallR X (.builtin "len") (rLenX X.K) := call_len
def rTupX (K : PySem.W.Frag) : List V → Hp → VK → Prop := fun xs H Q => ∃ p ys, xs = [.ref p] ∧ ((SqL K H p ys ∧ ∀ l, H l = none → Q (.ref l) (upd H l (.tup ys))) ∨ (SqT K H p ys ∧ Q (.ref p) H))
theorem call_tupX {X : Cx} : CallR X (.type "tuple") (rTupX X.K) := call_tuple_of
def tTruX (K : PySem.W.Frag) (ta : TE) : TT := fun σ H Q => ta σ H fun x H' => ∃ k, TruV K x H' k ∧ Q k H'
theorem pt_truK {X : Cx} {K : PySem.W.Frag} (hK : X.K = K) {a : Expr} {ta : TE} (ha : PE X a ta) (he : ∀ whole, isTrue a X.env whole = (do let v ← whole; standAt a.pos; holding [v] (truthy v))) : PT X a (tTruX K ta) := hK ▸ pt_truth ha he
theorem pt_tru {X : Cx} {a : Expr} {ta : TE} (ha : PE X a ta) (he : ∀ whole, isTrue a X.env whole = (do let v ← whole; standAt a.pos; holding [v] (truthy v))) : PT X a (tTruX X.K ta) := pt_truth ha he
theorem pe_gc {X : Cx} {x : Str} {v : V} {pos : Pos} (hg : Gl X x) (h : ∃ u, X.mg x = some u ∧ RelV v u) (hd : (x == ("__debug__" : Str)) = false := by decide) : PE X (.Name x pos) (tC v) := by
  obtain ⟨u, h1, h2⟩ := h
  exact pe_glob hg h1 h2 hd

/-! ### a def of the text, at its name -/
structure DefAt (K : PySem.W.Frag) (mg : Str → Option Value) (x : Str) (st : Stmt) : Prop where
  ex : ∃ f fd, Fun K x x st f fd ∧ mg x = some (.ref f)
/-- how arguments bind: no defaults -/
def Bnd (x : Str) (st : Stmt) (ps : List Str) : Prop := ∀ (kV doc pm : Value) (an : Option Addr) (cdv ct : Value) (us : List Value), us.length = ps.length → bindArgs (PySem.W.fnOf x x (defArgs st) (defBody st) (defScope st) .none kV doc pm an cdv ct) ⟨us, []⟩ = pure (ps.zip us)
section
variable {P : Program} {w : World} {K : PySem.W.Frag} {mg : Str → Option Value} {base : Heap}
/-- a def that may be called by its name -/
structure Cal (P : Program) (w : World) (K : PySem.W.Frag) (mg : Str → Option Value) (base : Heap) (CX : CXT) (k : Nat) (x : Str) (sp : Sp) : Prop where
  ex : ∃ (f : Addr) (fd : FuncData) (ps : List Str), FnOk P w K mg base CX k f fd ps sp ∧ mg x = some (.ref f) ∧ PySem.W.keepIn K (.ref f) = true ∧ Binds K fd ps []
theorem cal0 {x : Str} {st : Stmt} {N ps : List Str} {k : Nat} {sp : Sp} (D : DefAt K mg x st) (S : FnScope N ps (defScope st)) (hb : Bnd x st ps) (len : ∀ vs H Q E, sp vs H Q E → vs.length = ps.length)
    (hbody : ∀ (f : Addr) (cdv : Value) (A : Around) (outer : List Env) (s : Shared) (H : Hp) (vs : List V) (Q : VK) (E : XK), Room k (A.deeper (envOfC x (defScope st) s.heap.objs.size f cdv)) → sp vs H Q E →
      ∃ t, PSs (cxOf CX0 P w K mg base N x (defScope st) f cdv A outer s H E).nox (defBody st) t ∧ t { nx := fun _ H' => Q .non H', rt := Q } (start N vs) H) : Cal P w K mg base CX0 (k + 1) x sp := by
  obtain ⟨f, fd, F, m⟩ := D.ex
  exact ⟨f, fd, ps, F.ok S len (hbody f), m, F.kp, F.binds hb⟩
end
section
variable {X : Cx} {k j : Nat} {x : Str} {sp : Sp} {p pos : Pos} {e : Expr} {es : List Expr} {t : TA}
theorem pe_c {CX : CXT} {E : XK} (c : Cal X.prog X.w X.K X.mg X.base CX k x sp) (hr : Room j X.A) (hk : k ≤ j) (hg : Gl X x) (hx : Passes CX X E) (ha : PA X (e :: es) t)
    (hdb : (x == ("__debug__" : Str)) = false := by decide) (he : starEach (e :: es) X.env = (false, eval e X.env) :: starEach es X.env := by rfl) (hpl : (backTo pos (starEach es X.env)).any (·.1) = false := by rfl) :
    PE X (.Call (.Name x p) (e :: es) [] pos) (tCall sp [] E t) := by
  obtain ⟨f, fd, ps, F, hm, kp, b⟩ := c.ex
  exact pe_call F (hr.mono hk) hg hm kp b .nil hx ha hdb he hpl
end
/-! ### readings, a step at a time -/
def LstK (Q : VK) : List V → Hp → Prop := fun xs H1 => xs.length ≤ sizeLine ∧ ∀ p, H1 p = none → Q (.ref p) (upd H1 p (.lst xs))
def TupK (Q : VK) : List V → Hp → Prop := fun xs H1 => xs.length ≤ sizeLine ∧ ∀ p, H1 p = none → Q (.ref p) (upd H1 p (.tup xs))
section
variable {K : PySem.W.Frag} {σ : L2.St} {H : Hp} {Q : VK} {D : Ends} {ta tb te tc : TE} {t tr : TA} {tt tu : TT} {ts tz tw : TS} {r : R2} {rm : V → List V → Hp → VK → Prop} {v x y : V} {i j : Int}
theorem i_ret (h : te σ H D.rt) : tRet te D σ H := h
theorem i_op (h : ta σ H fun x H1 => tb σ H1 fun y H2 => r x y H2 Q) : tOp r ta tb σ H Q := h
theorem i_un {r : V → Hp → VK → Prop} (h : ta σ H fun x H1 => r x H1 Q) : tUn r ta σ H Q := h
theorem i_var {n : Nat} (h : σ[n]? = some (some v)) (q : Q v H) : tVar n σ H Q := ⟨v, h, q⟩
theorem i_c (q : Q v H) : tC v σ H Q := q
theorem i_cb {r : List V → Hp → VK → Prop} (h : t σ H fun vs H1 => r vs H1 Q) : tCB r t σ H Q := h
theorem i_call {sp : Sp} {dvs : List V} {E : XK} (h : t σ H fun vs H1 => sp (vs ++ dvs) H1 Q E) : tCall sp dvs E t σ H Q := h
theorem i_cons {R : List V → Hp → Prop} (h : te σ H fun x H1 => tr σ H1 fun xs H2 => R (x :: xs) H2) : tCons te tr σ H R := h
theorem i_nil {R : List V → Hp → Prop} (h : R [] H) : tNil σ H R := h
theorem i_seq (h : ts { D with nx := tz D } σ H) : tSeq ts tz D σ H := h
theorem i_next (h : D.nx σ H) : tNext D σ H := h
theorem i_asg {g : TG} (h : te σ H fun x H1 => g x σ H1 D.nx) : tAsg te g D σ H := h
theorem i_name {n : Nat} {R : L2.St → Hp → Prop} (h : R (σ.set n (some v)) H) : gName n v σ H R := h
theorem i_sub {ts : TSet} {R : L2.St → Hp → Prop} (h : ta σ H fun o H1 => tb σ H1 fun i H2 => ts o i v H2 fun H3 => R σ H3) : gSub ta tb ts v σ H R := h
theorem i_drop (h : te σ H fun _ H1 => D.nx σ H1) : tDrop te D σ H := h
theorem i_ifs (h : tt σ H fun b H1 => if b = true then ts D σ H1 else tz D σ H1) : tIfS tt ts tz D σ H := h
theorem i_ife (h : tt σ H fun c H1 => if c = true then ta σ H1 Q else tb σ H1 Q) : tIf tt ta tb σ H Q := h
theorem i_test {R : Bool → Hp → Prop} (h : te σ H fun x H' => ∃ k, x = .bl k ∧ R k H') : tTest te σ H R := h
theorem i_tru {R : Bool → Hp → Prop} (h : te σ H fun x H' => ∃ k, TruV K x H' k ∧ R k H') : tTruX K te σ H R := h
theorem i_and {R : Bool → Hp → Prop} (h : tt σ H fun c H1 => if c = true then tu σ H1 R else R false H1) : tAnd tt tu σ H R := h
theorem i_or {R : Bool → Hp → Prop} (h : tt σ H fun c H1 => if c = true then R true H1 else tu σ H1 R) : tOr tt tu σ H R := h
theorem i_not {R : Bool → Hp → Prop} (h : tt σ H fun c H1 => R (!c) H1) : tNot tt σ H R := h
theorem i_andV (h : ta σ H fun x H1 => ∃ c, x = .bl c ∧ if c = true then tb σ H1 Q else Q (.bl false) H1) : tAndV ta tb σ H Q := h
theorem i_orV (h : ta σ H fun x H1 => ∃ c, x = .bl c ∧ if c = true then Q (.bl true) H1 else tb σ H1 Q) : tOrV ta tb σ H Q := h
theorem i_notV (h : ta σ H fun x H1 => ∃ c, x = .bl c ∧ Q (.bl (!c)) H1) : tNotV ta σ H Q := h
theorem i_bl {b : Bool} {R : Bool → Prop} (h : R b) : ∃ k, V.bl b = .bl k ∧ R k := ⟨b, rfl, h⟩
theorem i_blH {b : Bool} {R : Bool → Hp → Prop} (h : R b H) : ∃ k, V.bl b = .bl k ∧ R k H := ⟨b, rfl, h⟩
theorem i_trB {b : Bool} {R : Bool → Prop} (h : R b) : ∃ k, TruV K (.bl b) H k ∧ R k := ⟨b, rfl, h⟩
theorem i_lstF (h : t σ H (LstK Q)) : tLst t σ H Q := h
theorem i_tupF (h : t σ H (TupK Q)) : tTup t σ H Q := h
theorem p_lstK {xs : List V} (hl : xs.length ≤ sizeLine) (h : ∀ p H', H p = none → Same H H' → H' p = some (.lst xs) → Q (.ref p) H') : LstK Q xs H := ⟨hl, al h⟩
theorem p_tupK {xs : List V} (hl : xs.length ≤ sizeLine) (h : ∀ p H', H p = none → Same H H' → H' p = some (.tup xs) → Q (.ref p) H') : TupK Q xs H := ⟨hl, al h⟩
/-- operators -/
theorem p_addI (q : Q (.int (i + j)) H) : rAddX K (.int i) (.int j) H Q := .inl ⟨i, j, rfl, rfl, q⟩
theorem p_addS {a b : Str} (hl : a.length + b.length ≤ sizeLine) (q : Q (.str (a ++ b)) H) : rAddX K (.str a) (.str b) H Q := .inr (.inl ⟨a, b, rfl, rfl, hl, q⟩)
theorem p_addL {a b : Addr} {xs ys : List V} (h1 : H a = some (.lst xs)) (h2 : H b = some (.lst ys)) (hl : xs.length + ys.length ≤ sizeLine) (q : ∀ p H', H p = none → Same H H' → H' p = some (.lst (xs ++ ys)) → Q (.ref p) H') : rAddX K (.ref a) (.ref b) H Q :=
  .inr (.inr (.inl ⟨a, b, xs, ys, rfl, rfl, h1, h2, hl, al q⟩))
theorem p_I0 {g : Int → Int → V} (q : Q (g i j) H) : rI0 g (.int i) (.int j) H Q := ⟨i, j, rfl, rfl, q⟩
theorem p_I {C : Int → Int → Prop} {g : Int → Int → V} (c : C i j) (q : Q (g i j) H) : rI C g (.int i) (.int j) H Q := ⟨i, j, rfl, rfl, c, q⟩
theorem p_U {g : Int → V} (q : Q (g i) H) : rU g (.int i) H Q := ⟨i, rfl, q⟩
theorem p_muI (c : CMul i j ∨ CMulW i j) (q : Q (.int (i * j)) H) : rMuXX (.int i) (.int j) H Q := c.elim (fun c => .inl (.inl ⟨i, j, rfl, rfl, c, q⟩)) fun c => .inl (.inr ⟨i, j, rfl, rfl, c, q⟩)
theorem p_muS {z : Str} (c : MulOk z j) (q : Q (.str (Txt.mul z j)) H) : rMuXX (.str z) (.int j) H Q := .inr (.inl ⟨z, j, rfl, rfl, c, q⟩)
theorem p_ltI (q : Q (.bl (decide (i < j))) H) : rLtX (.int i) (.int j) H Q := .inl ⟨i, j, rfl, rfl, q⟩
theorem p_leI (q : Q (.bl (decide (i ≤ j))) H) : rLeX (.int i) (.int j) H Q := .inl ⟨i, j, rfl, rfl, q⟩
theorem p_gtI (q : Q (.bl (decide (j < i))) H) : rGtX (.int i) (.int j) H Q := .inl ⟨i, j, rfl, rfl, q⟩
theorem p_geI (q : Q (.bl (decide (j ≤ i))) H) : rGeX (.int i) (.int j) H Q := .inl ⟨i, j, rfl, rfl, q⟩
theorem p_ltS {a b : Str} (q : Q (.bl (decide (a.cps.toList < b.cps.toList))) H) : rLtX (.str a) (.str b) H Q := .inr ⟨a, b, rfl, rfl, q⟩
theorem p_leS {a b : Str} (q : Q (.bl (!decide (b.cps.toList < a.cps.toList))) H) : rLeX (.str a) (.str b) H Q := .inr ⟨a, b, rfl, rfl, q⟩
theorem p_gtS {a b : Str} (q : Q (.bl (decide (b.cps.toList < a.cps.toList))) H) : rGtX (.str a) (.str b) H Q := .inr ⟨a, b, rfl, rfl, q⟩
theorem p_eqI (q : Q (.bl (decide (i = j))) H) : rEqX K (.int i) (.int j) H Q := .inl ⟨rfl, by
  have e : decide (V.int i = V.int j) = decide (i = j) := decide_eq_decide.mpr ⟨fun h => V.int.inj h, fun h => h ▸ rfl⟩
  rw [e]
  exact q⟩
theorem p_neI (q : Q (.bl (!decide (i = j))) H) : rNeX K (.int i) (.int j) H Q := .inl ⟨rfl, by
  have e : decide (V.int i = V.int j) = decide (i = j) := decide_eq_decide.mpr ⟨fun h => V.int.inj h, fun h => h ▸ rfl⟩
  rw [e]
  exact q⟩
theorem p_eqS (s : scal x y = true) (q : Q (.bl (decide (x = y))) H) : rEqX K x y H Q := .inl ⟨s, q⟩
theorem p_neS (s : scal x y = true) (q : Q (.bl (!decide (x = y))) H) : rNeX K x y H Q := .inl ⟨s, q⟩
theorem p_int (q : Q (.int i) H) : rIntX [.int i] H Q := .inl (.inl ⟨i, rfl, q⟩)
theorem p_lenS {z : Str} (hl : z.length ≤ sizeLine) (q : Q (.int z.length) H) : rLenX K [.str z] H Q := ⟨.str z, z.length, rfl, ⟨hl, rfl⟩, q⟩
theorem p_lenL {a : Addr} {xs : List V} (h : SqL K H a xs) (q : Q (.int xs.length) H) : rLenX K [.ref a] H Q := ⟨.ref a, xs.length, rfl, .inl ⟨xs, h, rfl⟩, q⟩
theorem p_lenT {a : Addr} {xs : List V} (h : SqT K H a xs) (q : Q (.int xs.length) H) : rLenX K [.ref a] H Q := ⟨.ref a, xs.length, rfl, .inr ⟨xs, h, rfl⟩, q⟩
theorem p_ixL {a : Addr} {xs : List V} (h : SqL K H a xs) (ha : atI xs i = some v) (q : Q v H) : rIx K (.ref a) (.int i) H Q := .inl ⟨a, xs, i, v, rfl, rfl, h, ha, q⟩
theorem p_ixT {a : Addr} {xs : List V} (h : SqT K H a xs) (ha : atI xs i = some v) (q : Q v H) : rIx K (.ref a) (.int i) H Q := .inr (.inl ⟨a, xs, i, v, rfl, rfl, h, ha, q⟩)
theorem p_ixS {z : Str} {c : Nat} (hl : z.length ≤ sizeLine) (ha : atI z.cps.toList i = some c) (q : Q (.str ⟨#[c]⟩) H) : rIx K (.str z) (.int i) H Q := .inr (.inr ⟨z, i, c, rfl, rfl, hl, ha, q⟩)
theorem p_setL {a : Addr} {xs : List V} {n : Nat} {R : Hp → Prop} (h : H a = some (.lst xs)) (hi : ixN xs.length i = some n) (q : R (upd H a (.lst (xs.set n v)))) : rSetL (.ref a) (.int i) v H R := ⟨a, xs, i, n, rfl, rfl, h, hi, q⟩
theorem i_m1 (h : ta σ H fun x H1 => (∃ a, x = .str a) ∧ tb σ H1 fun y H2 => rm x [y] H2 Q) : tM1 rm ta tb σ H Q := h
theorem i_m0 (h : ta σ H fun x H1 => (∃ a, x = .str a) ∧ rm x [] H1 Q) : tM0 rm ta σ H Q := h
theorem i_str {z : Str} {B : Prop} (h : B) : (∃ a, V.str z = .str a) ∧ B := ⟨⟨z, rfl⟩, h⟩
theorem p_join {z : Str} {a : Addr} {ys : List Str} (h : SqL K H a (ys.map V.str)) (hl : (ys.map (·.length)).sum + ys.length * z.length ≤ 16777216) (q : Q (.str (Txt.join z ys)) H) :
    ∃ a' p, ∃ ys : List Str, V.str z = .str a' ∧ [V.ref a] = [.ref p] ∧ (SqL K H p (ys.map V.str) ∨ SqT K H p (ys.map V.str)) ∧ (ys.map (·.length)).sum + ys.length * a'.length ≤ 16777216 ∧ Q (.str (Txt.join a' ys)) H := ⟨z, a, ys, rfl, rfl, .inl h, hl, q⟩
theorem ift {A B : Prop} {c : Bool} (h1 : c = true → A) (h2 : c = false → B) : if c = true then A else B := by
  cases c with
  | true => exact h1 rfl
  | false => exact h2 rfl
end

/-! ### the pool -/
/-- the pool at p, its numbers at n, at most k draws so far -/
def PoolAt (H : Hp) (p n : Addr) (k : Int) : Prop := ∃ (ns : List Int) (a c z st : Int), H p = some (.lst [.ref n, .int a, .int c, .int z, .int st]) ∧ H n = some (.lst (ns.map V.int)) ∧ 0 ≤ a ∧ 0 ≤ c ∧ c ≤ k ∧ 0 ≤ z ∧ z < 2147483647
/-- what was tracked stands, but for the pool -/
def Keep (p n : Addr) (H H' : Hp) : Prop := ∀ a o, H a = some o → a ≠ p → a ≠ n → H' a = some o
theorem Keep.get {p n a : Addr} {H H' : Hp} {o : HO} (e : Keep p n H H') (h : H a = some o) (h1 : a ≠ p) (h2 : a ≠ n) : H' a = some o := e a o h h1 h2
theorem Keep.refl (p n : Addr) (H : Hp) : Keep p n H H := fun _ _ h _ _ => h
theorem Keep.trans {p n : Addr} {H H1 H2 : Hp} (a : Keep p n H H1) (b : Keep p n H1 H2) : Keep p n H H2 := fun x o h h1 h2 => b x o (a x o h h1 h2) h1 h2
theorem Keep.same {p n : Addr} {H H1 : Hp} (a : Same H H1) : Keep p n H H1 := fun x o h _ _ => a x o h
theorem Keep.upd {p n d : Addr} {H H1 : Hp} {o : HO} (k : Keep p n H H1) (h : H d = none) : Keep p n H (L2.upd H1 d o) := fun x u e h1 h2 => by
  rw [upd_ne (ne_of_none e h)]
  exact k x u e h1 h2
theorem PoolAt.ne {p n a : Addr} {H : Hp} {k : Int} (h : PoolAt H p n k) (e : H a = none) : a ≠ p ∧ a ≠ n := by
  obtain ⟨ns, b, c, z, st, h1, h2, _⟩ := h
  exact ⟨(ne_of_none h1 e).symm, (ne_of_none h2 e).symm⟩
theorem PoolAt.same {p n : Addr} {H H' : Hp} {k : Int} (h : PoolAt H p n k) (e : Same H H') : PoolAt H' p n k := by
  obtain ⟨ns, b, c, z, st, h1, h2, h3⟩ := h
  exact ⟨ns, b, c, z, st, e _ _ h1, e _ _ h2, h3⟩
theorem PoolAt.mono {p n : Addr} {H : Hp} {k j : Int} (h : PoolAt H p n k) (e : k ≤ j) : PoolAt H p n j := by
  obtain ⟨ns, b, c, z, st, h1, h2, h3, h4, h5, h6⟩ := h
  exact ⟨ns, b, c, z, st, h1, h2, h3, h4, by omega, h6⟩
theorem PoolAt.upd {p n d : Addr} {H : Hp} {k : Int} {o : HO} (h : PoolAt H p n k) (h1 : d ≠ p) (h2 : d ≠ n) : PoolAt (L2.upd H d o) p n k := by
  obtain ⟨ns, b, c, z, st, e1, e2, h3⟩ := h
  exact ⟨ns, b, c, z, st, by rw [upd_ne (Ne.symm h1)]; exact e1, by rw [upd_ne (Ne.symm h2)]; exact e2, h3⟩
theorem Same.upd {d : Addr} {H H1 : Hp} {o : HO} (k : Same H H1) (h : H d = none) : Same H (L2.upd H1 d o) := fun x u e => by
  rw [upd_ne (ne_of_none e h)]
  exact k x u e

theorem log_lt {m : Int} (h0 : 0 ≤ m) (h : m < 1000000000000) : m.natAbs.log2 < 9000 := Nat.lt_of_lt_of_le (PySem.Flt.log2_lt_of (k := 64) (by decide) (by
  have e : (2 : Nat) ^ 64 = 18446744073709551616 := by decide
  rw [e]
  omega)) (by decide)
/-! ### slices -/
section
variable {K : PySem.W.Frag} {σ : L2.St} {H : Hp} {Q : VK} {te : TE} {tl th : TO} {lo hi : Option Int}
theorem i_sl {r : V → Option Int → Option Int → Hp → VK → Prop} (h : te σ H fun x H1 => tl σ H1 fun a H2 => th σ H2 fun b H3 => r x a b H3 Q) : tSl r te tl th σ H Q := h
theorem i_np {R : Option Int → Hp → Prop} (h : R none H) : tNoPart σ H R := h
theorem i_pt {R : Option Int → Hp → Prop} (h : te σ H fun x H1 => ∃ i, x = .int i ∧ R (some i) H1) : tPart te σ H R := h
theorem i_in {i : Int} {R : Int → Prop} (h : R i) : ∃ k, V.int i = .int k ∧ R k := ⟨i, rfl, h⟩
theorem p_slL {a : Addr} {xs : List V} (h : SqL K H a xs) (q : ∀ p H', H p = none → Same H H' → H' p = some (.lst (cutV xs lo hi)) → Q (.ref p) H') : rSlXX K (.ref a) lo hi H Q := .inl ⟨a, xs, rfl, h, al q⟩
theorem p_slS {z : Str} (h : z.length ≤ sizeLine) (q : Q (.str (cutS z lo hi)) H) : rSlXX K (.str z) lo hi H Q := .inr ⟨z, rfl, h, q⟩
theorem cutV_to (xs : List V) (k : Nat) : cutV xs none (some (k : Int)) = xs.take k := by
  unfold cutV
  rw [show HT.sIx xs.length 0 none = 0 from HT.sIx_none _ _, HT.sIx_nat]
  rw [List.drop_zero, Nat.sub_zero]
  by_cases h : k ≤ xs.length
  · rw [Nat.min_eq_left h]
  · rw [Nat.min_eq_right (by omega), List.take_length, List.take_of_length_le (by omega)]
theorem cutV_from (xs : List V) (k : Nat) : cutV xs (some (k : Int)) none = xs.drop k := by
  unfold cutV
  rw [HT.sIx_nat, HT.sIx_none]
  by_cases h : k ≤ xs.length
  · rw [Nat.min_eq_left h]
    exact List.take_of_length_le (by rw [List.length_drop]; exact Nat.le_refl _)
  · rw [Nat.min_eq_right (by omega), List.drop_length, List.drop_of_length_le (by omega), List.take_nil]
end

/-! ### comprehensions -/
section
variable {K : PySem.W.Frag} {a D : Addr} {xs : List V} {g : TG} {tt : TT} {te : TE} {vs : List Nat} {σ : L2.St} {H1 : Hp} {Qd : Hp → Prop}
/-- behind i turns: R of the heap, J of the list made so far -/
def LcNx (D : Addr) (R : Nat → Hp → Prop) (J : Nat → List V → Prop) (i : Nat) (H : Hp) : Prop := ∃ acc, H D = some (.lst acc) ∧ R i H ∧ J i acc ∧ acc.length ≤ i
def LcEnd (D : Addr) (R : Nat → Hp → Prop) (J : Nat → List V → Prop) (i : Nat) : VK := fun y H4 => ∃ acc, H4 D = some (.lst acc) ∧ acc.length < sizeLine ∧ LcNx D R J i (upd H4 D (.lst (acc ++ [y])))
def LcTurn (D : Addr) (R : Nat → Hp → Prop) (J : Nat → List V → Prop) (g : TG) (tt : TT) (te : TE) (vs : List Nat) (σ : L2.St) (i : Nat) (x : V) : Prop := ∀ acc H, R i H → J i acc → H D = some (.lst acc) → acc.length ≤ i →
  g x (wipe σ vs) H fun σ2 H2 => wipe σ2 vs = wipe σ vs ∧ tt σ2 H2 fun b H3 => if b = true then te σ2 H3 (LcEnd D R J (i + 1)) else LcNx D R J (i + 1) H3
theorem lc_end {R : Nat → Hp → Prop} {J : Nat → List V → Prop} {i : Nat} {y : V} {H4 : Hp} {acc : List V} (h : H4 D = some (.lst acc)) (hl : acc.length ≤ i) (hi : i < 100000) (r : R (i + 1) (upd H4 D (.lst (acc ++ [y])))) (j : J (i + 1) (acc ++ [y])) : LcEnd D R J (i + 1) y H4 :=
  ⟨acc, h, Nat.lt_of_lt_of_le (by omega) (show 100000 ≤ sizeLine by decide), acc ++ [y], upd_same, r, j, by rw [List.length_append, List.length_singleton]; omega⟩
theorem lc_skip {R : Nat → Hp → Prop} {J : Nat → List V → Prop} {i : Nat} {H4 : Hp} {acc : List V} (h : H4 D = some (.lst acc)) (hl : acc.length ≤ i) (r : R (i + 1) H4) (j : J (i + 1) acc) : LcNx D R J (i + 1) H4 :=
  ⟨acc, h, r, j, by omega⟩
/-- what is asked of the walked thing -/
def LcBody (g : TG) (tt : TT) (te : TE) (vs : List Nat) (σ : L2.St) (Q : VK) : It → Hp → Prop := fun J H1 => tLc (fun _ H R => R J H) g tt te vs σ H1 Q
theorem i_lc {wi : TI} {Q : VK} (h : wi σ H1 (LcBody g tt te vs σ Q)) : tLc wi g tt te vs σ H1 Q := h
/-- a walked thing that gives the items of xs, the heap as it was -/
abbrev WalkX (J : It) (xs : List V) (G : Hp → Prop) : Prop := Walk J xs.length G (YAt xs)
theorem lcw {J : It} {G : Hp → Prop} {Q : VK} (w : WalkX J xs G) (h : ∀ D, H1 D = none → ∃ (R : Nat → Hp → Prop) (Jx : Nat → List V → Prop), R 0 (upd H1 D (.lst [])) ∧ Jx 0 [] ∧ (∀ i H, R i H → G H) ∧ (∀ i x, xs[i]? = some x → LcTurn D R Jx g tt te vs σ i x) ∧
      ∀ acc H, R xs.length H → Jx xs.length acc → H D = some (.lst acc) → acc.length ≤ xs.length → Q (.ref D) H) : LcBody g tt te vs σ Q J H1 := by
  intro D hD
  obtain ⟨R, Jx, r0, j0, hG, ht, hd⟩ := h D hD
  refine lc_it w (LcNx D R Jx) ⟨[], upd_same, r0, j0, Nat.le_refl _⟩ (fun i H _ p => ?_) (fun i x H H' hi p y => ?_) (fun H p => ?_)
  · obtain ⟨acc, _, r, _⟩ := p
    exact hG i H r
  · obtain ⟨acc, e, r, j, l⟩ := p
    obtain ⟨rfl, hx⟩ := y
    exact ht i x hx acc H' r j e l
  · obtain ⟨acc, e, r, j, l⟩ := p
    exact hd acc H r j e l
theorem list_take_more {α : Type} {l : List α} {i : Nat} {x : α} (h : l[i]? = some x) : l.take (i + 1) = l.take i ++ [x] := by
  rw [List.take_add_one, h]
  rfl
/-- pure: the items that p lets through, by f -/
theorem lcw_fm {J : It} {G : Hp → Prop} {Q : VK} {j : Nat} (w : WalkX J xs G) (p : V → Bool) (f : V → V) (hG : ∀ H', Same H1 H' → G H') (hz : xs.length < 100000) (hw : ∀ x, wipe ((wipe σ vs).set j (some x)) vs = wipe σ vs)
    (ht : ∀ x, x ∈ xs → ∀ (H' : Hp) (R : Bool → Hp → Prop), Same H1 H' → (∀ H'', Same H' H'' → R (p x) H'') → tt ((wipe σ vs).set j (some x)) H' R)
    (he : ∀ x, x ∈ xs → p x = true → ∀ (H' : Hp) (R : VK), Same H1 H' → (∀ H'', Same H' H'' → R (f x) H'') → te ((wipe σ vs).set j (some x)) H' R)
    (q : ∀ D H', H1 D = none → Same H1 H' → H' D = some (.lst ((xs.filter p).map f)) → Q (.ref D) H') : LcBody (gName j) tt te vs σ Q J H1 := by
  refine lcw w fun D hD => ⟨fun _ H => Same H1 H, fun i acc => acc = ((xs.take i).filter p).map f, same_upd hD, rfl, fun _ H s => hG H s, fun i x hx acc H s ej e hl => ?_, fun acc H s ej e _ => ?_⟩
  · have hm : x ∈ xs := List.mem_of_getElem? hx
    have hi : i < 100000 := Nat.lt_trans (List.getElem?_eq_some_iff.mp hx).1 hz
    refine ⟨hw x, ht x hm H _ s fun H3 s3 => ?_⟩
    cases hp : p x with
    | true =>
      refine iteT (he x hm hp H3 _ (s.trans s3) fun H4 s4 => ?_)
      have s14 := (s.trans s3).trans s4
      refine lc_end (s4 _ _ (s3 _ _ e)) hl hi (Same.upd s14 hD) ?_
      have ej : acc = ((xs.take i).filter p).map f := ej
      show acc ++ [f x] = ((xs.take (i + 1)).filter p).map f
      rw [list_take_more hx, List.filter_append, List.map_append, ← ej]
      simp [hp]
    | false =>
      refine iteF (lc_skip (s3 _ _ e) hl (s.trans s3) ?_)
      have ej : acc = ((xs.take i).filter p).map f := ej
      show acc = ((xs.take (i + 1)).filter p).map f
      rw [list_take_more hx, List.filter_append, List.map_append, ← ej]
      simp [hp]
  · have ej : acc = ((xs.take xs.length).filter p).map f := ej
    rw [List.take_length] at ej
    exact q D H hD s (by rw [← ej]; exact e)
/-- with draws: R tells the pool's state, J the list -/
theorem lcw_pool {J : It} {G : Hp → Prop} {Q : VK} {j : Nat} {p n : Addr} {k d : Int} (w : WalkX J xs G) (Jx : Nat → List V → Prop) (hP : PoolAt H1 p n k) (hG : ∀ H', Keep p n H1 H' → G H') (hz : xs.length < 100000) (hw : ∀ x, wipe ((wipe σ vs).set j (some x)) vs = wipe σ vs) (j0 : Jx 0 [])
    (he : ∀ i x acc, xs[i]? = some x → Jx i acc → ∀ (H' : Hp) (R : VK), Keep p n H1 H' → PoolAt H' p n (k + i * d) → (∀ y H'', Keep p n H' H'' → PoolAt H'' p n (k + (i + 1 : Nat) * d) → Jx (i + 1) (acc ++ [y]) → R y H'') → te ((wipe σ vs).set j (some x)) H' R)
    (q : ∀ D H' acc, H1 D = none → Keep p n H1 H' → PoolAt H' p n (k + xs.length * d) → Jx xs.length acc → acc.length ≤ xs.length → H' D = some (.lst acc) → Q (.ref D) H') : LcBody (gName j) tYes te vs σ Q J H1 := by
  refine lcw w fun D hD => ⟨fun i H => Keep p n H1 H ∧ PoolAt H p n (k + i * d), Jx, ⟨(Keep.refl p n H1).upd hD, ?_⟩, j0, fun _ H s => hG H s.1, fun i x hx acc H s ej e hl => ?_, fun acc H s ej e hl => q D H acc hD s.1 s.2 ej hl e⟩
  · have z : PoolAt (L2.upd H1 D (.lst [])) p n k := hP.upd (hP.ne hD).1 (hP.ne hD).2
    exact z.mono (by simp)
  · have hi : i < 100000 := Nat.lt_trans (List.getElem?_eq_some_iff.mp hx).1 hz
    refine ⟨hw x, ?_⟩
    have goal : te ((wipe σ vs).set j (some x)) H (LcEnd D (fun i H => Keep p n H1 H ∧ PoolAt H p n (k + i * d)) Jx (i + 1)) := he i x acc hx ej H _ s.1 s.2 fun y H4 s4 p4 j4 => by
      have e4 := s4 _ _ e (hP.ne hD).1 (hP.ne hD).2
      exact lc_end e4 hl hi ⟨(s.1.trans s4).upd hD, p4.upd (hP.ne hD).1 (hP.ne hD).2⟩ j4
    exact goal
theorem p_lcL {Q : VK} {xs : List V} (h : SqL K H1 a xs) (q : LcBody g tt te vs σ Q (Itl K a) H1) : ∃ a', V.ref a = .ref a' ∧ (∃ xs, SqL K H1 a' xs) ∧ LcBody g tt te vs σ Q (Itl K a') H1 := ⟨a, rfl, ⟨xs, h⟩, q⟩
theorem p_lcT {Q : VK} {xs : List V} (h : SqT K H1 a xs) (q : LcBody g tt te vs σ Q (Itt K a) H1) : ∃ a', V.ref a = .ref a' ∧ (∃ xs, SqT K H1 a' xs) ∧ LcBody g tt te vs σ Q (Itt K a') H1 := ⟨a, rfl, ⟨xs, h⟩, q⟩
end
/-! ### walked things -/
section
variable {K : PySem.W.Frag} {a : Addr} {xs : List V} {σ : L2.St} {H : Hp} {R : It → Hp → Prop} {te : TE} {ta : TA}
theorem i_itl (h : te σ H fun x H1 => ∃ a, x = .ref a ∧ (∃ xs, SqL K H1 a xs) ∧ R (Itl K a) H1) : iList K te σ H R := h
theorem i_itt (h : te σ H fun x H1 => ∃ a, x = .ref a ∧ (∃ xs, SqT K H1 a xs) ∧ R (Itt K a) H1) : iTup K te σ H R := h
theorem i_itr (h : ta σ H fun vs H1 => ∃ j : Int, vs = [.int j] ∧ -(2 ^ 62) ≤ j ∧ j < 2 ^ 62 ∧ R (Itr 0 j.toNat) H1) : iRng1 ta σ H R := h
theorem i_its (h : te σ H fun v H1 => ∃ x, v = .str x ∧ R (Its x) H1) : iStr te σ H R := h
theorem p_itl {R : Addr → Prop} (h : SqL K H a xs) (q : R a) : ∃ a', V.ref a = .ref a' ∧ (∃ xs, SqL K H a' xs) ∧ R a' := ⟨a, rfl, ⟨xs, h⟩, q⟩
theorem p_itt {R : Addr → Prop} (h : SqT K H a xs) (q : R a) : ∃ a', V.ref a = .ref a' ∧ (∃ xs, SqT K H a' xs) ∧ R a' := ⟨a, rfl, ⟨xs, h⟩, q⟩
theorem p_itr {R : Int → Prop} {i : Int} (h1 : -(2 ^ 62) ≤ i) (h2 : i < 2 ^ 62) (q : R i) : ∃ j, [V.int i] = [.int j] ∧ -(2 ^ 62) ≤ j ∧ j < 2 ^ 62 ∧ R j := ⟨i, rfl, h1, h2, q⟩
theorem p_its {R : Str → Prop} {z : Str} (q : R z) : ∃ x, V.str z = .str x ∧ R x := ⟨z, rfl, q⟩
/-- the signs of a text, each a text -/
def chars (z : Str) : List V := z.cps.toList.map fun c => V.str ⟨#[c]⟩
def intsV (n : Nat) : List V := (List.range n).map fun i : Nat => V.int i
theorem intsV_len (n : Nat) : (intsV n).length = n := by simp [intsV]
theorem chars_len (z : Str) : (chars z).length = z.length := by simp [chars, Str.length]
theorem wx_list : WalkX (Itl K a) xs (fun H => SqL K H a xs) := walk_list
theorem wx_tup : WalkX (Itt K a) xs (fun H => SqT K H a xs) := walk_tup
theorem wx_range {n : Nat} : WalkX (Itr 0 n) (intsV n) (fun _ => True) := by
  unfold WalkX
  rw [intsV_len]
  refine walk_range.mono (fun _ h => h) fun i H x H' hi _ y => ⟨y.1, ?_⟩
  rw [y.2, intsV, List.getElem?_map, List.getElem?_range hi]
  simp
theorem wx_str {z : Str} : WalkX (Its z) (chars z) (fun _ => True) := by
  have e : (chars z).length = z.cps.size := by simp [chars]
  unfold WalkX
  rw [e]
  refine walk_str.mono (fun _ h => h) fun i H x H' hi _ y => ⟨y.1, ?_⟩
  obtain ⟨c, hc, rfl⟩ := y.2
  rw [chars, List.getElem?_map, Array.getElem?_toList, hc]
  rfl
/-! ### for -/
def FoBody (g : TG) (tb : TS) (D : Ends) (σ : L2.St) : It → Hp → Prop := fun J H1 => tFor (fun _ H R => R J H) g tb D σ H1
theorem i_for {wi : TI} {g : TG} {tb : TS} {D : Ends} (h : wi σ H (FoBody g tb D σ)) : tFor wi g tb D σ H := h
theorem fow {J : It} {G : Hp → Prop} {g : TG} {tb : TS} {D : Ends} (w : WalkX J xs G) (Pv : Nat → L2.St → Hp → Prop) (h0 : Pv 0 σ H) (hG : ∀ i σ H, Pv i σ H → G H)
    (hs : ∀ i x σ H, xs[i]? = some x → Pv i σ H → g x σ H fun σ2 H2 => tb { D with nx := Pv (i + 1), ct := Pv (i + 1), bk := D.nx } σ2 H2) (hd : ∀ σ H, Pv xs.length σ H → D.nx σ H) : FoBody g tb D σ J H :=
  for_it w Pv h0 (fun i σ H _ p => hG i σ H p) (fun i x σ H H' _ p y => by
    obtain ⟨rfl, hx⟩ := y
    exact hs i x σ H' hx p) hd
end
end Pk

namespace Pk
open PySem PySem.Spec PyProof.Rows L2
/-! ### kinds of plain values -/
inductive Kn where | non | bl | int | str | lst | tup | dct
  deriving DecidableEq
def Kn.is : Kn → Kn → Bool
  | .bl, .int => true
  | a, b => a == b
inductive Kd (H : Hp) : V → Kn → Prop where
  | non : Kd H .non .non
  | bl (b : Bool) : Kd H (.bl b) .bl
  | int (i : Int) : Kd H (.int i) .int
  | str (z : Str) (h : z.length ≤ 10000) : Kd H (.str z) .str
  | lst {a : Addr} {xs : List V} (e : H a = some (.lst xs)) : Kd H (.ref a) .lst
  | tup {a : Addr} {xs : List V} (e : H a = some (.tup xs)) : Kd H (.ref a) .tup
  | dct {a : Addr} {kvs : List (Key × V)} (e : H a = some (.dK kvs)) : Kd H (.ref a) .dct
theorem Kd.same {H H' : Hp} {x : V} {k : Kn} (s : Same H H') (h : Kd H x k) : Kd H' x k := by
  cases h with
  | non => exact .non
  | bl b => exact .bl b
  | int i => exact .int i
  | str z h => exact .str z h
  | lst e => exact .lst (s _ _ e)
  | tup e => exact .tup (s _ _ e)
  | dct e => exact .dct (s _ _ e)
def Kn.nm : Kn → String
  | .non => "NoneType" | .bl => "bool" | .int => "int" | .str => "str" | .lst => "list" | .tup => "tuple" | .dct => "dict"
theorem kit_nm (a c : Kn) (hc : c ≠ .non) : kitB a.nm c.nm = some (a.is c) := by
  cases a <;> cases c <;> first | exact absurd rfl hc | decide +kernel
theorem Kd.tyx {K : PySem.W.Frag} {H : Hp} {x : V} {k : Kn} (h : Kd H x k) : TyX K H x (.type k.nm) := by
  cases h with
  | non => exact .base .non
  | bl b => exact .base (.bl b)
  | int i => exact .base (.int i)
  | str z _ => exact .base (.str z)
  | lst e => exact .base (.lst e)
  | tup e => exact .base (.tup e)
  | dct e => exact .base (.dK e)
section
variable {K : PySem.W.Frag} {σ : L2.St} {H : Hp} {Q : VK} {x : V} {a : Kn}
theorem p_isi (c : Kn) (hc : c ≠ .non) (h : Kd H x a) (q : Q (.bl (a.is c)) H) : rIsi K [x, .ty c.nm] H Q := ⟨x, .ty c.nm, .type a.nm, .type c.nm, a.is c, rfl, .ty _, h.tyx, kit_ty (kit_nm a c hc), q⟩
theorem p_isStr (h : Kd H x a) (q : Q (.bl (a.is .str)) H) : rIsi K [x, .ty "str"] H Q := p_isi .str (by decide) h q
theorem p_isInt (h : Kd H x a) (q : Q (.bl (a.is .int)) H) : rIsi K [x, .ty "int"] H Q := p_isi .int (by decide) h q
theorem p_isBool (h : Kd H x a) (q : Q (.bl (a.is .bl)) H) : rIsi K [x, .ty "bool"] H Q := p_isi .bl (by decide) h q
theorem p_isi2 (c d : Kn) (hc : c ≠ .non) (hd : d ≠ .non) {t : Addr} (ht : H t = some (.tup [.ty c.nm, .ty d.nm])) (h : Kd H x a) (q : Q (.bl (a.is c || a.is d)) H) : rIsiT K [x, .ref t] H Q := by
  refine ⟨x, t, _, .type a.nm, [.type c.nm, .type d.nm], a.is c || a.is d, rfl, ht, .cons (.ty _) (.cons (.ty _) .nil), h.tyx, ?_, q⟩
  refine kitAny_cons (kit_ty (kit_nm a c hc)) (fun h1 => ?_) (fun h1 => by rw [h1]; rfl)
  refine kitAny_cons (kit_ty (kit_nm a d hd)) (fun h2 => ?_) (fun h2 => by rw [h2, Bool.or_true])
  rw [h1, h2]
  exact kitAny_nil
theorem p_isLT {t : Addr} (ht : H t = some (.tup [.ty "list", .ty "tuple"])) (h : Kd H x a) (q : Q (.bl (a.is .lst || a.is .tup)) H) : rIsiT K [x, .ref t] H Q := p_isi2 .lst .tup (by decide) (by decide) ht h q
/-! ### all, chains, truth -/
theorem p_all {p : Addr} {bs : List Bool} (h : SqL K H p (bs.map V.bl)) (q : Q (.bl (bs.all id)) H) : rAll K [.ref p] H Q := ⟨p, bs, rfl, h, q⟩
theorem i_chain {r r' : R2} {ta tb tc : TE} (h : ta σ H fun x H1 => tb σ H1 fun y H2 => r x y H2 fun z H3 => ∃ k, z = .bl k ∧ (if k = true then tc σ H3 fun w' H4 => r' y w' H4 Q else Q (.bl false) H3)) : tChain r r' ta tb tc σ H Q := h
theorem sign_lt (c d : Nat) : decide ((#[c] : Array Nat).toList < (#[d] : Array Nat).toList) = decide (c < d) := by
  apply decide_eq_decide.mpr
  constructor
  · intro h
    rcases h with h | h | ⟨h, h2⟩
    · exact h
  · intro h
    exact .rel h
/-! ### == [] over texts -/
theorem dp_strs {ys : List Str} : DpAll K H (ys.map V.str) (ys.map PyData.str) := by
  induction ys with
  | nil => exact .nil
  | cons y r ih => exact .cons (.str y) ih
theorem lay_strs : ∀ ys : List Str, (∀ y ∈ ys, PyData.strOk y = true) → PyData.canLayAll0 (ys.map PyData.str) = true
  | [], _ => by simp [PyData.canLayAll0]
  | y :: r, h => by
    have ih := lay_strs r fun z hz => h z (List.mem_cons_of_mem _ hz)
    simp [PyData.canLayAll0, PyData.canLay0, ih, h y List.mem_cons_self]
theorem dep_strs : ∀ ys : List Str, PyData.depthAll (ys.map PyData.str) = 0
  | [] => by simp [PyData.depthAll]
  | y :: r => by
    have ih := dep_strs r
    simp [PyData.depthAll, PyData.depth, ih]
theorem sh_strs {ys : List Str} (h : ∀ y ∈ ys, PyData.strOk y = true) : SeqAt.shaped (.list (ys.map PyData.str)) = true := by
  unfold SeqAt.shaped
  simp [PyData.canLay0, lay_strs ys h, PyData.depth, dep_strs]
theorem eqv_nil (ys : List Str) : PyData.eqv (.list (ys.map PyData.str)) (.list []) = ys.isEmpty := by
  cases ys <;> simp [PyData.eqv, PyData.eqvAll]
theorem p_eqNil {p r : Addr} {xs : List V} (h1 : H p = some (.lst xs)) (h2 : H r = some (.lst [])) (q : Q (.bl xs.isEmpty) H) : rEqX K (.ref p) (.ref r) H Q := by
  cases xs with
  | nil => exact .inr (.inl ⟨.list [], .list [], .lst (SqL.of h1) .nil, .lst (SqL.of h2) .nil, by decide +kernel, by decide +kernel, by
      have e : PyData.eqv (.list []) (.list []) = true := by decide +kernel
      rw [e]
      exact q⟩)
  | cons x r' => exact .inr (.inr ⟨p, r, _, _, rfl, rfl, h1, h2, by simp, q⟩)
theorem p_neNil {p r : Addr} {xs : List V} (h1 : H p = some (.lst xs)) (h2 : H r = some (.lst [])) (q : Q (.bl (!xs.isEmpty)) H) : rNeX K (.ref p) (.ref r) H Q := by
  cases xs with
  | nil => exact .inr (.inl ⟨.list [], .list [], .lst (SqL.of h1) .nil, .lst (SqL.of h2) .nil, by decide +kernel, by decide +kernel, by
      have e : PyData.eqv (.list []) (.list []) = true := by decide +kernel
      rw [e]
      exact q⟩)
  | cons x r' => exact .inr (.inr ⟨p, r, _, _, rfl, rfl, h1, h2, by simp, q⟩)
/-! ### texts -/
theorem foldl_app (cs : List Nat) : ∀ acc : Array Nat, (cs.map fun c => (⟨#[c]⟩ : Str)).foldl (fun acc p => acc ++ (⟨#[]⟩ : Str).cps ++ p.cps) acc = acc ++ cs.toArray := by
  induction cs with
  | nil => intro acc; simp
  | cons c r ih =>
    intro acc
    rw [List.map_cons, List.foldl_cons, ih]
    simp
theorem join_chars (cs : List Nat) : Txt.join Str.empty (cs.map fun c => (⟨#[c]⟩ : Str)) = ⟨cs.toArray⟩ := by
  cases cs with
  | nil => rfl
  | cons c r =>
    show Builtin.Str.glued _ _ = _
    unfold Builtin.Str.glued
    have e := foldl_app r #[c]
    refine congrArg Str.mk ?_
    rw [List.map_cons, List.drop_one, List.tail_cons]
    refine Eq.trans e ?_
    simp
theorem ifT' {c : Bool} {A B : Prop} (h : c = true) (a : A) : if c = true then A else B := by rw [if_pos h]; exact a
theorem ifF' {c : Bool} {A B : Prop} (h : c = false) (b : B) : if c = true then A else B := by rw [h]; exact iteF b
def plainB (z : Str) : Bool := z.cps.toList.all fun c => decide (32 ≤ c) && decide (c ≤ 126)
def lineB : V → Bool
  | .str z => decide (z.length ≤ 40) && plainB z
  | _ => false
theorem cut_to (z : Str) (k : Nat) : cutS z none (some (k : Int)) = ⟨(z.cps.toList.take k).toArray⟩ := by
  unfold cutS
  rw [show HT.sIx z.length 0 none = 0 from HT.sIx_none _ _, HT.sIx_nat, List.drop_zero, Nat.sub_zero]
  have e : z.length = z.cps.toList.length := by simp [Str.length]
  by_cases h : k ≤ z.length
  · rw [Nat.min_eq_left h]
  · rw [Nat.min_eq_right (by omega), List.take_of_length_le (by omega), List.take_of_length_le (by omega)]
theorem cut_from (z : Str) (k : Nat) : cutS z (some (k : Int)) none = ⟨(z.cps.toList.drop k).toArray⟩ := by
  unfold cutS
  have e : z.length = z.cps.toList.length := by simp [Str.length]
  rw [HT.sIx_nat, HT.sIx_none]
  by_cases h : k ≤ z.length
  · rw [Nat.min_eq_left h, List.take_of_length_le (by rw [List.length_drop]; omega)]
  · rw [Nat.min_eq_right (by omega), List.drop_of_length_le (by omega), List.drop_of_length_le (by omega), List.take_nil]
theorem app_cps (a b : Str) : (a ++ b).cps.toList = a.cps.toList ++ b.cps.toList := by
  show (a.cps ++ b.cps).toList = _
  simp
theorem app_len (a b : Str) : (a ++ b).length = a.length + b.length := by
  show (a.cps ++ b.cps).size = _
  simp [Str.length]
theorem sum_ones (cs : List Nat) : ((cs.map fun c => (⟨#[c]⟩ : Str)).map (·.length)).sum = cs.length := by
  induction cs with
  | nil => rfl
  | cons c r ih =>
    rw [List.map_cons, List.map_cons, List.sum_cons, ih, List.length_cons]
    show 1 + r.length = r.length + 1
    omega
/-! ### kinds beside the pool -/
def KdP (p n : Addr) (H : Hp) (x : V) (k : Kn) : Prop := Kd H x k ∧ ∀ b, x = .ref b → b ≠ p ∧ b ≠ n
theorem KdP.keep {p n : Addr} {H H' : Hp} {x : V} {k : Kn} (e : Keep p n H H') (h : KdP p n H x k) : KdP p n H' x k := by
  obtain ⟨h, hb⟩ := h
  refine ⟨?_, hb⟩
  cases h with
  | non => exact .non
  | bl b => exact .bl b
  | int i => exact .int i
  | str z h => exact .str z h
  | lst q => exact .lst (e _ _ q (hb _ rfl).1 (hb _ rfl).2)
  | tup q => exact .tup (e _ _ q (hb _ rfl).1 (hb _ rfl).2)
  | dct q => exact .dct (e _ _ q (hb _ rfl).1 (hb _ rfl).2)
theorem KdP.same {p n : Addr} {H H' : Hp} {x : V} {k : Kn} (e : Same H H') (h : KdP p n H x k) : KdP p n H' x k := ⟨h.1.same e, h.2⟩
theorem KdP.flat {p n : Addr} {H : Hp} {x : V} {k : Kn} (h : Kd H x k) (hx : ∀ b, x ≠ .ref b) : KdP p n H x k := ⟨h, fun b e => absurd e (hx b)⟩
theorem two_at {x y : V} {r : Int} (h0 : 0 ≤ r) (h1 : r < 2) : ∃ v, (v = x ∨ v = y) ∧ atI [x, y] r = some v := by
  have h : r = 0 ∨ r = 1 := by omega
  rcases h with rfl | rfl
  · exact ⟨x, .inl rfl, rfl⟩
  · exact ⟨y, .inr rfl, rfl⟩
theorem at_lt {xs : List V} {r : Int} (h0 : 0 ≤ r) (h1 : r < xs.length) : ∃ v, v ∈ xs ∧ atI xs r = some v := by
  have h : r.toNat < xs.length := by omega
  exact ⟨xs[r.toNat], List.getElem_mem h, at_of (j := r.toNat) (by omega) (List.getElem?_eq_getElem h)⟩
theorem intsV_at {n i : Nat} {x : V} (h : (intsV n)[i]? = some x) : i < n ∧ x = .int i := by
  have hi : i < n := by
    have := (List.getElem?_eq_some_iff.mp h).1
    rwa [intsV_len] at this
  rw [intsV, List.getElem?_map, List.getElem?_range hi] at h
  exact ⟨hi, (Option.some.inj h).symm⟩
theorem cutS_len (z : Str) (lo hi : Option Int) : (cutS z lo hi).length ≤ z.length := cutS_length z lo hi
/-- the empty dict -/
theorem p_dnew {R : VK} (q : ∀ d H', H d = none → Same H H' → H' d = some (.dK []) → R (.ref d) H') : ∀ d, H d = none → R (.ref d) (upd H d (.dK [])) := fun d hd => q d _ hd (same_upd hd) upd_same
theorem p_tupL {p : Addr} {xs : List V} (h : SqL K H p xs) (q : ∀ d H', H d = none → Same H H' → H' d = some (.tup xs) → Q (.ref d) H') : rTupX K [.ref p] H Q := ⟨p, xs, rfl, .inl ⟨h, al q⟩⟩
theorem i_dnew (q : ∀ d H', H d = none → Same H H' → H' d = some (.dK []) → Q (.ref d) H') : tDNewK σ H Q := p_dnew q
theorem mem_cutV {xs : List V} {lo hi : Option Int} {x : V} (h : x ∈ cutV xs lo hi) : x ∈ xs := List.mem_of_mem_drop (List.mem_of_mem_take h)
theorem all_filter {α : Type} (p : α → Bool) (xs : List α) : xs.all p = (xs.filter fun x => !p x).isEmpty := by
  induction xs with
  | nil => rfl
  | cons x r ih =>
    rw [List.all_cons, List.filter_cons, ih]
    cases p x <;> simp
theorem p_notB {a b : Bool} (q : Q (.bl (!decide (a = b))) H) : rNotB (.bl a) (.bl b) H Q := ⟨a, b, rfl, rfl, q⟩
theorem p_isB {a b : Bool} (q : Q (.bl (decide (a = b))) H) : rIsB (.bl a) (.bl b) H Q := ⟨a, b, rfl, rfl, q⟩
end
end Pk

/-! own operators -/
namespace Pk
open PySem PySem.Spec PyProof.Rows L2
/-! ### an int asked first declines -/
theorem int_lt_ref (a : Int) (t : Tok) (x C dx : Addr) : Meets (Builtin.«int.__lt__» ⟨[.int a t, .ref x], []⟩) (fun _ R s => s.heap.get? x = some (PySem.W.instObj C dx) ∧ R (.ok (.ret .notImplemented)) s) :=
  .of_wp fun prog w A R s h => by
    obtain ⟨hp, g, d, tk, os⟩ := s
    obtain ⟨hl, h⟩ := h
    unfold PySem.W.instObj at hl
    wp_walk using PySem.AutoSeq1.wpAny_loadPart' hl
    exact ⟨_, rfl, h⟩
theorem int_le_ref (a : Int) (t : Tok) (x C dx : Addr) : Meets (Builtin.«int.__le__» ⟨[.int a t, .ref x], []⟩) (fun _ R s => s.heap.get? x = some (PySem.W.instObj C dx) ∧ R (.ok (.ret .notImplemented)) s) :=
  .of_wp fun prog w A R s h => by
    obtain ⟨hp, g, d, tk, os⟩ := s
    obtain ⟨hl, h⟩ := h
    unfold PySem.W.instObj at hl
    wp_walk using PySem.AutoSeq1.wpAny_loadPart' hl
    exact ⟨_, rfl, h⟩
theorem int_gt_ref (a : Int) (t : Tok) (x C dx : Addr) : Meets (Builtin.«int.__gt__» ⟨[.int a t, .ref x], []⟩) (fun _ R s => s.heap.get? x = some (PySem.W.instObj C dx) ∧ R (.ok (.ret .notImplemented)) s) :=
  .of_wp fun prog w A R s h => by
    obtain ⟨hp, g, d, tk, os⟩ := s
    obtain ⟨hl, h⟩ := h
    unfold PySem.W.instObj at hl
    wp_walk using PySem.AutoSeq1.wpAny_loadPart' hl
    exact ⟨_, rfl, h⟩
theorem int_ge_ref (a : Int) (t : Tok) (x C dx : Addr) : Meets (Builtin.«int.__ge__» ⟨[.int a t, .ref x], []⟩) (fun _ R s => s.heap.get? x = some (PySem.W.instObj C dx) ∧ R (.ok (.ret .notImplemented)) s) :=
  .of_wp fun prog w A R s h => by
    obtain ⟨hp, g, d, tk, os⟩ := s
    obtain ⟨hl, h⟩ := h
    unfold PySem.W.instObj at hl
    wp_walk using PySem.AutoSeq1.wpAny_loadPart' hl
    exact ⟨_, rfl, h⟩
theorem int_eq_ref (a : Int) (t : Tok) (x C dx : Addr) : Meets (Builtin.«int.__eq__» ⟨[.int a t, .ref x], []⟩) (fun _ R s => s.heap.get? x = some (PySem.W.instObj C dx) ∧ R (.ok (.ret .notImplemented)) s) :=
  .of_wp fun prog w A R s h => by
    obtain ⟨hp, g, d, tk, os⟩ := s
    obtain ⟨hl, h⟩ := h
    unfold PySem.W.instObj at hl
    wp_walk using PySem.AutoSeq1.wpAny_loadPart' hl
    exact ⟨_, rfl, h⟩
theorem int_ne_ref (a : Int) (t : Tok) (x C dx : Addr) : Meets (Builtin.«int.__ne__» ⟨[.int a t, .ref x], []⟩) (fun _ R s => s.heap.get? x = some (PySem.W.instObj C dx) ∧ R (.ok (.ret .notImplemented)) s) :=
  .of_wp fun prog w A R s h => by
    obtain ⟨hp, g, d, tk, os⟩ := s
    obtain ⟨hl, h⟩ := h
    unfold PySem.W.instObj at hl
    wp_walk using PySem.AutoSeq1.wpAny_loadPart' hl
    exact ⟨_, rfl, h⟩
section
variable {prog : Program} {w : World} {A : Around} {E : Value → Shared → Prop} {s : Shared} {K : PySem.W.Frag} {x C dx f : Addr} {od : Option Obj} {i : Int} {t : Tok}
/-- int op instance: the int declines, the class's own reflected method answers -/
theorem cmp_refl {op : CmpOp} {ida : String} {B : Builtin} {Q : Value → Shared → Prop} (hu : A.units < cLine) (X : K.In s.heap) (I : PySem.W.InstAt s.heap x (PySem.W.instObj C dx) C od) (hsub : PySem.W.subIn K (.ref C) (.type "int") = some false)
    (h1 : Slot "int" (cmpInfo op).2.1 ida) (he : entryFor table ida = some B) (ha : argsOk ida ⟨[.int i t, .ref x], []⟩)
    (hm : Meets (B ⟨[.int i t, .ref x], []⟩) (fun _ R s => s.heap.get? x = some (PySem.W.instObj C dx) ∧ R (.ok (.ret .notImplemented)) s))
    (hs : PySem.W.findIn K (.ref C) (cmpInfo op).2.2 = some (some (.ref f))) (hf : PySem.W.isFn K (.ref f) = true)
    (h : wpAny (model prog w) A (call (.ref f) [.ref x, .int i t]) (PySem.W.CmpBack Q) E s) : wpAny (model prog w) A (richCompare op (.int i t) (.ref x)) Q E s := by
  have two : wpAny (model prog w) A (tryCompare (.ref x) (cmpInfo op).2.2 (.int i t)) (fun r s' => ∃ v, r = some v ∧ Q v s') E s := by
    unfold tryCompare
    refine wpAny_bind (PySem.W.ifBound_K X I hs hf (wpAny_mono h (fun v s' hv => ?_) fun _ _ e => e))
    cases v <;> first | exact hv.elim | exact wpAny_pure ⟨_, rfl, hv⟩
  have ti : s.TypeIs (.int i t) "int" := typeIs_int s i t
  rcases hi : cmpInfo op with ⟨sym, g, r⟩
  rw [hi] at h1 two
  simp only [richCompare, hi, ti.oneThing_none]
  refine wpAny_holding ?_
  refine wpAny_bind (wpAny_cRoomFor hu ?_)
  refine wpAny_bind (wpAny_typeOf ti (wpAny_bind (I.type.here ?_)))
  have hne : (Value.type "int" != Value.ref C) = true := by simp
  simp only [hne, if_true]
  refine wpAny_bind ((PySem.W.looks_subIn X hsub).here ?_)
  simp only [Bool.false_eq_true, if_false, Bool.not_false, if_true]
  refine wpAny_bind (m := tryCompare (.int i t) _ (.ref x)) (wpAny_tryCompare_declines ti h1 (call_meets h1 ti he ha hm ⟨I.at_, rfl, ?_⟩))
  refine wpAny_bind (m := tryCompare (.ref x) _ (.int i t)) (wpAny_mono two (fun r s' z => ?_) fun _ _ e => e)
  obtain ⟨v, rfl, hq⟩ := z
  exact wpAny_pure hq
end

/-! ### the same as rules -/
section
variable {X : Cx} {k : Nat} {C f : Addr} {fd : FuncData} {ps : List Str} {sp : Sp}
theorem run_own {pins : List (Addr × Obj)} {σ : L2.St} {H : Hp} {s : Shared} {Q : VK} {us : List Value} {vs : List V} (F : FnOk X.prog X.w X.K X.mg X.base CX0 k f fd ps sp) (hb : Binds X.K fd ps []) (hr : Room k X.A) (I : Inv X pins σ H s) (r : Vals vs us) (h : sp vs H Q E0) :
    wpAny (model X.prog X.w) X.A (call (.ref f) us) (EP X pins σ Q) X.xe s := by
  have hl : us.length = ps.length := by rw [← F.len _ _ _ _ h, r.length]
  have hb' := hb s us I.kIn (by simpa using hl)
  rw [List.append_nil] at hb'
  refine wpAny_call (codeAny_mono (F.run X.A X.stack s H ⟨us, []⟩ us vs Q E0 hr I.env0 hb' r h) fun r s' hq => ?_)
  cases r with
  | error e => exact False.elim hq
  | ok fl =>
    cases fl with
    | ret u => exact I.after hq
    | next => exact False.elim hq
    | brk => exact False.elim hq
    | cont => exact False.elim hq
theorem ep_back {pins : List (Addr × Obj)} {σ : L2.St} {Q : VK} {u : Value} {s' : Shared} (h : EP X pins σ Q u s') : PySem.W.CmpBack (EP X pins σ Q) u s' := by
  obtain ⟨v, H', I, r, q⟩ := id h
  cases v with
  | non => cases (show u = Value.none from r); exact h
  | bl b => cases (show u = Value.bool b from r); exact h
  | int i => obtain ⟨t, e⟩ := (show ∃ t, u = Value.int i t from r); cases e; exact h
  | str z => obtain ⟨t, e⟩ := (show ∃ t, u = Value.str z t from r); cases e; exact h
  | byt z => obtain ⟨t, e⟩ := (show ∃ t, u = Value.bytes z t from r); cases e; exact h
  | flt z => obtain ⟨t, e⟩ := (show ∃ t, u = Value.float z t from r); cases e; exact h
  | ref a => cases (show u = Value.ref a from r); exact h
  | ty n => cases (show u = Value.type n from r); exact h
theorem looks_kd {M : Model} {pins : List (Addr × Obj)} {σ : L2.St} {H : Hp} {s : Shared} {y : V} {u : Value} {kn : Kn} (I : Inv X pins σ H s) (h : Kd H y kn) (r : RelV y u) : PySem.W.Looks M s.heap (typeOf u) (.type kn.nm) := by
  cases h with
  | non => cases (show u = Value.none from r); exact PySem.W.Looks.of_pure rfl
  | bl b => cases (show u = Value.bool b from r); exact PySem.W.Looks.of_pure rfl
  | int i => obtain ⟨t, e⟩ := (show ∃ t, u = Value.int i t from r); cases e; exact PySem.W.Looks.of_pure rfl
  | str z _ => obtain ⟨t, e⟩ := (show ∃ t, u = Value.str z t from r); cases e; exact PySem.W.Looks.of_pure rfl
  | @lst a xs e =>
    cases (show u = Value.ref a from r)
    obtain ⟨_, _, n, _, h1⟩ := (show ObjOk X.prog X.w H s.heap a (.lst xs) from I.hok a _ e)
    exact (PySem.W.Looks.ld (part := Option.none) h1).andThen .now
  | @tup a xs e =>
    cases (show u = Value.ref a from r)
    obtain ⟨_, _, _, o, h1, h2, _⟩ := (show ObjOk X.prog X.w H s.heap a (.tup xs) from I.hok a _ e)
    have L := (PySem.W.Looks.ld (M := M) (part := Option.none) h1).andThen (f := fun o => pure o.cls) .now
    rw [h2] at L
    exact L
  | @dct a kvs e =>
    cases (show u = Value.ref a from r)
    obtain ⟨_, _, vs, _, o, es, ep, h1, h2, _⟩ := (show ObjOk X.prog X.w H s.heap a (.dK kvs) from I.hok a _ e)
    have L := (PySem.W.Looks.ld (M := M) (part := Option.none) h1).andThen (f := fun o => pure o.cls) .now
    rw [h2.1] at L
    exact L
end
/-- an own method (an operator's), its promise -/
structure OwnM (P : Program) (w : World) (K : PySem.W.Frag) (mg : Str → Option Value) (base : Heap) (k : Nat) (C : Addr) (m : Str) (sp : Sp) : Prop where
  ex : ∃ (f : Addr) (fd : FuncData) (ps : List Str), FnOk P w K mg base CX0 k f fd ps sp ∧ PySem.W.findIn K (.ref C) m = some (some (.ref f)) ∧ PySem.W.isFn K (.ref f) = true ∧ PySem.W.keepIn K (.ref f) = true ∧ Binds K fd ps []
/-- a property, its getter's promise -/
structure PropM (P : Program) (w : World) (K : PySem.W.Frag) (mg : Str → Option Value) (base : Heap) (k : Nat) (C : Addr) (m : Str) (sp : Sp) : Prop where
  ex : ∃ (p g : Addr) (fd : FuncData) (ps : List Str), PropOf K C m p g ∧ FnOk P w K mg base CX0 k g fd ps sp ∧ Binds K fd ps []
/-- no built-in kind is a kind of C -/
def Apart (K : PySem.W.Frag) (C : Addr) : Prop := ∀ kn : Kn, PySem.W.subIn K (.type kn.nm) (.ref C) = some false
def rOwn (C : Addr) (sp : Sp) : R2 := fun x y H Q => ∃ a dx fs, x = .ref a ∧ H a = some (.ins C dx fs) ∧ ((∃ kn, Kd H y kn) ∨ (∃ b dy gs, y = .ref b ∧ H b = some (.ins C dy gs))) ∧ sp [x, y] H Q E0
def rRef (C : Addr) (sp : Sp) : R2 := fun x y H Q => ∃ i b dy gs, x = .int i ∧ y = .ref b ∧ H b = some (.ins C dy gs) ∧ sp [y, x] H Q E0
section
variable {X : Cx} {k j : Nat} {C : Addr} {sp : Sp}
theorem op_own {op : CmpOp} {m : Str} (hop : ∀ v u, compareOp op v u = richCompare op v u) (c : OwnM X.prog X.w X.K X.mg X.base k C m sp) (hm : (cmpInfo op).2.1 = m) (hk : k ≤ j) (hr : Room j X.A) (hn : Apart X.K C) : OpR X (compareOp op) (rOwn C sp) := by
  intro pins s σ H x y v u Q I rx ry h
  obtain ⟨a, dx, fs, rfl, ha, hy, h⟩ := h
  obtain ⟨f, fd, ps, F, hs, hf, _, hb⟩ := c.ex
  subst hm
  cases (show v = Value.ref a from rx)
  obtain ⟨mA, J, _⟩ := ins_get I.hok ha
  obtain ⟨od, J, _⟩ := J.look
  obtain ⟨m, hF⟩ := I.fr
  rw [hop]
  have go : wpAny (model X.prog X.w) X.A (call (.ref f) [.ref a, u]) (PySem.W.CmpBack (EP X pins σ Q)) X.xe s :=
    wpAny_mono (run_own (vs := [.ref a, y]) F hb (hr.mono hk) I (.cons rfl (.cons ry .nil)) h) (fun _ _ q => ep_back q) fun _ _ q => q
  rcases hy with ⟨kn, hy⟩ | ⟨b, dy, gs, rfl, hb'⟩
  · exact PySem.W.cmp_K (op := op) (tb := .type kn.nm) hr.units0 hF I.ok.mod.kin J (looks_kd I hy ry) (by simp [PySem.W.notFirst, hn kn]) hs hf go
  · cases (show u = Value.ref b from ry)
    obtain ⟨mB, J', _⟩ := ins_get I.hok hb'
    obtain ⟨od', J', _⟩ := J'.look
    exact PySem.W.cmp_K (op := op) (tb := .ref C) hr.units0 hF I.ok.mod.kin J J'.type (by simp [PySem.W.notFirst]) hs hf go
theorem op_ownR {op : CmpOp} {m : Str} {ida : String} {B : Builtin} (hop : ∀ v u, compareOp op v u = richCompare op v u) (c : OwnM X.prog X.w X.K X.mg X.base k C m sp) (hm : (cmpInfo op).2.2 = m) (hk : k ≤ j) (hr : Room j X.A) (hsub : PySem.W.subIn X.K (.ref C) (.type "int") = some false)
    (h1 : Slot "int" (cmpInfo op).2.1 ida) (he : entryFor table ida = some B) (ha : ∀ a b, argsOk ida ⟨[a, b], []⟩)
    (hi : ∀ (a : Int) (t : Tok) (x C dx : Addr), Meets (B ⟨[.int a t, .ref x], []⟩) (fun _ R s => s.heap.get? x = some (PySem.W.instObj C dx) ∧ R (.ok (.ret .notImplemented)) s)) : OpR X (compareOp op) (rRef C sp) := by
  intro pins s σ H x y v u Q I rx ry h
  obtain ⟨i, b, dy, gs, rfl, rfl, hb', h⟩ := h
  obtain ⟨f, fd, ps, F, hs, hf, _, hb⟩ := c.ex
  subst hm
  obtain ⟨t, rfl⟩ := rx
  cases (show u = Value.ref b from ry)
  obtain ⟨mB, J, _⟩ := ins_get I.hok hb'
  obtain ⟨od, J, _⟩ := J.look
  rw [hop]
  have go : wpAny (model X.prog X.w) X.A (call (.ref f) [.ref b, .int i t]) (PySem.W.CmpBack (EP X pins σ Q)) X.xe s :=
    wpAny_mono (run_own (vs := [.ref b, .int i]) F hb (hr.mono hk) I (.cons rfl (.cons ⟨t, rfl⟩ .nil)) h) (fun _ _ q => ep_back q) fun _ _ q => q
  exact cmp_refl hr.units0 I.kIn J hsub h1 he (ha _ _) (hi i t b C dy) hs hf go
theorem pe_pr {e : Expr} {f : Str} {pos : Pos} {ta : TE} (he : PE X e ta) (c : Cls X.K C) (m : PropM X.prog X.w X.K X.mg X.base k C f sp) (hk : k + 1 ≤ j) (hr : Room j X.A) (hab : attributeBase e f X.env (eval e X.env) = eval e X.env := by rfl) : PE X (.Attribute e f pos) (tProp C sp [] E0 ta) := by
  obtain ⟨p, g, fd, ps, hp, F, hb⟩ := m.ex
  exact pe_prop he c hp F (hr.mono hk) hb .nil (fun _ _ _ _ _ _ _ h => h.elim) hab
end
/-! ### bool(x) by an own __bool__ -/
section
variable {prog : Program} {w : World}
theorem meets_bool_ref (x : Addr) : MeetsIn prog w (Builtin.«bool.__new__» ⟨[.type "bool", .ref x], []⟩) (fun A R s => wpAny (model prog w) A.in1 (truthy (.ref x)) (fun b s' => R (.ok (.ret (.bool b))) s') (fun e s' => R (.error e) s') s) :=
  MeetsIn.of_wp fun A R s hs => by
    obtain ⟨hp, g, d, tk, os⟩ := s
    have f1 := F.conv_sub_bool
    repeat (any_goals (first | assumption | (refine wpAny_mono hs (fun b s' hb => ?_) fun _ _ e => e) | wp_step))
    all_goals first | exact ⟨_, rfl, hb⟩ | skip
end
section
variable {X : Cx} {k j : Nat} {C : Addr} {sp : Sp}
def rBoolO (C : Addr) (sp : Sp) : List V → Hp → VK → Prop := fun xs H Q => ∃ a dx fs, xs = [.ref a] ∧ H a = some (.ins C dx fs) ∧ sp [.ref a] H (fun v H' => ∃ b, v = .bl b ∧ Q (.bl b) H') E0
theorem call_boolO (c : OwnM X.prog X.w X.K X.mg X.base k C "__bool__" sp) (hk : k + 2 ≤ j) (hr : Room j X.A) : CallR X (.type "bool") (rBoolO C sp) := by
  intro pins s σ H xs us Q I r h
  obtain ⟨a, dx, fs, rfl, ha, h⟩ := h
  obtain ⟨f, fd, ps, Fn, hs, hf, _, hb⟩ := c.ex
  cases r with
  | cons rx rn =>
    cases rn
    rename_i u
    cases (show u = Value.ref a from rx)
    obtain ⟨mA, J, _⟩ := ins_get I.hok ha
    obtain ⟨od, J, _⟩ := J.look
    obtain ⟨m, hF⟩ := I.fr
    refine callType_newIn F.called_bool F.newNe_bool (F.typeCall_bool_1 _) (F.newCall_bool_1 _) (fun obj => F.args_object_init_2 obj _) F.entry_bool_new (meets_bool_ref a) ?_
    show wpAny (model X.prog X.w) X.A.in1.in1 (truthy (.ref a)) _ _ s
    have hr2 : Room k X.A.in1.in1 := (Room.in1 (Room.in1 (hr.mono hk)))
    have hl : ([Value.ref a] : List Value).length = ps.length := by rw [← Fn.len _ _ _ _ h]; rfl
    have hb' := hb s [.ref a] I.kIn (by simpa using hl)
    rw [List.append_nil] at hb'
    refine PySem.W.truthy_K hF I.ok.mod.kin J hs hf (wpAny_call (codeAny_mono (Fn.run X.A.in1.in1 X.stack s H ⟨[.ref a], []⟩ [.ref a] [.ref a] _ E0 hr2 I.env0.in1.in1 hb' (.cons rfl .nil) h) fun r s' hq => ?_))
    cases r with
    | error e => exact False.elim hq
    | ok fl =>
      cases fl with
      | ret u =>
        obtain ⟨v, H', I', rv, b, rfl, q⟩ := I.after hq
        cases (show u = Value.bool b from rv)
        exact ⟨rfl, .bl b, H', I', rfl, q⟩
      | next => exact False.elim hq
      | brk => exact False.elim hq
      | cont => exact False.elim hq
end
end Pk

/-! own classes: packages by name -/
namespace Pk
open PySem PySem.Spec PyProof.Rows L2
def BndM (m q : Str) (st : Stmt) (ps : List Str) : Prop := ∀ (kV doc pm : Value) (an : Option Addr) (cdv ct : Value) (us : List Value), us.length = ps.length → bindArgs (PySem.W.fnOf m q (defArgs st) (defBody st) (defScope st) .none kV doc pm an cdv ct) ⟨us, []⟩ = pure (ps.zip us)
structure MethAt (K : PySem.W.Frag) (C : Addr) (m q : Str) (st : Stmt) : Prop where
  ex : ∃ f fd, Fun K m q st f fd ∧ Meth K C m f
structure PropAt (K : PySem.W.Frag) (C : Addr) (m q : Str) (st : Stmt) : Prop where
  ex : ∃ p g fd, Fun K m q st g fd ∧ PropOf K C m p g
structure InitAt (K : PySem.W.Frag) (C : Addr) (q : Str) (st : Stmt) (dvs : List V) : Prop where
  ex : ∃ f fd, Mk K C f ∧ FunD K "__init__" q (defArgs st) (defBody st) (defScope st) dvs [] f fd
structure IniOk (P : Program) (w : World) (K : PySem.W.Frag) (mg : Str → Option Value) (base : Heap) (k : Nat) (C : Addr) (q : Str) (st : Stmt) (ps : List Str) (dvs : List V) (sp : Sp) : Prop where
  ex : ∃ f fd, Mk K C f ∧ FunD K "__init__" q (defArgs st) (defBody st) (defScope st) dvs [] f fd ∧ FnOk P w K mg base CX0 k f fd ps sp
section
variable {P : Program} {w : World} {K : PySem.W.Frag} {mg : Str → Option Value} {base : Heap} {C : Addr} {m q x : Str} {st : Stmt} {N ps : List Str} {k : Nat} {sp : Sp} {dvs : List V}
theorem own0 (D : MethAt K C m q st) (S : FnScope N ps (defScope st)) (hb : BndM m q st ps) (len : ∀ vs H Q E, sp vs H Q E → vs.length = ps.length)
    (hbody : ∀ (f : Addr) (cdv : Value) (A : Around) (outer : List Env) (s : Shared) (H : Hp) (vs : List V) (Q : VK) (E : XK), Room k (A.deeper (envOfC q (defScope st) s.heap.objs.size f cdv)) → sp vs H Q E →
      ∃ t, PSs (cxOf CX0 P w K mg base N q (defScope st) f cdv A outer s H E).nox (defBody st) t ∧ t { nx := fun _ H' => Q .non H', rt := Q } (start N vs) H) : OwnM P w K mg base (k + 1) C m sp := by
  obtain ⟨f, fd, F, e⟩ := D.ex
  exact ⟨f, fd, ps, F.ok S len (hbody f), e.at_, e.fn, e.kp, F.binds hb⟩
theorem prop0 (D : PropAt K C m q st) (S : FnScope N ps (defScope st)) (hb : BndM m q st ps) (len : ∀ vs H Q E, sp vs H Q E → vs.length = ps.length)
    (hbody : ∀ (f : Addr) (cdv : Value) (A : Around) (outer : List Env) (s : Shared) (H : Hp) (vs : List V) (Q : VK) (E : XK), Room k (A.deeper (envOfC q (defScope st) s.heap.objs.size f cdv)) → sp vs H Q E →
      ∃ t, PSs (cxOf CX0 P w K mg base N q (defScope st) f cdv A outer s H E).nox (defBody st) t ∧ t { nx := fun _ H' => Q .non H', rt := Q } (start N vs) H) : PropM P w K mg base (k + 1) C m sp := by
  obtain ⟨p, g, fd, F, e⟩ := D.ex
  exact ⟨p, g, fd, ps, e, F.ok S len (hbody g), F.binds hb⟩
theorem ini0 (D : InitAt K C q st dvs) (S : FnScope N ps (defScope st)) (len : ∀ vs H Q E, sp vs H Q E → vs.length = ps.length)
    (hbody : ∀ (f : Addr) (cdv : Value) (A : Around) (outer : List Env) (s : Shared) (H : Hp) (vs : List V) (Q : VK) (E : XK), Room k (A.deeper (envOfC q (defScope st) s.heap.objs.size f cdv)) → sp vs H Q E →
      ∃ t, PSs (cxOf CX0 P w K mg base N q (defScope st) f cdv A outer s H E).nox (defBody st) t ∧ t { nx := fun _ H' => Q .non H', rt := Q } (start N vs) H) : IniOk P w K mg base (k + 1) C q st ps dvs sp := by
  obtain ⟨f, fd, M, F⟩ := D.ex
  exact ⟨f, fd, M, F, F.ok S len fun cdv A outer s H vs Q E hr h => by
    obtain ⟨t, h1, h2⟩ := hbody f cdv A outer s H vs Q E hr h
    exact ⟨t, h1.nox, h2⟩⟩
theorem mkr_d (I : IniOk P w K mg base k C q st ps dvs sp) (hm : mg x = some (.ref C)) (n j : Nat) (hd : dvs ≠ []) (hn : n + (dvs.length - j) = ps.length)
    (h : ∀ (T : Addr) (kV doc pm : Value) (an : Option Addr) (cdv ct : Value) (us its : List Value), us.length = n → its.length = dvs.length →
      ∃ k, bindArgs (PySem.W.fnOf "__init__" q (defArgs st) (defBody st) (defScope st) (.ref T) kV doc pm an cdv ct) ⟨us, []⟩ = seqItems? (.ref T) >>= k ∧ k (some its.toArray) = pure (ps.zip (us ++ its.drop j))) : C8.Mak P w K mg base k x C sp (dvs.drop j) := by
  obtain ⟨f, fd, M, F, G⟩ := I.ex
  obtain ⟨ds, r, b⟩ := F.binds1 n j hd hn h
  exact ⟨f, fd, ps, ds, M, G, hm, b, r⟩
end
section
variable {X : Cx}
def CDivZ (_ j : Int) : Prop := j ≠ 0 ∧ j.natAbs.log2 < 9000
theorem op_fdZ : OpR X (binaryOp .FloorDiv) (rI CDivZ fun i j => .int (i.fdiv j)) := opI fun _ _ _ _ _ _ _ hc q => floordiv_int hc.1 q (.inl (PyProof.noPylong_of_log2 hc.2))
end
/-- what isinstance asks of an own class -/
structure InsF (K : PySem.W.Frag) (C : Addr) : Prop where
  cl : Cls K C
  ha : PySem.W.findIn K (.ref C) "__class__" = some (some (.builtin "object.__class__"))
  hn : PySem.W.specialIn K (.builtin "object.__class__") "__get__" = some (some (.builtin "getset_descriptor.__get__"))
  ht : PySem.W.takesIn K (.builtin "object.__class__") = some true
  hm : PySem.W.mroIn K C (.type "object") = some true
  sf : PySem.W.kitOne K (.ref C) (.ref C) = some true
  si : PySem.W.kitOne K (.ref C) (.type "int") = some false
  sk : ∀ kn : Kn, PySem.W.kitOne K (.type kn.nm) (.ref C) = some false
section
variable {K : PySem.W.Frag} {C : Addr} {H : Hp} {Q : VK} {a dx : Addr} {fs : List (Str × V)} {x : V} {kn : Kn}
theorem p_isC (F : InsF K C) (h : H a = some (.ins C dx fs)) (q : Q (.bl true) H) : rIsi K [.ref a, .ref C] H Q := ⟨.ref a, .ref C, .ref C, .ref C, true, rfl, .own C, .base (.ins h F.cl F.ha F.hn F.ht F.hm), F.sf, q⟩
theorem p_isCint (F : InsF K C) (h : H a = some (.ins C dx fs)) (q : Q (.bl false) H) : rIsi K [.ref a, .ty "int"] H Q := ⟨.ref a, .ty "int", .ref C, .type "int", false, rfl, .ty _, .base (.ins h F.cl F.ha F.hn F.ht F.hm), F.si, q⟩
theorem p_isCn (F : InsF K C) (h : Kd H x kn) (q : Q (.bl false) H) : rIsi K [x, .ref C] H Q := ⟨x, .ref C, .type kn.nm, .ref C, false, rfl, .own C, h.tyx, F.sk kn, q⟩
end
end Pk

/-! defs that print lists: the guards are known to be empty -/
namespace Pk
open PySem PySem.Spec PyProof.Rows L2
structure GOk (P : Program) (w : World) (K : PySem.W.Frag) (mg : Str → Option Value) (base : Heap) (CX : CXT) (k : Nat) (f : Addr) (fd : FuncData) (ps : List Str) (sp : Sp) : Prop where
  size : ∀ vs H Q E, sp vs H Q E → vs.length = ps.length
  go : ∀ (A : Around) (outer : List Env) (s : Shared) (H : Hp) (args : Args) (us : List Value) (vs : List V) (Q : VK) (E : XK), A.guards = some [] → Room k A → Env0 P w K mg base A outer s H → BindsTo s fd args (ps.zip us) → Vals vs us → sp vs H Q E → codeAny (model P w) A (.call (.ref f) args) (CR CX outer P w H s Q E) s
section
variable {P : Program} {w : World} {K : PySem.W.Frag} {mg : Str → Option Value} {base : Heap} {CX : CXT} {k : Nat} {f : Addr} {fd : FuncData} {ps N : List Str} {sp : Sp}
theorem ok_g (F : FnOk P w K mg base CX k f fd ps sp) : GOk P w K mg base CX k f fd ps sp := ⟨F.len, fun A outer s H args us vs Q E _ hr => F.run A outer s H args us vs Q E hr⟩
theorem g_of {x q : Str} {st : Stmt} (F : Fun K x q st f fd) (S : FnScope N ps (defScope st)) (size : ∀ vs H Q E, sp vs H Q E → vs.length = ps.length)
    (hbody : ∀ (cdv : Value) (A : Around) (outer : List Env) (s : Shared) (H : Hp) (vs : List V) (Q : VK) (E : XK), A.guards = some [] → Room k (A.deeper (envOfC q (defScope st) s.heap.objs.size f cdv)) → sp vs H Q E →
      ∃ t, PSs (cxOf CX P w K mg base N q (defScope st) f cdv A outer s H E) (defBody st) t ∧ t { nx := fun _ H' => Q .non H', rt := Q } (start N vs) H) : GOk P w K mg base CX (k + 1) f fd ps sp := by
  obtain ⟨oc, od, kV, doc, pm, an, cdv, ct, osl, rfl, look, code⟩ := F.ex
  refine ⟨size, fun A outer s H args us vs Q E hg room e0 binds rel want => ?_⟩
  have same := size _ _ _ _ want
  have inK : K.In s.heap := e0.mod.kin.keeps fun b o e => (e0.bs b o e).1
  have free : s.heap.NoLimit := e0.mod.nolimit.keeps fun b o e => (e0.bs b o e).1
  refine codeAny_call_function room.depth (inK _ _ look) rfl S.co S.gen rfl (PySem.W.codeRec_of inK code) (binds _ _ _ _ ?_)
  refine wpAny_newFunctionEnv_cells S.kind (fun y hy => ?_) fun env he s1 x => ?_
  · obtain ⟨n, v⟩ := y
    exact (S.par n (List.of_mem_zip hy).1).imp id fun c => ⟨c, PySem.W.cellsFrom_some _ _ _ (.inl c)⟩
  · subst he
    refine ⟨free.keeps x.toInCall.keep, codeAny_func ?_⟩
    obtain ⟨t, ht, hq⟩ := hbody cdv A outer s H vs Q E hg (room.deeper _) want
    have J := inv_start (CX := CX) (E := E) S room.hd e0 same rel x
    refine wpAny_mono (ht.run [] s1 (start N vs) H _ J hq) (fun fl s' hs => ?_) fun e s' hs => hs
    have last : ∀ {σ' : L2.St} {H' : Hp} {v : V} {u : Value}, Inv (cxOf CX P w K mg base N q (defScope st) f cdv A outer s H E) [] σ' H' s' → RelV v u → Q v H' → CE outer P w H s Q u s' := fun I r k => ⟨_, _, I.os, I.bare, I.base, I.hok, r, k⟩
    cases fl with
    | next => exact hs.elim fun _ z => z.elim fun _ z => last (v := V.non) (u := Value.none) z.1 rfl z.2
    | ret u =>
      obtain ⟨v, σ', H', I, r, k⟩ := hs
      exact last I r k
    | brk => exact hs.elim fun _ z => z.elim fun _ z => z.2.elim
    | cont => exact hs.elim fun _ z => z.elim fun _ z => z.2.elim
/-- called by its name -/
structure CalG (P : Program) (w : World) (K : PySem.W.Frag) (mg : Str → Option Value) (base : Heap) (CX : CXT) (k : Nat) (x : Str) (sp : Sp) : Prop where
  ex : ∃ (f : Addr) (fd : FuncData) (ps : List Str), GOk P w K mg base CX k f fd ps sp ∧ mg x = some (.ref f) ∧ PySem.W.keepIn K (.ref f) = true ∧ Binds K fd ps []
theorem calg {x : Str} {st : Stmt} (D : DefAt K mg x st) (S : FnScope N ps (defScope st)) (hb : Bnd x st ps) (size : ∀ vs H Q E, sp vs H Q E → vs.length = ps.length)
    (hbody : ∀ (f : Addr) (cdv : Value) (A : Around) (outer : List Env) (s : Shared) (H : Hp) (vs : List V) (Q : VK) (E : XK), A.guards = some [] → Room k (A.deeper (envOfC x (defScope st) s.heap.objs.size f cdv)) → sp vs H Q E →
      ∃ t, PSs (cxOf CX0 P w K mg base N x (defScope st) f cdv A outer s H E).nox (defBody st) t ∧ t { nx := fun _ H' => Q .non H', rt := Q } (start N vs) H) : CalG P w K mg base CX0 (k + 1) x sp := by
  obtain ⟨f, fd, F, m⟩ := D.ex
  refine ⟨f, fd, ps, g_of F S size (fun cdv A outer s H vs Q E hg hr h => ?_), m, F.kp, F.binds hb⟩
  obtain ⟨t, a, b⟩ := hbody f cdv A outer s H vs Q E hg hr h
  exact ⟨t, a.nox, b⟩
end
section
variable {X : Cx} {k j : Nat} {x : Str} {sp : Sp} {p pos : Pos} {e : Expr} {es : List Expr} {t : TA}
theorem pe_cG {CX : CXT} {E : XK} (c : CalG X.prog X.w X.K X.mg X.base CX k x sp) (hr : Room j X.A) (gd : X.A.guards = some []) (hk : k ≤ j) (hg : Gl X x) (hx : Passes CX X E) (ha : PA X (e :: es) t) (hdb : (x == ("__debug__" : Str)) = false := by decide)
    (one : starEach (e :: es) X.env = (false, eval e X.env) :: starEach es X.env := by rfl) (plain : (backTo pos (starEach es X.env)).any (·.1) = false := by rfl) : PE X (.Call (.Name x p) (e :: es) [] pos) (tCall sp [] E t) := by
  obtain ⟨f, fd, ps, F, hm, kp, b⟩ := c.ex
  refine ⟨fun pins s σ H Q I h => wpAny_Call_Name_kw (ld_glob I hg hm (PySem.W.callWith_K (h₀ := X.base) I.ok.mod.kin kp (thn (ha.run pos pins s σ H _ I h) fun us s1 ⟨vs, H1, J, r, q⟩ => ⟨J.kIn, ?_⟩) one plain) hdb)⟩
  have q : sp vs H1 Q E := by rw [show sp vs H1 Q E = sp (vs ++ []) H1 Q E by rw [List.append_nil]]; exact q
  have n : (us ++ []).length = ps.length := by rw [List.append_nil, ← r.length, F.size _ _ _ _ q]
  have bd := b s1 us J.kIn n
  rw [List.append_nil] at bd
  refine wpAny_call (codeAny_mono (F.go X.A X.stack s1 H1 ⟨us, []⟩ us vs Q E gd (hr.mono hk) J.env0 bd r q) fun z s' hz => ?_)
  cases z with
  | error e => exact hx pins σ H1 s1 e s' J hz
  | ok fl => cases fl with
    | ret u => exact J.after hz
    | next => exact hz.elim
    | brk => exact hz.elim
    | cont => exact hz.elim
end
/-! ### repr of lists and tuples of plain values -/
mutual
inductive Rd (H : Hp) : V → PyData → Prop where
  | non : Rd H .non .none
  | bl (b : Bool) : Rd H (.bl b) (.bool b)
  | int (i : Int) : Rd H (.int i) (.int i)
  | str (z : Str) : Rd H (.str z) (.str z)
  | lst {a : Addr} {xs : List V} {ds : List PyData} (e : H a = some (.lst xs)) (r : RdA H xs ds) : Rd H (.ref a) (.list ds)
  | tup {a : Addr} {xs : List V} {ds : List PyData} (e : H a = some (.tup xs)) (r : RdA H xs ds) : Rd H (.ref a) (.tuple ds)
inductive RdA (H : Hp) : List V → List PyData → Prop where
  | nil : RdA H [] []
  | cons {x : V} {xs : List V} {d : PyData} {ds : List PyData} (h : Rd H x d) (t : RdA H xs ds) : RdA H (x :: xs) (d :: ds)
end
theorem rd_reads {X : Cx} {pins : List (Addr × Obj)} {σ : L2.St} {H : Hp} {s : Shared} {v : V} {d : PyData} (I : Inv X pins σ H s) (h : Rd H v d) : ∀ u, RelV v u → ∃ as, Reads s.heap u d as := by
  refine Rd.rec (motive_1 := fun v d _ => ∀ u, RelV v u → ∃ as, Reads s.heap u d as) (motive_2 := fun xs ds _ => ∀ us, Vals xs us → ∃ as, ReadsAll s.heap us ds as) ?_ ?_ ?_ ?_ ?_ ?_ ?_ ?_ h
  · intro u r; cases (show u = Value.none from r); exact ⟨_, .none⟩
  · intro b u r; cases (show u = Value.bool b from r); exact ⟨_, .bool b⟩
  · intro i u r; obtain ⟨t, e⟩ := (show ∃ t, u = Value.int i t from r); cases e; exact ⟨_, .int i t⟩
  · intro z u r; obtain ⟨t, e⟩ := (show ∃ t, u = Value.str z t from r); cases e; exact ⟨_, .str z t⟩
  · intro a xs ds e r ih u ru
    cases (show u = Value.ref a from ru)
    obtain ⟨_, us, n, rv, h1⟩ := (show ObjOk X.prog X.w H s.heap a (.lst xs) from I.hok a _ e)
    obtain ⟨as, z⟩ := ih us rv
    exact ⟨_, .list h1 rfl rfl (by simpa using z)⟩
  · intro a xs ds e r ih u ru
    cases (show u = Value.ref a from ru)
    obtain ⟨_, us, rv, o, h1, h2, n, h3⟩ := (show ObjOk X.prog X.w H s.heap a (.tup xs) from I.hok a _ e)
    obtain ⟨as, z⟩ := ih us rv
    exact ⟨_, .tuple h1 h2 h3 (by simpa using z)⟩
  · intro us r; cases r; exact ⟨_, .nil⟩
  · intro x xs d ds h t ih1 ih2 us r
    cases r with
    | cons r1 r2 =>
      obtain ⟨_, z1⟩ := ih1 _ r1
      obtain ⟨_, z2⟩ := ih2 _ r2
      exact ⟨_, .cons z1 z2⟩
def rRepr : List V → Hp → VK → Prop := fun xs H Q => ∃ a d, xs = [.ref a] ∧ Rd H (.ref a) d ∧ d.showable = true ∧ d.hasDict = false ∧ d.depth ≤ 50 ∧ d.shown.length ≤ sizeLine ∧ Q (.str d.shown) H
theorem call_repr {X : Cx} {j : Nat} (hr : Room j X.A) (hg : X.A.guards = some []) : CallR X (.builtin "repr") rRepr := by
  intro pins s σ H xs us Q I r h
  obtain ⟨a, d, rfl, hd, h1, h2, h3, h4, q⟩ := h
  obtain ⟨u, rfl, ru⟩ := vals1 r
  cases (show u = Value.ref a from ru)
  obtain ⟨as, z⟩ := rd_reads I hd _ rfl
  refine repr_of_reads' z h1 (fun e => by rw [h2] at e; cases e) hg (by have := hr.units; omega) (fun _ _ e => e) (fun h' t tk keep => ⟨.str _, H, I.kept keep, ⟨t, rfl⟩, q⟩) h4
/-! ### the law's head: its call starts with no guards -/
theorem start_env {P : Program} {w : World} {K : PySem.W.Frag} {mg mb : Str → Option Value} {a : Addr} {H : Hp} {s₁ : Shared} {vs : Array Value} {n : Nat} (KX : K.In s₁.heap) (hns : s₁.heap.Ns mainGlobals mg) (hb : s₁.heap.Ns builtinsNs mb)
    (hbb : ∀ x : Str, x ≠ "__name__" → mb x = bootBuiltins x) (free : s₁.heap.NoLimit) (hg : s₁.gens = #[]) (ha : s₁.heap.get? a = some { cls := .type "list", data := .seq vs n }) (ok : HOk P w H s₁.heap) (only : ∀ b, b ≠ a → H b = none) (out : H a ≠ none → K.lookup a = none) :
    K.In (hidT s₁.heap H) ∧ (hidT s₁.heap H).Ns mainGlobals mg ∧ Env0 P w K mg (hidT s₁.heap H) callerA [] s₁ H := by
  have stays : ∀ {b : Addr} {m : Str → Option Value}, s₁.heap.Ns b m → (hidT s₁.heap H).Ns b m := fun {b m} z => by
    obtain ⟨o, es, ep, e, d, r⟩ := z
    have ne : b ≠ a := fun q => by
      subst q
      rw [ha] at e
      cases e
      cases d
    exact ⟨o, es, ep, hidT_get e (only b ne), d, r⟩
  have kin : K.In (hidT s₁.heap H) := fun b o e => by
    refine hidT_get (KX b o e) ?_
    by_cases q : b = a
    · subst q
      by_cases z : H b = none
      · exact z
      · rw [out z] at e
        cases e
    · exact only b q
  exact ⟨kin, stays hns, rfl, ⟨kin, stays hns, ⟨mb, stays hb, hbb⟩, free.elim fun mc z => ⟨mc, stays z.1, z.2⟩⟩, fun b o e => of_hidT e, Nat.le_of_eq (hidT_size _ _), trivial, fun b z => absurd (show b ∈ ([] : List Addr) from z) (by simp), ok, .of_eq hg⟩
theorem law_callG {P : Program} {w : World} {K : PySem.W.Frag} {mg mb : Str → Option Value} {CX : CXT} {k : Nat} {fa a : Addr} {fd : FuncData} {x : Str} {sp : Sp} {s₁ : Shared} {vs : List Value} {ns : List Int} (KX : K.In s₁.heap) (hns : s₁.heap.Ns mainGlobals mg) (hb : s₁.heap.Ns builtinsNs mb)
    (hbb : ∀ x : Str, x ≠ "__name__" → mb x = bootBuiltins x) (free : s₁.heap.NoLimit) (hg : s₁.gens = #[]) (ha : s₁.heap.get? a = some { cls := .type "list", data := .seq vs.toArray }) (zs : IntsAre vs ns) (hl : ns.length ≤ sizeLine) (room : Room k callerA)
    (F : ∀ base : Heap, K.In base → base.Ns mainGlobals mg → GOk P w K mg base CX k fa fd [x] sp) (binds : ∀ (s : Shared) (u : Value), BindsTo s fd ⟨[u], []⟩ [(x, u)]) (hsp : ∀ H : Hp, Only H → SqL K H a (ns.map V.int) → sp [.ref a] H (fun v _ => v = .bl true) fun _ _ _ => False)
    (calm : ∀ H e s', CX [] H s₁ (fun _ _ _ => False) e s' → False) : codeAny (model P w) callerA (.call (.ref fa) ⟨[.ref a], []⟩) (fun r s' => r = .ok (.ret (.bool true)) ∧ OldK s₁.heap s'.heap ∧ s'.os = s₁.os ∧ AllBare s'.gens) s₁ := by
  have rel := vals_ints zs
  have main : ∀ H : Hp, Only H → SqL K H a (ns.map V.int) → HOk P w H s₁.heap → (∀ b, b ≠ a → H b = none) → (H a ≠ none → K.lookup a = none) →
      codeAny (model P w) callerA (.call (.ref fa) ⟨[.ref a], []⟩) (fun r s' => r = .ok (.ret (.bool true)) ∧ OldK s₁.heap s'.heap ∧ s'.os = s₁.os ∧ AllBare s'.gens) s₁ := by
    intro H hO hS ok only out
    obtain ⟨kin, nsm, e0⟩ := start_env KX hns hb hbb free hg ha ok only out
    refine codeAny_mono ((F _ kin nsm).go callerA [] s₁ H ⟨[.ref a], []⟩ [.ref a] [.ref a] _ _ rfl room e0 (binds s₁ (.ref a)) (.cons rfl .nil) (hsp H hO hS)) fun r s' h => ?_
    match r, h with
    | .error e, h => exact (calm H e s' h).elim
    | .ok (.ret u), h =>
      obtain ⟨v, H', os, bare, un, ok', ru, rfl⟩ := h
      obtain rfl : u = Value.bool true := ru
      refine ⟨rfl, OldK.of_keep fun b o e => ?_, os, bare⟩
      rcases hO b with q | ⟨ob, xs, q⟩
      · exact un.keep b o e q (by intro z; exact absurd (show b ∈ ([] : List Addr) from z) (by simp)) (by simp)
      · have e1 := (ok b _ q).1
        have e2 := (ok' b _ (un.frzs b ob _ q)).1
        rw [e] at e1
        cases e1
        exact e2
    | .ok .next, h => exact h.elim
    | .ok .brk, h => exact h.elim
    | .ok .cont, h => exact h.elim
  cases hk : K.lookup a with
  | some o =>
    have e := KX a o hk
    rw [ha] at e
    cases e
    exact main (fun _ => none) (fun _ => .inl rfl) (.inr ⟨_, vs.toArray, _, hk, rfl, rfl, rfl, by rw [List.size_toArray, zs.length]; exact hl, by simpa using rel⟩) (fun b u z => nomatch z) (fun _ _ => rfl) fun z => absurd rfl z
  | none =>
    have at_ : (fun b => if b = a then some (HO.frz { cls := .type "list", data := .seq vs.toArray } (.lst (ns.map V.int))) else none) a = some (HO.frz { cls := .type "list", data := .seq vs.toArray } (.lst (ns.map V.int))) := if_pos rfl
    refine main (fun b => if b = a then some (.frz { cls := .type "list", data := .seq vs.toArray } (.lst (ns.map V.int))) else none) (fun b => ?_) (.inl (.inr ⟨_, at_⟩)) (fun b u z => ?_) (fun b q => if_neg q) fun _ => hk
    · by_cases q : b = a
      · exact .inr ⟨_, _, if_pos q⟩
      · exact .inl (if_neg q)
    · by_cases q : b = a
      · subst q
        have z' := at_.symm.trans z
        cases z'
        exact ⟨ha, by rw [List.length_map]; exact hl, vs, _, rel, ha⟩
      · have z' := (if_neg q).symm.trans z
        cases z'
theorem walk_G {l : PySem.W.OpenLaw} {n k : Nat} {q : Program} {loose : List Str} {XP : (Str → Option Value) → Heap → Prop} {YP : World → Heap → Prop} {d : DefRec} {K : Params → PySem.W.Frag} {CX : World → CXT} {sp : World → Sp} {x : Str} (hn : l.most = some n) (hn2 : n ≤ sizeLine) (hdf : d.params.defaults = []) (room : Room k callerA)
    (hY : ∀ (w : World) (h : Heap), YP w h → (K w.params).In h) (F : ∀ (w : World) (mg : Str → Option Value) (fa : Addr) (h : Heap), (K w.params).In h → h.Ns mainGlobals mg → mg d.name = some (.ref fa) → ∃ fd : FuncData, (∀ (s : Shared) (u : Value), BindsTo s fd ⟨[u], []⟩ [(x, u)]) ∧ ∀ base : Heap, (K w.params).In base → base.Ns mainGlobals mg → GOk l.prog w (K w.params) mg base (CX w) k fa fd [x] (sp w))
    (hsp : ∀ (w : World) (H : Hp) (a : Addr) (ns : List Int), ns.length ≤ n → Only H → SqL (K w.params) H a (ns.map V.int) → sp w [.ref a] H (fun v _ => v = .bl true) fun _ _ _ => False) (calm : ∀ (w : World) (H : Hp) (s : Shared) (e : Value) (s' : Shared), CX w [] H s (fun _ _ _ => False) e s' → False) :
    PySem.W.WalkO q loose XP YP l.row.toRowW d [] (fun f vs => PySem.call f vs) := by
  refine Att.attach_call hn hdf fun w s₀ s₁ mg mb fa o pm cd doc a vs ns G Y ho hd hcd hmg hobj zs size bare => ?_
  have KX := hY w _ Y
  obtain ⟨fd, hb, hF⟩ := F w mg fa _ KX G.T.g hmg
  exact law_callG KX G.T.g G.T.b G.T.builtins G.T.nolimit bare hobj zs (Nat.le_trans size hn2) room hF hb (fun H hO hS => hsp w H a ns size hO hS) fun H e s' => calm w H s₁ e s'
end Pk

/-! errors that are caught and kept: a try with a tuple of classes, isinstance and fields of what was caught -/
namespace Pk
open PySem PySem.Spec PyProof.Rows L2
/-- an exception of the class cls stands at a, its dict at d -/
def ExT (a : Addr) (cls : Value) (d : Option Addr) : HO := .ext fun h => ∃ (oe : Obj) (vs : Array Value), h.get? a = some oe ∧ Zc cls d oe ∧ oe.data = .fields vs
theorem exT_ok {P : Program} {w : World} {H : Hp} {h : Heap} {a : Addr} {cls : Value} {d : Option Addr} {oe : Obj} {vs : Array Value} (e : h.get? a = some oe) (z : Zc cls d oe) (hd : oe.data = .fields vs) : ObjOk P w H h a (ExT a cls d) :=
  ⟨⟨oe, vs, e, z, hd⟩, ⟨oe, e⟩, fun _ _ ⟨o, v, q, r⟩ k => ⟨o, v, k o q, r⟩⟩
theorem exT_at {P : Program} {w : World} {H : Hp} {h : Heap} {a : Addr} {cls : Value} {d : Option Addr} (ok : HOk P w H h) (e : H a = some (ExT a cls d)) : ∃ (oe : Obj) (vs : Array Value), h.get? a = some oe ∧ Zc cls d oe ∧ oe.data = .fields vs := by
  have x : ObjOk P w H h a (.ext fun h => ∃ (oe : Obj) (vs : Array Value), h.get? a = some oe ∧ Zc cls d oe ∧ oe.data = .fields vs) := ok a _ e
  exact x.1
section
variable {X : Cx} {pins : List (Addr × Obj)} {σ : L2.St} {H : Hp} {s : Shared}
theorem inv_track {a : Addr} {cls : Value} {d : Option Addr} {oe : Obj} {vs : Array Value} (I : Inv X pins σ H s) (ha : H a = none) (e : s.heap.get? a = some oe) (z : Zc cls d oe) (hd : oe.data = .fields vs) (n0 : X.s_0.heap.get? a = none) (hp : ∀ p ∈ X.pn ++ pins, p.1 ≠ a) :
    Inv X pins σ (upd H a (ExT a cls d)) s := by
  have nL : X.env.locals ≠ a := fun q => by
    obtain ⟨m, ⟨o, es, ep, ho, h2, _⟩, _⟩ := I.loc
    rw [q, e] at ho
    cases ho
    rw [hd] at h2
    cases h2
  refine ⟨I.ok, I.os, I.bare, ⟨I.base.keep, I.base.slot, fun b o q n hx => ?_, I.base.there, fun b xs q => ?_, fun b o u q => ?_, fun b ps q => ?_⟩, I.loc, I.cell, ?_, fun x c q => ?_, fun p q => ?_, fun b o q => ?_, I.len⟩
  · rw [upd_ne (fun z => by rw [z, n0] at q; cases q)]
    exact I.base.free b o q n hx
  · have t := I.base.tups b xs q
    rw [upd_ne (ne_of_none t ha)]
    exact t
  · have t := I.base.frzs b o u q
    rw [upd_ne (ne_of_none t ha)]
    exact t
  · obtain ⟨m, t⟩ := I.base.tbls b ps q
    exact ⟨m, by rw [upd_ne (ne_of_none t ha)]; exact t⟩
  · rw [upd_ne nL]
    exact I.free
  · have nc : c ≠ a := fun y => by
      obtain ⟨v, o, ho, h2⟩ := I.cell x c q
      rw [y, e] at ho
      cases ho
      rw [hd] at h2
      cases h2
    rw [upd_ne nc]
    exact I.freeC x c q
  · obtain ⟨p1, p2, p3, p4, p5⟩ := I.pin p q
    exact ⟨p1, by rw [upd_ne (hp p q)]; exact p2, p3, p4, p5⟩
  · by_cases hb : b = a
    · rw [hb, upd_same] at q
      cases q
      rw [hb]
      exact exT_ok e z hd
    · rw [upd_ne hb] at q
      exact (I.hok b o q).stay (fun _ _ _ t => t) (fun c t => by rw [upd_ne (ne_of_none t ha)]; exact t) fun c xs t => by rw [upd_ne (ne_of_none t ha)]; exact t
end
theorem fly_kept {B h h' : Heap} {l : List Env} {a : Addr} {Z : Obj → Prop} (k : ∀ b o, h.get? b = some o → h'.get? b = some o) (f : HandSPX.FlyingZ B l a Z h) : HandSPX.FlyingZ B l a Z h' := by
  obtain ⟨h1, h2, h3, oe, vs, T, oT, ts, a1, a2, a3, a4, a5, a6, a7, a8, a9⟩ := f
  exact ⟨fun b o e => k b o (h1 b o e), h2, h3.of_keeps fun b o e _ => ⟨o, k b o e, rfl⟩, oe, vs, T, oT, ts, k _ _ a1, a2, a3, a4, a5, a6, k _ _ a7, a8, a9⟩
/-- what the clause 'except (c1, c2, c3) as n' wishes of an exception of the body: its suite ends as it falls; behind it the exception is known -/
def wTup (K : PySem.W.Frag) (n : Nat) (cs : List Value) (i : Nat) (ts : Addr → Value → Option Addr → TS) (Wout : WX) (D : Ends) : WX := fun cls d σ H => σ.length = n →
  ∃ b, PySem.W.exmAny K cls cs = some b ∧ (b = true → ∀ a, H a = none → ts a cls d { nx := fun σ' H' => H' a = none → D.nx (σ'.set i none) (upd H' a (ExT a cls d)), rt := fun _ _ => False } (σ.set i (some (.ref a))) H) ∧ (b = false → Wout cls d σ H)
section
variable {X : Cx} {x1 x2 x3 n : Str} {c1 c2 c3 : Value} {i kk : Nat} {body suite : List Stmt} {b₀ : Stmt} {p1 p2 p3 tpos pos pos' : Pos} {tb : WX → TS} {ts : Addr → Value → Option Addr → TS} {Wout : WX}
theorem ps_try_tup (hs : X.stack = X.env :: X.outer) (hf : X.env.frame = some X.env.locals) (hex : X.ex = []) (hN : X.N.Nodup) (hi : X.N[i]? = some n) (hln : X.env.kindOf n = some .local) (n1 : Names X x1 c1) (n2 : Names X x2 c2) (n3 : Names X x3 c3) (tk : Takes X Wout)
    (hb : ∀ (W : WX) (pn : List (Addr × Obj)) (xe : Value → Shared → Prop), Takes (X.tr pn xe) W → PassesOwn (model X.prog X.w) X.A X.env xe → PSs (X.tr pn xe) body (tb W))
    (hsu : ∀ (a : Addr) (oe : Obj) (cls : Value) (d : Option Addr) (pn : List (Addr × Obj)), Zc cls d oe → (∃ vs, oe.data = .fields vs) → PSs (X.suite a ((a, oe) :: pn)) (b₀ :: suite) (ts a cls d)) :
    PS X (.Try body [.ExceptHandler (some (.Tuple [.Name x1 p1, .Name x2 p2, .Name x3 p3] kk tpos)) (some n) (b₀ :: suite) pos'] [] [] pos) (fun D σ H => tb (wTup X.K X.N.length [c1, c2, c3] i ts Wout D) D σ H) := by
  refine ⟨fun pins s σ H D I h => ?_⟩
  have ok := I.ok
  have hfr : X.A.frames = some (X.env :: X.outer) := by rw [ok.frames, hs]
  have hloc : Loc X.env.scope n := .inl hln
  refine wpAny_Try_except ?_
  refine wpAny_mono ((hb (wTup X.K X.N.length [c1, c2, c3] i ts Wout D) (X.pn ++ pins) (fun e s₁ => wpAny (model X.prog X.w) X.A (noteFrame e X.env) (fun _ s₂ => wpAny (model X.prog X.w) X.A (setFlight e none) (fun _ s₃ =>
    wpAny (model X.prog X.w) X.A (handleBy e X.env [.ExceptHandler (some (.Tuple [.Name x1 p1, .Name x2 p2, .Name x3 p3] kk tpos)) (some n) (b₀ :: suite) pos']) (SP X pins D) X.xe s₃) X.xe s₂) X.xe s₁) (fun u s' xx => ?_) PassesOwn.looking).run [] s σ H D (I.toTry _) h) (fun f s1 hsp => ?_) (fun e s1 he => he)
  · -- the catch
    obtain ⟨a, B, sI, pins', σ', H', cls, d, rfl, J', nb, up, sky, na, os, ag, wish⟩ := xx
    obtain ⟨b, hb1, hyes, hno⟩ := wish J'.len
    have J : Inv X pins σ' H' sI := J'.ofTry ok
    have sky' : Sky B (X.env :: X.outer) a (Zc cls d) X.env.locals s'.heap := by rw [← hs]; exact sky
    show wpAny (model X.prog X.w) X.A (noteFrame (.ref a) X.env) _ _ _
    refine Sky.land Zc.steady hfr hf sky' fun h3 fl3 up3 => ?_
    have J3 : Inv X pins σ' H' { s' with heap := h3 } := J.landed nb fl3.1 (up.trans up3) os ag
    obtain ⟨oe3, vs3, he3, hz3, hd3⟩ := fl3.there
    have notFr : ∀ {h : Heap} {o : Obj} {vs : Array Value}, h.FunFrames B (X.env :: X.outer) → h.get? a = some o → o.data = .fields vs → a ∉ frs (X.env :: X.outer) := fun {h o vs} ff e dd hm => by
      obtain ⟨_, o', e', hnf⟩ := ff.mem hm
      rw [e] at e'; cases e'
      exact hnf _ dd
    have nfr := notFr fl3.2.2.1 he3 hd3
    have nfr' : a ∉ frs X.stack := by rw [hs]; exact nfr
    have nL : a ≠ X.env.locals := fun z => nfr (List.mem_filterMap.mpr ⟨X.env, List.mem_cons_self, by rw [hf, z]⟩)
    have nF : a ∉ X.fs := fun hm => by
      obtain ⟨e, he, q⟩ := List.mem_filterMap.mp hm
      exact nfr (List.mem_filterMap.mpr ⟨e, List.mem_cons_of_mem _ he, q⟩)
    have nI : ∀ o, sI.heap.get? a ≠ some o := fun o e => by
      have z := nb a o e nfr'
      rw [fl3.2.1] at z
      cases z
    have n0 : X.s_0.heap.get? a = none := by
      cases q : X.s_0.heap.get? a with
      | none => rfl
      | some o =>
        obtain ⟨o', e'⟩ := J.base.there a o q (by rw [hex]; exact fun z => nomatch z)
        exact absurd e' (nI o')
    have hp0 : ∀ p ∈ X.pn ++ pins, p.1 ≠ a := fun p hp z => by
      have q := (J.pin p hp).1
      rw [z] at q
      exact nI _ q
    have S3 := J3.suite he3 hd3 na nL nF
    refine wpAny_handleBy_cons (codeAny_handlers_test ?_) (by intro q; cases q)
    have LT : PySem.W.Looks (model X.prog X.w) h3 (typeOf (.ref a)) cls := fun A Q E s k q => wpAny_typeOf_ref (k _ _ he3) (by rw [hz3.1]; exact q)
    have ld : ∀ {x : Str} {c : Value} {p : Pos} {Q : Value → Shared → Prop} {E : Value → Shared → Prop}, Names X x c → Q c { s' with heap := h3 } → wpAny (model X.prog X.w) (X.A.mark (some (.ref a))) (eval (.Name x p) X.env) Q E { s' with heap := h3 } := fun {x c p Q E} hc q => by
      obtain ⟨hg, hdbg, hm | ⟨hm, hv, hnn⟩⟩ := hc
      · exact ld_glob (X := X.suite a ((a, oe3) :: (X.pn ++ pins))) S3 hg hm q hdbg
      · exact ld_blt (X := X.suite a ((a, oe3) :: (X.pn ++ pins))) S3 hg hm hv q hnn hdbg
    refine wpAny_Tuple ?_
    refine wpAny_items_cons (ld n1 ?_)
    refine wpAny_items_cons (ld n2 ?_)
    refine wpAny_items_cons (ld n3 ?_)
    refine wpAny_items_nil ⟨by size_fits, ?_⟩
    have kp : ∀ q o, h3.get? q = some o → (h3.push { cls := .type "tuple", data := .seq [c1, c2, c3].toArray }).get? q = some o := fun _ _ z => Heap.get?_push_of_some _ z
    have J5 : Inv X pins σ' H' { s' with heap := h3.push { cls := .type "tuple", data := .seq [c1, c2, c3].toArray } } := J3.kept (t' := s'.toks) kp
    have fl5 := fly_kept kp fl3
    have up5 : s'.heap.UpToSlots (h3.push { cls := .type "tuple", data := .seq [c1, c2, c3].toArray }) := up3.trans (Heap.UpToSlots.of_keeps kp)
    refine (PySem.W.exm_tup3 (M := model X.prog X.w) J5.kIn (LT.keeps kp) (Heap.get?_push_size h3 rfl) hb1).here ?_
    cases b with
    | true =>
      refine codeAny_handlers_suite_as ?_
      refine HandSPX.lands_againZ fl5 fun h4 fl4 up4 => ?_
      have J4 : Inv X pins σ' H' { s' with heap := h4 } := J.landed nb fl4.1 ((up.trans up5).trans up4) os ag
      obtain ⟨oe4, vs4, he4, hz4, hd4⟩ := fl4.there
      have S4 := J4.suite he4 hd4 na nL nF
      refine store_ok (X := X.suite a ((a, oe4) :: (X.pn ++ pins))) (v := .ref a) S4 hN hi hloc rfl (fun s5 S5 => ?_) (.inr hln)
      refine wpAny_mono ((hsu a oe4 cls d (X.pn ++ pins) hz4 ⟨_, hd4⟩).run [] s5 _ H' _ S5 (hyes rfl a na)) (fun f s6 hsp => ?_) (fun _ _ z => False.elim z)
      cases f with
      | next =>
        obtain ⟨σ6, H6, S6, q6⟩ := hsp
        refine gone_ok (X := X.suite a ((a, oe4) :: (X.pn ++ pins))) S6 hN hi hln fun s7 S7 => ?_
        obtain ⟨g1, g2, _⟩ := S7.pin (a, oe4) (List.mem_append_left _ List.mem_cons_self)
        exact ⟨_, _, inv_track (S7.unsuite ok) g2 g1 hz4 hd4 n0 hp0, q6 g2⟩
      | brk =>
        obtain ⟨σ6, H6, S6, q6⟩ := hsp
        exact q6.elim
      | cont =>
        obtain ⟨σ6, H6, S6, q6⟩ := hsp
        exact q6.elim
      | ret u =>
        obtain ⟨v6, σ6, H6, S6, r6, q6⟩ := hsp
        exact q6.elim
    | false =>
      show wpAny _ X.A (handleBy (.ref a) X.env []) _ _ _
      refine wpAny_handleBy_nil ?_
      obtain ⟨k1, k2, k3, oe, vs, T, oT, ts', he, hz, hd, h1, hr⟩ := id fl5
      unfold PySem.passOn
      refine wpAny_bind (wpAny_field he hd h1 ?_)
      rw [if_neg (show ¬ ((Value.ref T == Value.none) = true) from by simp)]
      have fin : wpAny (model X.prog X.w) X.A (setFlight (.ref a) X.env.frame) (fun _ s4 => wpAny (model X.prog X.w) X.A (throw (.ref a) : Sem Flow) (SP X pins D) X.xe s4) X.xe { s' with heap := h3.push { cls := .type "tuple", data := .seq [c1, c2, c3].toArray } } := by
        rw [hf]
        refine HandSPX.setFlight_upZ fl5 fun h4 hh4 up4 => wpAny_throw (tk _ _ ?_)
        exact ⟨a, B, sI, pins, σ', H', cls, d, rfl, J, nb, (up.trans up5).trans up4, .inr (.inr (by rw [hs]; exact hh4)), na, os, ag, hno rfl⟩
      first
        | exact wpAny_bind (wpAny_pure (wpAny_bind fin))
        | exact wpAny_bind fin
  · cases f with
    | next =>
      obtain ⟨σ', H', J', q⟩ := hsp
      exact wpAny_execs_nil ⟨σ', H', J'.ofTry ok, q⟩
    | brk =>
      obtain ⟨σ', H', J', q⟩ := hsp
      exact ⟨σ', H', J'.ofTry ok, q⟩
    | cont =>
      obtain ⟨σ', H', J', q⟩ := hsp
      exact ⟨σ', H', J'.ofTry ok, q⟩
    | ret u =>
      obtain ⟨v, σ', H', J', r, q⟩ := hsp
      exact ⟨v, σ', H', J'.ofTry ok, r, q⟩
end
/-! ### isinstance and fields of what was caught -/
structure ExcK (K : PySem.W.Frag) (D : Addr) : Prop where
  hd : PySem.W.hasDictIn K D = true
  ga : PySem.W.findIn K (.ref D) "__getattribute__" = some (some (.builtin "BaseException.__getattribute__"))
  gg : PySem.W.findIn K (.ref D) "__getattr__" = some none
  ex : PySem.W.subIn K (.ref D) (.type "BaseException") = some true
  ca : PySem.W.findIn K (.ref D) "__class__" = some (some (.builtin "object.__class__"))
  cn : PySem.W.specialIn K (.builtin "object.__class__") "__get__" = some (some (.builtin "getset_descriptor.__get__"))
  ct : PySem.W.takesIn K (.builtin "object.__class__") = some true
  cm : PySem.W.mroIn K D (.type "object") = some true
theorem inst_exT {X : Cx} {pins : List (Addr × Obj)} {σ : L2.St} {H : Hp} {s : Shared} {a D dd : Addr} {fs : List (Str × V)} (I : Inv X pins σ H s) (e : H a = some (ExT a (.ref D) (some dd))) (e2 : H dd = some (.xd fs)) :
    ∃ (oe od : Obj) (mA : Str → Option Value), PySem.W.InstAt s.heap a oe D (some od) ∧ s.heap.Ns1 dd mA ∧ (∀ f, RelO (fs.lookup f) (mA f)) ∧ s.heap.get? dd = some od := by
  obtain ⟨oe, vs, h1, hz, hd⟩ := exT_at I.hok e
  have hx : ObjOk X.prog X.w H s.heap dd (.xd fs) := I.hok dd _ e2
  obtain ⟨mA, hns, hr⟩ := hx
  obtain ⟨od, ho, hl⟩ := lookIn_ns hns
  exact ⟨oe, od, mA, ⟨h1, hz.1, by unfold PySem.W.notCls; rw [hd] <;> rfl, by rw [hz.2]; exact ho⟩, hns, hr, ho⟩
/-- isinstance(e, c), e an exception that was caught -/
def rIsT (K : PySem.W.Frag) : List V → Hp → VK → Prop := fun xs H Q => ∃ (a D dd : Addr) (fs : List (Str × V)) (c : V) (cv : Value) (b : Bool), xs = [.ref a, c] ∧ H a = some (ExT a (.ref D) (some dd)) ∧ H dd = some (.xd fs) ∧ ExcK K D ∧ (∀ u, RelV c u → u = cv) ∧ PySem.W.kitOne K (.ref D) cv = some b ∧ Q (.bl b) H
theorem call_isTr {X : Cx} : CallR X (.builtin "isinstance") (rIsT X.K) := by
  intro pins s σ H xs us Q I r h
  obtain ⟨a, D, dd, fs, c, cv, b, rfl, ha, hdd, C, hcv, e, q⟩ := h
  cases r with
  | cons rx rr =>
    cases rr with
    | cons rt rr =>
      cases rr
      cases rx
      have ec := hcv _ rt
      subst ec
      obtain ⟨oe, od, mA, J, _⟩ := inst_exT I ha hdd
      obtain ⟨cd, hc, _⟩ := PySem.W.any_some C.hd
      exact PySem.W.kia_one (PySem.W.kitx_exc (by rw [hc]; rfl) C.ga C.gg C.ex C.ca C.cn C.ct C.cm) I.kIn J e (fun z => nomatch z) fun tk => ⟨.bl b, H, I.kept (t' := tk) fun _ _ z => z, rfl, q⟩
/-- e.f, e an exception that was caught -/
def tXv (K : PySem.W.Frag) (f : Str) (te : TE) : TE := fun σ H Q => te σ H fun x H1 => ∃ (a D dd : Addr) (fs : List (Str × V)) (v : V), x = .ref a ∧ H1 a = some (ExT a (.ref D) (some dd)) ∧ H1 dd = some (.xd fs) ∧ ExcK K D ∧ PySem.W.findIn K (.ref D) f = some none ∧ fs.lookup f = some v ∧ Q v H1
theorem pe_xv {X : Cx} {e : Expr} {te : TE} {pos : Pos} {n : Str} (he : PE X e te) (hb : attributeBase e n X.env (eval e X.env) = eval e X.env := by rfl) : PE X (.Attribute e n pos) (tXv X.K n te) := by
  refine ⟨fun pins s σ H Q I h => ?_⟩
  refine attr_of hb (thn (he.run pins s σ H _ I h) fun u s1 hh => ?_)
  obtain ⟨x, H1, I1, rx, a, D, dd, fs, v, ex, ea, ed, T, hno, l, q⟩ := hh
  subst ex
  obtain rfl : u = Value.ref a := rx
  obtain ⟨oe, od, mA, J, hns, hr, ho⟩ := inst_exT I1 ea ed
  obtain ⟨od', ho', hl⟩ := lookIn_ns hns
  obtain rfl : od = od' := Option.some.inj (ho.symm.trans ho')
  obtain ⟨w, hu, rw'⟩ := RelO.some_of (v := v) (o := mA n) (by rw [← l]; exact hr n)
  exact HandSPX.exc_get I1.kIn J T.ga T.gg T.ex (PySem.W.findObj_own T.hd hno rfl (by rw [hl, hu])) (handed_of rw') ⟨v, H1, I1.tok _, rw', q⟩
/-! ### repr of anything plain -/
def Shw (H : Hp) (x : V) (d : PyData) : Prop := (Rd H x d ∧ d.showable = true ∧ d.hasDict = false ∧ d.depth ≤ 50 ∧ d.shown.length ≤ sizeLine) ∨ ∃ a, x = .ref a ∧ H a = some (.dK []) ∧ d = .dict []
theorem Rd.same {H H' : Hp} (s : Same H H') {x : V} {d : PyData} (h : Rd H x d) : Rd H' x d := by
  refine Rd.rec (motive_1 := fun x d _ => Rd H' x d) (motive_2 := fun xs ds _ => RdA H' xs ds) ?_ ?_ ?_ ?_ ?_ ?_ ?_ ?_ h
  · exact .non
  · intro b; exact .bl b
  · intro i; exact .int i
  · intro z; exact .str z
  · intro a xs ds e r ih; exact .lst (s _ _ e) ih
  · intro a xs ds e r ih; exact .tup (s _ _ e) ih
  · exact .nil
  · intro x xs d ds h t i1 i2; exact .cons i1 i2
theorem Shw.same {H H' : Hp} (s : Same H H') {x : V} {d : PyData} (h : Shw H x d) : Shw H' x d := by
  rcases h with ⟨h, r⟩ | ⟨a, e, h, r⟩
  · exact .inl ⟨h.same s, r⟩
  · exact .inr ⟨a, e, s _ _ h, r⟩
def rReprV : List V → Hp → VK → Prop := fun xs H Q => ∃ x d, xs = [x] ∧ Shw H x d ∧ Q (.str d.shown) H
theorem call_reprV {X : Cx} {j : Nat} (hr : Room j X.A) (hg : X.A.guards = some []) : CallR X (.builtin "repr") rReprV := by
  intro pins s σ H xs us Q I r h
  obtain ⟨x, d, rfl, hd, q⟩ := h
  obtain ⟨u, rfl, ru⟩ := vals1 r
  have done : ∀ (h' : Heap) (t : Tok) (tk : Nat), (∀ b o, s.heap.get? b = some o → h'.get? b = some o) → EP X pins σ Q (.str d.shown t) { s with heap := h', toks := tk } := fun h' t tk keep => ⟨.str _, H, I.kept keep, ⟨t, rfl⟩, q⟩
  rcases hd with ⟨hd, h1, h2, h3, h4⟩ | ⟨a, rfl, hd, rfl⟩
  · cases hd with
    | non =>
      cases (show u = Value.none from ru)
      exact PySem.P.repr_of_none (by simpa [PyData.shown] using done s.heap s.toks (s.toks + 1) fun _ _ e => e)
    | bl b =>
      cases (show u = Value.bool b from ru)
      exact PySem.P.repr_of_bool (by simpa [PyData.shown] using done s.heap s.toks (s.toks + 1) fun _ _ e => e)
    | int i =>
      obtain ⟨t, rfl⟩ := (show ∃ t, u = Value.int i t from ru)
      exact PySem.P.repr_of_int (by simpa [PyData.showable] using h1) (by simpa [PyData.shown] using done s.heap s.toks (s.toks + 1) fun _ _ e => e)
    | str z =>
      obtain ⟨t, rfl⟩ := (show ∃ t, u = Value.str z t from ru)
      exact PySem.P.repr_of_str (by simpa [PyData.shown] using done s.heap s.toks (s.toks + 1) fun _ _ e => e) (by simpa [PyData.shown] using h4)
    | @lst a xs ds e rr =>
      cases (show u = Value.ref a from ru)
      obtain ⟨as, z⟩ := rd_reads I (.lst e rr) _ rfl
      exact repr_of_reads' z h1 (fun e => by rw [h2] at e; cases e) hg (by have := hr.units; omega) (fun _ _ e => e) done h4
    | @tup a xs ds e rr =>
      cases (show u = Value.ref a from ru)
      obtain ⟨as, z⟩ := rd_reads I (.tup e rr) _ rfl
      exact repr_of_reads' z h1 (fun e => by rw [h2] at e; cases e) hg (by have := hr.units; omega) (fun _ _ e => e) done h4
  · cases (show u = Value.ref a from ru)
    obtain ⟨_, sm, vs, kv, o, es, ep, ho, ed, hd'⟩ := (show ObjOk X.prog X.w H s.heap a (.dK []) from I.hok a _ hd)
    cases kv
    obtain ⟨c1, c2, pr, _⟩ := hd'
    have en : es.toList = [] := by
      cases h9 : es.toList with
      | nil => rfl
      | cons y ys =>
        rw [h9] at pr
        cases pr
    have z : Reads s.heap (.ref a) (.dict []) (a :: [] ++ []) := .dict ho ed.1 c1 (by rw [en]; exact .nil) (by rw [en]; exact .nil)
    exact repr_of_reads' z rfl (fun _ hm => by simp at hm; rw [hm] at sm; simp at sm) hg (by have := hr.units; show X.A.units + (PyData.depth (.dict []) + 1) < _; have : PyData.depth (.dict []) ≤ 50 := by decide
                                                                                             omega) (fun _ _ e => e) done (by decide +kernel)
end Pk

/-! own errors raised, a lambda handed to a def that catches, tables of code objects -/
namespace Pk
open PySem PySem.Spec PyProof.Rows L2
/-! ### an own error: class, __init__(self, f): self.f = f -/
def spEI (C : Addr) (f : Str) : Sp := fun vs H Q _ => ∃ a v, vs = [.ref a, v] ∧ H a = some (exo a C none) ∧ ∀ dx, H dx = none → dx ≠ a → Q .non (upd (upd H dx (exd dx [(f, v)])) a (exo a C (some dx)))
structure ErrF (K : PySem.W.Frag) (mg : Str → Option Value) (x f q : Str) (C : Addr) (st : Stmt) : Prop where
  gC : mg x = some (.ref C)
  T : OexC K C
  no : PySem.W.findIn K (.ref C) f = some none
  ini : ∃ fI fd, PySem.W.findIn K (.ref C) "__init__" = some (some (.ref fI)) ∧ PySem.W.typeIn K (.ref fI) = some (.type "function") ∧ Fun K "__init__" q st fI fd
section
variable {X : Cx} {x f : Str} {C : Addr} {W : WX} {e : Expr} {ta : TA} {p pos pos2 : Pos} {k j : Nat}
/-- a def's promise that its error is made -/
structure ErrM (P : Program) (w : World) (K : PySem.W.Frag) (mg : Str → Option Value) (base : Heap) (x f : Str) (C : Addr) : Prop where
  gC : mg x = some (.ref C)
  T : OexC K C
  ini : ∃ fI fd, PySem.W.findIn K (.ref C) "__init__" = some (some (.ref fI)) ∧ PySem.W.typeIn K (.ref fI) = some (.type "function") ∧ FnOk P w K mg base CX0 1 fI fd ["self", f] (spEI C f) ∧ Binds K fd ["self", f] []
/-- raise X(e) -/
def tRz (C : Addr) (f : Str) (W : WX) (ta : TA) : TS := fun _ σ H => ta σ H fun vs H1 => ∃ v, vs = [v] ∧ ∀ d H', H1 d = none → Same H1 H' → H' d = some (.xd [(f, v)]) → W (.ref C) (some d) σ H'
theorem ps_imp {X : Cx} {st : Stmt} {t t' : TS} (h : PS X st t) (i : ∀ D σ H, t' D σ H → t D σ H) : PS X st t' := ⟨fun pins s σ H D I q => h.run pins s σ H D I (i D σ H q)⟩
theorem ps_rz (F : ErrM X.prog X.w X.K X.mg X.base x f C) (hc : X.calm = true) (hr : Room j X.A) (hj : 2 ≤ j) (tk : Takes X W) (hg : Gl X x) (ha : PA X [e] ta) (mono : ∀ σ H (Q Q' : List V → Hp → Prop), (∀ vs H', Q vs H' → Q' vs H') → ta σ H Q → ta σ H Q')
    (hdb : (x == ("__debug__" : Str)) = false := by decide) (he : starEach [e] X.env = (false, eval e X.env) :: starEach [] X.env := by rfl) (hpl : (backTo pos (starEach [] X.env)).any (·.1) = false := by rfl) :
    PS X (.Raise (some (.Call (.Name x p) [e] [] pos)) none pos2) (tRz C f W ta) := by
  obtain ⟨fI, fd, i1, i2, F1, b⟩ := F.ini
  refine ps_imp (ps_raise (W := W) hc tk (pmk_oex F.T i1 i2 F1 (hr.mono hj) b .nil pass0 hg F.gC ha hdb he hpl)) fun D σ H q => ?_
  refine mono _ _ _ _ (fun vs H1 z => ?_) q
  obtain ⟨v, rfl, z⟩ := z
  refine ⟨(by show 1 ≤ 1000; decide), fun a na => ?_⟩
  refine ⟨a, v, rfl, upd_same, fun dx nd ne => ⟨rfl, dx, [(f, v)], upd_same, ?_, ?_, ?_⟩⟩
  · rw [upd_ne ne, upd_same]
  · rw [upd_ne ne] at nd
    exact nd
  · rw [upd_ne ne] at nd
    refine z dx _ nd (fun c o ec => ?_) upd_same
    have c1 := ne_of_none ec nd
    have c2 := ne_of_none ec na
    rw [upd_ne c1, del_ne c2, upd_ne c2, upd_ne c1, upd_ne c2]
    exact ec
end
/-! ### a method that may raise -/
structure MetX (P : Program) (w : World) (K : PySem.W.Frag) (mg : Str → Option Value) (base : Heap) (k : Nat) (C : Addr) (m : Str) (sp : Sp) : Prop where
  ex : ∃ (f : Addr) (fd : FuncData) (ps : List Str), Cls K C ∧ Meth K C m f ∧ FnOk P w K mg base (L2.CX P w) k f fd ps sp ∧ Binds K fd ps []
/-- a class that is made by its name, its __init__ may raise -/
structure MakX (P : Program) (w : World) (K : PySem.W.Frag) (mg : Str → Option Value) (base : Heap) (k : Nat) (x : Str) (C : Addr) (sp : Sp) (dvs : List V) : Prop where
  ex : ∃ (f : Addr) (fd : FuncData) (ps : List Str) (ds : List Value), Mk K C f ∧ FnOk P w K mg base (L2.CX P w) k f fd ps sp ∧ mg x = some (.ref C) ∧ Binds K fd ps ds ∧ Vals dvs ds
section
variable {X : Cx} {k j : Nat} {C : Addr} {x m : Str} {sp : Sp} {dvs : List V} {p pos apos : Pos} {e o : Expr} {es : List Expr} {ta : TE} {t : TA} {W : WX} {E : XK}
theorem pe_mtX {pl : Sem Bool} (c : MetX X.prog X.w X.K X.mg X.base k C m sp) (hr : Room j X.A) (hk : k ≤ j) (tk : Takes X W) (hW : ∀ cls d σ H, E cls d H → W cls d σ H) (he : PE X o ta) (ha : PA X (e :: es) t)
    (hst : starEach (e :: es) X.env = (false, eval e X.env) :: starEach es X.env := by rfl) (hpl : (backTo pos (starEach es X.env)).any (·.1) = false := by rfl)
    (ht : eval (.Call (.Attribute o m apos) (e :: es) [] pos) X.env = (do
      let ov ← eval o X.env
      standAt apos.atName
      let (f, first) ← holding [ov] (getMethod ov m pl)
      callWith pos f first (backTo pos (starEach (e :: es) X.env)) (backToKw pos (keywordEach [] X.env))) := by rfl) :
    PE X (.Call (.Attribute o m apos) (e :: es) [] pos) (tMeth C m sp [] E ta t) := by
  obtain ⟨f, fd, ps, hc, hm, F, b⟩ := c.ex
  exact pe_meth (pl := pl) he hc hm F (hr.mono hk) b .nil (passes_call tk hW) ha hst hpl ht
theorem pe_mkX (c : MakX X.prog X.w X.K X.mg X.base k x C sp dvs) (hr : Room j X.A) (hk : k + 1 ≤ j) (tk : Takes X W) (hW : ∀ cls d σ H, E cls d H → W cls d σ H) (hg : Gl X x) (ha : PA X (e :: es) t)
    (hdb : (x == ("__debug__" : Str)) = false := by decide) (he : starEach (e :: es) X.env = (false, eval e X.env) :: starEach es X.env := by rfl) (hpl : (backTo pos (starEach es X.env)).any (·.1) = false := by rfl) :
    PE X (.Call (.Name x p) (e :: es) [] pos) (tMake C sp dvs E t) := by
  obtain ⟨f, fd, ps, ds, M, F, hm, b, d⟩ := c.ex
  exact pe_make M F (hr.mono hk) hg hm b d (passes_call tk hW) ha hdb he hpl
end
/-! ### made by keywords -/
theorem vals_rev : ∀ {vs : List V} {us : List Value}, Vals vs us → Vals vs.reverse us.reverse
  | _, _, .nil => .nil
  | _, _, .cons r t => by
    rw [List.reverse_cons, List.reverse_cons]
    exact (vals_rev t).append (.cons r .nil)
structure MakK (P : Program) (w : World) (K : PySem.W.Frag) (mg : Str → Option Value) (base : Heap) (k : Nat) (x : Str) (C : Addr) (sp : Sp) (ks : List Str) (gV : List V → List V → List V) : Prop where
  ex : ∃ (f : Addr) (fd : FuncData) (ps : List Str) (g : List Value → List Value → List Value), Mk K C f ∧ FnOk P w K mg base CX0 k f fd ps sp ∧ mg x = some (.ref C) ∧ KBn K fd ps 1 ks g gV
theorem pe_mkK {X : Cx} {k j : Nat} {x : Str} {C : Addr} {sp : Sp} {ks : List Str} {gV : List V → List V → List V} {p pos : Pos} {kws : List Keyword} {tk : TA} (c : MakK X.prog X.w X.K X.mg X.base k x C sp ks gV) (hr : Room j X.A) (hk : k + 1 ≤ j) (hg : Gl X x) (hkw : PK X kws tk)
    (hall : (backToKw pos (keywordEach kws X.env)).all (·.1.isSome) = true := by rfl) (hks : (backToKw pos (keywordEach kws X.env)).filterMap (·.1) = ks := by rfl) (hdb : (x == ("__debug__" : Str)) = false := by decide)
    (hpl : ((backTo pos (starEach [] X.env)).any (·.1) || (backToKw pos (keywordEach kws X.env)).any (·.1.isNone)) = false := by rfl) : PE X (.Call (.Name x p) [] kws pos) (tMakeK C 0 ks.length sp gV E0 tNil tk) := by
  obtain ⟨f, fd, ps, g, M, F, hm, b⟩ := c.ex
  exact pe_makeK0 M F (hr.mono hk) hg hm b pass0 hkw hall hks hdb hpl
/-- a def without arguments, the guards known -/
theorem pe_cG0 {X : Cx} {k j : Nat} {x : Str} {sp : Sp} {p pos : Pos} {CX : CXT} {E : XK} (c : CalG X.prog X.w X.K X.mg X.base CX k x sp) (hr : Room j X.A) (gd : X.A.guards = some []) (hk : k ≤ j) (hg : Gl X x) (hx : Passes CX X E) (hdb : (x == ("__debug__" : Str)) = false := by decide) : PE X (.Call (.Name x p) [] [] pos) (tCall sp [] E tNil) := by
  obtain ⟨f, fd, ps, F, hm, kp, b⟩ := c.ex
  refine ⟨fun pins s σ H Q I h => wpAny_Call_Name_kw (ld_glob I hg hm (PySem.W.callWith_K0 I.kIn kp ?_) hdb)⟩
  have q : sp [] H Q E := h
  have bd := b s [] I.kIn (by rw [← F.size _ _ _ _ q]; rfl)
  refine wpAny_call (codeAny_mono (F.go X.A X.stack s H ⟨[], []⟩ [] [] Q E gd (hr.mono hk) I.env0 bd .nil q) fun z s' hz => ?_)
  cases z with
  | error e => exact hx pins σ H s e s' I hz
  | ok fl => cases fl with
    | ret u => exact I.after hz
    | next => exact hz.elim
    | brk => exact hz.elim
    | cont => exact hz.elim
/-! ### defs whose code object is known -/
structure FunC (K : PySem.W.Frag) (x q : Str) (st : Stmt) (c f : Addr) (fd : FuncData) : Prop where
  ex : ∃ (oc : Value) (od : Option Addr) (kV doc pm : Value) (an : Option Addr) (ct : Value) (osl : Array (Option Value)),
    fd = PySem.W.fnOf x q (defArgs st) (defBody st) (defScope st) .none kV doc pm an (.ref c) ct ∧ K.lookup f = some ⟨oc, od, .func fd, osl⟩ ∧ PySem.W.codeIn K (.ref c) q = true
  kp : PySem.W.keepIn K (.ref f) = true
structure DefC (K : PySem.W.Frag) (mg : Str → Option Value) (x : Str) (st : Stmt) (c : Addr) : Prop where
  ex : ∃ f fd, FunC K x x st c f fd ∧ mg x = some (.ref f)
section
variable {P : Program} {w : World} {K : PySem.W.Frag} {mg : Str → Option Value} {base : Heap} {CX : CXT} {k : Nat} {f c : Addr} {fd : FuncData} {ps N : List Str} {sp : Sp}
theorem g_ofC {x q : Str} {st : Stmt} (F : FunC K x q st c f fd) (S : FnScope N ps (defScope st)) (size : ∀ vs H Q E, sp vs H Q E → vs.length = ps.length)
    (hbody : ∀ (A : Around) (outer : List Env) (s : Shared) (H : Hp) (vs : List V) (Q : VK) (E : XK), A.guards = some [] → Room k (A.deeper (envOfC q (defScope st) s.heap.objs.size f (.ref c))) → sp vs H Q E →
      ∃ t, PSs (cxOf CX P w K mg base N q (defScope st) f (.ref c) A outer s H E) (defBody st) t ∧ t { nx := fun _ H' => Q .non H', rt := Q } (start N vs) H) : GOk P w K mg base CX (k + 1) f fd ps sp := by
  obtain ⟨oc, od, kV, doc, pm, an, ct, osl, rfl, look, code⟩ := F.ex
  refine ⟨size, fun A outer s H args us vs Q E hg room e0 binds rel want => ?_⟩
  have same := size _ _ _ _ want
  have inK : K.In s.heap := e0.mod.kin.keeps fun b o e => (e0.bs b o e).1
  have free : s.heap.NoLimit := e0.mod.nolimit.keeps fun b o e => (e0.bs b o e).1
  refine codeAny_call_function room.depth (inK _ _ look) rfl S.co S.gen rfl (PySem.W.codeRec_of inK code) (binds _ _ _ _ ?_)
  refine wpAny_newFunctionEnv_cells S.kind (fun y hy => ?_) fun env he s1 x => ?_
  · obtain ⟨n, v⟩ := y
    exact (S.par n (List.of_mem_zip hy).1).imp id fun c => ⟨c, PySem.W.cellsFrom_some _ _ _ (.inl c)⟩
  · subst he
    refine ⟨free.keeps x.toInCall.keep, codeAny_func ?_⟩
    obtain ⟨t, ht, hq⟩ := hbody A outer s H vs Q E hg (room.deeper _) want
    have J := inv_start (CX := CX) (E := E) S room.hd e0 same rel x
    refine wpAny_mono (ht.run [] s1 (start N vs) H _ J hq) (fun fl s' hs => ?_) fun e s' hs => hs
    have last : ∀ {σ' : L2.St} {H' : Hp} {v : V} {u : Value}, Inv (cxOf CX P w K mg base N q (defScope st) f (.ref c) A outer s H E) [] σ' H' s' → RelV v u → Q v H' → CE outer P w H s Q u s' := fun I r k => ⟨_, _, I.os, I.bare, I.base, I.hok, r, k⟩
    cases fl with
    | next => exact hs.elim fun _ z => z.elim fun _ z => last (v := V.non) (u := Value.none) z.1 rfl z.2
    | ret u =>
      obtain ⟨v, σ', H', I, r, k⟩ := hs
      exact last I r k
    | brk => exact hs.elim fun _ z => z.elim fun _ z => z.2.elim
    | cont => exact hs.elim fun _ z => z.elim fun _ z => z.2.elim
theorem calgC {x : Str} {st : Stmt} (D : DefC K mg x st c) (S : FnScope N ps (defScope st)) (hb : Bnd x st ps) (size : ∀ vs H Q E, sp vs H Q E → vs.length = ps.length)
    (hbody : ∀ (f : Addr) (A : Around) (outer : List Env) (s : Shared) (H : Hp) (vs : List V) (Q : VK) (E : XK), A.guards = some [] → Room k (A.deeper (envOfC x (defScope st) s.heap.objs.size f (.ref c))) → sp vs H Q E →
      ∃ t, PSs (cxOf CX0 P w K mg base N x (defScope st) f (.ref c) A outer s H E).nox (defBody st) t ∧ t { nx := fun _ H' => Q .non H', rt := Q } (start N vs) H) : CalG P w K mg base CX0 (k + 1) x sp := by
  obtain ⟨f, fd, F, m⟩ := D.ex
  refine ⟨f, fd, ps, g_ofC F S size (fun A outer s H vs Q E hg hr h => ?_), m, F.kp, ?_⟩
  · obtain ⟨t, a, b⟩ := hbody f A outer s H vs Q E hg hr h
    exact ⟨t, a.nox, b⟩
  · obtain ⟨oc, od, kV, doc, pm, an, ct, osl, rfl, look, code⟩ := F.ex
    exact .all (hb kV doc pm an (.ref c) ct)
end
/-! ### behind a def that makes lambdas: the tables have grown -/
def NT (o : HO) : Prop := ∀ ps, o ≠ .tbl ps
structure Ext (T : List (Addr × Str)) (H H' : Hp) : Prop where
  ext : LamX.ExtN H H'
  tab : LamX.Tabs T H → LamX.Tabs T H'
section
variable {T : List (Addr × Str)} {H H1 H2 : Hp}
theorem Ext.refl (H : Hp) : Ext T H H := ⟨LamX.ExtN.refl H, id⟩
theorem Ext.of (s : Same H H1) : Ext T H H1 := ⟨LamX.ExtN.of s, fun t => t.ext s⟩
theorem Ext.trans (a : Ext T H H1) (b : Ext T H1 H2) : Ext T H H2 := ⟨a.ext.trans b.ext, fun t => b.tab (a.tab t)⟩
theorem Ext.get (e : Ext T H H1) {a : Addr} {o : HO} (h : H a = some o) (n : NT o) : H1 a = some o := e.ext a o h n
theorem Ext.pool {p n : Addr} {k : Int} (e : Ext T H H1) (h : PoolAt H p n k) : PoolAt H1 p n k := by
  obtain ⟨ns, a, c, z, st, h1, h2, r⟩ := h
  exact ⟨ns, a, c, z, st, e.get h1 (fun _ z => nomatch z), e.get h2 (fun _ z => nomatch z), r⟩
theorem Keep.tabs {p n : Addr} {k : Int} (e : Keep p n H H1) (h : PoolAt H p n k) (t : LamX.Tabs T H) : LamX.Tabs T H1 := fun q hq => by
  obtain ⟨ns, a, c, z, st, h1, h2, _⟩ := h
  have np : ∀ b o, H b = some o → (∀ xs, o ≠ .lst xs) → H1 b = some o := fun b o e' no => e b o e' (fun y => by rw [y, h1] at e'; exact no _ (Option.some.inj e').symm) (fun y => by rw [y, h2] at e'; exact no _ (Option.some.inj e').symm)
  obtain ⟨ps, a1, a2, a3⟩ := t q hq
  refine ⟨ps, np _ _ a1 (fun _ z => nomatch z), a2, fun pos cv hc => ?_⟩
  obtain ⟨c', e1, e2⟩ := a3 pos cv hc
  exact ⟨c', e1, np _ _ e2 (fun _ z => by unfold LamX.CodeO at z; cases z)⟩
end
end Pk

namespace Pk
open PySem PySem.Spec PyProof.Rows L2
theorem i_bm {K : PySem.W.Frag} {T : String} {r : V → List V → Hp → VK → Prop} {to : TE} {t : TA} {σ : L2.St} {H : Hp} {Q : VK} (h : to σ H fun x H1 => tyV K T x H1 ∧ t σ H1 fun xs H2 => r x xs H2 Q) : tBM K T r to t σ H Q := h
theorem reads_bls {h : Heap} : ∀ {bs : List Bool} {us : List Value}, Vals (bs.map V.bl) us → ∃ as, ReadsAll h us (bs.map PyData.bool) as
  | [], _, .nil => ⟨_, .nil⟩
  | b :: bs, _, .cons r t => by
    cases (show _ = Value.bool b from r)
    obtain ⟨as, z⟩ := reads_bls (h := h) t
    exact ⟨_, .cons (.bool b) z⟩
def rCntB : V → List V → Hp → VK → Prop := fun x xs H Q => ∃ (l : Addr) (bs : List Bool) (k : Bool), x = .ref l ∧ xs = [.bl k] ∧ H l = some (.lst (bs.map V.bl)) ∧ Q (.int (countIn (.bool k) (bs.map PyData.bool))) H
theorem mt_countB {X : Cx} : MtM X "list.count" rCntB := by
  intro pins s σ H x xs v us Q I rx rv h
  obtain ⟨l, bs, k, rfl, rfl, e, q⟩ := h
  cases (show v = Value.ref l from rx)
  obtain ⟨u, rfl, ru⟩ := rv.one
  cases (show u = Value.bool k from ru)
  obtain ⟨_, us, n, rv, h1⟩ := (show ObjOk X.prog X.w H s.heap l (.lst (bs.map V.bl)) from I.hok l _ e)
  obtain ⟨as, z⟩ := reads_bls (h := s.heap) rv
  exact PyProof.Rows.count_list_bools ⟨_, h1, rfl, n, rfl⟩ z (by induction bs <;> simp_all [Shape.has]) ⟨.int _, H, I.tok _, ⟨_, rfl⟩, q⟩
theorem ifb {p q : Bool} {A B : Prop} (e : p = q) (h : B) : if (!decide (V.bl p = V.bl q)) = true then A else B := by
  rw [e, decide_eq_true rfl]
  exact h
/-! a lambda's call in a try's body -/
theorem caught_call {X : Cx} {f c' : Addr} {q : Str} {tl : XK → Hp → VK → Prop} {W : WX} {pn : List (Addr × Obj)} {xe : Value → Shared → Prop} {e : Expr} {p : Pos}
    (act : ∀ E : XK, (∀ cls d σ' H', E cls d H' → W cls d σ' H') → PE (X.tr pn xe) e (fun σZ HZ Q => σZ[0]? = some (some (.ref f)) ∧ HZ c' = some (LamX.CodeO c' q) ∧ tl E HZ Q)) (hs : swapsWith e none p.line X.env = pure false := by rfl) :
    PSs (X.tr pn xe) [.Expr e p] (fun D σ H => ∃ Ech : XK, (∀ cls d σ' H', Ech cls d H' → W cls d σ' H') ∧ σ[0]? = some (some (.ref f)) ∧ H c' = some (LamX.CodeO c' q) ∧ tl Ech H (fun _ H' => D.nx σ H')) := by
  refine ⟨fun pins s σ H D I h => ?_⟩
  obtain ⟨Ech, hW, h1, h2, h3⟩ := h
  exact (pss_one (ps_expr (act Ech hW) hs)).run pins s σ H D I ⟨h1, h2, h3⟩
end Pk

/-! len(set(text)) -/
namespace Pk
open PySem PySem.Spec PyProof.Rows L2
/-- whether k stands among the first i keys -/
def seenK (f : Nat → Str) : Nat → Str → Bool
  | 0, _ => false
  | i + 1, k => seenK f i k || decide (k = f i)
/-- how many unlike keys stand among the first i -/
def numK (f : Nat → Str) : Nat → Nat
  | 0 => 0
  | i + 1 => if seenK f i (f i) then numK f i else numK f i + 1
theorem numK_le (f : Nat → Str) : ∀ i, numK f i ≤ i
  | 0 => Nat.le_refl 0
  | i + 1 => by
    have := numK_le f i
    unfold numK
    split <;> omega
def signK (x : Str) (i : Nat) : Str := ⟨#[x.cps.getD i 0]⟩
/-- how many unlike signs a text has -/
def unlike (x : Str) : Nat := numK (signK x) x.cps.size
theorem unlike_le (x : Str) : unlike x ≤ x.length := numK_le _ _
section
variable {pr : Program} {u : World} {B : Around} {Z : Result → Shared → Prop} {J : Addr} {fo we : List Addr} {Gs : Array GenState → Array GenState → Prop} {m : Nat} {At : Nat → Value → Prop} {Is : Nat → Shared → Prop}
/-- a set takes what a walk draws -/
theorem set_walk (W : WalksS pr u B.in1 J fo we Gs m At Is) (D : Addr) (apart : D ∉ fo) (f : Nat → Str) (few : m < 1000) (key : ∀ i v, At i v → ∃ t, v = .str (f i) t) :
    ∀ (left i : Nat) (z : Shared), m - i = left → i ≤ m → Is i z → z.heap.SetOf (PySem.strKind pr u) D (seenK f i) (numK f i) →
      (∀ z', Moved (D :: we) Gs z z' → z'.heap.SetOf (PySem.strKind pr u) D (seenK f m) (numK f m) → Z (.ok (.ret .none)) z') →
      codeAny (model pr u) B (.builtin "set.update.loop" ⟨[.ref D, .ref J], []⟩) Z z := by
  have Dw : D ∉ we := fun y => apart (W.sub _ y)
  have wider : ∀ c ∈ we, c ∈ D :: we := fun c y => List.mem_cons_of_mem _ y
  have keptSet : ∀ {i : Nat} {z z' : Shared}, Moved we Gs z z' → z.heap.SetOf (PySem.strKind pr u) D (seenK f i) (numK f i) → z'.heap.SetOf (PySem.strKind pr u) D (seenK f i) (numK f i) := fun {i z z'} y h => by
    obtain ⟨ob, e1, e2, e3, at1, more⟩ := h
    exact ⟨ob, e1, e2, e3, y.heap D _ Dw at1, more⟩
  intro left
  induction left with
  | zero =>
    intro i z hl hi st hs done
    obtain rfl : i = m := by omega
    refine codeAny_builtin PyProof.Rows.F.entry_set_update_loop ?_
    rw [Around.under_plainId PyProof.Rows.F.plain_set_update_loop _]
    show wpAny _ B.in1 (pyNext (.ref J) >>= _) _ _ z
    refine wpAny_bind (W.done z _ _ st fun z' y => ?_)
    show wpAny _ B.in1 (ret Value.none) _ _ z'
    exact wpAny_pure (done z' (y.mono wider) (keptSet y hs))
  | succ left next =>
    intro i z hl hi st hs done
    have lt : i < m := by omega
    refine codeAny_builtin PyProof.Rows.F.entry_set_update_loop ?_
    rw [Around.under_plainId PyProof.Rows.F.plain_set_update_loop _]
    show wpAny _ B.in1 (pyNext (.ref J) >>= _) _ _ z
    refine wpAny_bind (W.item i z _ _ lt st fun v z' hv st' y => ?_)
    obtain ⟨t, rfl⟩ := key i v hv
    have hs' := keptSet y hs
    show wpAny _ B.in1 (holding [Value.str (f i) t] (setAdd D (.str (f i) t)) >>= _) _ _ z'
    refine wpAny_bind (wpAny_holding ?_)
    unfold setAdd
    refine wpAny_holding ?_
    refine wpAny_bind ((PySem.strKind pr u).pyHash (k := f i) (strKind_is _ _ _ _) ?_)
    have room : numK f i + 1 < scanBound := by
      have := numK_le f i
      unfold scanBound
      omega
    refine wpAny_setAddHashed_of (knd := PySem.strKind pr u) (s := { z' with toks := z'.toks + 1 }) (strKind_is _ _ _ _) rfl hs' room fun g same hs2 => ?_
    refine wpAny_pure ⟨plainId_quiet PyProof.Rows.F.plain_set_update_loop _, next (i + 1) _ (by omega) lt (W.frame _ z' _ _ st' (Nat.le_succ _) fun b hb o e => ?_) hs2 fun z'' y2 h2 => ?_⟩
    · rw [same.2 b (fun q : b = D => apart (q ▸ hb))]
      exact e
    · refine done z'' (Moved.trans W.gtrans ((y.mono wider).then_heap (Nat.le_succ _) fun b o hb e => ?_) y2) h2
      rw [same.2 b (fun q : b = D => hb (q ▸ List.mem_cons_self))]
      exact e
end
section
variable {pr : Program} {u : World} {B : Around} {E : Value → Shared → Prop} {z : Shared}
set_option maxHeartbeats 3200000 in
theorem set_of_text {x : Str} {t : Tok} {Q : Value → Shared → Prop} (calm : B.handled = none) (few : x.cps.size < 1000)
    (done : ∀ (g : Heap) (tk : Nat), g.SetOf (PySem.strKind pr u) z.heap.objs.size (seenK (signK x) x.cps.size) (unlike x) →
      (∀ b o, b < z.heap.objs.size → z.heap.get? b = some o → g.get? b = some o) → Q (.ref z.heap.objs.size) { z with heap := g, toks := tk }) :
    wpAny (model pr u) B (call (.type "set") [.str x t]) Q E z := by
  obtain ⟨c, tl, line⟩ := PySem.F.called_set.mro
  have made := PySem.F.called_set.made
  have sub := PySem.F.called_set.sub
  refine wpAny_call (codeAny_of_tree ?_)
  show wpAny _ _ (callAny (.type "set") _) _ _ _
  refine wpAny_pure ⟨Code.quiet_builtin _ (by decide +kernel), codeAny_builtin PySem.F.entry_type_call ?_⟩
  rw [Around.under_plain (weight_type_call_type "set" [.str x t] []) rfl]
  have w1 := PySem.F.called_set.notType
  have w2 := PySem.F.called_set.canCreate
  have w3 := PySem.F.typeCall_set_1 (.str x t)
  repeat (any_goals (first | assumption | wp_step))
  refine codeAny_mono (code_set_new_1 (.str x t) (E := E) (Q₁ := fun ob z₁ => ∃ led : Bool, ob = .ref z.heap.objs.size ∧ z₁ = { z with heap := z.heap.push { cls := .type "set", dict := none, data := .set #[] 0 (.fresh 0 0 led) } }) fun led => ⟨led, rfl, rfl⟩) fun r z₁ hr => ?_
  match r, hr with
  | .error e, hr => exact hr
  | .ok .next, hr => exact hr.elim
  | .ok .brk, hr => exact hr.elim
  | .ok .cont, hr => exact hr.elim
  | .ok (.ret ob), hr =>
    obtain ⟨led, rfl, rfl⟩ := hr
    obtain ⟨g0, hg0⟩ : ∃ g0, g0 = z.heap.push { cls := .type "set", dict := none, data := .set #[] 0 (.fresh 0 0 led) } := ⟨_, rfl⟩
    have atD : g0.get? z.heap.objs.size = some { cls := .type "set", dict := none, data := .set #[] 0 (.fresh 0 0 led) } := by rw [hg0]; exact Heap.get?_push_size _ rfl
    rw [← hg0]
    have kindD : Shared.TypeIs { z with heap := g0 } (.ref z.heap.objs.size) "set" := ⟨_, atD, rfl⟩
    have w4 := PySem.F.called_set.init.lookup
    have w5 := PySem.F.called_set.init.bind (.ref z.heap.objs.size)
    repeat (any_goals (first | assumption | wp_step))
    refine codeAny_mono (codeAny_call_builtin (R := wants (fun r z₂ => r = .none ∧ ∃ g tk, z₂ = { z with heap := g, toks := tk } ∧
        g.SetOf (PySem.strKind pr u) z.heap.objs.size (seenK (signK x) x.cps.size) (unlike x) ∧
        (∀ b o, b < z.heap.objs.size → z.heap.get? b = some o → g.get? b = some o)) E) PySem.F.called_set.init.plain PySem.F.entry_set_init (check_set_init_1 kindD ?_)) fun r₂ z₂ hr₂ => ?_
    · have w6 := PySem.F.sub_str_set
      have w7 := PySem.F.sub_str_frozenset
      have w8 : (Value.type "str" == Value.type "dict") = false := by decide
      unfold Builtin.«set.__init__» noKeywords Builtin.Frozenset.updateFrom
      generalize hPI : pyIter = PI
      wp_walk
      subst hPI
      refine wpAny_pyIter_str fun o St W st => ?_
      refine wpAny_bind (wpAny_runValue ?_)
      have sz : g0.objs.size = z.heap.objs.size + 1 := by rw [hg0, Heap.size_push]
      have ap : z.heap.objs.size ∉ [g0.objs.size] := by rw [sz]; simp
      refine set_walk ((W B.in1.in1.in1 (by simp [calm])).toS) z.heap.objs.size ap (signK x) few (fun i v hv => ?_) (x.cps.size - 0) 0 _ (by omega) (Nat.zero_le _) st ?_ ?_
      · obtain ⟨c, k, e1, e2⟩ := hv
        refine ⟨k, ?_⟩
        rw [e2, signK, Array.getD_eq_getD_getElem?, e1]
        rfl
      · exact PyProof.Rows.SetOf_congr ((PyProof.Rows.setObjOf_fresh (knd := PySem.strKind pr u) led).setOf (Heap.get?_push_of_some _ atD) (by unfold scanBound; omega)) (fun _ => rfl) rfl
      · intro z' y hs
        obtain ⟨g, gs', dr', tk', os'⟩ := z'
        obtain rfl : gs' = z.gens := y.gens
        obtain rfl : dr' = z.drawn := y.drawn
        obtain rfl : os' = z.os := y.os
        show wpAny _ _ _ _ _ _
        refine wpAny_pure ?_
        show wpAny _ _ (ret Value.none) _ _ _
        refine wpAny_pure ⟨rfl, g, tk', rfl, hs, fun b o hb e => ?_⟩
        refine y.heap b o ?_ (Heap.get?_push_of_some _ (by rw [hg0]; exact Heap.get?_push_of_some _ e))
        simp only [List.mem_cons, List.not_mem_nil, or_false, not_or]
        exact ⟨Nat.ne_of_lt hb, by show b ≠ g0.objs.size; omega⟩
    · match r₂, hr₂ with
      | .error e, hr₂ => exact hr₂
      | .ok .next, hr₂ => exact hr₂.elim
      | .ok .brk, hr₂ => exact hr₂.elim
      | .ok .cont, hr₂ => exact hr₂.elim
      | .ok (.ret r), hr₂ =>
        obtain ⟨rfl, g, tk, rfl, hs, kept⟩ := hr₂
        repeat (any_goals (first | assumption | wp_step))
        exact done _ _ hs kept
end
/-- len(set(e)), e a text -/
def tUnlike (ta : TE) : TE := fun σ H Q => ta σ H fun x H1 => ∃ y : Str, x = .str y ∧ y.length < 1000 ∧ Q (.int (unlike y)) H1
theorem pe_unlike {X : Cx} {a : Expr} {ta : TE} {p p2 q pos : Pos} (hc : X.calm = true) (hg : Gl X "len") (hm : X.mg "len" = none) (hg2 : Gl X "set") (hm2 : X.mg "set" = none) (ha : PE X a ta)
    (na : starEach [a] X.env = (false, eval a X.env) :: starEach [] X.env := by rfl) : PE X (.Call (.Name "len" p) [.Call (.Name "set" p2) [a] [] q] [] pos) (tUnlike ta) := by
  refine ⟨fun pins s σ H Q I h => ?_⟩
  refine Call_ (ld_blt I hg hm boot_len ?_)
  refine callWith_builtin1 (args_cons ?_ rfl) rfl rfl
  refine Call_ (ld_blt I hg2 hm2 boot_set ?_)
  refine callWith_type1 (args_cons (thn (ha.run pins s σ H _ I h) fun v s1 ⟨x, H1, I1, r1, q1⟩ => args_nil ?_) na) na rfl
  obtain ⟨y, rfl, few, want⟩ := q1
  obtain ⟨t, rfl⟩ := r1
  refine set_of_text (I1.ok.hd hc) few fun g tk hs kept => args_nil ?_
  obtain ⟨ob, es, ep, tb, at1, hex, hd, _, _, _, hf, hn⟩ := hs
  have I2 : Inv X pins σ H1 { s1 with heap := g, toks := tk } := I1.kept fun b o e => kept b o (Heap.lt_size e) e
  have small : unlike y < 1000 := Nat.lt_of_le_of_lt (unlike_le y) few
  refine call_len_set at1 hex hd hf (by rw [hn] <;> omega) ⟨.int (unlike y), H1, I2.tok _, ⟨_, by rw [hn]⟩, want⟩
end Pk

namespace Pk
open PySem PySem.Spec PyProof.Rows L2
local macro_rules | `(tactic| walk_at "sz") => `(tactic| first | assumption | decide +kernel | exact Nat.le_trans (Nat.le_of_ble_eq_true rfl) (show 100000 ≤ sizeLine by decide) | exact Nat.le_trans (by omega) (show 100000 ≤ sizeLine by decide) | (show _ ≤ sizeLine; exact Nat.le_trans (by (simp only [List.length_append, List.length_map, List.length_cons, List.length_nil]; omega)) (show 100000 ≤ sizeLine by decide)))
local macro_rules | `(tactic| walk_at "mul") => `(tactic| first | exact Or.inl (Or.inl ⟨by omega, by omega⟩) | exact Or.inl (Or.inr ⟨by omega, by omega⟩))
local macro_rules | `(tactic| walk_at "ci") => `(tactic| first | assumption | exact (by decide : (0 : Int) < _) | (show (0 : Int) < _; omega) | exact ⟨by assumption, by assumption⟩ | exact ⟨by decide, by decide⟩ | exact ⟨by decide, by decide, by omega⟩)
local macro_rules | `(tactic| walk_at "lk") => `(tactic| first | assumption | exact upd_same | ((refine Eq.trans (upd_ne (by first | assumption | exact Ne.symm (by assumption))) ?_); walk_at "lk") | exact Same.get (by assumption) (by walk_at "lk") | exact Keep.get (by assumption) (by walk_at "lk") (by assumption) (by assumption))
local macro_rules | `(tactic| walk_at "sq") => `(tactic| first | assumption | exact SqL.of (by walk_at "lk") | exact Same.seq (by assumption) (by walk_at "sq"))
local macro_rules | `(tactic| walk_at "stt") => `(tactic| exact SqT.of (by walk_at "lk"))
local macro_rules | `(tactic| walk_at "kd") => `(tactic| first | assumption | exact Kd.str _ (by first | assumption | omega | decide) | exact Kd.bl _ | exact Kd.int _ | exact Kd.non | exact Kd.lst (by walk_at "lk") | exact Kd.tup (by walk_at "lk") | exact Kd.dct (by walk_at "lk") | exact Kd.same (by assumption) (by walk_at "kd"))
local macro_rules | `(tactic| walk_at "sm") => `(tactic| first | assumption | exact Same.refl _ | (refine Same.trans ?_ (by assumption); walk_at "sm"))
local macro_rules | `(tactic| walk_at "st") => `(tactic| first
  | with_reducible refine i_seq ?_ | with_reducible refine i_asg ?_ | with_reducible refine i_ret ?_ | with_reducible refine i_op ?_
  | ((with_reducible show tVar _ _ _ _); refine i_var rfl ?_)
  | with_reducible refine i_c ?_ | with_reducible refine i_cb ?_ | with_reducible refine i_call ?_ | with_reducible refine i_cons ?_ | with_reducible refine i_nil ?_
  | with_reducible refine i_name ?_ | with_reducible refine i_sub ?_ | with_reducible refine i_drop ?_ | with_reducible refine i_ifs ?_ | with_reducible refine i_ife ?_
  | with_reducible refine i_test ?_ | with_reducible refine i_tru ?_ | with_reducible refine i_and ?_ | with_reducible refine i_or ?_ | with_reducible refine i_not ?_
  | with_reducible refine i_andV ?_ | with_reducible refine i_orV ?_ | with_reducible refine i_notV ?_ | with_reducible refine i_un ?_
  | with_reducible refine i_bl ?_ | with_reducible refine i_trB ?_ | with_reducible refine i_next ?_
  | with_reducible refine iteF ?_ | with_reducible refine iteT ?_
  | with_reducible refine i_lstF ?_ | with_reducible refine i_tupF ?_
  | with_reducible refine p_addI ?_ | with_reducible refine p_I0 ?_ | with_reducible refine p_U ?_
  | with_reducible refine p_ltI ?_ | with_reducible refine p_leI ?_ | with_reducible refine p_gtI ?_ | with_reducible refine p_geI ?_
  | with_reducible refine p_ltS ?_ | with_reducible refine p_leS ?_ | with_reducible refine p_gtS ?_
  | with_reducible refine p_eqI ?_ | with_reducible refine p_neI ?_ | with_reducible refine p_int ?_
  | ((with_reducible show rMuXX (V.int _) (V.int _) _ _); refine p_muI (by walk_at "mul") ?_)
  | ((with_reducible show rI _ _ (V.int _) (V.int _) _ _); refine p_I (by walk_at "ci") ?_)
  | ((with_reducible show rIx _ (V.ref _) (V.int _) _ _); (first | refine p_ixL (by walk_at "sq") (by first | exact rfl | assumption) ?_ | refine p_ixT (SqT.of (by walk_at "lk")) (by first | exact rfl | assumption) ?_))
  | ((with_reducible show rSetL (V.ref _) (V.int _) _ _ _); refine p_setL (by walk_at "lk") (by first | exact rfl | assumption) ?_)
  | ((with_reducible show rLenX _ [V.ref _] _ _); (first | refine p_lenL (by walk_at "sq") ?_ | refine p_lenT (SqT.of (by walk_at "lk")) ?_))
  | ((with_reducible show rLenX _ [V.str _] _ _); refine p_lenS (by walk_at "sz") ?_)
  | with_reducible refine i_lc ?_ | with_reducible refine i_for ?_ | with_reducible refine i_itl ?_ | with_reducible refine i_itt ?_ | with_reducible refine i_itr ?_ | with_reducible refine i_its ?_
  | ((with_reducible show ∃ _, V.ref _ = V.ref _ ∧ (∃ _, SqL _ _ _ _) ∧ _); refine p_itl (by walk_at "sq") ?_)
  | ((with_reducible show ∃ _, V.ref _ = V.ref _ ∧ (∃ _, SqT _ _ _ _) ∧ _); refine p_itt (by walk_at "stt") ?_) | with_reducible refine p_its ?_
  | ((with_reducible show ∃ _, [V.int _] = [V.int _] ∧ _); refine p_itr (by omega) (by omega) ?_)
  | with_reducible refine i_sl ?_ | with_reducible refine i_np ?_ | with_reducible refine i_pt ?_ | with_reducible refine i_in ?_
  | ((with_reducible show rSlXX _ (V.ref _) _ _ _ _); refine p_slL (by walk_at "sq") ?_; intro _ _ _ _ _)
  | ((with_reducible show rSlXX _ (V.str _) _ _ _ _); refine p_slS (by walk_at "sz") ?_)
  | ((with_reducible show rIsi _ [_, V.ty "str"] _ _); refine p_isStr (by walk_at "kd") ?_)
  | ((with_reducible show rIsi _ [_, V.ty "int"] _ _); refine p_isInt (by walk_at "kd") ?_)
  | ((with_reducible show rIsi _ [_, V.ty "bool"] _ _); refine p_isBool (by walk_at "kd") ?_)
  | ((with_reducible show rIsiT _ [_, V.ref _] _ _); refine p_isLT (by walk_at "lk") (by walk_at "kd") ?_)
  | with_reducible refine i_chain ?_ | with_reducible refine i_m1 ?_ | with_reducible refine i_m0 ?_ | with_reducible refine i_str ?_
  | ((with_reducible show LstK _ _ _); refine p_lstK (by walk_at "sz") ?_; intro _ _ _ _ _)
  | ((with_reducible show TupK _ _ _); refine p_tupK (by walk_at "sz") ?_; intro _ _ _ _ _)
  | ((with_reducible show (if _ = true then _ else _)); (first | refine ifT' (by first | assumption | exact rfl) ?_ | refine ifF' (by first | assumption | exact rfl) ?_))
  | ((with_reducible show rEqX _ (V.bl _) (V.bl _) _ _); refine p_eqS rfl ?_) | ((with_reducible show rNeX _ (V.bl _) (V.bl _) _ _); refine p_neS rfl ?_)
  | ((with_reducible show rEqX _ (V.ref _) (V.ref _) _ _); refine p_eqNil (by walk_at "lk") (by walk_at "lk") ?_) | ((with_reducible show rNeX _ (V.ref _) (V.ref _) _ _); refine p_neNil (by walk_at "lk") (by walk_at "lk") ?_)
  | ((with_reducible show rAddX _ (V.str _) (V.str _) _ _); refine p_addS (by walk_at "sz") ?_)
  | ((with_reducible show rMuXX (V.str _) (V.int _) _ _); refine p_muS ⟨by decide +kernel, by decide +kernel, by decide +kernel⟩ ?_)
  | ((with_reducible show tDNewK _ _ _); refine i_dnew ?_; intro _ _ _ _ _)
  | ((with_reducible show rTupX _ [V.ref _] _ _); refine p_tupL (by walk_at "sq") ?_; intro _ _ _ _ _)
  | ((with_reducible show rAddX _ (V.ref _) (V.ref _) _ _); refine p_addL (by walk_at "lk") (by walk_at "lk") (by walk_at "sz") ?_; intro _ _ _ _ _)
  | with_reducible refine p_notB ?_ | with_reducible refine p_isB ?_)
local macro_rules | `(tactic| walk_at "go") => `(tactic| (walk_at "st"; (repeat walk_at "st")))

def top (i : Nat) : Stmt := PySem.Challenge.pw_lineorigins_k08_layouts_refused.main.body.getD i (.Pass ⟨0, 0, 0, 0⟩)
abbrev s__law_pool : Stmt := top 27
abbrev N__law_pool : List Str := ["script", "numbers", "seed", "cell"]
theorem sc__law_pool : FnScope ["script", "numbers", "seed", "cell"] ["script"] (defScope s__law_pool) := ⟨rfl, rfl, rfl, by decide +kernel, rfl, by decide +kernel, by decide +kernel⟩
abbrev s__law_mixed : Stmt := top 28
abbrev N__law_mixed : List Str := ["number", "count", "many"]
theorem sc__law_mixed : FnScope ["number", "count", "many"] ["number", "count", "many"] (defScope s__law_mixed) := ⟨rfl, rfl, rfl, by decide +kernel, rfl, by decide +kernel, by decide +kernel⟩
abbrev s__law_draw : Stmt := top 29
abbrev N__law_draw : List Str := ["pool", "many", "at", "numbers", "cell"]
theorem sc__law_draw : FnScope ["pool", "many", "at", "numbers", "cell"] ["pool", "many"] (defScope s__law_draw) := ⟨rfl, rfl, rfl, by decide +kernel, rfl, by decide +kernel, by decide +kernel⟩
structure PoolF (K : PySem.W.Frag) (mg : Str → Option Value) : Prop where
  n_int : mg "int" = none
  n_len : mg "len" = none
  d_pool : DefAt K mg "_law_pool" s__law_pool
  d_mixed : DefAt K mg "_law_mixed" s__law_mixed
  d_draw : DefAt K mg "_law_draw" s__law_draw
section
variable {P : Program} {w : World} {K : PySem.W.Frag} {mg : Str → Option Value} {base : Heap}
def spMixed : Sp := fun vs H Q _ => ∃ (a c m : Int), vs = [.int a, .int c, .int m] ∧ 0 ≤ a ∧ a < 2147483647 ∧ 0 ≤ c ∧ c < 2 ^ 50 ∧ 0 < m ∧ ∀ r : Int, 0 ≤ r → r < m → Q (.int r) H
theorem c__law_mixed (T : PoolF K mg) : Cal P w K mg base CX0 1 "_law_mixed" spMixed := by
  refine cal0 T.d_mixed sc__law_mixed (fun _ _ _ _ _ _ us hl => match us, hl with | [_, _, _], _ => rfl) (fun vs H Q E h => ?_) (fun f cdv A outer s H vs Q E hr h => ?_)
  · obtain ⟨a, c, m, rfl, _⟩ := h
    rfl
  · obtain ⟨a, c, m, rfl, h1, h2, h3, h4, h5, k⟩ := h
    refine ⟨_, (pss_one (ps_ret (pe_op op_mod (pe_op op_fdX (pe_callTy call_intX (by rfl) T.n_int (by decide +kernel) (pa_cons (pe_op op_mod (pe_op op_pow (pe_callTy call_intX (by rfl) T.n_int (by decide +kernel) (pa_cons (pe_op (r := rAddX K) op_addX (pv 0) (pe_op op_muX pe_int (pv 1))) pa_nil)) pe_int) pe_int) pa_nil)) pe_int) (pv 2)))), ?_⟩
    walk_at "go"
    exact k _ (Int.emod_nonneg _ (by omega)) (Int.emod_lt_of_pos _ h5)
def spDraw : Sp := fun vs H Q _ => ∃ (p n : Addr) (m k : Int), vs = [.ref p, .int m] ∧ PoolAt H p n k ∧ 0 ≤ k ∧ k < 1000000000 ∧ 0 < m ∧ m.natAbs.log2 < 9000 ∧ ∀ (r : Int) (H' : Hp), 0 ≤ r → r < m → PoolAt H' p n (k + 1) → Keep p n H H' → Q (.int r) H'
theorem c__law_draw (T : PoolF K mg) : Cal P w K mg base CX0 2 "_law_draw" spDraw := by
  have c__law_mixed : Cal P w K mg base CX0 1 "_law_mixed" spMixed := c__law_mixed T
  refine cal0 T.d_draw sc__law_draw (fun _ _ _ _ _ _ us hl => match us, hl with | [_, _], _ => rfl) (fun vs H Q E h => ?_) (fun f cdv A outer s H vs Q E hr h => ?_)
  · obtain ⟨p, n, m, k, rfl, _⟩ := h
    rfl
  · obtain ⟨p, n, m, k, rfl, ⟨ns, a, c, z, st, hp, hn, h1, h2, h3, h4, h5⟩, h6, h7, h8, h9, q⟩ := h
    have npn : p ≠ n := ne_of hp hn (fun e => by cases ns <;> simp at e)
    refine ⟨_, (pss_cons (ps_asg (pe_op (r := rAddX K) op_addX (pe_ix (r := rIx K) ix_seq (pv 0) pe_int (fun _ _ => rfl)) pe_int) (pg_sub (pv 0) pe_int set_list))
      (pss_cons (ps_if (pt_cmpR op_geX (pe_ix (r := rIx K) ix_seq (pv 0) pe_int (fun _ _ => rfl)) (pe_callB (r := rLenX K) call_lenX (by rfl) T.n_len (by decide +kernel) (pa_cons (pe_ix (r := rIx K) ix_seq (pv 0) pe_int (fun _ _ => rfl)) pa_nil)) (nomark _)) (pss_one (ps_ret (pe_c c__law_mixed hr (by decide) (by rfl) pass0 (pa_cons (pe_ix (r := rIx K) ix_seq (pv 0) pe_int (fun _ _ => rfl)) (pa_cons (pe_ix (r := rIx K) ix_seq (pv 0) pe_int (fun _ _ => rfl)) (pa_cons (pv 1) pa_nil)))))) pss_nil)
      (pss_cons (ps_set (i := 2) sc__law_draw.nd rfl (by first | exact Or.inl rfl | exact Or.inr rfl) (pe_ix (r := rIx K) ix_seq (pv 0) pe_int (fun _ _ => rfl)))
      (pss_cons (ps_set (i := 3) sc__law_draw.nd rfl (by first | exact Or.inl rfl | exact Or.inr rfl) (pe_ix (r := rIx K) ix_seq (pv 0) pe_int (fun _ _ => rfl)))
      (pss_cons (ps_set (i := 4) sc__law_draw.nd rfl (by first | exact Or.inl rfl | exact Or.inr rfl) (pe_ix (r := rIx K) ix_seq (pv 3) (pv 2) (fun _ _ => rfl)))
      (pss_cons (ps_if (PW.pt (pw_and (pt_cmpR (r := rNeX K) (op_neX hr.units) (pe_ix (r := rIx K) ix_seq (pv 0) pe_int (fun _ _ => rfl)) pe_int (nomark _)) (pw_and1 (pt_cmpR op_ltX (pv 4) (pe_op op_pow pe_int pe_int) (nomark _))))) (pss_cons (ps_asg (pe_op (r := rAddX K) op_addX (pe_ix (r := rIx K) ix_seq (pv 0) pe_int (fun _ _ => rfl)) pe_int) (pg_sub (pv 0) pe_int set_list))
      (pss_cons (ps_if (pt_cmpR (r := rEqX K) (op_eqX hr.units) (pe_ix (r := rIx K) ix_seq (pv 0) pe_int (fun _ _ => rfl)) pe_int (nomark _)) (pss_cons (ps_asg (pe_op (r := rAddX K) op_addX (pv 2) pe_int) (pg_sub (pv 0) pe_int set_list))
      (pss_one (ps_asg pe_int (pg_sub (pv 0) pe_int set_list)))) pss_nil)
      (pss_one (ps_ret (pe_c c__law_mixed hr (by decide) (by rfl) pass0 (pa_cons (pe_op op_mod (pe_callTy call_intX (by rfl) T.n_int (by decide +kernel) (pa_cons (pv 4) pa_nil)) pe_int) (pa_cons (pe_ix (r := rIx K) ix_seq (pv 0) pe_int (fun _ _ => rfl)) (pa_cons (pv 1) pa_nil)))))))) pss_nil)
      (pss_cons (ps_asg pe_int (pg_sub (pv 0) pe_int set_list))
      (pss_cons (ps_asg (pe_op op_fdX (pe_callTy call_intX (by rfl) T.n_int (by decide +kernel) (pa_cons (pv 4) pa_nil)) (pv 1)) (pg_sub (pv 3) (pv 2) set_list))
      (pss_cons (ps_if (pt_cmpR (r := rEqX K) (op_eqX hr.units) (pe_ix (r := rIx K) ix_seq (pv 3) (pv 2) (fun _ _ => rfl)) pe_int (nomark _)) (pss_cons (ps_asg (pe_op (r := rAddX K) op_addX (pv 2) pe_int) (pg_sub (pv 0) pe_int set_list))
      (pss_one (ps_asg pe_int (pg_sub (pv 0) pe_int set_list)))) pss_nil)
      (pss_one (ps_ret (pe_op op_mod (pe_callTy call_intX (by rfl) T.n_int (by decide +kernel) (pa_cons (pv 4) pa_nil)) (pv 1))))))))))))), ?_⟩
    walk_at "go"
    have kp : ∀ {H' : Hp}, (∀ b : Addr, b ≠ p → b ≠ n → H' b = H b) → Keep p n H H' := fun {H'} h b o e x y => (h b x y).trans e
    refine ift (fun hc => ?_) (fun hc => ?_)
    · walk_at "go"
      refine ⟨z, c + 1, m, rfl, h4, h5, by omega, by omega, h8, fun r r0 r1 => q r _ r0 r1 ⟨ns, a, c + 1, z, st, by walk_at "lk", by walk_at "lk", h1, by omega, by omega, h4, h5⟩ (kp fun b x y => ?_)⟩
      simp only [upd_ne x]
    · have ha : a.toNat < ns.length := by
        have e := of_decide_eq_false hc
        rw [List.length_map] at e
        omega
      have hx : atI (ns.map V.int) a = some (V.int ns[a.toNat]) := at_of (j := a.toNat) (by omega) (by rw [List.getElem?_map, List.getElem?_eq_getElem ha]; rfl)
      generalize ns[a.toNat] = y at hx
      have hj : ixN (ns.map V.int).length a = some a.toNat := by
        unfold ixN
        rw [List.length_map, if_pos h1, if_pos (by omega)]
      have hx2 : atI ((ns.map V.int).set a.toNat (V.int (y / m))) a = some (V.int (y / m)) := at_of (j := a.toNat) (by omega) (List.getElem?_set_self (by rw [List.length_map]; exact ha))
      have es : (ns.map V.int).set a.toNat (V.int (y / m)) = (ns.set a.toNat (y / m)).map V.int := List.map_set.symm
      have y0 : 0 ≤ y % 2147483647 := Int.emod_nonneg _ (by decide)
      have y1 : y % 2147483647 < 2147483647 := Int.emod_lt_of_pos _ (by decide)
      have m0 : 0 ≤ y % m := Int.emod_nonneg _ (by omega)
      have m1 : y % m < m := Int.emod_lt_of_pos _ h8
      have hw : CDivW y m := ⟨h8, h9⟩
      walk_at "go"
      refine ift (fun hd => ?_) (fun hd => ?_)
      · walk_at "go"
        refine ift (fun he => ?_) (fun he => ?_)
        · walk_at "go"
          refine ift (fun hf => ?_) (fun hf => ?_)
          · walk_at "go"
            refine ⟨_, c + 1, m, rfl, y0, y1, by omega, by omega, h8, fun r r0 r1 => q r _ r0 r1 ⟨ns, a + 1, c + 1, z, 0, by walk_at "lk", by walk_at "lk", by omega, by omega, by omega, h4, h5⟩ (kp fun b x y => ?_)⟩
            simp only [upd_ne x]
          · walk_at "go"
            refine ⟨_, c + 1, m, rfl, y0, y1, by omega, by omega, h8, fun r r0 r1 => q r _ r0 r1 ⟨ns, a, c + 1, z, st + 1, by walk_at "lk", by walk_at "lk", by omega, by omega, by omega, h4, h5⟩ (kp fun b x y => ?_)⟩
            simp only [upd_ne x]
        · walk_at "go"
          refine ift (fun hf => ?_) (fun hf => ?_)
          · walk_at "go"
            refine q _ _ m0 m1 ⟨ns.set a.toNat (y / m), a + 1, c + 1, z, 0, by walk_at "lk", by rw [← es]; walk_at "lk", by omega, by omega, by omega, h4, h5⟩ (kp fun b x y => ?_)
            simp only [upd_ne x, upd_ne y]
          · walk_at "go"
            refine q _ _ m0 m1 ⟨ns.set a.toNat (y / m), a, c + 1, z, 2, by walk_at "lk", by rw [← es]; walk_at "lk", by omega, by omega, by omega, h4, h5⟩ (kp fun b x y => ?_)
            simp only [upd_ne x, upd_ne y]
      · walk_at "go"
        refine ift (fun hf => ?_) (fun hf => ?_)
        · walk_at "go"
          refine q _ _ m0 m1 ⟨ns.set a.toNat (y / m), a + 1, c + 1, z, 0, by walk_at "lk", by rw [← es]; walk_at "lk", by omega, by omega, by omega, h4, h5⟩ (kp fun b x y => ?_)
          simp only [upd_ne x, upd_ne y]
        · walk_at "go"
          refine q _ _ m0 m1 ⟨ns.set a.toNat (y / m), a, c + 1, z, 2, by walk_at "lk", by rw [← es]; walk_at "lk", by omega, by omega, by omega, h4, h5⟩ (kp fun b x y => ?_)
          simp only [upd_ne x, upd_ne y]
def spPool (K : PySem.W.Frag) : Sp := fun vs H Q _ => ∃ (a : Addr) (ns : List Int), vs = [.ref a] ∧ SqL K H a (ns.map V.int) ∧ ns.length ≤ 63 ∧ ∀ (p n : Addr) (H' : Hp), PoolAt H' p n 0 → Same H H' → H p = none → H n = none → Q (.ref p) H'
theorem c__law_pool (T : PoolF K mg) : Cal P w K mg base CX0 1 "_law_pool" (spPool K) := by
  refine cal0 T.d_pool sc__law_pool (fun _ _ _ _ _ _ us hl => match us, hl with | [_], _ => rfl) (fun vs H Q E h => ?_) (fun f cdv A outer s H vs Q E hr h => ?_)
  · obtain ⟨a, ns, rfl, _⟩ := h
    rfl
  · obtain ⟨a, ns, rfl, hS, hl, q⟩ := h
    refine ⟨_, (pss_cons (ps_setLc (i := 1) (own := [("cell", 3)]) (g := gName 3) (tt := tYes) rfl sc__law_pool.nd rfl rfl (sw_true rfl rfl rfl (by decide +kernel)) (pi_listK (K := K) rfl (pe_slice (r := rSlXX K) sl_X (pv 0) po_none (po_some pe_int))) (blkOk_by (N := N__law_pool) (sc := defScope s__law_pool) (by decide +kernel)) (fun _ _ _ _ _ => (pg_name (i := 3) sc__law_pool.nd rfl (by first | exact Or.inl rfl | exact Or.inr rfl))) (fun _ _ _ _ _ => pts_nil) (fun _ _ _ _ _ => (pe_callTy call_intX (by rfl) T.n_int (by decide +kernel) (pa_cons (pv 3) pa_nil))))
      (pss_cons (ps_set (i := 2) sc__law_pool.nd rfl (by first | exact Or.inl rfl | exact Or.inr rfl) pe_int)
      (pss_cons (ps_for PassesOwn.never rfl (pi_listK (K := K) rfl (pv 1)) (pg_name (i := 3) sc__law_pool.nd rfl (by first | exact Or.inl rfl | exact Or.inr rfl)) (pss_one (ps_set (i := 2) sc__law_pool.nd rfl (by first | exact Or.inl rfl | exact Or.inr rfl) (pe_op op_mod (pe_callTy call_intX (by rfl) T.n_int (by decide +kernel) (pa_cons (pe_op (r := rAddX K) op_addX (pe_op op_muX (pv 2) pe_int) (pv 3)) pa_nil)) pe_int))))
      (pss_one (ps_ret (pe_lst (pa_cons (pv 1) (pa_cons pe_int (pa_cons pe_int (pa_cons (pv 2) (pa_cons pe_int pa_nil))))))))))), ?_⟩
    walk_at "go"
    rename_i l H1 n1 s1 h1
    have e1 : cutV (ns.map V.int) none (some 63) = ns.map V.int := by
      rw [show (63 : Int) = ((63 : Nat) : Int) from rfl, cutV_to, List.take_of_length_le (by rw [List.length_map]; exact hl)]
    rw [e1] at h1
    refine lcw_fm (xs := ns.map V.int) (j := 3) wx_list (fun _ => true) (fun x => x) (fun H' s => SqL.of (s _ _ h1)) (by rw [List.length_map]; omega) (fun _ => rfl) (fun x _ H' R _ k => k H' (Same.refl H')) (fun x hx _ H' R _ k => ?_) (fun d H2 n2 s2 h2 => ?_)
    · obtain ⟨z, _, rfl⟩ := List.mem_map.mp hx
      walk_at "go"
      exact k H' (Same.refl H')
    · rw [show (((ns.map V.int).filter fun _ => true).map fun x => x) = ns.map V.int by simp] at h2
      walk_at "go"
      refine fow (xs := ns.map V.int) wx_list (fun i σ' H' => ∃ (z : Int) (v : Option V), σ' = [some (.ref a), some (.ref d), some (.int z), v] ∧ 0 ≤ z ∧ z < 2147483647 ∧ H' = H2) ⟨11, none, rfl, by decide, by decide, rfl⟩ (fun i σ' H' ⟨_, _, _, _, _, e⟩ => e ▸ SqL.of h2) (fun i x σ' H' hx ⟨z, v, es, z0, z1, eh⟩ => ?_) (fun σ' H' ⟨z, v, es, z0, z1, eh⟩ => ?_)
      · obtain ⟨y, _, rfl⟩ := List.mem_map.mp (List.mem_of_getElem? hx)
        subst es eh
        walk_at "go"
        exact ⟨_, _, rfl, Int.emod_nonneg _ (by decide), Int.emod_lt_of_pos _ (by decide), rfl⟩
      · subst es eh
        walk_at "go"
        rename_i p H3 n3 s3 h3
        exact q p d H3 ⟨ns, 0, 0, z, 0, h3, s3 _ _ h2, by decide, by decide, by decide, z0, z1⟩ (by walk_at "sm") (Same.free (by walk_at "sm") n3) (Same.free (by walk_at "sm") n2)
theorem keep_none {p n a : Addr} {k : Int} {H H' : Hp} (e : Keep p n H H') (h : PoolAt H' p n k) (z : H' a = none) : H a = none := by
  obtain ⟨n1, n2⟩ := h.ne z
  cases q : H a with
  | none => rfl
  | some o => rw [e a o q n1 n2] at z; cases z
end

abbrev s_is_plain : Stmt := top 19
abbrev N_is_plain : List Str := ["text", "mark"]
theorem sc_is_plain : FnScope ["text", "mark"] ["text"] (defScope s_is_plain) := ⟨rfl, rfl, rfl, by decide +kernel, rfl, by decide +kernel, by decide +kernel⟩
abbrev s__can_be_ignored : Stmt := top 25
abbrev N__can_be_ignored : List Str := ["value"]
theorem sc__can_be_ignored : FnScope ["value"] ["value"] (defScope s__can_be_ignored) := ⟨rfl, rfl, rfl, by decide +kernel, rfl, by decide +kernel, by decide +kernel⟩
abbrev s__law_is_good : Stmt := top 32
abbrev N__law_is_good : List Str := ["thing", "sign"]
theorem sc__law_is_good : FnScope ["thing", "sign"] ["thing"] (defScope s__law_is_good) := ⟨rfl, rfl, rfl, by decide +kernel, rfl, by decide +kernel, by decide +kernel⟩
structure GoodF (K : PySem.W.Frag) (mg : Str → Option Value) : Prop where
  n_isinstance : mg "isinstance" = none
  n_str : mg "str" = none
  n_len : mg "len" = none
  n_set : mg "set" = none
  n_all : mg "all" = none
  g_MOST_IGNORED : ∃ u, mg "MOST_IGNORED" = some u ∧ RelV (.int 8) u
  d_plain : DefAt K mg "is_plain" s_is_plain
  d_can : DefAt K mg "_can_be_ignored" s__can_be_ignored
  d_good : DefAt K mg "_law_is_good" s__law_is_good
theorem i_unl {ta : TE} {σ : L2.St} {H : Hp} {Q : VK} (h : ta σ H fun x H1 => ∃ y : Str, x = .str y ∧ y.length < 1000 ∧ Q (.int (unlike y)) H1) : tUnlike ta σ H Q := h
section
variable {P : Program} {w : World} {K : PySem.W.Frag} {mg : Str → Option Value} {base : Heap}
def badV : V → Bool
  | .str z => decide (z.cps.getD 0 0 < 32) || decide (126 < z.cps.getD 0 0)
  | _ => false
theorem at_of' {α : Type} {xs : List α} {z : Int} {j : Nat} {v : α} (e : z = (j : Int)) (h : xs[j]? = some v) : atI xs z = some v := by
  rw [e]
  exact atI_nat h
def signV : V → V
  | .str z => .bl (decide (32 ≤ z.cps.getD 0 0) && decide (z.cps.getD 0 0 ≤ 126))
  | _ => .non
def spPlain : Sp := fun vs H Q _ => ∃ (z : Str), vs = [.str z] ∧ z.length ≤ 10000 ∧ ∀ H', Same H H' → Q (.bl (plainB z)) H'
theorem c_is_plain (T : GoodF K mg) : Cal P w K mg base CX0 1 "is_plain" spPlain := by
  refine cal0 T.d_plain sc_is_plain (fun _ _ _ _ _ _ us hl => match us, hl with | [_], _ => rfl) (fun vs H Q E h => ?_) (fun f cdv A outer s H vs Q E hr h => ?_)
  · obtain ⟨z, rfl, _⟩ := h
    rfl
  · obtain ⟨z, rfl, hz, q⟩ := h
    refine ⟨_, (pss_one (ps_ret (pe_callB (r := rAll K) (cr_all rfl) (by rfl) T.n_all (by decide +kernel) (pa_cons (pe_lc (own := [("mark", 1)]) (g := gName 1) (tt := tYes) rfl sc_is_plain.nd (pi_str (pv 0)) (blkOk_by (N := N_is_plain) (sc := defScope s_is_plain) (by decide +kernel)) (fun _ _ _ _ _ => (pg_name (i := 1) sc_is_plain.nd rfl (by first | exact Or.inl rfl | exact Or.inr rfl))) (fun _ _ _ _ _ => pts_nil) (fun _ _ _ _ _ => (pe_chain op_leX op_leX pe_str (pv 1) pe_str))) pa_nil)))), ?_⟩
    walk_at "go"
    refine lcw_fm (xs := chars z) (j := 1) wx_str (fun _ => true) signV (fun H' s => trivial) (by rw [chars_len]; omega) (fun _ => rfl) (fun x _ H' R _ k => k H' (Same.refl H')) (fun x hx _ H' R _ k => ?_) (fun d H2 n2 s2 h2 => ?_)
    · obtain ⟨c, _, rfl⟩ := List.mem_map.mp hx
      have e1 : decide ((⟨#[c]⟩ : Str).cps.toList < (Str.ofString " ").cps.toList) = decide (c < 32) := sign_lt c 32
      have e2 : decide ((Str.ofString "~").cps.toList < (⟨#[c]⟩ : Str).cps.toList) = decide (126 < c) := sign_lt 126 c
      walk_at "go"
      refine ift (fun hc => ?_) (fun hc => ?_)
      · walk_at "go"
        rw [e1] at hc
        have h1 : 32 ≤ c := by simpa using hc
        rw [e2, show (!decide (126 < c)) = (decide (32 ≤ c) && decide (c ≤ 126)) by rw [Bool.eq_iff_iff]; simp [h1]]
        exact k H' (Same.refl H')
      · rw [e1] at hc
        have h1 : ¬ 32 ≤ c := by simpa using hc
        rw [show false = (decide (32 ≤ c) && decide (c ≤ 126)) by simp [h1]]
        exact k H' (Same.refl H')
    · walk_at "go"
      have e : ((chars z).filter fun _ => true).map signV = (z.cps.toList.map fun c => decide (32 ≤ c) && decide (c ≤ 126)).map V.bl := by
        rw [List.filter_eq_self.mpr (fun _ _ => rfl), chars, List.map_map, List.map_map]
        rfl
      rw [e] at h2
      refine p_all (SqL.of h2) ?_
      rw [show ((z.cps.toList.map fun c => decide (32 ≤ c) && decide (c ≤ 126)).all id) = plainB z by rw [List.all_map]; rfl]
      exact q _ s2

/-- what may be ignored -/
def goodV : V → Bool
  | .str z => decide (z.length ≤ 8) && plainB z && decide (unlike z = z.length)
  | _ => false
def spGood : Sp := fun vs H Q _ => ∃ (x : V) (a : Kn), vs = [x] ∧ Kd H x a ∧ ∀ H', Same H H' → Q (.bl (goodV x)) H'
theorem c__can_be_ignored (T : GoodF K mg) : Cal P w K mg base CX0 2 "_can_be_ignored" spGood := by
  have c_is_plain : Cal P w K mg base CX0 1 "is_plain" spPlain := c_is_plain T
  refine cal0 T.d_can sc__can_be_ignored (fun _ _ _ _ _ _ us hl => match us, hl with | [_], _ => rfl) (fun vs H Q E h => ?_) (fun f cdv A outer s H vs Q E hr h => ?_)
  · obtain ⟨x, a, rfl, _⟩ := h
    rfl
  · obtain ⟨x, a, rfl, hx, q⟩ := h
    refine ⟨_, (pss_cons (ps_if (PW.pt (pw_or (pt_not (pt_truK (K := K) rfl (pe_callB (r := rIsi K) call_isi (by rfl) T.n_isinstance (by decide +kernel) (pa_cons (pv 0) (pa_cons (pe_bltn (v := .ty "str") (by rfl) T.n_str (by decide +kernel) rfl) pa_nil))) (by intro _; rfl))) (pw_or1 (pt_cmpR op_gtX (pe_callB (r := rLenX K) call_lenX (by rfl) T.n_len (by decide +kernel) (pa_cons (pv 0) pa_nil)) (pe_gc (by rfl) T.g_MOST_IGNORED) (nomark _))))) (pss_one (ps_ret pe_bl)) pss_nil)
      (pss_one (ps_ret (pe_and (pe_c c_is_plain hr (by decide) (by rfl) pass0 (pa_cons (pv 0) pa_nil)) (pe_one (pe_cmpR (r := rEqX K) (op_eqX hr.units) (pe_unlike rfl (by rfl) T.n_len (by rfl) T.n_set (pv 0)) (pe_callB (r := rLenX K) call_lenX (by rfl) T.n_len (by decide +kernel) (pa_cons (pv 0) pa_nil)) (nomark _))))))), ?_⟩
    cases hx with
    | str z hz =>
      walk_at "go"
      refine ift (fun hc => ?_) (fun hc => ?_)
      · have hc' : ¬ z.length ≤ 8 := by have := of_decide_eq_true hc; omega
        walk_at "go"
        have e : false = goodV (.str z) := by simp [goodV, hc']
        rw [e]
        exact q _ (Same.refl H)
      · have hc' : z.length ≤ 8 := by have := of_decide_eq_false hc; omega
        walk_at "go"
        refine ⟨z, rfl, hz, fun H' s' => ?_⟩
        walk_at "go"
        refine ift (fun hp => ?_) (fun hp => ?_)
        · walk_at "go"
          refine i_unl ?_
          walk_at "go"
          refine ⟨by omega, ?_⟩
          walk_at "go"
          have e : decide (((unlike z : Nat) : Int) = ((z.length : Nat) : Int)) = goodV (.str z) := by
            simp only [goodV, hc', hp, decide_true, Bool.true_and]
            exact decide_eq_decide.mpr Int.ofNat_inj
          rw [e]
          exact q _ s'
        · have e : false = goodV (.str z) := by simp [goodV, hp]
          rw [e]
          exact q _ s'
    | non => walk_at "go"; exact q _ (Same.refl H)
    | bl b => walk_at "go"; exact q _ (Same.refl H)
    | int b => walk_at "go"; exact q _ (Same.refl H)
    | lst e => walk_at "go"; exact q _ (Same.refl H)
    | tup e => walk_at "go"; exact q _ (Same.refl H)
    | dct e => walk_at "go"; exact q _ (Same.refl H)
theorem c__law_is_good (T : GoodF K mg) : Cal P w K mg base CX0 1 "_law_is_good" spGood := by
  refine cal0 T.d_good sc__law_is_good (fun _ _ _ _ _ _ us hl => match us, hl with | [_], _ => rfl) (fun vs H Q E h => ?_) (fun f cdv A outer s H vs Q E hr h => ?_)
  · obtain ⟨x, a, rfl, _⟩ := h
    rfl
  · obtain ⟨x, a, rfl, hx, q⟩ := h
    refine ⟨_, (pss_cons (ps_if (PW.pt (pw_or (pt_not (pt_truK (K := K) rfl (pe_callB (r := rIsi K) call_isi (by rfl) T.n_isinstance (by decide +kernel) (pa_cons (pv 0) (pa_cons (pe_bltn (v := .ty "str") (by rfl) T.n_str (by decide +kernel) rfl) pa_nil))) (by intro _; rfl))) (pw_or (pt_cmpR op_gtX (pe_callB (r := rLenX K) call_lenX (by rfl) T.n_len (by decide +kernel) (pa_cons (pv 0) pa_nil)) pe_int (nomark _)) (pw_or1 (pt_cmpR op_ltX (pe_unlike rfl (by rfl) T.n_len (by rfl) T.n_set (pv 0)) (pe_callB (r := rLenX K) call_lenX (by rfl) T.n_len (by decide +kernel) (pa_cons (pv 0) pa_nil)) (nomark _)))))) (pss_one (ps_ret pe_bl)) pss_nil)
      (pss_one (ps_ret (pe_cmpR (r := rEqX K) (op_eqX hr.units) (pe_lc (own := [("sign", 1)]) (g := gName 1) rfl sc__law_is_good.nd (pi_str (pv 0)) (blkOk_by (N := N__law_is_good) (sc := defScope s__law_is_good) (by decide +kernel)) (fun _ _ _ _ _ => (pg_name (i := 1) sc__law_is_good.nd rfl (by first | exact Or.inl rfl | exact Or.inr rfl))) (fun _ _ _ _ _ => pts_one (PW.pt (pw_or (pt_cmpR op_ltX (pv 1) pe_str (nomark _)) (pw_or1 (pt_cmpR op_gtX (pv 1) pe_str (nomark _)))))) (fun _ _ _ _ _ => (pv 1))) (pe_lst pa_nil) (nomark _))))), ?_⟩
    cases hx with
    | str z hz =>
      walk_at "go"
      refine ift (fun hc => ?_) (fun hc => ?_)
      · have hc' : ¬ z.length ≤ 8 := by have := of_decide_eq_true hc; omega
        have e : false = goodV (.str z) := by simp [goodV, hc']
        walk_at "go"
        rw [e]
        exact q _ (Same.refl H)
      · have hc' : z.length ≤ 8 := by have := of_decide_eq_false hc; omega
        walk_at "go"
        refine i_unl ?_
        walk_at "go"
        refine ⟨by omega, ?_⟩
        walk_at "go"
        have ul := unlike_le z
        refine ift (fun hu => ?_) (fun hu => ?_)
        · have hu' : ¬ unlike z = z.length := by have := of_decide_eq_true hu; omega
          have e : false = goodV (.str z) := by simp [goodV, hu']
          walk_at "go"
          rw [e]
          exact q _ (Same.refl H)
        · have hu' : unlike z = z.length := by have := of_decide_eq_false hu; omega
          walk_at "go"
          refine lcw_fm (xs := chars z) (j := 1) wx_str badV (fun x => x) (fun H' s => trivial) (by rw [chars_len]; omega) (fun _ => rfl) (fun x hx H' R _ k => ?_) (fun x hx _ H' R _ k => ?_) (fun d H2 n2 s2 h2 => ?_)
          · obtain ⟨c, _, rfl⟩ := List.mem_map.mp hx
            have e1 : decide ((⟨#[c]⟩ : Str).cps.toList < (Str.ofString " ").cps.toList) = decide (c < 32) := sign_lt c 32
            have e2 : decide ((Str.ofString "~").cps.toList < (⟨#[c]⟩ : Str).cps.toList) = decide (126 < c) := sign_lt 126 c
            walk_at "go"
            refine ift (fun hb => ?_) (fun hb => ?_)
            · rw [e1] at hb
              have e3 : badV (.str ⟨#[c]⟩) = true := by simp [badV]; left; exact of_decide_eq_true hb
              exact e3 ▸ k H' (Same.refl H')
            · rw [e1] at hb
              walk_at "go"
              rw [e2]
              have e3 : decide (126 < c) = badV (.str ⟨#[c]⟩) := by
                have := of_decide_eq_false hb
                simp [badV]
                omega
              rw [e3]
              exact k H' (Same.refl H')
          · walk_at "go"
            exact k H' (Same.refl H')
          · walk_at "go"
            have e1 : (((chars z).filter badV).map fun x => x).isEmpty = goodV (.str z) := by
              rw [List.map_id', goodV, decide_eq_true hc', decide_eq_true hu', Bool.true_and, Bool.and_true, plainB, chars, List.filter_map]
              rw [Bool.eq_iff_iff, List.isEmpty_iff, List.map_eq_nil_iff, List.filter_eq_nil_iff, List.all_eq_true]
              refine ⟨fun h c hc => ?_, fun h c hc => ?_⟩
              · have := h c hc
                simp [badV] at this ⊢
                omega
              · have := h c hc
                simp [badV] at this ⊢
                omega
            rw [e1]
            exact q _ (by walk_at "sm")
    | non => walk_at "go"; exact q _ (Same.refl H)
    | bl b => walk_at "go"; exact q _ (Same.refl H)
    | int b => walk_at "go"; exact q _ (Same.refl H)
    | lst e => walk_at "go"; exact q _ (Same.refl H)
    | tup e => walk_at "go"; exact q _ (Same.refl H)
    | dct e => walk_at "go"; exact q _ (Same.refl H)
end
end Pk

namespace Pk
open PySem PySem.Spec PyProof.Rows L2
local macro_rules | `(tactic| walk_at "sz") => `(tactic| first | assumption | decide +kernel | exact Nat.le_trans (Nat.le_of_ble_eq_true rfl) (show 100000 ≤ sizeLine by decide) | exact Nat.le_trans (by omega) (show 100000 ≤ sizeLine by decide) | (show _ ≤ sizeLine; exact Nat.le_trans (by (simp only [List.length_append, List.length_map, List.length_cons, List.length_nil]; omega)) (show 100000 ≤ sizeLine by decide)))
local macro_rules | `(tactic| walk_at "mul") => `(tactic| first | exact Or.inl (Or.inl ⟨by omega, by omega⟩) | exact Or.inl (Or.inr ⟨by omega, by omega⟩))
local macro_rules | `(tactic| walk_at "ci") => `(tactic| first | assumption | exact (by decide : (0 : Int) < _) | (show (0 : Int) < _; omega) | exact ⟨by assumption, by assumption⟩ | exact ⟨by decide, by decide⟩ | exact ⟨by decide, by decide, by omega⟩)
local macro_rules | `(tactic| walk_at "lk") => `(tactic| first | assumption | exact upd_same | ((refine Eq.trans (upd_ne (by first | assumption | exact Ne.symm (by assumption))) ?_); walk_at "lk") | exact Same.get (by assumption) (by walk_at "lk") | exact Keep.get (by assumption) (by walk_at "lk") (by assumption) (by assumption))
local macro_rules | `(tactic| walk_at "sq") => `(tactic| first | assumption | exact SqL.of (by walk_at "lk") | exact Same.seq (by assumption) (by walk_at "sq"))
local macro_rules | `(tactic| walk_at "stt") => `(tactic| exact SqT.of (by walk_at "lk"))
local macro_rules | `(tactic| walk_at "kd") => `(tactic| first | assumption | exact Kd.str _ (by first | assumption | omega | decide) | exact Kd.bl _ | exact Kd.int _ | exact Kd.non | exact Kd.lst (by walk_at "lk") | exact Kd.tup (by walk_at "lk") | exact Kd.dct (by walk_at "lk") | exact Kd.same (by assumption) (by walk_at "kd"))
local macro_rules | `(tactic| walk_at "sm") => `(tactic| first | assumption | exact Same.refl _ | (refine Same.trans ?_ (by assumption); walk_at "sm"))
local macro_rules | `(tactic| walk_at "st") => `(tactic| first
  | with_reducible refine i_seq ?_ | with_reducible refine i_asg ?_ | with_reducible refine i_ret ?_ | with_reducible refine i_op ?_
  | ((with_reducible show tVar _ _ _ _); refine i_var rfl ?_)
  | with_reducible refine i_c ?_ | with_reducible refine i_cb ?_ | with_reducible refine i_call ?_ | with_reducible refine i_cons ?_ | with_reducible refine i_nil ?_
  | with_reducible refine i_name ?_ | with_reducible refine i_sub ?_ | with_reducible refine i_drop ?_ | with_reducible refine i_ifs ?_ | with_reducible refine i_ife ?_
  | with_reducible refine i_test ?_ | with_reducible refine i_tru ?_ | with_reducible refine i_and ?_ | with_reducible refine i_or ?_ | with_reducible refine i_not ?_
  | with_reducible refine i_andV ?_ | with_reducible refine i_orV ?_ | with_reducible refine i_notV ?_ | with_reducible refine i_un ?_
  | with_reducible refine i_bl ?_ | with_reducible refine i_trB ?_ | with_reducible refine i_next ?_
  | with_reducible refine iteF ?_ | with_reducible refine iteT ?_
  | with_reducible refine i_lstF ?_ | with_reducible refine i_tupF ?_
  | with_reducible refine p_addI ?_ | with_reducible refine p_I0 ?_ | with_reducible refine p_U ?_
  | with_reducible refine p_ltI ?_ | with_reducible refine p_leI ?_ | with_reducible refine p_gtI ?_ | with_reducible refine p_geI ?_
  | with_reducible refine p_ltS ?_ | with_reducible refine p_leS ?_ | with_reducible refine p_gtS ?_
  | with_reducible refine p_eqI ?_ | with_reducible refine p_neI ?_ | with_reducible refine p_int ?_
  | ((with_reducible show rMuXX (V.int _) (V.int _) _ _); refine p_muI (by walk_at "mul") ?_)
  | ((with_reducible show rI _ _ (V.int _) (V.int _) _ _); refine p_I (by walk_at "ci") ?_)
  | ((with_reducible show rIx _ (V.ref _) (V.int _) _ _); (first | refine p_ixL (by walk_at "sq") (by first | exact rfl | assumption) ?_ | refine p_ixT (SqT.of (by walk_at "lk")) (by first | exact rfl | assumption) ?_))
  | ((with_reducible show rSetL (V.ref _) (V.int _) _ _ _); refine p_setL (by walk_at "lk") (by first | exact rfl | assumption) ?_)
  | ((with_reducible show rLenX _ [V.ref _] _ _); (first | refine p_lenL (by walk_at "sq") ?_ | refine p_lenT (SqT.of (by walk_at "lk")) ?_))
  | ((with_reducible show rLenX _ [V.str _] _ _); refine p_lenS (by walk_at "sz") ?_)
  | with_reducible refine i_lc ?_ | with_reducible refine i_for ?_ | with_reducible refine i_itl ?_ | with_reducible refine i_itt ?_ | with_reducible refine i_itr ?_ | with_reducible refine i_its ?_
  | ((with_reducible show ∃ _, V.ref _ = V.ref _ ∧ (∃ _, SqL _ _ _ _) ∧ _); refine p_itl (by walk_at "sq") ?_)
  | ((with_reducible show ∃ _, V.ref _ = V.ref _ ∧ (∃ _, SqT _ _ _ _) ∧ _); refine p_itt (by walk_at "stt") ?_) | with_reducible refine p_its ?_
  | ((with_reducible show ∃ _, [V.int _] = [V.int _] ∧ _); refine p_itr (by omega) (by omega) ?_)
  | with_reducible refine i_sl ?_ | with_reducible refine i_np ?_ | with_reducible refine i_pt ?_ | with_reducible refine i_in ?_
  | ((with_reducible show rSlXX _ (V.ref _) _ _ _ _); refine p_slL (by walk_at "sq") ?_; intro _ _ _ _ _)
  | ((with_reducible show rSlXX _ (V.str _) _ _ _ _); refine p_slS (by walk_at "sz") ?_)
  | ((with_reducible show rIsi _ [_, V.ty "str"] _ _); refine p_isStr (by walk_at "kd") ?_)
  | ((with_reducible show rIsi _ [_, V.ty "int"] _ _); refine p_isInt (by walk_at "kd") ?_)
  | ((with_reducible show rIsi _ [_, V.ty "bool"] _ _); refine p_isBool (by walk_at "kd") ?_)
  | ((with_reducible show rIsiT _ [_, V.ref _] _ _); refine p_isLT (by walk_at "lk") (by walk_at "kd") ?_)
  | with_reducible refine i_chain ?_ | with_reducible refine i_m1 ?_ | with_reducible refine i_m0 ?_ | with_reducible refine i_str ?_
  | ((with_reducible show LstK _ _ _); refine p_lstK (by walk_at "sz") ?_; intro _ _ _ _ _)
  | ((with_reducible show TupK _ _ _); refine p_tupK (by walk_at "sz") ?_; intro _ _ _ _ _)
  | ((with_reducible show (if _ = true then _ else _)); (first | refine ifT' (by first | assumption | exact rfl) ?_ | refine ifF' (by first | assumption | exact rfl) ?_))
  | ((with_reducible show rEqX _ (V.bl _) (V.bl _) _ _); refine p_eqS rfl ?_) | ((with_reducible show rNeX _ (V.bl _) (V.bl _) _ _); refine p_neS rfl ?_)
  | ((with_reducible show rEqX _ (V.ref _) (V.ref _) _ _); refine p_eqNil (by walk_at "lk") (by walk_at "lk") ?_) | ((with_reducible show rNeX _ (V.ref _) (V.ref _) _ _); refine p_neNil (by walk_at "lk") (by walk_at "lk") ?_)
  | ((with_reducible show rAddX _ (V.str _) (V.str _) _ _); refine p_addS (by walk_at "sz") ?_)
  | ((with_reducible show rMuXX (V.str _) (V.int _) _ _); refine p_muS ⟨by decide +kernel, by decide +kernel, by decide +kernel⟩ ?_)
  | ((with_reducible show tDNewK _ _ _); refine i_dnew ?_; intro _ _ _ _ _)
  | ((with_reducible show rTupX _ [V.ref _] _ _); refine p_tupL (by walk_at "sq") ?_; intro _ _ _ _ _)
  | ((with_reducible show rAddX _ (V.ref _) (V.ref _) _ _); refine p_addL (by walk_at "lk") (by walk_at "lk") (by walk_at "sz") ?_; intro _ _ _ _ _)
  | with_reducible refine p_notB ?_ | with_reducible refine p_isB ?_)
local macro_rules | `(tactic| walk_at "go") => `(tactic| (walk_at "st"; (repeat walk_at "st")))

abbrev s__law_kind : Stmt := top 30
abbrev N__law_kind : List Str := ["error", "kinds", "words"]
theorem sc__law_kind : FnScope ["error", "kinds", "words"] ["error"] (defScope s__law_kind) := ⟨rfl, rfl, rfl, by decide +kernel, rfl, by decide +kernel, by decide +kernel⟩
abbrev s__law_caught : Stmt := top 31
abbrev N__law_caught : List Str := ["call", "caught", "e", "word"]
theorem sc__law_caught : FnScope ["call", "caught", "e", "word"] ["call"] (defScope s__law_caught) := ⟨rfl, rfl, rfl, by decide +kernel, rfl, by decide +kernel, by decide +kernel⟩
/-- the sixteen classes of errors; CL CM CU: those that the except clause names -/
structure KindT (K : PySem.W.Frag) (mg : Str → Option Value) (Cs : Nat → Addr) (CL : Addr) : Prop where
  n_isinstance : mg "isinstance" = none
  n_ValueError : mg "ValueError" = none
  n_repr : mg "repr" = none
  v_InvalidNumber : ∃ u, mg "InvalidNumber" = some u ∧ RelV (.ref (Cs 0)) u
  v_InvalidText : ∃ u, mg "InvalidText" = some u ∧ RelV (.ref (Cs 1)) u
  v_InvalidName : ∃ u, mg "InvalidName" = some u ∧ RelV (.ref (Cs 2)) u
  v_InvalidParents : ∃ u, mg "InvalidParents" = some u ∧ RelV (.ref (Cs 3)) u
  v_InvalidVersion : ∃ u, mg "InvalidVersion" = some u ∧ RelV (.ref (Cs 4)) u
  v_InvalidHistory : ∃ u, mg "InvalidHistory" = some u ∧ RelV (.ref (Cs 5)) u
  v_InvalidLayout : ∃ u, mg "InvalidLayout" = some u ∧ RelV (.ref (Cs 6)) u
  v_InvalidPrices : ∃ u, mg "InvalidPrices" = some u ∧ RelV (.ref (Cs 7)) u
  v_InvalidTelling : ∃ u, mg "InvalidTelling" = some u ∧ RelV (.ref (Cs 8)) u
  v_InvalidDeeds : ∃ u, mg "InvalidDeeds" = some u ∧ RelV (.ref (Cs 9)) u
  v_InvalidLine : ∃ u, mg "InvalidLine" = some u ∧ RelV (.ref (Cs 10)) u
  v_InvalidRanges : ∃ u, mg "InvalidRanges" = some u ∧ RelV (.ref (Cs 11)) u
  v_InvalidCommand : ∃ u, mg "InvalidCommand" = some u ∧ RelV (.ref (Cs 12)) u
  v_ParseError : ∃ u, mg "ParseError" = some u ∧ RelV (.ref (Cs 13)) u
  v_TooMany : ∃ u, mg "TooMany" = some u ∧ RelV (.ref (Cs 14)) u
  v_NothingToUndo : ∃ u, mg "NothingToUndo" = some u ∧ RelV (.ref (Cs 15)) u
  g_line : mg "LineError" = some (.ref CL)
  g_many : mg "TooMany" = some (.ref (Cs 14))
  g_undo : mg "NothingToUndo" = some (.ref (Cs 15))
  d_kind : DefAt K mg "_law_kind" s__law_kind
  d_caught : DefAt K mg "_law_caught" s__law_caught
/-- D is the j-th class of errors -/
structure KindF (K : PySem.W.Frag) (Cs : Nat → Addr) (CL D : Addr) (j : Nat) : Prop where
  ek : ExcK K D
  kit : ∀ i, i < 16 → PySem.W.kitOne K (.ref D) (.ref (Cs i)) = some (decide (i = j))
  ve : PySem.W.kitOne K (.ref D) (.type "ValueError") = some (decide (j < 14))
  lt : j < 16
  hit : PySem.W.exmAny K (.ref D) [.ref CL, .ref (Cs 14), .ref (Cs 15)] = some true
def kWord (j : Nat) : Str := (["number", "text", "name", "parents", "version", "history", "layout", "prices", "telling", "deeds", "line", "ranges", "command", "parse", "many", "undo"] : List Str).getD j ""
section
variable {P : Program} {w : World} {K : PySem.W.Frag} {mg : Str → Option Value} {base : Heap} {Cs : Nat → Addr} {CL : Addr}
theorem p_isT {H : Hp} {Q : VK} {a D dd : Addr} {fs : List (Str × V)} {i j : Nat} (k : KindF K Cs CL D j) (e : H a = some (ExT a (.ref D) (some dd))) (e2 : H dd = some (.xd fs)) (hi : i < 16) (q : Q (.bl (decide (i = j))) H) : rIsT K [.ref a, .ref (Cs i)] H Q := ⟨a, D, dd, fs, .ref (Cs i), .ref (Cs i), _, rfl, e, e2, k.ek, fun u r => r, k.kit i hi, q⟩
theorem p_isVE {H : Hp} {Q : VK} {a D dd : Addr} {fs : List (Str × V)} {j : Nat} (k : KindF K Cs CL D j) (e : H a = some (ExT a (.ref D) (some dd))) (e2 : H dd = some (.xd fs)) (q : Q (.bl (decide (j < 14))) H) : rIsT K [.ref a, .ty "ValueError"] H Q := ⟨a, D, dd, fs, .ty "ValueError", .type "ValueError", _, rfl, e, e2, k.ek, fun u r => r, k.ve, q⟩
end
local macro_rules | `(tactic| walk_at "rz") => `(tactic| first
  | ((with_reducible show rIsT _ [V.ref _, V.ref _] _ _); refine p_isT (by assumption) (by walk_at "lk") (by walk_at "lk") (by decide) ?_)
  | ((with_reducible show rIsT _ [V.ref _, V.ty _] _ _); refine p_isVE (by assumption) (by walk_at "lk") (by walk_at "lk") ?_))
local macro_rules | `(tactic| walk_at "gx") => `(tactic| repeat (first | walk_at "st" | walk_at "rx" | walk_at "rz"))

section
variable {P : Program} {w : World} {K : PySem.W.Frag} {mg : Str → Option Value} {base : Heap} {Cs : Nat → Addr} {CL : Addr}
def kB (j : Nat) : List Bool := [decide (0 = j), decide (1 = j), decide (2 = j), decide (3 = j), decide (4 = j), decide (5 = j), decide (6 = j), decide (7 = j), decide (8 = j), decide (9 = j), decide (10 = j), decide (11 = j), decide (12 = j), decide (13 = j), decide (14 = j), decide (15 = j)]
theorem kB_count : ∀ j, j < 16 → countIn (.bool true) ((kB j).map PyData.bool) = 1 := by decide +kernel
theorem kB_get : ∀ j, j < 16 → (kB j)[j]? = some true := by decide +kernel
theorem kB_below : ∀ j, j < 16 → ∀ m, m < j → (kB j)[m]? = some false := by decide +kernel
theorem kW_get : ∀ j : Nat, j < 16 → atI ([V.str "number", V.str "text", V.str "name", V.str "parents", V.str "version", V.str "history", V.str "layout", V.str "prices", V.str "telling", V.str "deeds", V.str "line", V.str "ranges", V.str "command", V.str "parse", V.str "many", V.str "undo"] : List V) ((j : Nat) : Int) = some (.str (kWord j)) := by decide +kernel
theorem dp_bls {H : Hp} : ∀ bs : List Bool, DpAll K H (bs.map V.bl) (bs.map PyData.bool)
  | [] => .nil
  | b :: bs => .cons (.bl b) (dp_bls bs)
theorem bl_shaped (j : Nat) (hj : j < 16) : SeqAt.shaped (.list ((kB j).map PyData.bool)) = true := (by decide +kernel : ∀ j, j < 16 → SeqAt.shaped (.list ((kB j).map PyData.bool)) = true) j hj
theorem p_ixB {H : Hp} {Q : VK} {L : Addr} (j : Nat) (hj : j < 16) (d : Dp K H (.ref L) (.list ((kB j).map PyData.bool))) (q : Q (.int (j : Nat)) H) : rIndexD K (.ref L) [.bl true] H Q := by
  refine ⟨L, .bl true, .bool true, _, j, .bool true, rfl, rfl, d, .bl true, bl_shaped j hj, by decide +kernel, ?_, rfl, fun m z hm hz => ?_, q⟩
  · rw [List.getElem?_map, kB_get j hj]
    rfl
  · rw [List.getElem?_map, kB_below j hj m hm] at hz
    cases Option.some.inj hz
    rfl
def spKind (K : PySem.W.Frag) (Cs : Nat → Addr) (CL : Addr) : Sp := fun vs H Q _ => ∃ a D dd fs j, vs = [.ref a] ∧ H a = some (ExT a (.ref D) (some dd)) ∧ H dd = some (.xd fs) ∧ KindF K Cs CL D j ∧ ∀ H', Same H H' → Q (.str (kWord j)) H'
theorem c__law_kind (T : KindT K mg Cs CL) : Cal P w K mg base CX0 1 "_law_kind" (spKind K Cs CL) := by
  refine cal0 T.d_kind sc__law_kind (fun _ _ _ _ _ _ us hl => match us, hl with | [_], _ => rfl) (fun vs H Q E h => ?_) (fun f cdv A outer s H vs Q E hr h => ?_)
  · obtain ⟨a, D, dd, fs, j, rfl, _⟩ := h
    rfl
  · obtain ⟨a, D, dd, fs, j, rfl, ha, hdd, k, q⟩ := h
    have hu65 : (A.deeper (envOfC "_law_kind" (defScope s__law_kind) s.heap.objs.size f cdv)).units + 65 < cLine := by have := hr.un; omega
    refine ⟨_, (pss_cons (ps_set (i := 1) sc__law_kind.nd rfl (by first | exact Or.inl rfl | exact Or.inr rfl) (pe_lst (pa_cons (pe_callB (r := rIsT K) call_isTr (by rfl) T.n_isinstance (by decide +kernel) (pa_cons (pv 0) (pa_cons (pe_gc (by rfl) T.v_InvalidNumber) pa_nil))) (pa_cons (pe_callB (r := rIsT K) call_isTr (by rfl) T.n_isinstance (by decide +kernel) (pa_cons (pv 0) (pa_cons (pe_gc (by rfl) T.v_InvalidText) pa_nil))) (pa_cons (pe_callB (r := rIsT K) call_isTr (by rfl) T.n_isinstance (by decide +kernel) (pa_cons (pv 0) (pa_cons (pe_gc (by rfl) T.v_InvalidName) pa_nil))) pa_nil)))))
      (pss_cons (ps_set (i := 1) sc__law_kind.nd rfl (by first | exact Or.inl rfl | exact Or.inr rfl) (pe_op (r := rAddX K) op_addX (pv 1) (pe_lst (pa_cons (pe_callB (r := rIsT K) call_isTr (by rfl) T.n_isinstance (by decide +kernel) (pa_cons (pv 0) (pa_cons (pe_gc (by rfl) T.v_InvalidParents) pa_nil))) (pa_cons (pe_callB (r := rIsT K) call_isTr (by rfl) T.n_isinstance (by decide +kernel) (pa_cons (pv 0) (pa_cons (pe_gc (by rfl) T.v_InvalidVersion) pa_nil))) pa_nil)))))
      (pss_cons (ps_set (i := 1) sc__law_kind.nd rfl (by first | exact Or.inl rfl | exact Or.inr rfl) (pe_op (r := rAddX K) op_addX (pv 1) (pe_lst (pa_cons (pe_callB (r := rIsT K) call_isTr (by rfl) T.n_isinstance (by decide +kernel) (pa_cons (pv 0) (pa_cons (pe_gc (by rfl) T.v_InvalidHistory) pa_nil))) (pa_cons (pe_callB (r := rIsT K) call_isTr (by rfl) T.n_isinstance (by decide +kernel) (pa_cons (pv 0) (pa_cons (pe_gc (by rfl) T.v_InvalidLayout) pa_nil))) pa_nil)))))
      (pss_cons (ps_set (i := 1) sc__law_kind.nd rfl (by first | exact Or.inl rfl | exact Or.inr rfl) (pe_op (r := rAddX K) op_addX (pv 1) (pe_lst (pa_cons (pe_callB (r := rIsT K) call_isTr (by rfl) T.n_isinstance (by decide +kernel) (pa_cons (pv 0) (pa_cons (pe_gc (by rfl) T.v_InvalidPrices) pa_nil))) (pa_cons (pe_callB (r := rIsT K) call_isTr (by rfl) T.n_isinstance (by decide +kernel) (pa_cons (pv 0) (pa_cons (pe_gc (by rfl) T.v_InvalidTelling) pa_nil))) pa_nil)))))
      (pss_cons (ps_set (i := 1) sc__law_kind.nd rfl (by first | exact Or.inl rfl | exact Or.inr rfl) (pe_op (r := rAddX K) op_addX (pv 1) (pe_lst (pa_cons (pe_callB (r := rIsT K) call_isTr (by rfl) T.n_isinstance (by decide +kernel) (pa_cons (pv 0) (pa_cons (pe_gc (by rfl) T.v_InvalidDeeds) pa_nil))) (pa_cons (pe_callB (r := rIsT K) call_isTr (by rfl) T.n_isinstance (by decide +kernel) (pa_cons (pv 0) (pa_cons (pe_gc (by rfl) T.v_InvalidLine) pa_nil))) pa_nil)))))
      (pss_cons (ps_set (i := 1) sc__law_kind.nd rfl (by first | exact Or.inl rfl | exact Or.inr rfl) (pe_op (r := rAddX K) op_addX (pv 1) (pe_lst (pa_cons (pe_callB (r := rIsT K) call_isTr (by rfl) T.n_isinstance (by decide +kernel) (pa_cons (pv 0) (pa_cons (pe_gc (by rfl) T.v_InvalidRanges) pa_nil))) (pa_cons (pe_callB (r := rIsT K) call_isTr (by rfl) T.n_isinstance (by decide +kernel) (pa_cons (pv 0) (pa_cons (pe_gc (by rfl) T.v_InvalidCommand) pa_nil))) pa_nil)))))
      (pss_cons (ps_set (i := 1) sc__law_kind.nd rfl (by first | exact Or.inl rfl | exact Or.inr rfl) (pe_op (r := rAddX K) op_addX (pv 1) (pe_lst (pa_cons (pe_callB (r := rIsT K) call_isTr (by rfl) T.n_isinstance (by decide +kernel) (pa_cons (pv 0) (pa_cons (pe_gc (by rfl) T.v_ParseError) pa_nil))) (pa_cons (pe_callB (r := rIsT K) call_isTr (by rfl) T.n_isinstance (by decide +kernel) (pa_cons (pv 0) (pa_cons (pe_gc (by rfl) T.v_TooMany) pa_nil))) (pa_cons (pe_callB (r := rIsT K) call_isTr (by rfl) T.n_isinstance (by decide +kernel) (pa_cons (pv 0) (pa_cons (pe_gc (by rfl) T.v_NothingToUndo) pa_nil))) pa_nil))))))
      (pss_cons (ps_if (PW.pt (pw_or (pt_cmpR (r := rNeX K) (op_neX hr.units) (pe_bm PySem.F.plainAttrs_list PySem.F.slot_list_count PySem.F.type_list_count mt_countB (pv 1) (pa_cons pe_bl pa_nil)) pe_int (nomark _)) (pw_or1 (pt_cmpR (r := rNeX K) (op_neX hr.units) (pe_callB (r := rIsT K) call_isTr (by rfl) T.n_isinstance (by decide +kernel) (pa_cons (pv 0) (pa_cons (pe_bltn (v := .ty "ValueError") (by rfl) T.n_ValueError (by decide +kernel) rfl) pa_nil))) (pe_cmpR op_ltX (pe_bm PySem.F.plainAttrs_list PySem.F.slot_list_index PySem.F.type_list_index (mt_indexD hu65) (pv 1) (pa_cons pe_bl pa_nil)) pe_int (nomark _)) (nomark _))))) (pss_one (ps_ret pe_str)) pss_nil)
      (pss_cons (ps_set (i := 2) sc__law_kind.nd rfl (by first | exact Or.inl rfl | exact Or.inr rfl) (pe_lst (pa_cons pe_str (pa_cons pe_str (pa_cons pe_str (pa_cons pe_str (pa_cons pe_str (pa_cons pe_str (pa_cons pe_str (pa_cons pe_str (pa_cons pe_str (pa_cons pe_str pa_nil))))))))))))
      (pss_one (ps_ret (pe_ix (r := rIx K) ix_seq (pe_op (r := rAddX K) op_addX (pv 2) (pe_lst (pa_cons pe_str (pa_cons pe_str (pa_cons pe_str (pa_cons pe_str (pa_cons pe_str (pa_cons pe_str pa_nil)))))))) (pe_bm PySem.F.plainAttrs_list PySem.F.slot_list_index PySem.F.type_list_index (mt_indexD hu65) (pv 1) (pa_cons pe_bl pa_nil)) (fun _ _ => rfl))))))))))))), ?_⟩
    walk_at "gx"
    rename_i L1 H1 n1 s1 e1
    have hj := k.lt
    have e1 : H1 L1 = some (.lst ((kB j).map V.bl)) := e1
    have dK : Dp K H1 (.ref L1) (.list ((kB j).map PyData.bool)) := .lst (SqL.of e1) (dp_bls _)
    refine i_bm ?_
    walk_at "gx"
    refine ⟨.inl ⟨rfl, _, SqL.of e1⟩, ?_⟩
    walk_at "gx"
    refine ⟨L1, kB j, true, rfl, rfl, e1, ?_⟩
    rw [kB_count j hj]
    walk_at "gx"
    refine i_bm ?_
    walk_at "gx"
    refine ⟨.inl ⟨rfl, _, SqL.of e1⟩, ?_⟩
    walk_at "gx"
    refine p_ixB j hj dK ?_
    walk_at "gx"
    refine ifb (decide_eq_decide.mpr (by omega)) ?_
    walk_at "gx"
    rename_i M2 H2 n2 s2 e2 M3 H3 n3 s3 e3 L4 H4 n4 s4 e4
    have s14 : Same H1 H4 := (s2.trans s3).trans s4
    refine i_bm ?_
    walk_at "gx"
    refine ⟨.inl ⟨rfl, _, SqL.of (s14 _ _ e1)⟩, ?_⟩
    walk_at "gx"
    refine p_ixB j hj (.lst (SqL.of (s14 _ _ e1)) (dp_bls _)) ?_
    refine p_ixL (SqL.of e4) (kW_get j hj) ?_
    exact q _ (by walk_at "sm")
end

section
variable {P : Program} {w : World} {K : PySem.W.Frag} {mg : Str → Option Value} {base : Heap} {Cs : Nat → Addr} {CL : Addr}
theorem kW_no : ∀ j, j < 13 → (kWord j ≠ "parse" ∧ kWord j ≠ "many") ∧ (inV (.str (kWord j)) [.str "odd", .str "undo"] = false) := by decide +kernel
/-- an error of the j-th class with the value v, shown as z -/
def ErrV (K : PySem.W.Frag) (Cs : Nat → Addr) (CL : Addr) (j : Nat) (z : Str) (R : Hp → Prop) : XK := fun cls d H' => ∃ D dd fs v dat, cls = .ref D ∧ d = some dd ∧ H' dd = some (.xd fs) ∧ KindF K Cs CL D j ∧ PySem.W.findIn K (.ref D) "value" = some none ∧ fs.lookup ("value" : Str) = some v ∧ Shw H' v dat ∧ dat.shown = z ∧ R H'
/-- what _law_caught tells of a lambda's reading: nothing is raised, or an error with a value -/
def TCaught (K : PySem.W.Frag) (Cs : Nat → Addr) (CL : Addr) : (XK → Hp → VK → Prop) → Hp → VK → Prop := fun tl H Q => ∃ (j : Nat) (z : Str), j < 13 ∧ ∀ (E1 : XK) (Q1 : VK),
  (∀ cls d H', ErrV K Cs CL j z (fun H' => ∀ p H'', Same H' H'' → H' p = none → H'' p = some (.lst [.str (kWord j), .str z]) → Q (.ref p) H'') cls d H' → E1 cls d H') →
  (∀ v H', (∀ p H'', Same H' H'' → H' p = none → H'' p = some (.lst [.str "none", .str "None"]) → Q (.ref p) H'') → Q1 v H') → tl E1 H Q1
theorem caught_body (T : KindT K mg Cs CL) {A : Around} {stack : List Env} {s : Shared} {H : Hp} {g f c' : Addr} {cdg : Value} {q : Str} {Q : VK} {tl : XK → Hp → VK → Prop} (gd : A.guards = some []) (hr : Room 3 A)
    (act : ∀ (W : WX) (pn : List (Addr × Obj)) (xe : Value → Shared → Prop) (E : XK) (p1 p2 : Pos), Takes ((cxOf C8.CX0 P w K mg base N__law_caught "_law_caught" (defScope s__law_caught) g cdg A stack s H C8.E0).tr pn xe) W → (∀ cls d σ' H', E cls d H' → W cls d σ' H') →
      PE ((cxOf C8.CX0 P w K mg base N__law_caught "_law_caught" (defScope s__law_caught) g cdg A stack s H C8.E0).tr pn xe) (.Call (.Name "call" p1) [] [] p2) (fun σZ HZ Q => σZ[0]? = some (some (.ref f)) ∧ HZ c' = some (LamX.CodeO c' q) ∧ tl E HZ Q))
    (hc : H c' = some (LamX.CodeO c' q)) (h : TCaught K Cs CL tl H Q) :
    ∃ t, PSs (cxOf C8.CX0 P w K mg base N__law_caught "_law_caught" (defScope s__law_caught) g cdg A stack s H C8.E0).nox (defBody s__law_caught) t ∧ t { nx := fun _ H' => Q .non H', rt := Q } (start N__law_caught [.ref f]) H := by
  have c__law_kind : Cal P w K mg base CX0 1 "_law_kind" (spKind K Cs CL) := c__law_kind T
  have hr : Room 2 (A.deeper (envOfC "_law_caught" (defScope s__law_caught) s.heap.objs.size g cdg)) := hr.deeper _
  refine ⟨_, (pss_cons (ps_set (i := 1) sc__law_caught.nd rfl (by first | exact Or.inl rfl | exact Or.inr rfl) pe_non)
      (pss_cons (ps_try_tup (i := 2) (tb := fun W D σ H => ∃ Ech : XK, (∀ cls d σ' H', Ech cls d H' → W cls d σ' H') ∧ σ[0]? = some (some (.ref f)) ∧ H c' = some (LamX.CodeO c' q) ∧ tl Ech H (fun _ H' => D.nx σ H')) (ts := fun a cls d => tAsg (tVar 2) (gName 1)) (Wout := fun _ _ _ _ => False) rfl rfl rfl sc__law_caught.nd rfl rfl ⟨by rfl, by decide, .inl T.g_line⟩ ⟨by rfl, by decide, .inl T.g_many⟩ ⟨by rfl, by decide, .inl T.g_undo⟩ LamX.takes0 (fun W pn xe tk _ => caught_call (fun E hW => act W pn xe E _ _ tk hW)) (fun a oe cls d pn _ _ => pss_one (ps_set (i := 1) sc__law_caught.nd rfl (Or.inl rfl) (pv 2))))
      (pss_cons (ps_if (pt_cmpR op_isN (pv 1) pe_non (nomark _)) (pss_one (ps_ret (pe_lst (pa_cons pe_str (pa_cons pe_str pa_nil))))) pss_nil)
      (pss_cons (ps_set (i := 3) sc__law_caught.nd rfl (by first | exact Or.inl rfl | exact Or.inr rfl) (pe_c c__law_kind hr (by decide) (by rfl) pass0 (pa_cons (pv 1) pa_nil)))
      (pss_cons (ps_if (pt_cmpR (r := rEqX K) (op_eqX hr.units) (pv 3) pe_str (nomark _)) (pss_one (ps_ret (pe_lst (pa_cons (pv 3) (pa_cons (pe_callB (r := rReprV) (call_reprV hr gd) (by rfl) T.n_repr (by decide +kernel) (pa_cons (pe_xv (pv 1)) pa_nil)) pa_nil))))) pss_nil)
      (pss_cons (ps_if (pt_cmpR (r := rEqX K) (op_eqX hr.units) (pv 3) pe_str (nomark _)) (pss_one (ps_ret (pe_lst (pa_cons (pv 3) (pa_cons (pe_callB (r := rReprV) (call_reprV hr gd) (by rfl) T.n_repr (by decide +kernel) (pa_cons (pe_xv (pv 1)) pa_nil)) pa_nil))))) pss_nil)
      (pss_cons (ps_if (pt_cmpR (r := rIn K false) op_in_seq (pv 3) (pe_tup (pa_cons pe_str (pa_cons pe_str pa_nil))) (by rfl)) (pss_one (ps_ret (pe_lst (pa_cons (pv 3) (pa_cons pe_str pa_nil))))) pss_nil)
      (pss_one (ps_ret (pe_lst (pa_cons (pv 3) (pa_cons (pe_callB (r := rReprV) (call_reprV hr gd) (by rfl) T.n_repr (by decide +kernel) (pa_cons (pe_xv (pv 1)) pa_nil)) pa_nil)))))))))))), ?_⟩
  obtain ⟨j, z, hj, h⟩ := h
  walk_at "gx"
  refine ⟨fun cls d H' => ∀ σ' : L2.St, wTup _ _ _ _ _ _ _ cls d σ' H', fun cls d σ' H' y => y σ', rfl, hc, h _ _ (fun cls d H' y σ' hl => ?_) (fun v H' y => ?_)⟩
  · obtain ⟨D, dd, fs, v, dat, rfl, rfl, e1, k, no, lv, sv, ez, y⟩ := y
    obtain ⟨w1, w2, w3, w4, rfl⟩ : ∃ w1 w2 w3 w4 : Option V, σ' = [w1, w2, w3, w4] := match σ', hl with | [a, b, c, d], _ => ⟨a, b, c, d, rfl⟩
    refine ⟨true, k.hit, fun _ a na => ?_, fun y => nomatch y⟩
    walk_at "gx"
    intro na
    have sa : Same H' (upd H' a (ExT a (.ref D) (some dd))) := same_upd na
    have ea : upd H' a (ExT a (.ref D) (some dd)) a = some (ExT a (.ref D) (some dd)) := upd_same
    have ed := sa _ _ e1
    walk_at "gx"
    refine ⟨rfl, _, rfl, ift (fun hc => nomatch (of_decide_eq_true hc)) (fun _ => ?_)⟩
    walk_at "gx"
    refine ⟨a, D, dd, fs, j, rfl, ea, ed, k, fun H2 s2 => ?_⟩
    have ea := s2 _ _ ea
    have ed := s2 _ _ ed
    obtain ⟨⟨np, nm⟩, ni⟩ := kW_no j hj
    walk_at "gx"
    refine p_eqS rfl ⟨_, rfl, ift (fun hc => absurd (V.str.inj (of_decide_eq_true hc)) np) (fun _ => ?_)⟩
    walk_at "gx"
    refine p_eqS rfl ⟨_, rfl, ift (fun hc => absurd (V.str.inj (of_decide_eq_true hc)) nm) (fun _ => ?_)⟩
    walk_at "gx"
    rename_i M3 H3 n3 s3 e3
    refine ⟨M3, _, rfl, .inr (SqT.of e3), rfl, rfl, ?_⟩
    rw [if_neg Bool.false_ne_true, ni]
    walk_at "gx"
    refine ⟨.ref a, rfl, a, D, dd, fs, v, rfl, s3 _ _ ea, s3 _ _ ed, k.ek, no, lv, ?_⟩
    walk_at "gx"
    refine ⟨v, dat, rfl, (((sv.same sa).same s2).same s3), ?_⟩
    walk_at "gx"
    rename_i M4 H4 n4 s4 e4
    rw [ez] at e4
    exact y M4 H4 (((sa.trans s2).trans s3).trans s4) (Same.free ((sa.trans s2).trans s3) n4) e4
  · walk_at "gx"
    refine ⟨rfl, _, rfl, ift (fun _ => ?_) (fun hc => absurd rfl (of_decide_eq_false hc))⟩
    walk_at "gx"
    rename_i M4 H4 n4 s4 e4
    exact y M4 H4 s4 n4 e4
end

section
structure LamF (base : Heap) (mg : Str → Option Value) (Tb : List (Addr × Str)) (c P : Addr) (q : Str) : Prop where
  tb : LamX.TabB base mg c P
  mem : (P, q ++ ".<locals>." ++ "<lambda>") ∈ Tb
  un : ∀ p ∈ Tb, p.1 = P → p.2 = q ++ ".<locals>." ++ "<lambda>"
variable {Cs : Nat → Addr} {CL : Addr}
theorem pe_caught {X : Cx} {Tb : List (Addr × Str)} {c P : Addr} {k j : Nat} {q : Str} {params : Arguments} {body : Expr} {scope : Scope} {t : XK → TE} {p lpos pos : Pos} (T : KindT X.K X.mg Cs CL) (gd : X.A.guards = some []) (hr : Room j X.A) (hj : k + 3 ≤ j) (hg : Gl X "_law_caught")
    (LF : LamF X.base X.mg Tb c P q) (hq : X.env.qual = q ++ ".<locals>.") (hcode : X.env.code = .ref c) (L : LamX.LamS X.env.scope scope) (hdef : defaultsOf params X.env = ([], []))
    (hbind : ∀ (q : Str) (cl : List (Str × Addr)) (pm cv ctv : Value), bindArgs (PySem.W.kla_fn "<lambda>" q params body scope cl pm cv ctv) ⟨[], []⟩ = pure [])
    (hbody : ∀ (A : Around) (outer : List Env) (s : Shared) (H : Hp) (E : XK) (f c' : Addr), Room k (A.deeper (LamX.lamEnv X scope s.heap.objs.size f c')) → PE (LamX.lamCx X A outer s H E scope f c') body (t E)) :
    PE X (.Call (.Name "_law_caught" p) [.Lambda params body scope lpos] [] pos) (LamX.tLam Tb (TCaught X.K Cs CL) t) := by
  obtain ⟨g, fd, F, m⟩ := T.d_caught.ex
  have hb := F.binds (ps := ["call"]) (fun _ _ _ _ _ _ us hl => match us, hl with | [_], _ => rfl)
  obtain ⟨oc, od, kV, doc, pm, an, cdv, ct, osl, rfl, lk, hcd⟩ := F.ex
  exact LamX.pe_lamcall (k := k) (Ng := N__law_caught) hg m F.kp lk hcd hb sc__law_caught rfl (.inl rfl) (fun f c' s H Q tl act hc h => caught_body T gd (hr.mono (by omega)) act hc h) LF.tb hcode (by rw [hq]; exact LF.mem) (by rw [hq]; exact LF.un) (hr.mono (by omega)) L hdef hbind hbody
end

end Pk

namespace Pk
open PySem PySem.Spec PyProof.Rows L2
local macro_rules | `(tactic| walk_at "sz") => `(tactic| first | assumption | decide +kernel | exact Nat.le_trans (Nat.le_of_ble_eq_true rfl) (show 100000 ≤ sizeLine by decide) | exact Nat.le_trans (by omega) (show 100000 ≤ sizeLine by decide) | (show _ ≤ sizeLine; exact Nat.le_trans (by (simp only [List.length_append, List.length_map, List.length_cons, List.length_nil]; omega)) (show 100000 ≤ sizeLine by decide)))
local macro_rules | `(tactic| walk_at "mul") => `(tactic| first | exact Or.inl (Or.inl ⟨by omega, by omega⟩) | exact Or.inl (Or.inr ⟨by omega, by omega⟩))
local macro_rules | `(tactic| walk_at "ci") => `(tactic| first | assumption | exact (by decide : (0 : Int) < _) | (show (0 : Int) < _; omega) | exact ⟨by assumption, by assumption⟩ | exact ⟨by decide, by decide⟩ | exact ⟨by decide, by decide, by omega⟩)
local macro_rules | `(tactic| walk_at "lk") => `(tactic| first | assumption | exact upd_same | ((refine Eq.trans (upd_ne (by first | assumption | exact Ne.symm (by assumption))) ?_); walk_at "lk") | exact Same.get (by assumption) (by walk_at "lk") | exact Keep.get (by assumption) (by walk_at "lk") (by assumption) (by assumption))
local macro_rules | `(tactic| walk_at "sq") => `(tactic| first | assumption | exact SqL.of (by walk_at "lk") | exact Same.seq (by assumption) (by walk_at "sq"))
local macro_rules | `(tactic| walk_at "stt") => `(tactic| exact SqT.of (by walk_at "lk"))
local macro_rules | `(tactic| walk_at "kd") => `(tactic| first | assumption | exact Kd.str _ (by first | assumption | omega | decide) | exact Kd.bl _ | exact Kd.int _ | exact Kd.non | exact Kd.lst (by walk_at "lk") | exact Kd.tup (by walk_at "lk") | exact Kd.dct (by walk_at "lk") | exact Kd.same (by assumption) (by walk_at "kd"))
local macro_rules | `(tactic| walk_at "sm") => `(tactic| first | assumption | exact Same.refl _ | (refine Same.trans ?_ (by assumption); walk_at "sm"))
local macro_rules | `(tactic| walk_at "st") => `(tactic| first
  | with_reducible refine i_seq ?_ | with_reducible refine i_asg ?_ | with_reducible refine i_ret ?_ | with_reducible refine i_op ?_
  | ((with_reducible show tVar _ _ _ _); refine i_var rfl ?_)
  | with_reducible refine i_c ?_ | with_reducible refine i_cb ?_ | with_reducible refine i_call ?_ | with_reducible refine i_cons ?_ | with_reducible refine i_nil ?_
  | with_reducible refine i_name ?_ | with_reducible refine i_sub ?_ | with_reducible refine i_drop ?_ | with_reducible refine i_ifs ?_ | with_reducible refine i_ife ?_
  | with_reducible refine i_test ?_ | with_reducible refine i_tru ?_ | with_reducible refine i_and ?_ | with_reducible refine i_or ?_ | with_reducible refine i_not ?_
  | with_reducible refine i_andV ?_ | with_reducible refine i_orV ?_ | with_reducible refine i_notV ?_ | with_reducible refine i_un ?_
  | with_reducible refine i_bl ?_ | with_reducible refine i_trB ?_ | with_reducible refine i_next ?_
  | with_reducible refine iteF ?_ | with_reducible refine iteT ?_
  | with_reducible refine i_lstF ?_ | with_reducible refine i_tupF ?_
  | with_reducible refine p_addI ?_ | with_reducible refine p_I0 ?_ | with_reducible refine p_U ?_
  | with_reducible refine p_ltI ?_ | with_reducible refine p_leI ?_ | with_reducible refine p_gtI ?_ | with_reducible refine p_geI ?_
  | with_reducible refine p_ltS ?_ | with_reducible refine p_leS ?_ | with_reducible refine p_gtS ?_
  | with_reducible refine p_eqI ?_ | with_reducible refine p_neI ?_ | with_reducible refine p_int ?_
  | ((with_reducible show rMuXX (V.int _) (V.int _) _ _); refine p_muI (by walk_at "mul") ?_)
  | ((with_reducible show rI _ _ (V.int _) (V.int _) _ _); refine p_I (by walk_at "ci") ?_)
  | ((with_reducible show rIx _ (V.ref _) (V.int _) _ _); (first | refine p_ixL (by walk_at "sq") (by first | exact rfl | assumption) ?_ | refine p_ixT (SqT.of (by walk_at "lk")) (by first | exact rfl | assumption) ?_))
  | ((with_reducible show rSetL (V.ref _) (V.int _) _ _ _); refine p_setL (by walk_at "lk") (by first | exact rfl | assumption) ?_)
  | ((with_reducible show rLenX _ [V.ref _] _ _); (first | refine p_lenL (by walk_at "sq") ?_ | refine p_lenT (SqT.of (by walk_at "lk")) ?_))
  | ((with_reducible show rLenX _ [V.str _] _ _); refine p_lenS (by walk_at "sz") ?_)
  | with_reducible refine i_lc ?_ | with_reducible refine i_for ?_ | with_reducible refine i_itl ?_ | with_reducible refine i_itt ?_ | with_reducible refine i_itr ?_ | with_reducible refine i_its ?_
  | ((with_reducible show ∃ _, V.ref _ = V.ref _ ∧ (∃ _, SqL _ _ _ _) ∧ _); refine p_itl (by walk_at "sq") ?_)
  | ((with_reducible show ∃ _, V.ref _ = V.ref _ ∧ (∃ _, SqT _ _ _ _) ∧ _); refine p_itt (by walk_at "stt") ?_) | with_reducible refine p_its ?_
  | ((with_reducible show ∃ _, [V.int _] = [V.int _] ∧ _); refine p_itr (by omega) (by omega) ?_)
  | with_reducible refine i_sl ?_ | with_reducible refine i_np ?_ | with_reducible refine i_pt ?_ | with_reducible refine i_in ?_
  | ((with_reducible show rSlXX _ (V.ref _) _ _ _ _); refine p_slL (by walk_at "sq") ?_; intro _ _ _ _ _)
  | ((with_reducible show rSlXX _ (V.str _) _ _ _ _); refine p_slS (by walk_at "sz") ?_)
  | ((with_reducible show rIsi _ [_, V.ty "str"] _ _); refine p_isStr (by walk_at "kd") ?_)
  | ((with_reducible show rIsi _ [_, V.ty "int"] _ _); refine p_isInt (by walk_at "kd") ?_)
  | ((with_reducible show rIsi _ [_, V.ty "bool"] _ _); refine p_isBool (by walk_at "kd") ?_)
  | ((with_reducible show rIsiT _ [_, V.ref _] _ _); refine p_isLT (by walk_at "lk") (by walk_at "kd") ?_)
  | with_reducible refine i_chain ?_ | with_reducible refine i_m1 ?_ | with_reducible refine i_m0 ?_ | with_reducible refine i_str ?_
  | ((with_reducible show LstK _ _ _); refine p_lstK (by walk_at "sz") ?_; intro _ _ _ _ _)
  | ((with_reducible show TupK _ _ _); refine p_tupK (by walk_at "sz") ?_; intro _ _ _ _ _)
  | ((with_reducible show (if _ = true then _ else _)); (first | refine ifT' (by first | assumption | exact rfl) ?_ | refine ifF' (by first | assumption | exact rfl) ?_))
  | ((with_reducible show rEqX _ (V.bl _) (V.bl _) _ _); refine p_eqS rfl ?_) | ((with_reducible show rNeX _ (V.bl _) (V.bl _) _ _); refine p_neS rfl ?_)
  | ((with_reducible show rEqX _ (V.ref _) (V.ref _) _ _); refine p_eqNil (by walk_at "lk") (by walk_at "lk") ?_) | ((with_reducible show rNeX _ (V.ref _) (V.ref _) _ _); refine p_neNil (by walk_at "lk") (by walk_at "lk") ?_)
  | ((with_reducible show rAddX _ (V.str _) (V.str _) _ _); refine p_addS (by walk_at "sz") ?_)
  | ((with_reducible show rMuXX (V.str _) (V.int _) _ _); refine p_muS ⟨by decide +kernel, by decide +kernel, by decide +kernel⟩ ?_)
  | ((with_reducible show tDNewK _ _ _); refine i_dnew ?_; intro _ _ _ _ _)
  | ((with_reducible show rTupX _ [V.ref _] _ _); refine p_tupL (by walk_at "sq") ?_; intro _ _ _ _ _)
  | ((with_reducible show rAddX _ (V.ref _) (V.ref _) _ _); refine p_addL (by walk_at "lk") (by walk_at "lk") (by walk_at "sz") ?_; intro _ _ _ _ _)
  | with_reducible refine p_notB ?_ | with_reducible refine p_isB ?_)
local macro_rules | `(tactic| walk_at "go") => `(tactic| (walk_at "st"; (repeat walk_at "st")))

abbrev s_InvalidLayout___init__ : Stmt := inClass (top 8) 0
abbrev N_InvalidLayout___init__ : List Str := ["self", "value"]
theorem sc_InvalidLayout___init__ : FnScope ["self", "value"] ["self", "value"] (defScope s_InvalidLayout___init__) := ⟨rfl, rfl, rfl, by decide +kernel, rfl, by decide +kernel, by decide +kernel⟩
theorem mono1 {i : Nat} : ∀ (σ : L2.St) (H : Hp) (Q Q' : List V → Hp → Prop), (∀ vs H', Q vs H' → Q' vs H') → tCons (tVar i) tNil σ H Q → tCons (tVar i) tNil σ H Q' := fun σ H Q Q' k h => by
  obtain ⟨v, e, h⟩ := h
  exact ⟨v, e, k _ _ h⟩
theorem i_rz {C : Addr} {f : Str} {W : WX} {t : TA} {σ : L2.St} {H : Hp} {D : Ends} (h : t σ H fun vs H1 => ∃ v, vs = [v] ∧ ∀ d H', H1 d = none → Same H1 H' → H' d = some (.xd [(f, v)]) → W (.ref C) (some d) σ H') : tRz C f W t D σ H := h
section
variable {P : Program} {w : World} {K : PySem.W.Frag} {mg : Str → Option Value} {base : Heap} {C CN : Addr}
theorem e_lay (F : ErrF K mg "InvalidLayout" "value" "InvalidLayout.__init__" CN s_InvalidLayout___init__) : ErrM P w K mg base "InvalidLayout" "value" CN := by
  obtain ⟨fI, fd, i1, i2, Fn⟩ := F.ini
  refine ⟨F.gC, F.T, fI, fd, i1, i2, Fn.ok sc_InvalidLayout___init__ (fun vs H Q E h => ?_) (fun cdv A outer s H vs Q E hr h => ?_), Fn.binds (fun _ _ _ _ _ _ us hl => match us, hl with | [_, _], _ => rfl)⟩
  · obtain ⟨a, v, rfl, _⟩ := h
    rfl
  · obtain ⟨a, v, rfl, ha, q⟩ := h
    refine ⟨_, pss_one (ps_ost (pv 0) (pv 1)), ?_⟩
    exact ⟨v, rfl, .ref a, rfl, a, CN, rfl, F.T, F.no, .inl ⟨ha, fun dx n ne => q dx n ne⟩⟩
def RaisesV (CN : Addr) (x : V) (H : Hp) (E : XK) : Prop := ∀ d H', H d = none → Same H H' → H' d = some (.xd [(("value" : Str), x)]) → E (.ref CN) (some d) H'
end

section
variable {K : PySem.W.Frag} {σ : L2.St} {H : Hp} {Q : VK} {D : Ends} {t : TA} {ta tv : TE} {f : Str}
theorem i_par {i j : Nat} {D : Ends} (h : t σ H fun vs H1 => ∃ v w, vs = [v, w] ∧ D.nx ((σ.set i (some v)).set j (some w)) H1) : tPar i j t D σ H := h
theorem i_sfl {D : Ends} (h : tv σ H fun y H1 => ta σ H1 fun x H2 => ∃ a C dx fs, x = .ref a ∧ H2 a = some (.ins C dx fs) ∧ Cls K C ∧ NoAttr K C f ∧ fs.length < 1000 ∧ D.nx σ (upd H2 a (.ins C dx (putF f y fs)))) : sFld K ta tv f D σ H := h
end

local macro_rules | `(tactic| walk_at "rx") => `(tactic| first
  | with_reducible refine i_par ?_ | ((with_reducible show ∃ _, [V.int _] = [V.int _] ∧ _); refine ⟨_, rfl, ?_⟩) | ((with_reducible show ∃ _, [V.str _] = [V.str _] ∧ _); refine ⟨_, rfl, ?_⟩)
  | with_reducible refine i_sfl ?_ | with_reducible refine i_unl ?_)
local macro_rules | `(tactic| walk_at "gr") => `(tactic| repeat (first | walk_at "st" | walk_at "rx"))

abbrev s_Layout___init__ : Stmt := inClass (top 24) 0
abbrev N_Layout___init__ : List Str := ["self", "ignored", "folded", "mark"]
theorem sc_Layout___init__ : FnScope ["self", "ignored", "folded", "mark"] ["self", "ignored", "folded"] (defScope s_Layout___init__) := ⟨rfl, rfl, rfl, by decide +kernel, rfl, by decide +kernel, by decide +kernel⟩
structure LayF (K : PySem.W.Frag) (mg : Str → Option Value) (C : Addr) : Prop where
  G : GoodF K mg
  cl : Cls K C
  v_Layout : mg "Layout" = some (.ref C)
  nI : NoAttr K C "_ignored"
  nF : NoAttr K C "_folded"
  ini : ∃ f fd, Mk K C f ∧ Fun K "__init__" "Layout.__init__" s_Layout___init__ f fd
  n_isinstance : mg "isinstance" = none
  n_bool : mg "bool" = none
  n_str : mg "str" = none
  n_sorted : mg "sorted" = none
section
variable {P : Program} {w : World} {K : PySem.W.Frag} {mg : Str → Option Value} {base : Heap} {C CN : Addr}
theorem funD_of {x q : Str} {st : Stmt} {f : Addr} {fd : FuncData} (F : Fun K x q st f fd) : FunD K x q (defArgs st) (defBody st) (defScope st) [] [] f fd := by
  obtain ⟨oc, od, kV, doc, pm, an, cdv, ct, osl, e, lk, hcd⟩ := F.ex
  exact ⟨⟨oc, od, .none, kV, doc, pm, an, cdv, ct, osl, e, lk, hcd, .inl ⟨rfl, rfl⟩, .inl rfl⟩, F.kp⟩
/-- Layout(ignored=x, folded=y): it raises, or something is made -/
def spLay (C CN : Addr) : Sp := fun vs H Q E => ∃ p dx x kx y ky, vs = [.ref p, x, y] ∧ H p = some (.ins C dx []) ∧ Kd H x kx ∧ Kd H y ky ∧ (goodV x = false → RaisesV CN x H E) ∧ (goodV x = true → ky.is .bl = false → RaisesV CN y H E) ∧
  (goodV x = true → ky.is .bl = true → ∀ H', (∀ a o, a ≠ p → H a = some o → H' a = some o) → Q .non H')
theorem RaisesV.same {x : V} {H H' : Hp} {E : XK} (s : Same H H') (h : RaisesV CN x H E) : RaisesV CN x H' E := fun d H2 nd s2 e => h d H2 (s.free nd) (s.trans s2) e
theorem c_lay (T : LayF K mg C) (F : ErrF K mg "InvalidLayout" "value" "InvalidLayout.__init__" CN s_InvalidLayout___init__) : ∃ f fd, Mk K C f ∧ Fun K "__init__" "Layout.__init__" s_Layout___init__ f fd ∧ FnOk P w K mg base (L2.CX P w) 4 f fd ["self", "ignored", "folded"] (spLay C CN) := by
  have eL : ErrM P w K mg base "InvalidLayout" "value" CN := e_lay F
  have c__can_be_ignored : Cal P w K mg base CX0 2 "_can_be_ignored" spGood := c__can_be_ignored T.G
  obtain ⟨f, fd, M, Fd⟩ := T.ini
  refine ⟨f, fd, M, Fd, (funD_of Fd).ok sc_Layout___init__ (fun vs H Q E h => ?_) (fun cdv A outer s H vs Q E hr h => ?_)⟩
  · obtain ⟨p, dx, x, kx, y, ky, rfl, _⟩ := h
    rfl
  · obtain ⟨p, dx, x, kx, y, ky, rfl, hp, hx, hy, q1, q2, q3⟩ := h
    have hr : Room 3 _ := hr
    refine ⟨_, (pss_cons (ps_if (pt_not (pt_truK (K := K) rfl (pe_c c__can_be_ignored hr (by decide) (by rfl) pass0 (pa_cons (pv 1) pa_nil)) (by intro _; rfl))) (pss_one (ps_rz eL rfl hr (by decide) (takes_of rfl rfl rfl rfl) (by rfl) (pa_cons (pv 1) pa_nil) mono1)) pss_nil)
      (pss_cons (ps_if (pt_not (pt_truK (K := K) rfl (pe_callB (r := rIsi K) call_isi (by rfl) T.n_isinstance (by decide +kernel) (pa_cons (pv 2) (pa_cons (pe_bltn (v := .ty "bool") (by rfl) T.n_bool (by decide +kernel) rfl) pa_nil))) (by intro _; rfl))) (pss_one (ps_rz eL rfl hr (by decide) (takes_of rfl rfl rfl rfl) (by rfl) (pa_cons (pv 2) pa_nil) mono1)) pss_nil)
      (pss_cons (ps_fld (pv 0) (pe_join pe_str (pe_callB (r := rSortedS K) cr_sortedS (by rfl) T.n_sorted (by decide +kernel) (pa_cons (pe_lc (own := [("mark", 3)]) (g := gName 3) (tt := tYes) rfl sc_Layout___init__.nd (pi_str (pv 1)) (blkOk_by (N := N_Layout___init__) (sc := defScope s_Layout___init__) (by decide +kernel)) (fun _ _ _ _ _ => (pg_name (i := 3) sc_Layout___init__.nd rfl (by first | exact Or.inl rfl | exact Or.inr rfl))) (fun _ _ _ _ _ => pts_nil) (fun _ _ _ _ _ => (pe_callTy SkE.call_str_str (by rfl) T.n_str (by decide +kernel) (pa_cons (pv 3) pa_nil)))) pa_nil))) rfl)
      (pss_one (ps_fld (pv 0) (pv 2) rfl))))), ?_⟩
    walk_at "gr"
    refine ⟨x, kx, rfl, hx, fun H1 s1 => ?_⟩
    have hp1 := s1 _ _ hp
    cases hg : goodV x with
    | false =>
      walk_at "gr"
      refine i_rz ?_
      walk_at "gr"
      exact ⟨x, rfl, (q1 hg).same s1⟩
    | true =>
      walk_at "gr"
      have hy1 := hy.same s1
      refine ift (fun hc => ?_) (fun hc => ?_)
      · have hb : ky.is .bl = false := by simpa using hc
        walk_at "gr"
        refine i_rz ?_
        walk_at "gr"
        exact ⟨y, rfl, (q2 hg hb).same s1⟩
      · have hb : ky.is .bl = true := by simpa using hc
        cases hx with
        | str z hz =>
          walk_at "gr"
          have hz8 : z.length ≤ 8 := by
            simp only [goodV, Bool.and_eq_true, decide_eq_true_eq] at hg
            exact hg.1.1
          refine lcw_fm (xs := chars z) (j := 3) wx_str (fun _ => true) (fun x => x) (fun H' s => trivial) (by rw [chars_len]; omega) (fun _ => rfl) (fun x _ H' R _ k => k H' (Same.refl H')) (fun x hx _ H' R _ k => ?_) (fun d H2 n2 s2 h2 => ?_)
          · obtain ⟨c, _, rfl⟩ := List.mem_map.mp hx
            walk_at "gr"
            exact k _ (Same.refl _)
          · walk_at "gr"
            have e2 : ((chars z).filter fun _ => true).map (fun x => x) = (z.cps.toList.map fun c => (⟨#[c]⟩ : Str)).map V.str := by
              rw [List.filter_eq_self.mpr (fun _ _ => rfl), List.map_id', chars, List.map_map]
              rfl
            rw [e2] at h2
            have zl : z.cps.toList.length = z.length := rfl
            refine ⟨d, z.cps.toList.map fun c => ⟨#[c]⟩, rfl, SqL.of h2, by rw [List.length_map]; omega, fun ys r pm _ n3 => ?_⟩
            have sum : (ys.map fun x => x.length).sum = z.length := by
              rw [(pm.map _).sum_nat, sum_ones]
              exact zl
            refine ⟨_, r, ys, rfl, rfl, .inl (SqL.of upd_same), ?_, ?_⟩
            · rw [sum]
              show _ + _ * 0 ≤ _
              omega
            have rp : r ≠ p := fun e => by
              rw [e, s2 _ _ hp1] at n3
              cases n3
            have hp2 : upd H2 r (.lst (ys.map V.str)) p = some (.ins C dx []) := by rw [upd_ne rp.symm]; exact s2 _ _ hp1
            walk_at "gr"
            refine ⟨p, C, dx, [], rfl, hp2, T.cl, T.nI, by decide, ?_⟩
            walk_at "gr"
            refine ⟨p, C, dx, _, rfl, upd_same, T.cl, T.nF, (by show 1 < 1000; decide), ?_⟩
            walk_at "gr"
            refine q3 hg hb _ fun b o nb e => ?_
            have e2 := s2 _ _ (s1 _ _ e)
            rw [upd_ne nb, upd_ne nb, upd_ne (fun q => by rw [q, n3] at e2; cases e2)]
            exact e2
        | _ => cases hg
end
end Pk

namespace Pk
open PySem PySem.Spec PyProof.Rows L2
local macro_rules | `(tactic| walk_at "sz") => `(tactic| first | assumption | decide +kernel | exact Nat.le_trans (Nat.le_of_ble_eq_true rfl) (show 100000 ≤ sizeLine by decide) | exact Nat.le_trans (by omega) (show 100000 ≤ sizeLine by decide) | (show _ ≤ sizeLine; exact Nat.le_trans (by (simp only [List.length_append, List.length_map, List.length_cons, List.length_nil]; omega)) (show 100000 ≤ sizeLine by decide)))
local macro_rules | `(tactic| walk_at "mul") => `(tactic| first | exact Or.inl (Or.inl ⟨by omega, by omega⟩) | exact Or.inl (Or.inr ⟨by omega, by omega⟩))
local macro_rules | `(tactic| walk_at "ci") => `(tactic| first | assumption | exact (by decide : (0 : Int) < _) | (show (0 : Int) < _; omega) | exact ⟨by assumption, by assumption⟩ | exact ⟨by decide, by decide⟩ | exact ⟨by decide, by decide, by omega⟩)
local macro_rules | `(tactic| walk_at "lk") => `(tactic| first | assumption | exact upd_same | ((refine Eq.trans (upd_ne (by first | assumption | exact Ne.symm (by assumption))) ?_); walk_at "lk") | exact Same.get (by assumption) (by walk_at "lk") | exact Keep.get (by assumption) (by walk_at "lk") (by assumption) (by assumption))
local macro_rules | `(tactic| walk_at "sq") => `(tactic| first | assumption | exact SqL.of (by walk_at "lk") | exact Same.seq (by assumption) (by walk_at "sq"))
local macro_rules | `(tactic| walk_at "stt") => `(tactic| exact SqT.of (by walk_at "lk"))
local macro_rules | `(tactic| walk_at "kd") => `(tactic| first | assumption | exact Kd.str _ (by first | assumption | omega | decide) | exact Kd.bl _ | exact Kd.int _ | exact Kd.non | exact Kd.lst (by walk_at "lk") | exact Kd.tup (by walk_at "lk") | exact Kd.dct (by walk_at "lk") | exact Kd.same (by assumption) (by walk_at "kd"))
local macro_rules | `(tactic| walk_at "sm") => `(tactic| first | assumption | exact Same.refl _ | (refine Same.trans ?_ (by assumption); walk_at "sm"))
local macro_rules | `(tactic| walk_at "st") => `(tactic| first
  | with_reducible refine i_seq ?_ | with_reducible refine i_asg ?_ | with_reducible refine i_ret ?_ | with_reducible refine i_op ?_
  | ((with_reducible show tVar _ _ _ _); refine i_var rfl ?_)
  | with_reducible refine i_c ?_ | with_reducible refine i_cb ?_ | with_reducible refine i_call ?_ | with_reducible refine i_cons ?_ | with_reducible refine i_nil ?_
  | with_reducible refine i_name ?_ | with_reducible refine i_sub ?_ | with_reducible refine i_drop ?_ | with_reducible refine i_ifs ?_ | with_reducible refine i_ife ?_
  | with_reducible refine i_test ?_ | with_reducible refine i_tru ?_ | with_reducible refine i_and ?_ | with_reducible refine i_or ?_ | with_reducible refine i_not ?_
  | with_reducible refine i_andV ?_ | with_reducible refine i_orV ?_ | with_reducible refine i_notV ?_ | with_reducible refine i_un ?_
  | with_reducible refine i_bl ?_ | with_reducible refine i_trB ?_ | with_reducible refine i_next ?_
  | with_reducible refine iteF ?_ | with_reducible refine iteT ?_
  | with_reducible refine i_lstF ?_ | with_reducible refine i_tupF ?_
  | with_reducible refine p_addI ?_ | with_reducible refine p_I0 ?_ | with_reducible refine p_U ?_
  | with_reducible refine p_ltI ?_ | with_reducible refine p_leI ?_ | with_reducible refine p_gtI ?_ | with_reducible refine p_geI ?_
  | with_reducible refine p_ltS ?_ | with_reducible refine p_leS ?_ | with_reducible refine p_gtS ?_
  | with_reducible refine p_eqI ?_ | with_reducible refine p_neI ?_ | with_reducible refine p_int ?_
  | ((with_reducible show rMuXX (V.int _) (V.int _) _ _); refine p_muI (by walk_at "mul") ?_)
  | ((with_reducible show rI _ _ (V.int _) (V.int _) _ _); refine p_I (by walk_at "ci") ?_)
  | ((with_reducible show rIx _ (V.ref _) (V.int _) _ _); (first | refine p_ixL (by walk_at "sq") (by first | exact rfl | assumption) ?_ | refine p_ixT (SqT.of (by walk_at "lk")) (by first | exact rfl | assumption) ?_))
  | ((with_reducible show rSetL (V.ref _) (V.int _) _ _ _); refine p_setL (by walk_at "lk") (by first | exact rfl | assumption) ?_)
  | ((with_reducible show rLenX _ [V.ref _] _ _); (first | refine p_lenL (by walk_at "sq") ?_ | refine p_lenT (SqT.of (by walk_at "lk")) ?_))
  | ((with_reducible show rLenX _ [V.str _] _ _); refine p_lenS (by walk_at "sz") ?_)
  | with_reducible refine i_lc ?_ | with_reducible refine i_for ?_ | with_reducible refine i_itl ?_ | with_reducible refine i_itt ?_ | with_reducible refine i_itr ?_ | with_reducible refine i_its ?_
  | ((with_reducible show ∃ _, V.ref _ = V.ref _ ∧ (∃ _, SqL _ _ _ _) ∧ _); refine p_itl (by walk_at "sq") ?_)
  | ((with_reducible show ∃ _, V.ref _ = V.ref _ ∧ (∃ _, SqT _ _ _ _) ∧ _); refine p_itt (by walk_at "stt") ?_) | with_reducible refine p_its ?_
  | ((with_reducible show ∃ _, [V.int _] = [V.int _] ∧ _); refine p_itr (by omega) (by omega) ?_)
  | with_reducible refine i_sl ?_ | with_reducible refine i_np ?_ | with_reducible refine i_pt ?_ | with_reducible refine i_in ?_
  | ((with_reducible show rSlXX _ (V.ref _) _ _ _ _); refine p_slL (by walk_at "sq") ?_; intro _ _ _ _ _)
  | ((with_reducible show rSlXX _ (V.str _) _ _ _ _); refine p_slS (by walk_at "sz") ?_)
  | ((with_reducible show rIsi _ [_, V.ty "str"] _ _); refine p_isStr (by walk_at "kd") ?_)
  | ((with_reducible show rIsi _ [_, V.ty "int"] _ _); refine p_isInt (by walk_at "kd") ?_)
  | ((with_reducible show rIsi _ [_, V.ty "bool"] _ _); refine p_isBool (by walk_at "kd") ?_)
  | ((with_reducible show rIsiT _ [_, V.ref _] _ _); refine p_isLT (by walk_at "lk") (by walk_at "kd") ?_)
  | with_reducible refine i_chain ?_ | with_reducible refine i_m1 ?_ | with_reducible refine i_m0 ?_ | with_reducible refine i_str ?_
  | ((with_reducible show LstK _ _ _); refine p_lstK (by walk_at "sz") ?_; intro _ _ _ _ _)
  | ((with_reducible show TupK _ _ _); refine p_tupK (by walk_at "sz") ?_; intro _ _ _ _ _)
  | ((with_reducible show (if _ = true then _ else _)); (first | refine ifT' (by first | assumption | exact rfl) ?_ | refine ifF' (by first | assumption | exact rfl) ?_))
  | ((with_reducible show rEqX _ (V.bl _) (V.bl _) _ _); refine p_eqS rfl ?_) | ((with_reducible show rNeX _ (V.bl _) (V.bl _) _ _); refine p_neS rfl ?_)
  | ((with_reducible show rEqX _ (V.ref _) (V.ref _) _ _); refine p_eqNil (by walk_at "lk") (by walk_at "lk") ?_) | ((with_reducible show rNeX _ (V.ref _) (V.ref _) _ _); refine p_neNil (by walk_at "lk") (by walk_at "lk") ?_)
  | ((with_reducible show rAddX _ (V.str _) (V.str _) _ _); refine p_addS (by walk_at "sz") ?_)
  | ((with_reducible show rMuXX (V.str _) (V.int _) _ _); refine p_muS ⟨by decide +kernel, by decide +kernel, by decide +kernel⟩ ?_)
  | ((with_reducible show tDNewK _ _ _); refine i_dnew ?_; intro _ _ _ _ _)
  | ((with_reducible show rTupX _ [V.ref _] _ _); refine p_tupL (by walk_at "sq") ?_; intro _ _ _ _ _)
  | ((with_reducible show rAddX _ (V.ref _) (V.ref _) _ _); refine p_addL (by walk_at "lk") (by walk_at "lk") (by walk_at "sz") ?_; intro _ _ _ _ _)
  | with_reducible refine p_notB ?_ | with_reducible refine p_isB ?_)
local macro_rules | `(tactic| walk_at "go") => `(tactic| (walk_at "st"; (repeat walk_at "st")))

local macro_rules | `(tactic| walk_at "rx") => `(tactic| first
  | with_reducible refine i_par ?_ | ((with_reducible show ∃ _, [V.int _] = [V.int _] ∧ _); refine ⟨_, rfl, ?_⟩) | ((with_reducible show ∃ _, [V.str _] = [V.str _] ∧ _); refine ⟨_, rfl, ?_⟩)
  | with_reducible refine i_sfl ?_ | with_reducible refine i_unl ?_)
local macro_rules | `(tactic| walk_at "gr") => `(tactic| repeat (first | walk_at "st" | walk_at "rx"))

local macro_rules | `(tactic| walk_at "gx") => `(tactic| repeat (first | walk_at "st" | walk_at "rx"))
section
variable {K : PySem.W.Frag} {Cs : Nat → Addr} {CL CN : Addr} {Tb : List (Addr × Str)} {t : XK → TE} {σ : L2.St} {H : Hp} {Q : VK}
/-- _law_caught(lambda: ..) where the lambda raises an error of the j-th class, its value shown as z -/
theorem p_lam (hT : LamX.Tabs Tb H) (j : Nat) (z : Str) (hj : j < 13) (h : ∀ H1 (E1 : XK) (Q1 : VK), Ext Tb H H1 → (∀ cls d H', ErrV K Cs CL j z (Same H1) cls d H' → E1 cls d H') → t E1 σ H1 Q1)
    (q : ∀ p H', Ext Tb H H' → LamX.Tabs Tb H' → H' p = some (.lst [.str (kWord j), .str z]) → Q (.ref p) H') : LamX.tLam Tb (TCaught K Cs CL) t σ H Q := by
  refine ⟨hT, fun H1 e1 t1 => ⟨j, z, hj, fun E1 Q1 hE _ => ?_⟩⟩
  have x1 : Ext Tb H H1 := ⟨e1, fun _ => t1⟩
  refine h H1 E1 Q1 x1 fun cls d H' y => hE cls d H' ?_
  obtain ⟨D, dd, fs, v, dat, c1, c2, c3, c4, c5, c6, c7, c8, s1⟩ := y
  refine ⟨D, dd, fs, v, dat, c1, c2, c3, c4, c5, c6, c7, c8, fun p H'' s2 _ e => ?_⟩
  have x2 : Ext Tb H H'' := x1.trans (Ext.of (s1.trans s2))
  exact q p H'' x2 (x2.tab hT) e
theorem p_raiseV {x : V} {dat : PyData} {j : Nat} {z : Str} {E1 : XK} (kf : KindF K Cs CL CN j) (no : PySem.W.findIn K (.ref CN) "value" = some none) (sh : Shw H x dat) (hz : dat.shown = z) (hE : ∀ cls d H', ErrV K Cs CL j z (Same H) cls d H' → E1 cls d H') : RaisesV CN x H E1 := fun d H' _ s e =>
  hE _ _ _ ⟨CN, d, _, x, dat, rfl, rfl, e, kf, no, rfl, sh.same s, hz, s⟩
theorem lay2 {x y : Str} (hx : PyData.strOk x = true) (hy : PyData.strOk y = true) : (PyData.list [.str x, .str y]).canLay0 = true := by simp [PyData.canLay0, PyData.canLayAll0, hx, hy]
theorem shaped2 {x y : Str} (hx : PyData.strOk x = true) (hy : PyData.strOk y = true) : SeqAt.shaped (.list [.str x, .str y]) = true := by
  show ((PyData.list [.str x, .str y]).canLay0 && decide ((PyData.list [.str x, .str y]).depth ≤ 64)) = true
  rw [lay2 hx hy]
  rfl
theorem p_strs {a b : Addr} {x y : Str} (hx : PyData.strOk x = true) (hy : PyData.strOk y = true) (ha : H a = some (.lst [.str x, .str y])) (hb : H b = some (.lst [.str x, .str y])) (q : Q (.bl false) H) : rNeX K (.ref a) (.ref b) H Q := by
  refine .inr (.inl ⟨.list [.str x, .str y], .list [.str x, .str y], .lst (SqL.of ha) (.cons (.str x) (.cons (.str y) .nil)), .lst (SqL.of hb) (.cons (.str x) (.cons (.str y) .nil)), shaped2 hx hy, shaped2 hx hy, ?_⟩)
  rw [SeqAt.eqv_refl _ (lay2 hx hy)]
  exact q
theorem p_strsE {a b : Addr} {x y : Str} (hx : PyData.strOk x = true) (hy : PyData.strOk y = true) (ha : H a = some (.lst [.str x, .str y])) (hb : H b = some (.lst [.str x, .str y])) (q : Q (.bl true) H) : rEqX K (.ref a) (.ref b) H Q := by
  refine .inr (.inl ⟨.list [.str x, .str y], .list [.str x, .str y], .lst (SqL.of ha) (.cons (.str x) (.cons (.str y) .nil)), .lst (SqL.of hb) (.cons (.str x) (.cons (.str y) .nil)), shaped2 hx hy, shaped2 hx hy, ?_⟩)
  rw [SeqAt.eqv_refl _ (lay2 hx hy)]
  exact q
end

/-- a class that is made by keywords, its __init__ may raise -/
structure MakKX (P : Program) (w : World) (K : PySem.W.Frag) (mg : Str → Option Value) (base : Heap) (k : Nat) (x : Str) (C : Addr) (sp : Sp) (ks : List Str) (gV : List V → List V → List V) : Prop where
  ex : ∃ (f : Addr) (fd : FuncData) (ps : List Str) (g : List Value → List Value → List Value), Mk K C f ∧ FnOk P w K mg base (L2.CX P w) k f fd ps sp ∧ mg x = some (.ref C) ∧ KBn K fd ps 1 ks g gV
theorem pe_mkKX {X : Cx} {k j : Nat} {x : Str} {C : Addr} {sp : Sp} {ks : List Str} {gV : List V → List V → List V} {W : WX} {E : XK} {p pos : Pos} {kws : List Keyword} {tk : TA} (c : MakKX X.prog X.w X.K X.mg X.base k x C sp ks gV) (hr : Room j X.A) (hk : k + 1 ≤ j) (tW : Takes X W) (hW : ∀ cls d σ H, E cls d H → W cls d σ H) (hg : Gl X x) (hkw : PK X kws tk)
    (hall : (backToKw pos (keywordEach kws X.env)).all (·.1.isSome) = true := by rfl) (hks : (backToKw pos (keywordEach kws X.env)).filterMap (·.1) = ks := by rfl) (hdb : (x == ("__debug__" : Str)) = false := by decide)
    (hpl : ((backTo pos (starEach [] X.env)).any (·.1) || (backToKw pos (keywordEach kws X.env)).any (·.1.isNone)) = false := by rfl) : PE X (.Call (.Name x p) [] kws pos) (tMakeK C 0 ks.length sp gV E tNil tk) := by
  obtain ⟨f, fd, ps, g, M, F, hm, b⟩ := c.ex
  exact pe_makeK0 M F (hr.mono hk) hg hm b (passes_call tW hW) hkw hall hks hdb hpl
abbrev s__law_right : Stmt := top 33
abbrev N__law_right : List Str := ["skipped", "small", "due"]
theorem sc__law_right : FnScope ["skipped", "small", "due"] ["skipped", "small"] (defScope s__law_right) := ⟨rfl, rfl, rfl, by decide +kernel, rfl, by decide +kernel, by decide +kernel⟩
section
variable {P : Program} {w : World} {K : PySem.W.Frag} {mg : Str → Option Value} {base : Heap} {C CN : Addr} {Cs : Nat → Addr} {CL cr : Addr} {Tb : List (Addr × Str)} {Pr : Addr}
theorem x_Lay (T : LayF K mg C) (F : ErrF K mg "InvalidLayout" "value" "InvalidLayout.__init__" CN s_InvalidLayout___init__) : MakKX P w K mg base 4 "Layout" C (spLay C CN) ["ignored", "folded"] (fun vs zs => vs ++ zs) := by
  obtain ⟨f, fd, M, Fd, G⟩ := c_lay (P := P) (w := w) (base := base) T F
  obtain ⟨oc, od, kV, doc, pm, an, cdv, ct, osl, rfl, lk, hcd⟩ := Fd.ex
  refine ⟨f, _, _, fun us ws => us ++ ws, M, G, T.v_Layout, fun s us ws _ l1 l2 => ?_, fun a b => a.append b⟩
  match us, ws, l1, l2 with
  | [a], [b, c], _, _ => exact .of_eq rfl
def MkL (C CN : Addr) (E : XK) (Q : VK) : List V → Hp → Prop := fun zs H2 => ([] : List V).length = 0 ∧ zs.length = 2 ∧ ∀ x dx, H2 x = none → H2 dx = none → dx ≠ x → spLay C CN ([.ref x] ++ zs) (upd (upd H2 dx (.own x)) x (.ins C dx [])) (fun v H3 => v = .non ∧ Q (.ref x) H3) E
theorem i_mkL {σ : L2.St} {H : Hp} {Q : VK} {E : XK} {tk : TA} (h : tk σ H (MkL C CN E Q)) : tMakeK C 0 2 (spLay C CN) (fun vs zs => vs ++ zs) E tNil tk σ H Q := h
theorem p_lay {H : Hp} {Q : VK} {E : XK} {x y : V} {kx ky : Kn} (hx : Kd H x kx) (hy : Kd H y ky) (r1 : goodV x = false → RaisesV CN x H E) (r2 : goodV x = true → ky.is .bl = false → RaisesV CN y H E) (r3 : goodV x = true → ky.is .bl = true → ∀ v H', Same H H' → Q v H') : MkL C CN E Q [x, y] H := by
  refine ⟨rfl, rfl, fun p dx n1 n2 ne => ?_⟩
  have s : Same H (upd (upd H dx (.own p)) p (.ins C dx [])) := fun b o eb => by
    rw [upd_ne (ne_of_none eb n1), upd_ne (ne_of_none eb n2)]
    exact eb
  exact ⟨p, dx, x, kx, y, ky, rfl, upd_same, hx.same s, hy.same s, fun g => (r1 g).same s, fun g b => (r2 g b).same s, fun g b H' k => ⟨rfl, r3 g b _ _ fun c o ec => k c o (ne_of_none ec n1) (s _ _ ec)⟩⟩
/-- x keeps its kind and its text -/
structure It (Tb : List (Addr × Str)) (H : Hp) (x : V) (k : Kn) (dat : PyData) : Prop where
  ok : PyData.strOk dat.shown = true
  go : ∀ H', Ext Tb H H' → Kd H' x k ∧ Shw H' x dat
theorem It.ext {H H' : Hp} {x : V} {k : Kn} {dat : PyData} (e : Ext Tb H H') (h : It Tb H x k dat) : It Tb H' x k dat := ⟨h.ok, fun H2 e2 => h.go H2 (e.trans e2)⟩
theorem It.kd {H : Hp} {x : V} {k : Kn} {dat : PyData} (h : It Tb H x k dat) : Kd H x k := (h.go H (Ext.refl H)).1
theorem It.sh {H : Hp} {x : V} {k : Kn} {dat : PyData} (h : It Tb H x k dat) : Shw H x dat := (h.go H (Ext.refl H)).2
theorem p_lamN {K : PySem.W.Frag} {t : XK → TE} {σ : L2.St} {H : Hp} {Q : VK} (hT : LamX.Tabs Tb H) (h : ∀ H1 (E1 : XK) (Q1 : VK), Ext Tb H H1 → (∀ v H', Ext Tb H H' → Q1 v H') → t E1 σ H1 Q1)
    (q : ∀ p H', Ext Tb H H' → H' p = some (.lst [.str "none", .str "None"]) → Q (.ref p) H') : LamX.tLam Tb (TCaught K Cs CL) t σ H Q :=
  ⟨hT, fun H1 e1 t1 => ⟨0, "", by decide, fun E1 Q1 _ hN => h H1 E1 Q1 ⟨e1, fun _ => t1⟩ fun v H' x => hN v H' fun p H'' s _ e => q p H'' (x.trans (Ext.of s)) e⟩⟩
structure Tr (K : PySem.W.Frag) (mg : Str → Option Value) (C CN : Addr) (Cs : Nat → Addr) (CL cr : Addr) : Prop where
  L : LayF K mg C
  KT : KindT K mg Cs CL
  eN : ErrF K mg "InvalidLayout" "value" "InvalidLayout.__init__" CN s_InvalidLayout___init__
  kf : KindF K Cs CL CN 6
  n_repr : mg "repr" = none
  n_isinstance : mg "isinstance" = none
  n_bool : mg "bool" = none
  d_right : DefC K mg "_law_right" s__law_right cr
def spRight (Tb : List (Addr × Str)) : Sp := fun vs H Q _ => ∃ x y kx ky dx dy, vs = [x, y] ∧ LamX.Tabs Tb H ∧ It Tb H x kx dx ∧ It Tb H y ky dy ∧ ∀ H', Ext Tb H H' → Q (.bl true) H'
theorem c__law_right (T : Tr K mg C CN Cs CL cr) (lf__law_right : LamF base mg Tb cr Pr "_law_right") : CalG P w K mg base CX0 10 "_law_right" (spRight Tb) := by
  have x_Layout : MakKX P w K mg base 4 "Layout" C (spLay C CN) ["ignored", "folded"] (fun vs zs => vs ++ zs) := x_Lay T.L T.eN
  have c__law_is_good : Cal P w K mg base CX0 1 "_law_is_good" spGood := c__law_is_good T.L.G
  refine calgC T.d_right sc__law_right (fun _ _ _ _ _ _ us hl => match us, hl with | [_, _], _ => rfl) (fun vs H Q E h => ?_) (fun f A outer s H vs Q E gd hr h => ?_)
  · obtain ⟨x, y, kx, ky, dx, dy, rfl, _⟩ := h
    rfl
  · obtain ⟨x, y, kx, ky, dx, dy, rfl, hT, hx, hy, q⟩ := h
    refine ⟨_, (pss_cons (ps_set (i := 2) sc__law_right.nd rfl (by first | exact Or.inl rfl | exact Or.inr rfl) (pe_lst (pa_cons pe_str (pa_cons pe_str pa_nil))))
      (pss_cons (ps_if (pt_not (pt_truK (K := K) rfl (pe_c c__law_is_good hr (by decide) (by rfl) pass0 (pa_cons (pv 0) pa_nil)) (by intro _; rfl))) (pss_one (ps_set (i := 2) sc__law_right.nd rfl (by first | exact Or.inl rfl | exact Or.inr rfl) (pe_lst (pa_cons pe_str (pa_cons (pe_callB (r := rReprV) (call_reprV hr gd) (by rfl) T.n_repr (by decide +kernel) (pa_cons (pv 0) pa_nil)) pa_nil))))) (pss_one (ps_if (pt_not (pt_truK (K := K) rfl (pe_callB (r := rIsi K) call_isi (by rfl) T.n_isinstance (by decide +kernel) (pa_cons (pv 1) (pa_cons (pe_bltn (v := .ty "bool") (by rfl) T.n_bool (by decide +kernel) rfl) pa_nil))) (by intro _; rfl))) (pss_one (ps_set (i := 2) sc__law_right.nd rfl (by first | exact Or.inl rfl | exact Or.inr rfl) (pe_lst (pa_cons pe_str (pa_cons (pe_callB (r := rReprV) (call_reprV hr gd) (by rfl) T.n_repr (by decide +kernel) (pa_cons (pv 1) pa_nil)) pa_nil))))) pss_nil)))
      (pss_one (ps_ret (pe_cmpR (r := rEqX K) (op_eqX hr.units) (pe_caught (k := 6) T.KT gd hr (by decide) (by rfl) lf__law_right rfl rfl (LamX.lamS_by (sc := defScope s__law_right) (by decide +kernel)) rfl (fun _ _ _ _ _ => rfl) (fun A outer s H E f c' hr => (pe_mkKX x_Layout hr (by decide) (takes_of rfl rfl rfl rfl) (fun _ _ _ _ h => h) (by rfl) (pk_cons (pv 0) (pk_cons (pv 1) pk_nil))))) (pv 2) (nomark _)))))), ?_⟩
    walk_at "gx"
    rename_i L1 H1 n1 s1 e1
    have x1 : Ext Tb H H1 := Ext.of s1
    refine ⟨x, kx, rfl, (hx.ext x1).kd, fun H2 s2 => ?_⟩
    have x2 := x1.trans (Ext.of s2)
    have e2 := s2 _ _ e1
    cases hg : goodV x with
    | false =>
      walk_at "gx"
      refine ⟨x, dx, rfl, (hx.ext x2).sh, ?_⟩
      walk_at "gx"
      rename_i L3 H3 n3 s3 e3
      have x3 := x2.trans (Ext.of s3)
      refine p_lam (x3.tab hT) 6 dx.shown (by decide) (fun H5 E1 Q1 x5 hE => ?_) (fun p H6 x6 t6 e6 => ?_)
      · walk_at "gx"
        refine i_mkL ?_
        walk_at "gx"
        have x35 := x3.trans x5
        exact p_lay (hx.ext x35).kd (hy.ext x35).kd (fun _ => p_raiseV T.kf T.eN.no (hx.ext x35).sh rfl hE) (fun g => by rw [hg] at g; cases g) (fun g => by rw [hg] at g; cases g)
      · walk_at "gx"
        refine p_strsE (by decide +kernel) hx.ok e6 (x6.get e3 (fun _ z => nomatch z)) ?_
        exact q _ (x3.trans x6)
    | true =>
      have hy2 := (hy.ext x2).kd
      walk_at "gx"
      refine ift (fun hc => ?_) (fun hc => ?_)
      · have hb : ky.is .bl = false := by simpa using hc
        walk_at "gx"
        refine ⟨y, dy, rfl, (hy.ext x2).sh, ?_⟩
        walk_at "gx"
        rename_i L3 H3 n3 s3 e3
        have x3 := x2.trans (Ext.of s3)
        refine p_lam (x3.tab hT) 6 dy.shown (by decide) (fun H5 E1 Q1 x5 hE => ?_) (fun p H6 x6 t6 e6 => ?_)
        · walk_at "gx"
          refine i_mkL ?_
          walk_at "gx"
          have x35 := x3.trans x5
          exact p_lay (hx.ext x35).kd (hy.ext x35).kd (fun g => by rw [hg] at g; cases g) (fun _ _ => p_raiseV T.kf T.eN.no (hy.ext x35).sh rfl hE) (fun _ g => by rw [hb] at g; cases g)
        · walk_at "gx"
          refine p_strsE (by decide +kernel) hy.ok e6 (x6.get e3 (fun _ z => nomatch z)) ?_
          exact q _ (x3.trans x6)
      · have hb : ky.is .bl = true := by simpa using hc
        walk_at "gx"
        refine p_lamN (x2.tab hT) (fun H5 E1 Q1 x5 hN => ?_) (fun p H6 x6 e6 => ?_)
        · walk_at "gx"
          refine i_mkL ?_
          walk_at "gx"
          have x25 := x2.trans x5
          exact p_lay (hx.ext x25).kd (hy.ext x25).kd (fun g => by rw [hg] at g; cases g) (fun _ g => by rw [hb] at g; cases g) (fun _ _ v H' s' => hN v H' (x5.trans (Ext.of s')))
        · walk_at "gx"
          refine p_strsE (by decide +kernel) (by decide +kernel) e6 (x6.get e2 (fun _ z => nomatch z)) ?_
          exact q _ (x2.trans x6)
end
end Pk

namespace Pk
open PySem PySem.Spec PyProof.Rows L2
local macro_rules | `(tactic| walk_at "sz") => `(tactic| first | assumption | decide +kernel | exact Nat.le_trans (Nat.le_of_ble_eq_true rfl) (show 100000 ≤ sizeLine by decide) | exact Nat.le_trans (by omega) (show 100000 ≤ sizeLine by decide) | (show _ ≤ sizeLine; exact Nat.le_trans (by (simp only [List.length_append, List.length_map, List.length_cons, List.length_nil]; omega)) (show 100000 ≤ sizeLine by decide)))
local macro_rules | `(tactic| walk_at "mul") => `(tactic| first | exact Or.inl (Or.inl ⟨by omega, by omega⟩) | exact Or.inl (Or.inr ⟨by omega, by omega⟩))
local macro_rules | `(tactic| walk_at "ci") => `(tactic| first | assumption | exact (by decide : (0 : Int) < _) | (show (0 : Int) < _; omega) | exact ⟨by assumption, by assumption⟩ | exact ⟨by decide, by decide⟩ | exact ⟨by decide, by decide, by omega⟩)
local macro_rules | `(tactic| walk_at "lk") => `(tactic| first | assumption | exact upd_same | ((refine Eq.trans (upd_ne (by first | assumption | exact Ne.symm (by assumption))) ?_); walk_at "lk") | exact Same.get (by assumption) (by walk_at "lk") | exact Keep.get (by assumption) (by walk_at "lk") (by assumption) (by assumption))
local macro_rules | `(tactic| walk_at "sq") => `(tactic| first | assumption | exact SqL.of (by walk_at "lk") | exact Same.seq (by assumption) (by walk_at "sq"))
local macro_rules | `(tactic| walk_at "stt") => `(tactic| exact SqT.of (by walk_at "lk"))
local macro_rules | `(tactic| walk_at "kd") => `(tactic| first | assumption | exact Kd.str _ (by first | assumption | omega | decide) | exact Kd.bl _ | exact Kd.int _ | exact Kd.non | exact Kd.lst (by walk_at "lk") | exact Kd.tup (by walk_at "lk") | exact Kd.dct (by walk_at "lk") | exact Kd.same (by assumption) (by walk_at "kd"))
local macro_rules | `(tactic| walk_at "sm") => `(tactic| first | assumption | exact Same.refl _ | (refine Same.trans ?_ (by assumption); walk_at "sm"))
local macro_rules | `(tactic| walk_at "st") => `(tactic| first
  | with_reducible refine i_seq ?_ | with_reducible refine i_asg ?_ | with_reducible refine i_ret ?_ | with_reducible refine i_op ?_
  | ((with_reducible show tVar _ _ _ _); refine i_var rfl ?_)
  | with_reducible refine i_c ?_ | with_reducible refine i_cb ?_ | with_reducible refine i_call ?_ | with_reducible refine i_cons ?_ | with_reducible refine i_nil ?_
  | with_reducible refine i_name ?_ | with_reducible refine i_sub ?_ | with_reducible refine i_drop ?_ | with_reducible refine i_ifs ?_ | with_reducible refine i_ife ?_
  | with_reducible refine i_test ?_ | with_reducible refine i_tru ?_ | with_reducible refine i_and ?_ | with_reducible refine i_or ?_ | with_reducible refine i_not ?_
  | with_reducible refine i_andV ?_ | with_reducible refine i_orV ?_ | with_reducible refine i_notV ?_ | with_reducible refine i_un ?_
  | with_reducible refine i_bl ?_ | with_reducible refine i_trB ?_ | with_reducible refine i_next ?_
  | with_reducible refine iteF ?_ | with_reducible refine iteT ?_
  | with_reducible refine i_lstF ?_ | with_reducible refine i_tupF ?_
  | with_reducible refine p_addI ?_ | with_reducible refine p_I0 ?_ | with_reducible refine p_U ?_
  | with_reducible refine p_ltI ?_ | with_reducible refine p_leI ?_ | with_reducible refine p_gtI ?_ | with_reducible refine p_geI ?_
  | with_reducible refine p_ltS ?_ | with_reducible refine p_leS ?_ | with_reducible refine p_gtS ?_
  | with_reducible refine p_eqI ?_ | with_reducible refine p_neI ?_ | with_reducible refine p_int ?_
  | ((with_reducible show rMuXX (V.int _) (V.int _) _ _); refine p_muI (by walk_at "mul") ?_)
  | ((with_reducible show rI _ _ (V.int _) (V.int _) _ _); refine p_I (by walk_at "ci") ?_)
  | ((with_reducible show rIx _ (V.ref _) (V.int _) _ _); (first | refine p_ixL (by walk_at "sq") (by first | exact rfl | assumption) ?_ | refine p_ixT (SqT.of (by walk_at "lk")) (by first | exact rfl | assumption) ?_))
  | ((with_reducible show rSetL (V.ref _) (V.int _) _ _ _); refine p_setL (by walk_at "lk") (by first | exact rfl | assumption) ?_)
  | ((with_reducible show rLenX _ [V.ref _] _ _); (first | refine p_lenL (by walk_at "sq") ?_ | refine p_lenT (SqT.of (by walk_at "lk")) ?_))
  | ((with_reducible show rLenX _ [V.str _] _ _); refine p_lenS (by walk_at "sz") ?_)
  | with_reducible refine i_lc ?_ | with_reducible refine i_for ?_ | with_reducible refine i_itl ?_ | with_reducible refine i_itt ?_ | with_reducible refine i_itr ?_ | with_reducible refine i_its ?_
  | ((with_reducible show ∃ _, V.ref _ = V.ref _ ∧ (∃ _, SqL _ _ _ _) ∧ _); refine p_itl (by walk_at "sq") ?_)
  | ((with_reducible show ∃ _, V.ref _ = V.ref _ ∧ (∃ _, SqT _ _ _ _) ∧ _); refine p_itt (by walk_at "stt") ?_) | with_reducible refine p_its ?_
  | ((with_reducible show ∃ _, [V.int _] = [V.int _] ∧ _); refine p_itr (by omega) (by omega) ?_)
  | with_reducible refine i_sl ?_ | with_reducible refine i_np ?_ | with_reducible refine i_pt ?_ | with_reducible refine i_in ?_
  | ((with_reducible show rSlXX _ (V.ref _) _ _ _ _); refine p_slL (by walk_at "sq") ?_; intro _ _ _ _ _)
  | ((with_reducible show rSlXX _ (V.str _) _ _ _ _); refine p_slS (by walk_at "sz") ?_)
  | ((with_reducible show rIsi _ [_, V.ty "str"] _ _); refine p_isStr (by walk_at "kd") ?_)
  | ((with_reducible show rIsi _ [_, V.ty "int"] _ _); refine p_isInt (by walk_at "kd") ?_)
  | ((with_reducible show rIsi _ [_, V.ty "bool"] _ _); refine p_isBool (by walk_at "kd") ?_)
  | ((with_reducible show rIsiT _ [_, V.ref _] _ _); refine p_isLT (by walk_at "lk") (by walk_at "kd") ?_)
  | with_reducible refine i_chain ?_ | with_reducible refine i_m1 ?_ | with_reducible refine i_m0 ?_ | with_reducible refine i_str ?_
  | ((with_reducible show LstK _ _ _); refine p_lstK (by walk_at "sz") ?_; intro _ _ _ _ _)
  | ((with_reducible show TupK _ _ _); refine p_tupK (by walk_at "sz") ?_; intro _ _ _ _ _)
  | ((with_reducible show (if _ = true then _ else _)); (first | refine ifT' (by first | assumption | exact rfl) ?_ | refine ifF' (by first | assumption | exact rfl) ?_))
  | ((with_reducible show rEqX _ (V.bl _) (V.bl _) _ _); refine p_eqS rfl ?_) | ((with_reducible show rNeX _ (V.bl _) (V.bl _) _ _); refine p_neS rfl ?_)
  | ((with_reducible show rEqX _ (V.ref _) (V.ref _) _ _); refine p_eqNil (by walk_at "lk") (by walk_at "lk") ?_) | ((with_reducible show rNeX _ (V.ref _) (V.ref _) _ _); refine p_neNil (by walk_at "lk") (by walk_at "lk") ?_)
  | ((with_reducible show rAddX _ (V.str _) (V.str _) _ _); refine p_addS (by walk_at "sz") ?_)
  | ((with_reducible show rMuXX (V.str _) (V.int _) _ _); refine p_muS ⟨by decide +kernel, by decide +kernel, by decide +kernel⟩ ?_)
  | ((with_reducible show tDNewK _ _ _); refine i_dnew ?_; intro _ _ _ _ _)
  | ((with_reducible show rTupX _ [V.ref _] _ _); refine p_tupL (by walk_at "sq") ?_; intro _ _ _ _ _)
  | ((with_reducible show rAddX _ (V.ref _) (V.ref _) _ _); refine p_addL (by walk_at "lk") (by walk_at "lk") (by walk_at "sz") ?_; intro _ _ _ _ _)
  | with_reducible refine p_notB ?_ | with_reducible refine p_isB ?_)
local macro_rules | `(tactic| walk_at "go") => `(tactic| (walk_at "st"; (repeat walk_at "st")))

local macro_rules | `(tactic| walk_at "rx") => `(tactic| first
  | with_reducible refine i_par ?_ | ((with_reducible show ∃ _, [V.int _] = [V.int _] ∧ _); refine ⟨_, rfl, ?_⟩) | ((with_reducible show ∃ _, [V.str _] = [V.str _] ∧ _); refine ⟨_, rfl, ?_⟩)
  | with_reducible refine i_sfl ?_ | with_reducible refine i_unl ?_)
local macro_rules | `(tactic| walk_at "gr") => `(tactic| repeat (first | walk_at "st" | walk_at "rx"))

abbrev s_law : Stmt := top 34
abbrev N_law : List Str := ["script", "pool", "odd", "k", "thing", "text", "at", "some", "skipped", "start", "many", "small", "j"]
theorem sc_law : FnScope ["script", "pool", "odd", "k", "thing", "text", "at", "some", "skipped", "start", "many", "small", "j"] ["script"] (defScope s_law) := ⟨rfl, rfl, rfl, by decide +kernel, rfl, by decide +kernel, by decide +kernel⟩
section
variable {P : Program} {w : World} {K : PySem.W.Frag} {mg : Str → Option Value} {base : Heap} {C CN : Addr} {Cs : Nat → Addr} {CL cr : Addr} {Tb : List (Addr × Str)} {Pr : Addr}
theorem reprChar_small : ∀ c < 128, ((Builtin.Str.reprChar 34 c).all fun d => decide (d < 0x110000)) = true ∧ ((Builtin.Str.reprChar 39 c).all fun d => decide (d < 0x110000)) = true := by decide +kernel
theorem quote_two (z : Str) : reprQuote z = 34 ∨ reprQuote z = 39 := by
  unfold reprQuote
  split
  · exact .inl rfl
  · exact .inr rfl
theorem fold_small (g : Nat → List Nat) : ∀ (l : List Nat) (acc : Array Nat), (∀ c ∈ l, ((g c).all fun d => decide (d < 0x110000)) = true) → (∀ d ∈ acc.toList, d < 0x110000) → ∀ d ∈ (l.foldl (fun out c => out ++ (g c).toArray) acc).toList, d < 0x110000
  | [], acc, _, h => h
  | c :: r, acc, h1, h => fold_small g r _ (fun e he => h1 e (List.mem_cons_of_mem _ he)) fun d hd => by
    rw [Array.toList_append] at hd
    rcases List.mem_append.mp hd with y | y
    · exact h d y
    · have := List.all_eq_true.mp (h1 c List.mem_cons_self) d y
      simpa using this
theorem repr_ok {z : Str} (h : ∀ c ∈ z.cps.toList, c < 128) : PyData.strOk (reprText z) = true := by
  have hq : reprQuote z < 0x110000 := by rcases quote_two z with e | e <;> rw [e] <;> decide
  have k : ∀ d ∈ (reprText z).cps.toList, d < 0x110000 := fun d hd => by
    unfold reprText at hd
    rw [Array.toList_push, ← Array.foldl_toList] at hd
    rcases List.mem_append.mp hd with y | y
    · refine fold_small (fun c => Builtin.Str.reprChar (reprQuote z) c) z.cps.toList _ (fun c hc => ?_) (fun e he => ?_) d y
      · rcases quote_two z with e | e <;> rw [e]
        · exact (reprChar_small c (h c hc)).1
        · exact (reprChar_small c (h c hc)).2
      · have e2 : e = reprQuote z := by simpa using he
        rw [e2]
        exact hq
    · rw [List.mem_singleton.mp y]
      exact hq
  unfold PyData.strOk
  rw [← Array.all_toList, List.all_eq_true]
  intro d hd
  simpa using k d hd
/-- a short text of small signs -/
def Sm (z : Str) (n : Nat) : Prop := z.length ≤ n ∧ ∀ c ∈ z.cps.toList, c < 128
theorem Sm.it {z : Str} {n : Nat} {H : Hp} (h : Sm z n) (hn : n ≤ 100) : It Tb H (.str z) .str (.str z) := by
  have l : (reprText z).length ≤ 10 * z.length + 2 := StrLaws.reprText_len z fun c hc => Nat.lt_trans (h.2 c hc) (by decide)
  refine ⟨repr_ok h.2, fun H' _ => ⟨.str z (by have := h.1; omega), .inl ⟨.str z, rfl, rfl, by show 0 ≤ 50; omega, ?_⟩⟩⟩
  show (reprText z).length ≤ sizeLine
  exact Nat.le_trans l (Nat.le_trans (by have := h.1; omega) (show 100000 ≤ sizeLine by decide))
theorem Sm.app {a b : Str} {n m : Nat} (h : Sm a n) (k : Sm b m) : Sm (a ++ b) (n + m) := by
  refine ⟨by rw [app_len]; have := h.1; have := k.1; omega, fun c hc => ?_⟩
  rw [app_cps] at hc
  rcases List.mem_append.mp hc with y | y
  · exact h.2 c y
  · exact k.2 c y
theorem Sm.to {z : Str} {n k : Nat} (h : Sm z n) : Sm (cutS z none (some (k : Int))) n := ⟨Nat.le_trans (cutS_len _ _ _) h.1, fun c hc => by rw [cut_to] at hc; exact h.2 c (List.mem_of_mem_take hc)⟩
theorem Sm.from {z : Str} {n k : Nat} (h : Sm z n) : Sm (cutS z (some (k : Int)) none) n := ⟨Nat.le_trans (cutS_len _ _ _) h.1, fun c hc => by rw [cut_from] at hc; exact h.2 c (List.mem_of_mem_drop hc)⟩
/-- the odd values -/
def oddsV (A1 A2 A3 A4 : Addr) : List V := [.non, .int 0, .int 1, .str "", .str "yes", .ref A1, .ref A2, .ref A3, .ref A4]
structure OddAt (A1 A2 A3 A4 L : Addr) (H : Hp) : Prop where
  e1 : H A1 = some (.lst [])
  e2 : H A2 = some (.lst [.str "a"])
  e3 : H A3 = some (.tup [.str "a", .str "b"])
  e4 : H A4 = some (.dK [])
  eL : H L = some (.lst (oddsV A1 A2 A3 A4))
theorem OddAt.by {A1 A2 A3 A4 L : Addr} {H H' : Hp} (h : OddAt A1 A2 A3 A4 L H) (g : ∀ a o, (a = A1 ∨ a = A2 ∨ a = A3 ∨ a = A4 ∨ a = L) → NT o → H a = some o → H' a = some o) : OddAt A1 A2 A3 A4 L H' :=
  ⟨g _ _ (by simp) (fun _ z => nomatch z) h.e1, g _ _ (by simp) (fun _ z => nomatch z) h.e2, g _ _ (by simp) (fun _ z => nomatch z) h.e3, g _ _ (by simp) (fun _ z => nomatch z) h.e4, g _ _ (by simp) (fun _ z => nomatch z) h.eL⟩
theorem OddAt.ext {A1 A2 A3 A4 L : Addr} {H H' : Hp} (e : Ext Tb H H') (h : OddAt A1 A2 A3 A4 L H) : OddAt A1 A2 A3 A4 L H' := h.by fun a o _ n k => e.get k n
theorem OddAt.keep {A1 A2 A3 A4 L p n : Addr} {H H' : Hp} (e : Keep p n H H') (hP : PoolAt H p n k) (h : OddAt A1 A2 A3 A4 L H) (np : ∀ a, (a = A1 ∨ a = A2 ∨ a = A3 ∨ a = A4 ∨ a = L) → a ≠ p ∧ a ≠ n) : OddAt A1 A2 A3 A4 L H' := h.by fun a o m _ k => e a o k (np a m).1 (np a m).2
theorem OddAt.it {A1 A2 A3 A4 L : Addr} {H : Hp} (h : OddAt A1 A2 A3 A4 L H) : ∀ x ∈ oddsV A1 A2 A3 A4, ∃ k d, It Tb H x k d := fun x hx => by
  simp only [oddsV, List.mem_cons, List.not_mem_nil, or_false] at hx
  rcases hx with rfl | rfl | rfl | rfl | rfl | rfl | rfl | rfl | rfl
  · exact ⟨_, _, by decide +kernel, fun H' _ => ⟨.non, .inl ⟨.non, rfl, rfl, by decide, by decide +kernel⟩⟩⟩
  · exact ⟨_, _, by decide +kernel, fun H' _ => ⟨.int _, .inl ⟨.int _, rfl, rfl, by decide, by decide +kernel⟩⟩⟩
  · exact ⟨_, _, by decide +kernel, fun H' _ => ⟨.int _, .inl ⟨.int _, rfl, rfl, by decide, by decide +kernel⟩⟩⟩
  · exact ⟨_, _, by decide +kernel, fun H' _ => ⟨.str _ (by decide), .inl ⟨.str _, rfl, rfl, by decide, by decide +kernel⟩⟩⟩
  · exact ⟨_, _, by decide +kernel, fun H' _ => ⟨.str _ (by decide), .inl ⟨.str _, rfl, rfl, by decide, by decide +kernel⟩⟩⟩
  · exact ⟨_, _, by decide +kernel, fun H' y => ⟨.lst (y.get h.e1 (fun _ z => nomatch z)), .inl ⟨.lst (y.get h.e1 (fun _ z => nomatch z)) .nil, rfl, rfl, by decide, by decide +kernel⟩⟩⟩
  · exact ⟨_, _, by decide +kernel, fun H' y => ⟨.lst (y.get h.e2 (fun _ z => nomatch z)), .inl ⟨.lst (y.get h.e2 (fun _ z => nomatch z)) (.cons (.str _) .nil), rfl, rfl, by decide, by decide +kernel⟩⟩⟩
  · exact ⟨_, _, by decide +kernel, fun H' y => ⟨.tup (y.get h.e3 (fun _ z => nomatch z)), .inl ⟨.tup (y.get h.e3 (fun _ z => nomatch z)) (.cons (.str _) (.cons (.str _) .nil)), rfl, rfl, by decide, by decide +kernel⟩⟩⟩
  · exact ⟨_, _, by decide +kernel, fun H' y => ⟨.dct (y.get h.e4 (fun _ z => nomatch z)), .inr ⟨A4, rfl, y.get h.e4 (fun _ z => nomatch z), rfl⟩⟩⟩
theorem it_bl {H : Hp} (b : Bool) : ∃ k d, It Tb H (.bl b) k d := by
  cases b
  · exact ⟨_, _, by decide +kernel, fun H' _ => ⟨.bl _, .inl ⟨.bl _, rfl, rfl, by decide, by decide +kernel⟩⟩⟩
  · exact ⟨_, _, by decide +kernel, fun H' _ => ⟨.bl _, .inl ⟨.bl _, rfl, rfl, by decide, by decide +kernel⟩⟩⟩
end
structure Tl (K : PySem.W.Frag) (mg : Str → Option Value) (C CN : Addr) (Cs : Nat → Addr) (CL cr : Addr) : Prop where
  PF : PoolF K mg
  R : Tr K mg C CN Cs CL cr
  n_int : mg "int" = none
  n_range : mg "range" = none
section
variable {P : Program} {w : World} {K : PySem.W.Frag} {mg : Str → Option Value} {base : Heap} {C CN : Addr} {Cs : Nat → Addr} {CL cr : Addr} {Tb : List (Addr × Str)} {Pr : Addr}
def abc : Str := "abcdefghijklmnopqrstuvwxyz"
theorem abc_all : ∀ i < 26, ∃ c, abc.cps.toList[i]? = some c ∧ c < 128 := by decide +kernel
def letN (st : Int) (j : Int) : Nat := abc.cps.toList.getD ((st + 3 * j) % 26).toNat 0
def letV (st : Int) : V → V
  | .int j => .str ⟨#[letN st j]⟩
  | _ => .non
theorem let_at (st j : Int) : atI abc.cps.toList ((st + 3 * j) % 26) = some (letN st j) ∧ letN st j < 128 := by
  have h0 : 0 ≤ (st + 3 * j) % 26 := Int.emod_nonneg _ (by decide)
  have h1 : (st + 3 * j) % 26 < 26 := Int.emod_lt_of_pos _ (by decide)
  obtain ⟨i, e⟩ := Int.eq_ofNat_of_zero_le h0
  obtain ⟨c, hc, hl⟩ := abc_all i (by omega)
  have e2 : letN st j = c := by
    unfold letN
    rw [e, List.getD_eq_getElem?_getD]
    show (abc.cps.toList[i]?).getD 0 = c
    rw [hc]
    rfl
  rw [e2]
  exact ⟨at_of' (j := i) e hc, hl⟩
theorem odds_at {A1 A2 A3 A4 : Addr} {r : Int} (h0 : 0 ≤ r) (h1 : r < 9) : ∃ x, atI (oddsV A1 A2 A3 A4) r = some x ∧ x ∈ oddsV A1 A2 A3 A4 := by
  obtain ⟨i, rfl⟩ := Int.eq_ofNat_of_zero_le h0
  have hl : i < (oddsV A1 A2 A3 A4).length := by show i < 9; omega
  exact ⟨(oddsV A1 A2 A3 A4)[i], at_of' (j := i) rfl (List.getElem?_eq_getElem hl), List.getElem_mem hl⟩
def spLaw (K : PySem.W.Frag) (Tb : List (Addr × Str)) : Sp := fun vs H Q _ => ∃ (a : Addr) (ns : List Int), vs = [.ref a] ∧ SqL K H a (ns.map V.int) ∧ ns.length ≤ 63 ∧ LamX.Tabs Tb H ∧ ∀ H', Q (.bl true) H'
theorem ok_law (T : Tl K mg C CN Cs CL cr) (lf__law_right : LamF base mg Tb cr Pr "_law_right") {f : Addr} {fd : FuncData} (F : Fun K "law" "law" s_law f fd) : GOk P w K mg base CX0 12 f fd ["script"] (spLaw K Tb) := by
  have c__law_pool : Cal P w K mg base CX0 1 "_law_pool" (spPool K) := c__law_pool T.PF
  have c__law_draw : Cal P w K mg base CX0 2 "_law_draw" spDraw := c__law_draw T.PF
  have c__law_right : CalG P w K mg base CX0 10 "_law_right" (spRight Tb) := c__law_right T.R lf__law_right
  refine g_of F sc_law (fun vs H Q E h => ?_) (fun cdv A outer s H vs Q E gd hr h => ?_)
  · obtain ⟨a, ns, rfl, _⟩ := h
    rfl
  · obtain ⟨a, ns, rfl, hS, hl, hT, q⟩ := h
    have hr : Room 11 _ := hr
    refine (?_ : ∃ t, PSs (cxOf CX0 P w K mg base N_law "law" (defScope s_law) f cdv A outer s H E).nox (defBody s_law) t ∧ t { nx := fun _ H' => Q .non H', rt := Q } (start N_law [.ref a]) H).elim fun t z => ⟨t, z.1.nox, z.2⟩
    refine ⟨_, (pss_cons (ps_set (i := 1) sc_law.nd rfl (by first | exact Or.inl rfl | exact Or.inr rfl) (pe_c c__law_pool hr (by decide) (by rfl) pass0 (pa_cons (pv 0) pa_nil)))
      (pss_cons (ps_set (i := 2) sc_law.nd rfl (by first | exact Or.inl rfl | exact Or.inr rfl) (pe_lst (pa_cons pe_non (pa_cons pe_int (pa_cons pe_int (pa_cons pe_str (pa_cons pe_str (pa_cons (pe_lst pa_nil) (pa_cons (pe_lst (pa_cons pe_str pa_nil)) (pa_cons (pe_tup (pa_cons pe_str (pa_cons pe_str pa_nil))) (pa_cons pe_dnewK pa_nil)))))))))))
      (pss_cons (ps_for PassesOwn.never rfl (pi_range1 (by rfl) T.n_range (pa_cons pe_int pa_nil)) (pg_name (i := 3) sc_law.nd rfl (by first | exact Or.inl rfl | exact Or.inr rfl)) (pss_cons (ps_asg (pe_tup (pa_cons (pe_c c__law_draw hr (by decide) (by rfl) pass0 (pa_cons (pv 1) (pa_cons pe_int pa_nil))) (pa_cons (pe_c c__law_draw hr (by decide) (by rfl) pass0 (pa_cons (pv 1) (pa_cons pe_int pa_nil))) pa_nil))) (pg_tup rfl (pgs_cons (pg_name (i := 9) sc_law.nd rfl (by first | exact Or.inl rfl | exact Or.inr rfl)) (pgs_cons (pg_name (i := 10) sc_law.nd rfl (by first | exact Or.inl rfl | exact Or.inr rfl)) pgs_nil))))
      (pss_cons (ps_set (i := 5) sc_law.nd rfl (by first | exact Or.inl rfl | exact Or.inr rfl) (pe_join pe_str (pe_lc (own := [("j", 12)]) (g := gName 12) (tt := tYes) rfl sc_law.nd (pi_range1 (by rfl) T.n_range (pa_cons (pv 10) pa_nil)) (blkOk_by (N := N_law) (sc := defScope s_law) (by decide +kernel)) (fun _ _ _ _ _ => (pg_name (i := 12) sc_law.nd rfl (by first | exact Or.inl rfl | exact Or.inr rfl))) (fun _ _ _ _ _ => pts_nil) (fun _ _ _ _ _ => (pe_ix (r := rIx K) ix_seq pe_str (pe_op op_mod (pe_callTy call_intX (by rfl) T.n_int (by decide +kernel) (pa_cons (pe_op (r := rAddX K) op_addX (pv 9) (pe_op op_muX pe_int (pv 12))) pa_nil)) pe_int) (fun _ _ => rfl))))))
      (pss_cons (ps_set (i := 6) sc_law.nd rfl (by first | exact Or.inl rfl | exact Or.inr rfl) (pe_c c__law_draw hr (by decide) (by rfl) pass0 (pa_cons (pv 1) (pa_cons (pe_op (r := rAddX K) op_addX (pv 10) pe_int) pa_nil))))
      (pss_cons (ps_set (i := 7) sc_law.nd rfl (by first | exact Or.inl rfl | exact Or.inr rfl) (pe_lst (pa_cons (pv 5) (pa_cons (pe_op (r := rAddX K) op_addX (pe_op (r := rAddX K) op_addX (pe_slice (r := rSlXX K) sl_X (pv 5) po_none (po_some (pv 6))) (pe_slice (r := rSlXX K) sl_X (pv 5) po_none (po_some pe_int))) (pe_slice (r := rSlXX K) sl_X (pv 5) (po_some (pv 6)) po_none)) (pa_cons (pe_op (r := rAddX K) op_addX (pe_op (r := rAddX K) op_addX (pe_slice (r := rSlXX K) sl_X (pv 5) po_none (po_some (pv 6))) pe_str) (pe_slice (r := rSlXX K) sl_X (pv 5) (po_some (pv 6)) po_none)) (pa_cons (pe_op (r := rAddX K) op_addX (pe_op (r := rAddX K) op_addX (pe_slice (r := rSlXX K) sl_X (pv 5) po_none (po_some (pv 6))) pe_str) (pe_slice (r := rSlXX K) sl_X (pv 5) (po_some (pv 6)) po_none)) pa_nil))))))
      (pss_one (ps_for PassesOwn.never rfl (pi_listK (K := K) rfl (pe_op (r := rAddX K) op_addX (pv 7) (pe_lst (pa_cons (pe_ix (r := rIx K) ix_seq (pv 2) (pe_c c__law_draw hr (by decide) (by rfl) pass0 (pa_cons (pv 1) (pa_cons pe_int pa_nil))) (fun _ _ => rfl)) pa_nil)))) (pg_name (i := 8) sc_law.nd rfl (by first | exact Or.inl rfl | exact Or.inr rfl)) (pss_one (ps_for PassesOwn.never rfl (pi_listK (K := K) rfl (pe_lst (pa_cons pe_bl (pa_cons pe_bl (pa_cons (pe_ix (r := rIx K) ix_seq (pv 2) (pe_c c__law_draw hr (by decide) (by rfl) pass0 (pa_cons (pv 1) (pa_cons pe_int pa_nil))) (fun _ _ => rfl)) pa_nil))))) (pg_name (i := 11) sc_law.nd rfl (by first | exact Or.inl rfl | exact Or.inr rfl)) (pss_one (ps_if (pt_not (pt_truK (K := K) rfl (pe_cG c__law_right hr gd (by decide) (by rfl) pass0 (pa_cons (pv 8) (pa_cons (pv 11) pa_nil))) (by intro _; rfl))) (pss_one (ps_ret pe_bl)) pss_nil)))))))))))
      (pss_cons (ps_for PassesOwn.never rfl (pi_listK (K := K) rfl (pv 2)) (pg_name (i := 4) sc_law.nd rfl (by first | exact Or.inl rfl | exact Or.inr rfl)) (pss_cons (ps_if (pt_not (pt_truK (K := K) rfl (pe_cG c__law_right hr gd (by decide) (by rfl) pass0 (pa_cons (pv 4) (pa_cons pe_bl pa_nil))) (by intro _; rfl))) (pss_one (ps_ret pe_bl)) pss_nil)
      (pss_cons (ps_if (pt_not (pt_truK (K := K) rfl (pe_cG c__law_right hr gd (by decide) (by rfl) pass0 (pa_cons pe_str (pa_cons (pv 4) pa_nil))) (by intro _; rfl))) (pss_one (ps_ret pe_bl)) pss_nil)
      (pss_one (ps_if (pt_not (pt_truK (K := K) rfl (pe_cG c__law_right hr gd (by decide) (by rfl) pass0 (pa_cons (pv 4) (pa_cons (pv 4) pa_nil))) (by intro _; rfl))) (pss_one (ps_ret pe_bl)) pss_nil)))))
      (pss_one (ps_ret pe_bl)))))), ?_⟩
    walk_at "gr"
    refine ⟨a, ns, rfl, hS, hl, fun p n H1 hP s1 np nn => ?_⟩
    have hT1 := hT.ext s1
    walk_at "gr"
    rename_i A1 H2 n2 s2 e2 A2 H3 n3 s3 e3 A3 H4 n4 s4 e4 A4 H5 n5 s5 e5 L H6 n6 s6 e6
    have hP2 := hP.same s2
    have hP3 := hP2.same s3
    have hP4 := hP3.same s4
    have hP5 := hP4.same s5
    have hP6 := hP5.same s6
    have hO : OddAt A1 A2 A3 A4 L H6 := ⟨s6 _ _ (s5 _ _ (s4 _ _ (s3 _ _ e2))), s6 _ _ (s5 _ _ (s4 _ _ e3)), s6 _ _ (s5 _ _ e4), s6 _ _ e5, e6⟩
    have np : ∀ b, (b = A1 ∨ b = A2 ∨ b = A3 ∨ b = A4 ∨ b = L) → b ≠ p ∧ b ≠ n := fun b hb => by
      rcases hb with rfl | rfl | rfl | rfl | rfl
      · exact hP.ne n2
      · exact hP2.ne n3
      · exact hP3.ne n4
      · exact hP4.ne n5
      · exact hP5.ne n6
    have hT6 : LamX.Tabs Tb H6 := hT1.ext ((((s2.trans s3).trans s4).trans s5).trans s6)
    refine fow (xs := intsV 8) wx_range (fun i σ' H' => ∃ v3 v5 v6 v7 v8 v9 v10 v11 : Option V, σ' = [some (.ref a), some (.ref p), some (.ref L), v3, none, v5, v6, v7, v8, v9, v10, v11, none] ∧ PoolAt H' p n (100 * i) ∧ LamX.Tabs Tb H' ∧ OddAt A1 A2 A3 A4 L H')
      ⟨none, none, none, none, none, none, none, none, rfl, hP6.mono (by omega), hT6, hO⟩ (fun _ _ _ _ => trivial) (fun i x σ' H' hx ⟨v3, v5, v6, v7, v8, v9, v10, v11, es, hP, hT, hO⟩ => ?_) (fun σ' H' ⟨v3, v5, v6, v7, v8, v9, v10, v11, es, hP, hT, hO⟩ => ?_)
    · obtain ⟨hi, rfl⟩ := intsV_at hx
      subst es
      walk_at "gr"
      refine ⟨p, n, 26, 100 * i, rfl, hP, by omega, by omega, by decide, by decide, fun st Ha st0 st1 hPa ka => ?_⟩
      have hTa := ka.tabs hP hT
      have hOa := hO.keep ka hP np
      walk_at "gr"
      refine ⟨p, n, 11, 100 * i + 1, rfl, hPa, by omega, by omega, by decide, by decide, fun mn Hb mn0 mn1 hPb kb => ?_⟩
      have hTb := kb.tabs hPa hTa
      have hOb := hOa.keep kb hPa np
      obtain ⟨m, rfl⟩ := Int.eq_ofNat_of_zero_le mn0
      walk_at "gr"
      rename_i q0 Hc nc sc ec
      have hTc := hTb.ext sc
      have hPc := hPb.same sc
      have hOc := hOb.ext (Ext.of (T := Tb) sc)
      refine ⟨q0, _, rfl, SqT.of ec, rfl, ?_⟩
      refine ⟨.int st, [.int m], rfl, ?_⟩
      refine i_name ?_
      refine ⟨.int m, [], rfl, ?_⟩
      refine i_name ?_
      refine ⟨rfl, ?_⟩
      walk_at "gr"
      refine lcw_fm (xs := intsV m) (j := 12) wx_range (fun _ => true) (letV st) (fun _ _ => trivial) (by rw [intsV_len]; omega) (fun _ => rfl) (fun x _ H' R _ k => k H' (Same.refl H')) (fun x hx _ H' R _ k => ?_) (fun d H7 n7 s7 h7 => ?_)
      · obtain ⟨j, hj, rfl⟩ := List.mem_map.mp hx
        have hj := List.mem_range.mp hj
        walk_at "gr"
        exact p_ixS (by decide +kernel) (let_at st j).1 (k _ (Same.refl _))
      · walk_at "gr"
        obtain ⟨cs, hcs⟩ : ∃ cs, cs = (List.range m).map fun j : Nat => letN st j := ⟨_, rfl⟩
        have ecs : ((intsV m).filter fun _ => true).map (letV st) = (cs.map fun c => (⟨#[c]⟩ : Str)).map V.str := by
          rw [List.filter_eq_self.mpr (fun _ _ => rfl), hcs, intsV, List.map_map, List.map_map, List.map_map]
          rfl
        rw [ecs] at h7
        have lcs : cs.length = m := by rw [hcs, List.length_map, List.length_range]
        refine ⟨Str.ofString "", d, cs.map fun c => (⟨#[c]⟩ : Str), rfl, rfl, .inl (SqL.of h7), by rw [sum_ones]; show cs.length + _ * 0 ≤ _; omega, ?_⟩
        rw [show Txt.join (Str.ofString "") (cs.map fun c => (⟨#[c]⟩ : Str)) = ⟨cs.toArray⟩ from join_chars cs]
        have hz : Sm ⟨cs.toArray⟩ 10 := by
          refine ⟨by show cs.toArray.size ≤ 10; rw [List.size_toArray]; omega, fun c hc => ?_⟩
          have hc : c ∈ cs := by simpa using hc
          rw [hcs] at hc
          obtain ⟨j, _, rfl⟩ := List.mem_map.mp hc
          exact (let_at st j).2
        generalize (⟨cs.toArray⟩ : Str) = z at hz
        have hT7 := hTc.ext s7
        have hP7 := hPc.same s7
        have hO7 := hOc.ext (Ext.of (T := Tb) s7)
        walk_at "gr"
        refine ⟨p, n, (m : Int) + 1, 100 * i + 2, rfl, hP7.mono (by omega), by omega, by omega, by omega, Nat.lt_of_lt_of_le (PySem.Flt.log2_lt_of (k := 100) (by decide) (Nat.lt_trans (show ((m : Int) + 1).natAbs < 1000 by omega) (by decide))) (by decide), fun t H8 t0 t1 hP8 k8 => ?_⟩
        obtain ⟨t, rfl⟩ := Int.eq_ofNat_of_zero_le t0
        have hT8 := k8.tabs (hP7.mono (j := 100 * i + 2) (by omega)) hT7
        have hO8 := hO7.keep k8 (hP7.mono (j := 100 * i + 2) (by omega)) np
        have zl : z.length ≤ sizeLine := Nat.le_trans hz.1 (show 10 ≤ sizeLine by decide)
        have c1 : Sm (cutS z none (some (t : Int))) 10 := hz.to
        have c2 : Sm (cutS z none (some 1)) 10 := hz.to (k := 1)
        have c3 : Sm (cutS z (some (t : Int)) none) 10 := hz.from
        have d1 : Sm (cutS z none (some (t : Int)) ++ cutS z none (some 1)) 20 := c1.app c2
        have d2 : Sm (cutS z none (some (t : Int)) ++ Str.ofString "\n") 11 := c1.app (m := 1) ⟨by decide, by decide +kernel⟩
        have d3 : Sm (cutS z none (some (t : Int)) ++ Str.ofString " ~") 12 := c1.app (m := 2) ⟨by decide, by decide +kernel⟩
        have f1 := d1.app c3
        have f2 := d2.app c3
        have f3 := d3.app c3
        have big : 100 ≤ sizeLine := by decide
        have w1 : (cutS z none (some (t : Int))).length + (cutS z none (some 1)).length ≤ sizeLine := by have := c1.1; have := c2.1; omega
        have w2 : (cutS z none (some (t : Int)) ++ cutS z none (some 1)).length + (cutS z (some (t : Int)) none).length ≤ sizeLine := by have := d1.1; have := c3.1; omega
        have w3 : (cutS z none (some (t : Int))).length + (Str.ofString "\n").length ≤ sizeLine := by have := c1.1; have : (Str.ofString "\n").length = 1 := rfl; omega
        have w4 : (cutS z none (some (t : Int)) ++ Str.ofString "\n").length + (cutS z (some (t : Int)) none).length ≤ sizeLine := by have := d2.1; have := c3.1; omega
        have w5 : (cutS z none (some (t : Int))).length + (Str.ofString " ~").length ≤ sizeLine := by have := c1.1; have : (Str.ofString " ~").length = 2 := rfl; omega
        have w6 : (cutS z none (some (t : Int)) ++ Str.ofString " ~").length + (cutS z (some (t : Int)) none).length ≤ sizeLine := by have := d3.1; have := c3.1; omega
        walk_at "gr"
        rename_i M H9 n9 s9 e9
        have hP9 := hP8.same s9
        have hT9 := hT8.ext s9
        have hO9 := hO8.ext (Ext.of (T := Tb) s9)
        have nM := hP8.ne n9
        refine ⟨p, n, 9, 100 * i + 3, rfl, hP9.mono (by omega), by omega, by omega, by decide, by decide, fun r Ha r0 r1 hPa ka => ?_⟩
        have hTa := ka.tabs (hP9.mono (j := 100 * i + 3) (by omega)) hT9
        have hOa := hO9.keep ka (hP9.mono (j := 100 * i + 3) (by omega)) np
        have e9a := ka _ _ e9 nM.1 nM.2
        obtain ⟨x5, hx5, mx5⟩ := odds_at (A1 := A1) (A2 := A2) (A3 := A3) (A4 := A4) r0 r1
        refine p_ixL (SqL.of hOa.eL) hx5 ?_
        walk_at "gr"
        rename_i M2 Hb nb sb eb M3 Hg ng sg eg
        have sbg := sb.trans sg
        have hPg := hPa.same sbg
        have hTg := hTa.ext sbg
        have hOg := hOa.ext (Ext.of (T := Tb) sbg)
        have nM3 := (hPa.same sb).ne ng
        obtain ⟨xs, exs⟩ : ∃ xs, xs = [V.str z, .str (cutS z none (some (t : Int)) ++ cutS z none (some 1) ++ cutS z (some (t : Int)) none), .str (cutS z none (some (t : Int)) ++ Str.ofString "\n" ++ cutS z (some (t : Int)) none), .str (cutS z none (some (t : Int)) ++ Str.ofString " ~" ++ cutS z (some (t : Int)) none)] ++ [x5] := ⟨_, rfl⟩
        have lx : xs.length = 5 := by rw [exs]; rfl
        rw [← exs] at eg
        have all : ∀ x ∈ xs, ∀ H', OddAt A1 A2 A3 A4 L H' → ∃ k d, It Tb H' x k d := fun x hx H' o => by
          rw [exs] at hx
          simp only [List.cons_append, List.nil_append, List.mem_cons, List.not_mem_nil, or_false] at hx
          rcases hx with rfl | rfl | rfl | rfl | rfl
          · exact ⟨_, _, hz.it (by decide)⟩
          · exact ⟨_, _, f1.it (by decide)⟩
          · exact ⟨_, _, f2.it (by decide)⟩
          · exact ⟨_, _, f3.it (by decide)⟩
          · exact o.it x mx5
        refine fow (xs := xs) wx_list (fun j σ' H' => ∃ v8 v11 : Option V, σ' = [some (.ref a), some (.ref p), some (.ref L), some (.int i), none, some (.str z), some (.int t), some (.ref M), v8, some (.int st), some (.int m), v11, none] ∧ PoolAt H' p n (100 * i + 4 + j) ∧ LamX.Tabs Tb H' ∧ OddAt A1 A2 A3 A4 L H' ∧ H' M3 = some (.lst xs))
          ⟨v8, v11, rfl, hPg.mono (by omega), hTg, hOg, eg⟩ (fun _ _ _ ⟨_, _, _, _, _, _, y⟩ => SqL.of y) (fun j x σ' H' hx ⟨v8, v11, es, hP, hT, hO, eM⟩ => ?_) (fun σ' H' ⟨v8, v11, es, hP, hT, hO, eM⟩ => ?_)
        · subst es
          have hj : j < 5 := by rw [← lx]; exact (List.getElem?_eq_some_iff.mp hx).1
          walk_at "gr"
          refine ⟨p, n, 9, 100 * i + 4 + j, rfl, hP, by omega, by omega, by decide, by decide, fun r Hh r0 r1 hPh kh => ?_⟩
          have hTh := kh.tabs hP hT
          have hOh := hO.keep kh hP np
          have eMh := kh _ _ eM nM3.1 nM3.2
          obtain ⟨y, hy, my⟩ := odds_at (A1 := A1) (A2 := A2) (A3 := A3) (A4 := A4) r0 r1
          refine p_ixL (SqL.of hOh.eL) hy ?_
          walk_at "gr"
          rename_i M4 Hi ni si ei
          have both : ∀ w ∈ [V.bl true, .bl false, y], ∀ H', OddAt A1 A2 A3 A4 L H' → ∃ k d, It Tb H' w k d := fun w hw H' o => by
            simp only [List.mem_cons, List.not_mem_nil, or_false] at hw
            rcases hw with rfl | rfl | rfl
            · exact it_bl true
            · exact it_bl false
            · exact o.it w my
          refine fow (xs := [.bl true, .bl false, y]) wx_list (fun _ σ' H' => ∃ v11 : Option V, σ' = [some (.ref a), some (.ref p), some (.ref L), some (.int i), none, some (.str z), some (.int t), some (.ref M), some x, some (.int st), some (.int m), v11, none] ∧ PoolAt H' p n (100 * i + 4 + j + 1) ∧ LamX.Tabs Tb H' ∧ OddAt A1 A2 A3 A4 L H' ∧ H' M3 = some (.lst xs) ∧ H' M4 = some (.lst [.bl true, .bl false, y]))
            ⟨v11, rfl, hPh.same si, hTh.ext si, hOh.ext (Ext.of (T := Tb) si), si _ _ eMh, ei⟩ (fun _ _ _ ⟨_, _, _, _, _, _, q⟩ => SqL.of q) (fun l w σ' H' hw ⟨v11, es, hP, hT, hO, eM, e4⟩ => ?_) (fun σ' H' ⟨v11, es, hP, hT, hO, eM, e4⟩ => ?_)
          · subst es
            obtain ⟨kx, dx, ix⟩ := all x (List.mem_of_getElem? hx) H' hO
            obtain ⟨kw, dw, iw⟩ := both w (List.mem_of_getElem? hw) H' hO
            walk_at "gr"
            refine ⟨x, w, kx, kw, dx, dw, rfl, hT, ix, iw, fun Ha xa => ?_⟩
            walk_at "gr"
            exact ⟨_, rfl, xa.pool hP, xa.tab hT, hO.ext xa, xa.get eM (fun _ z => nomatch z), xa.get e4 (fun _ z => nomatch z)⟩
          · subst es
            exact ⟨_, _, rfl, hP.mono (by push_cast; omega), hT, hO, eM⟩
        · subst es
          rw [lx] at hP
          exact ⟨_, _, _, _, _, _, _, _, rfl, hP.mono (by push_cast; omega), hT, hO⟩
    · subst es
      walk_at "gr"
      refine ⟨L, rfl, ⟨_, SqL.of hO.eL⟩, ?_⟩
      refine fow (xs := oddsV A1 A2 A3 A4) wx_list (fun i σ' H' => ∃ v4 : Option V, σ' = [some (.ref a), some (.ref p), some (.ref L), v3, v4, v5, v6, v7, v8, v9, v10, v11, none] ∧ LamX.Tabs Tb H' ∧ OddAt A1 A2 A3 A4 L H') ⟨none, rfl, hT, hO⟩ (fun i σ' H' ⟨_, _, _, y⟩ => SqL.of y.eL) (fun i x σ' H' hx ⟨v4, es, hT, hO⟩ => ?_) (fun σ' H' ⟨v4, es, hT, hO⟩ => ?_)
      · subst es
        obtain ⟨kx, dx, ix⟩ := hO.it x (List.mem_of_getElem? hx)
        obtain ⟨kb, db, ib⟩ := it_bl (Tb := Tb) (H := H') false
        have ia : It Tb H' (.str "ab") .str (.str "ab") := Sm.it (n := 2) ⟨by decide, by decide +kernel⟩ (by decide)
        walk_at "gr"
        refine ⟨x, .bl false, kx, kb, dx, db, rfl, hT, ix, ib, fun Ha xa => ?_⟩
        walk_at "gr"
        refine ⟨.str "ab", x, .str, kx, _, dx, rfl, xa.tab hT, ia.ext xa, ix.ext xa, fun Hb xb => ?_⟩
        have xab := xa.trans xb
        walk_at "gr"
        refine ⟨x, x, kx, kx, dx, dx, rfl, xab.tab hT, ix.ext xab, ix.ext xab, fun Hc xc => ?_⟩
        walk_at "gr"
        have xabc := xab.trans xc
        exact ⟨_, rfl, xabc.tab hT, hO.ext xabc⟩
      · subst es
        walk_at "gr"
        exact q _
end
end Pk

/-! the end of a law whose defs make lambdas, its guards empty -/
namespace Pk
open PySem PySem.Spec PyProof.Rows L2
/-- the law's own heap: its script, if the text doesn't hold it, and the tables -/
def lawH (K : PySem.W.Frag) (a : Addr) (ob : Obj) (zs : List V) (ts : List Addr) : Hp := fun b => if b = a ∧ (K.lookup a).isNone = true then some (.frz ob (.lst zs)) else if b ∈ ts then some (.tbl #[]) else none
section
variable {P : Program} {w : World} {K : PySem.W.Frag} {mg mb : Str → Option Value} {CX : CXT} {k : Nat} {fa a : Addr} {cs : List (Addr × Addr)} {fd : FuncData} {x : Str} {sp : Sp} {s₁ : Shared} {vs : List Value} {ns : List Int} {ob : Obj} {zs : List V} {ts : List Addr} {b : Addr} {o : HO}
theorem lawH_is (e : lawH K a ob zs ts b = some o) : (b = a ∧ K.lookup a = none ∧ o = .frz ob (.lst zs)) ∨ (b ∈ ts ∧ o = .tbl #[]) := by
  unfold lawH at e
  by_cases h1 : b = a ∧ (K.lookup a).isNone = true
  · rw [if_pos h1] at e
    exact .inl ⟨h1.1, Option.isNone_iff_eq_none.mp h1.2, (Option.some.inj e).symm⟩
  · rw [if_neg h1] at e
    by_cases h2 : b ∈ ts
    · rw [if_pos h2] at e
      exact .inr ⟨h2, (Option.some.inj e).symm⟩
    · rw [if_neg h2] at e
      cases e
theorem lawH_tab (h1 : b ∈ ts) (h2 : b ≠ a) : lawH K a ob zs ts b = some (.tbl #[]) := by
  unfold lawH
  rw [if_neg fun z => h2 z.1, if_pos h1]
theorem lawH_at (h : K.lookup a = none) : lawH K a ob zs ts a = some (.frz ob (.lst zs)) := by
  unfold lawH
  rw [if_pos ⟨rfl, by rw [h]; rfl⟩]
structure Tabled (h : Heap) (K : PySem.W.Frag) (cs : List (Addr × Addr)) : Prop where
  new : ∀ p ∈ cs, h.get? p.2 = some { cls := .none, data := .fields #[] }
  out : ∀ p ∈ cs, K.lookup p.2 = none
  code : ∀ p ∈ cs, PySem.W.CodeHd h p.1 p.2
theorem law_callGT (KX : K.In s₁.heap) (hns : s₁.heap.Ns mainGlobals mg) (hb : s₁.heap.Ns builtinsNs mb) (hbb : ∀ x : Str, x ≠ "__name__" → mb x = bootBuiltins x) (free : s₁.heap.NoLimit) (hg : s₁.gens = #[]) (tb : Tabled s₁.heap K cs)
    (hbm : ∃ (bm : Addr) (ob : Obj), mg "__builtins__" = some (.ref bm) ∧ bm ≠ builtinsNs ∧ s₁.heap.get? bm = some ob ∧ ob.cls = .type "module" ∧ ob.dict = some builtinsNs ∧ ob.data = .plain)
    (ha : s₁.heap.get? a = some { cls := .type "list", data := .seq vs.toArray }) (hi : IntsAre vs ns) (hl : ns.length ≤ sizeLine) (room : Room k callerA)
    (F : ∀ base : Heap, K.In base → base.Ns mainGlobals mg → (∀ p ∈ cs, LamX.TabB base mg p.1 p.2) → GOk P w K mg base CX k fa fd [x] sp) (binds : ∀ (s : Shared) (u : Value), BindsTo s fd ⟨[u], []⟩ [(x, u)])
    (hsp : ∀ H : Hp, (∀ p ∈ cs, H p.2 = some (.tbl #[])) → SqL K H a (ns.map V.int) → sp [.ref a] H (fun v _ => v = .bl true) fun _ _ _ => False) (calm : ∀ H e s', CX [] H s₁ (fun _ _ _ => False) e s' → False) :
    codeAny (model P w) callerA (.call (.ref fa) ⟨[.ref a], []⟩) (fun r s' => r = .ok (.ret (.bool true)) ∧ OldK s₁.heap s'.heap ∧ s'.os = s₁.os ∧ AllBare s'.gens) s₁ := by
  have rel := vals_ints hi
  obtain ⟨ts, hts⟩ : ∃ ts, ts = cs.map (·.2) := ⟨_, rfl⟩
  have tin : ∀ p ∈ cs, p.2 ∈ ts := fun p hp => by rw [hts]; exact List.mem_map_of_mem hp
  have tat : ∀ b ∈ ts, ∃ p ∈ cs, p.2 = b := fun b hb => by
    rw [hts] at hb
    obtain ⟨p, hp, e⟩ := List.mem_map.mp hb
    exact ⟨p, hp, e⟩
  have ta : ∀ b ∈ ts, b ≠ a := fun b hb z => by
    obtain ⟨p, hp, e⟩ := tat b hb
    have q := tb.new p hp
    rw [e, z, ha] at q
    cases congrArg Obj.data (Option.some.inj q)
  obtain ⟨H, hH⟩ : ∃ H, H = lawH K a { cls := .type "list", data := .seq vs.toArray } (ns.map V.int) ts := ⟨_, rfl⟩
  have isH : ∀ {b o}, H b = some o → (b = a ∧ K.lookup a = none ∧ o = .frz { cls := .type "list", data := .seq vs.toArray } (.lst (ns.map V.int))) ∨ (b ∈ ts ∧ o = .tbl #[]) := fun e => lawH_is (by rw [← hH]; exact e)
  have okL : ObjOk P w H s₁.heap a (.lst (ns.map V.int)) := ⟨by rw [List.length_map]; exact hl, vs, _, rel, ha⟩
  have ok : HOk P w H s₁.heap := fun b o e => by
    rcases isH e with ⟨rfl, _, rfl⟩ | ⟨h1, rfl⟩
    · exact ⟨ha, okL⟩
    · obtain ⟨p, hp, rfl⟩ := tat b h1
      exact tb.new p hp
  have hS : SqL K H a (ns.map V.int) := by
    cases q : K.lookup a with
    | none => exact .inl (.inr ⟨_, by rw [hH]; exact lawH_at q⟩)
    | some o =>
      have e := KX a o q
      rw [ha] at e
      cases e
      exact .inr ⟨_, vs.toArray, _, q, rfl, rfl, rfl, by rw [List.size_toArray, hi.length]; exact hl, by simpa using rel⟩
  have bare : ∀ {b : Addr} {ob : Obj}, s₁.heap.get? b = some ob → (∀ us n, ob.data ≠ .seq us n) → ob.data ≠ .fields #[] → H b = none := fun {b ob} e n1 n2 => by
    cases q : H b with
    | none => rfl
    | some u =>
      rcases isH q with ⟨rfl, _, _⟩ | ⟨h1, _⟩
      · rw [ha] at e
        cases e
        exact absurd rfl (n1 _ _)
      · obtain ⟨p, hp, rfl⟩ := tat b h1
        rw [tb.new p hp] at e
        cases e
        exact absurd rfl n2
  have stays : ∀ {b : Addr} {m : Str → Option Value}, s₁.heap.Ns b m → (hidT s₁.heap H).Ns b m := fun {b m} z => by
    obtain ⟨o, es, ep, e, d, r⟩ := z
    refine ⟨o, es, ep, hidT_get e (bare e (fun us n y => ?_) fun y => ?_), d, r⟩
    · rw [d] at y
      cases y
    · rw [d] at y
      cases y
  have kin : K.In (hidT s₁.heap H) := fun b o e => by
    refine hidT_get (KX b o e) ?_
    cases q : H b with
    | none => rfl
    | some u =>
      rcases isH q with ⟨rfl, y, _⟩ | ⟨h1, _⟩
      · rw [e] at y
        cases y
      · obtain ⟨p, hp, rfl⟩ := tat b h1
        rw [tb.out p hp] at e
        cases e
  have tabs : ∀ p ∈ cs, LamX.TabB (hidT s₁.heap H) mg p.1 p.2 := fun p hp => by
    refine ⟨?_, ?_, fun z => ?_⟩
    · obtain ⟨o, us, file, tf, flags, tg, inF, text, tt, e1, r1, r2, r3, r⟩ := tb.code p hp
      refine ⟨o, us, file, tf, flags, tg, inF, text, tt, hidT_get e1 (bare e1 (fun us n y => ?_) fun y => ?_), r1, r2, r3, r⟩
      · rw [r2] at y
        cases y
      · rw [r2] at y
        cases y
        simp at r3
    · obtain ⟨bm, ob, b1, b2, b3, b4, b5, b6⟩ := hbm
      refine ⟨bm, ob, b1, b2, fun q => ?_, fun q => ?_, hidT_get b3 (bare b3 (fun us n y => ?_) fun y => ?_), b4, b5, b6⟩
      · obtain ⟨o, es, ep, e, d, _⟩ := hns
        rw [q, e] at b3
        cases b3
        rw [d] at b6
        cases b6
      · rw [q, tb.new p hp] at b3
        cases b3
        cases b6
      · rw [b6] at y
        cases y
      · rw [b6] at y
        cases y
    · obtain ⟨o, es, ep, e, d, _⟩ := hns
      rw [z, tb.new p hp] at e
      cases e
      cases d
  have e0 : Env0 P w K mg (hidT s₁.heap H) callerA [] s₁ H := ⟨rfl, ⟨kin, stays hns, ⟨mb, stays hb, hbb⟩, free.elim fun mc z => ⟨mc, stays z.1, z.2⟩⟩, fun b o e => of_hidT e, Nat.le_of_eq (hidT_size _ _), trivial, fun b z => absurd (show b ∈ ([] : List Addr) from z) (by simp), ok, .of_eq hg⟩
  have hTb : ∀ p ∈ cs, H p.2 = some (.tbl #[]) := fun p hp => by
    rw [hH]
    exact lawH_tab (tin p hp) (ta _ (tin p hp))
  refine codeAny_mono ((F _ kin (stays hns) tabs).go callerA [] s₁ H ⟨[.ref a], []⟩ [.ref a] [.ref a] _ _ rfl room e0 (binds s₁ (.ref a)) (.cons rfl .nil) (hsp H hTb hS)) fun r s' h => ?_
  match r, h with
  | .error e, h => exact (calm H e s' h).elim
  | .ok (.ret u), h =>
    obtain ⟨v, H', os, bare', un, ok', ru, rfl⟩ := h
    obtain rfl : u = Value.bool true := ru
    have kept : ∀ b o, b ∉ ts → s₁.heap.get? b = some o → s'.heap.get? b = some o := fun b o nb e => by
      cases q : H b with
      | none => exact un.keep b o e q (by intro z; exact absurd (show b ∈ ([] : List Addr) from z) (by simp)) (by simp)
      | some u =>
        rcases isH q with ⟨rfl, _, rfl⟩ | ⟨h1, _⟩
        · have e1 := (ok b _ q).1
          have e2 := (ok' b _ (un.frzs b _ _ q)).1
          rw [e] at e1
          cases e1
          exact e2
        · exact absurd h1 nb
    have grown : ∀ p ∈ cs, ∃ more : Array Value, s'.heap.get? p.2 = some { cls := .none, data := .fields more } := fun p hp => by
      obtain ⟨more, z⟩ := un.tbls p.2 #[] (hTb p hp)
      exact ⟨_, ok' p.2 _ z⟩
    refine ⟨rfl, ⟨fun b o e => ?_, fun b o e => ?_⟩, os, bare'⟩
    · by_cases q : b ∈ ts
      · obtain ⟨p, hp, rfl⟩ := tat b q
        obtain ⟨more, hm⟩ := grown p hp
        have e' := e
        rw [tb.new p hp] at e'
        cases e'
        exact .inr (.inl ⟨((tb.code p hp).tab (tb.new p hp)).isCodeTable, rfl, #[], more, rfl, by rw [Array.empty_append]; exact hm⟩)
      · exact .inl (kept b o q e)
    · by_cases q : b ∈ ts
      · obtain ⟨p, hp, rfl⟩ := tat b q
        obtain ⟨more, hm⟩ := grown p hp
        exact ⟨_, hm⟩
      · exact ⟨o, kept b o q e⟩
  | .ok .next, h => exact h.elim
  | .ok .brk, h => exact h.elim
  | .ok .cont, h => exact h.elim
/-- what is known of the law at the heap that the top leaves -/
def LawAtG (l : PySem.W.OpenLaw) (w : World) (K : PySem.W.Frag) (CX : CXT) (k n : Nat) (x : Str) (mg : Str → Option Value) (fa : Addr) (h : Heap) : Prop :=
  ∃ (fd : FuncData) (cs : List (Addr × Addr)) (sp : Sp), Tabled h K cs ∧ (∀ (s : Shared) (u : Value), BindsTo s fd ⟨[u], []⟩ [(x, u)]) ∧ (∀ (H : Hp) (a : Addr) (ns : List Int), ns.length ≤ n → (∀ p ∈ cs, H p.2 = some (.tbl #[])) → SqL K H a (ns.map V.int) → sp [.ref a] H (fun v _ => v = .bl true) fun _ _ _ => False) ∧
    ∀ base : Heap, K.In base → base.Ns mainGlobals mg → (∀ p ∈ cs, LamX.TabB base mg p.1 p.2) → GOk l.prog w K mg base CX k fa fd [x] sp
theorem walk_GT {l : PySem.W.OpenLaw} {n k : Nat} {q : Program} {loose : List Str} {XP : (Str → Option Value) → Heap → Prop} {YP : World → Heap → Prop} {d : DefRec} {K : Params → PySem.W.Frag} {CX : World → CXT} {x : Str} (hn : l.most = some n) (hn2 : n ≤ sizeLine) (hdf : d.params.defaults = []) (room : Room k callerA)
    (hY : ∀ (w : World) (h : Heap), YP w h → (K w.params).In h) (F : ∀ (w : World) (mg : Str → Option Value) (fa : Addr) (h : Heap), YP w h → (K w.params).In h → h.Ns mainGlobals mg → mg d.name = some (.ref fa) → LawAtG l w (K w.params) (CX w) k n x mg fa h)
    (calm : ∀ (w : World) (H : Hp) (s : Shared) (e : Value) (s' : Shared), CX w [] H s (fun _ _ _ => False) e s' → False) :
    PySem.W.WalkO q loose XP YP l.row.toRowW d [] (fun f vs => PySem.call f vs) := by
  refine Att.attach_callB hn hdf fun w s₀ s₁ mg mb fa o pm cd doc a vs ns G Y ho hd hcd hmg hobj hints hlen hbits hg => ?_
  have KX := hY w _ Y
  obtain ⟨fd, cs, sp, tb, hb, hsp, hF⟩ := F w mg fa _ Y KX G.T.g hmg
  exact law_callGT KX G.T.g G.T.b G.T.builtins G.T.nolimit hg tb G.T.bmain hobj hints (Nat.le_trans hlen hn2) room hF hb (fun H h1 h2 => hsp H a ns hlen h1 h2) fun H e s' => calm w H s₁ e s'
end
end Pk

namespace Pk
open PySem PySem.Spec PyProof.Rows L2
/-! ### what the top has written; the law's own head -/
theorem any3 {K : PySem.W.Frag} {cls a b c : Value} {x y z : Bool} (h1 : PySem.W.exmOne K cls a = some x) (h2 : PySem.W.exmOne K cls b = some y) (h3 : PySem.W.exmOne K cls c = some z) : PySem.W.exmAny K cls [a, b, c] = some (x || (y || (z || false))) := by
  simp [PySem.W.exmAny, h1, h2, h3]
theorem all_mk {l : PySem.W.OpenLaw} {w : World} {K : PySem.W.Frag} {h : Heap} {mg : Str → Option Value} {fa : Addr} (X : K.In h) (G : h.Ns mainGlobals mg) (hfa : mg "law" = some (.ref fa))
    {C : Addr}
    {t_MOST_IGNORED : Tok}
    {f0 : Addr} {od0 an0 : Option Addr} {sl0 : Array (Option Value)} {oc0 kV0 dc0 pm0 cd0 ct0 : Value}
    {f1 : Addr} {od1 an1 : Option Addr} {sl1 : Array (Option Value)} {oc1 kV1 dc1 pm1 cd1 ct1 : Value}
    {f2 : Addr} {od2 an2 : Option Addr} {sl2 : Array (Option Value)} {oc2 kV2 dc2 pm2 cd2 ct2 : Value}
    {f3 : Addr} {od3 an3 : Option Addr} {sl3 : Array (Option Value)} {oc3 kV3 dc3 pm3 cd3 ct3 : Value}
    {f4 : Addr} {od4 an4 : Option Addr} {sl4 : Array (Option Value)} {oc4 kV4 dc4 pm4 cd4 ct4 : Value}
    {f5 : Addr} {od5 an5 : Option Addr} {sl5 : Array (Option Value)} {oc5 kV5 dc5 pm5 cd5 ct5 : Value}
    {f6 : Addr} {od6 an6 : Option Addr} {sl6 : Array (Option Value)} {oc6 kV6 dc6 pm6 cd6 ct6 : Value}
    {E0 : Addr}
    {E1 : Addr}
    {E2 : Addr}
    {E3 : Addr}
    {E4 : Addr}
    {E5 : Addr}
    {E6 : Addr}
    {E7 : Addr}
    {E8 : Addr}
    {E9 : Addr}
    {E10 : Addr}
    {E11 : Addr}
    {E12 : Addr}
    {E13 : Addr}
    {E14 : Addr}
    {E15 : Addr}
    {EL : Addr}
    {f7 : Addr} {od7 an7 : Option Addr} {sl7 : Array (Option Value)} {oc7 kV7 dc7 pm7 cd7 ct7 : Value}
    {f8 : Addr} {od8 an8 : Option Addr} {sl8 : Array (Option Value)} {oc8 kV8 dc8 pm8 cd8 ct8 : Value}
    {nm_E6 q_E6 : Str} {N_E6 : Addr} {bs_E6 bm_E6 sub_E6 : List Value} {sn_E6 : List Str} {ab_E6 : Bool} {col_E6 : Option Bool} {dd_E6 : Option Addr} {m0_E6 m1_E6 m2_E6 m3_E6 m5_E6 : Option Value}
    {f9 : Addr} {od9 an9 : Option Addr} {sl9 : Array (Option Value)} {oc9 kV9 dc9 pm9 cd9 ct9 : Value}
    {f10 : Addr} {od10 an10 : Option Addr} {sl10 : Array (Option Value)} {oc10 kV10 dc10 pm10  ct10 : Value}
    {cr : Addr}
    {Pr : Addr} {ob_Pr : Obj} {vs_Pr : Array Value}
    {f11 : Addr} {od11 an11 : Option Addr} {sl11 : Array (Option Value)} {oc11 kV11 dc11 pm11 cd11 ct11 : Value}
    (aC : PySem.W.nsIn K mainGlobals "Layout" = some (some (.ref C)))
    (C_pg : PySem.W.plainGet K C Str.empty = true)
    (C_hd : PySem.W.hasDictIn K C = true)
    (C_po : PySem.W.plainOver K C = true)
    (C_sa : PySem.W.findIn K (.ref C) "__setattr__" = some (some (.builtin "object.__setattr__")))
    (C_mk : PySem.W.makesIn K C = true)
    (C_kc : PySem.W.keepIn K (.ref C) = true)
    (z_isinstance : PySem.W.nsIn K mainGlobals "isinstance" = some none)
    (z_str : PySem.W.nsIn K mainGlobals "str" = some none)
    (z_len : PySem.W.nsIn K mainGlobals "len" = some none)
    (z_set : PySem.W.nsIn K mainGlobals "set" = some none)
    (z_all : PySem.W.nsIn K mainGlobals "all" = some none)
    (g_MOST_IGNORED : PySem.W.nsIn K mainGlobals "MOST_IGNORED" = some (some (.int 8 t_MOST_IGNORED)))
    (a0 : PySem.W.nsIn K mainGlobals "is_plain" = some (some (.ref f0)))
    (l0 : K.lookup f0 = some ⟨oc0, od0, .func (PySem.W.fnOf "is_plain" "is_plain" (defArgs s_is_plain) (defBody s_is_plain) (defScope s_is_plain) .none kV0 dc0 pm0 an0 cd0 ct0), sl0⟩)
    (c0 : PySem.W.codeIn K cd0 "is_plain" = true)
    (k0 : PySem.W.keepIn K (.ref f0) = true)
    (a1 : PySem.W.nsIn K mainGlobals "_can_be_ignored" = some (some (.ref f1)))
    (l1 : K.lookup f1 = some ⟨oc1, od1, .func (PySem.W.fnOf "_can_be_ignored" "_can_be_ignored" (defArgs s__can_be_ignored) (defBody s__can_be_ignored) (defScope s__can_be_ignored) .none kV1 dc1 pm1 an1 cd1 ct1), sl1⟩)
    (c1 : PySem.W.codeIn K cd1 "_can_be_ignored" = true)
    (k1 : PySem.W.keepIn K (.ref f1) = true)
    (a2 : PySem.W.nsIn K mainGlobals "_law_is_good" = some (some (.ref f2)))
    (l2 : K.lookup f2 = some ⟨oc2, od2, .func (PySem.W.fnOf "_law_is_good" "_law_is_good" (defArgs s__law_is_good) (defBody s__law_is_good) (defScope s__law_is_good) .none kV2 dc2 pm2 an2 cd2 ct2), sl2⟩)
    (c2 : PySem.W.codeIn K cd2 "_law_is_good" = true)
    (k2 : PySem.W.keepIn K (.ref f2) = true)
    (no_C_ignored : PySem.W.findIn K (.ref C) "_ignored" = some none)
    (no_C_folded : PySem.W.findIn K (.ref C) "_folded" = some none)
    (a3 : PySem.W.findIn K (.ref C) "__init__" = some (some (.ref f3)))
    (i3 : PySem.W.isFn K (.ref f3) = true)
    (l3 : K.lookup f3 = some ⟨oc3, od3, .func (PySem.W.fnOf "__init__" "Layout.__init__" (defArgs s_Layout___init__) (defBody s_Layout___init__) (defScope s_Layout___init__) .none kV3 dc3 pm3 an3 cd3 ct3), sl3⟩)
    (c3 : PySem.W.codeIn K cd3 "Layout.__init__" = true)
    (k3 : PySem.W.keepIn K (.ref f3) = true)
    (z_bool : PySem.W.nsIn K mainGlobals "bool" = some none)
    (z_sorted : PySem.W.nsIn K mainGlobals "sorted" = some none)
    (z_int : PySem.W.nsIn K mainGlobals "int" = some none)
    (a4 : PySem.W.nsIn K mainGlobals "_law_pool" = some (some (.ref f4)))
    (l4 : K.lookup f4 = some ⟨oc4, od4, .func (PySem.W.fnOf "_law_pool" "_law_pool" (defArgs s__law_pool) (defBody s__law_pool) (defScope s__law_pool) .none kV4 dc4 pm4 an4 cd4 ct4), sl4⟩)
    (c4 : PySem.W.codeIn K cd4 "_law_pool" = true)
    (k4 : PySem.W.keepIn K (.ref f4) = true)
    (a5 : PySem.W.nsIn K mainGlobals "_law_mixed" = some (some (.ref f5)))
    (l5 : K.lookup f5 = some ⟨oc5, od5, .func (PySem.W.fnOf "_law_mixed" "_law_mixed" (defArgs s__law_mixed) (defBody s__law_mixed) (defScope s__law_mixed) .none kV5 dc5 pm5 an5 cd5 ct5), sl5⟩)
    (c5 : PySem.W.codeIn K cd5 "_law_mixed" = true)
    (k5 : PySem.W.keepIn K (.ref f5) = true)
    (a6 : PySem.W.nsIn K mainGlobals "_law_draw" = some (some (.ref f6)))
    (l6 : K.lookup f6 = some ⟨oc6, od6, .func (PySem.W.fnOf "_law_draw" "_law_draw" (defArgs s__law_draw) (defBody s__law_draw) (defScope s__law_draw) .none kV6 dc6 pm6 an6 cd6 ct6), sl6⟩)
    (c6 : PySem.W.codeIn K cd6 "_law_draw" = true)
    (k6 : PySem.W.keepIn K (.ref f6) = true)
    (z_ValueError : PySem.W.nsIn K mainGlobals "ValueError" = some none)
    (z_repr : PySem.W.nsIn K mainGlobals "repr" = some none)
    (aE0 : PySem.W.nsIn K mainGlobals "InvalidNumber" = some (some (.ref E0)))
    (aE1 : PySem.W.nsIn K mainGlobals "InvalidText" = some (some (.ref E1)))
    (aE2 : PySem.W.nsIn K mainGlobals "InvalidName" = some (some (.ref E2)))
    (aE3 : PySem.W.nsIn K mainGlobals "InvalidParents" = some (some (.ref E3)))
    (aE4 : PySem.W.nsIn K mainGlobals "InvalidVersion" = some (some (.ref E4)))
    (aE5 : PySem.W.nsIn K mainGlobals "InvalidHistory" = some (some (.ref E5)))
    (aE6 : PySem.W.nsIn K mainGlobals "InvalidLayout" = some (some (.ref E6)))
    (aE7 : PySem.W.nsIn K mainGlobals "InvalidPrices" = some (some (.ref E7)))
    (aE8 : PySem.W.nsIn K mainGlobals "InvalidTelling" = some (some (.ref E8)))
    (aE9 : PySem.W.nsIn K mainGlobals "InvalidDeeds" = some (some (.ref E9)))
    (aE10 : PySem.W.nsIn K mainGlobals "InvalidLine" = some (some (.ref E10)))
    (aE11 : PySem.W.nsIn K mainGlobals "InvalidRanges" = some (some (.ref E11)))
    (aE12 : PySem.W.nsIn K mainGlobals "InvalidCommand" = some (some (.ref E12)))
    (aE13 : PySem.W.nsIn K mainGlobals "ParseError" = some (some (.ref E13)))
    (aE14 : PySem.W.nsIn K mainGlobals "TooMany" = some (some (.ref E14)))
    (aE15 : PySem.W.nsIn K mainGlobals "NothingToUndo" = some (some (.ref E15)))
    (aEL : PySem.W.nsIn K mainGlobals "LineError" = some (some (.ref EL)))
    (a7 : PySem.W.nsIn K mainGlobals "_law_kind" = some (some (.ref f7)))
    (l7 : K.lookup f7 = some ⟨oc7, od7, .func (PySem.W.fnOf "_law_kind" "_law_kind" (defArgs s__law_kind) (defBody s__law_kind) (defScope s__law_kind) .none kV7 dc7 pm7 an7 cd7 ct7), sl7⟩)
    (c7 : PySem.W.codeIn K cd7 "_law_kind" = true)
    (k7 : PySem.W.keepIn K (.ref f7) = true)
    (a8 : PySem.W.nsIn K mainGlobals "_law_caught" = some (some (.ref f8)))
    (l8 : K.lookup f8 = some ⟨oc8, od8, .func (PySem.W.fnOf "_law_caught" "_law_caught" (defArgs s__law_caught) (defBody s__law_caught) (defScope s__law_caught) .none kV8 dc8 pm8 an8 cd8 ct8), sl8⟩)
    (c8 : PySem.W.codeIn K cd8 "_law_caught" = true)
    (k8 : PySem.W.keepIn K (.ref f8) = true)
    (E6_x : K.lookup E6 = some (excClassObj nm_E6 q_E6 E6 N_E6 bs_E6 bm_E6 true sn_E6 sub_E6 ab_E6 col_E6 dd_E6 m0_E6 m1_E6 m2_E6 m3_E6 m5_E6 "ValueError.__new__"))
    (E6_rv : PySem.HandSPX.refsVE bm_E6 = true)
    (E6_sa : PySem.W.findIn K (.ref E6) "__setattr__" = some (some (.builtin "object.__setattr__")))
    (E6_ex : PySem.W.subIn K (.ref E6) (.type "BaseException") = some true)
    (E6_ty : PySem.W.typeIn K (.ref E6) = some (.type "type"))
    (E6_kc : PySem.W.keepIn K (.ref E6) = true)
    (E6_no : PySem.W.findIn K (.ref E6) "value" = some none)
    (a9 : PySem.W.findIn K (.ref E6) "__init__" = some (some (.ref f9)))
    (t9 : PySem.W.typeIn K (.ref f9) = some (.type "function"))
    (l9 : K.lookup f9 = some ⟨oc9, od9, .func (PySem.W.fnOf "__init__" "InvalidLayout.__init__" (defArgs s_InvalidLayout___init__) (defBody s_InvalidLayout___init__) (defScope s_InvalidLayout___init__) .none kV9 dc9 pm9 an9 cd9 ct9), sl9⟩)
    (c9 : PySem.W.codeIn K cd9 "InvalidLayout.__init__" = true)
    (k9 : PySem.W.keepIn K (.ref f9) = true)
    (cb_EL : PySem.W.subIn K (.ref EL) (.type "BaseException") = some true)
    (cd_EL : PySem.W.hasDictIn K EL = true)
    (cy_EL : PySem.W.typeIn K (.ref EL) = some (.type "type"))
    (cb_E14 : PySem.W.subIn K (.ref E14) (.type "BaseException") = some true)
    (cd_E14 : PySem.W.hasDictIn K E14 = true)
    (cy_E14 : PySem.W.typeIn K (.ref E14) = some (.type "type"))
    (cb_E15 : PySem.W.subIn K (.ref E15) (.type "BaseException") = some true)
    (cd_E15 : PySem.W.hasDictIn K E15 = true)
    (cy_E15 : PySem.W.typeIn K (.ref E15) = some (.type "type"))
    (cnk0 : PySem.W.specialIn K (.builtin "object.__class__") "__get__" = some (some (.builtin "getset_descriptor.__get__")))
    (ctk0 : PySem.W.takesIn K (.builtin "object.__class__") = some true)
    (E6_hd : PySem.W.hasDictIn K E6 = true)
    (E6_ga : PySem.W.findIn K (.ref E6) "__getattribute__" = some (some (.builtin "BaseException.__getattribute__")))
    (E6_gg : PySem.W.findIn K (.ref E6) "__getattr__" = some none)
    (E6_ex2 : PySem.W.subIn K (.ref E6) (.type "BaseException") = some true)
    (E6_ca : PySem.W.findIn K (.ref E6) "__class__" = some (some (.builtin "object.__class__")))
    (E6_cm : PySem.W.mroIn K E6 (.type "object") = some true)
    (E6_t0 : PySem.W.kitOne K (.ref E6) (.ref E0) = some false)
    (E6_t1 : PySem.W.kitOne K (.ref E6) (.ref E1) = some false)
    (E6_t2 : PySem.W.kitOne K (.ref E6) (.ref E2) = some false)
    (E6_t3 : PySem.W.kitOne K (.ref E6) (.ref E3) = some false)
    (E6_t4 : PySem.W.kitOne K (.ref E6) (.ref E4) = some false)
    (E6_t5 : PySem.W.kitOne K (.ref E6) (.ref E5) = some false)
    (E6_t6 : PySem.W.kitOne K (.ref E6) (.ref E6) = some true)
    (E6_t7 : PySem.W.kitOne K (.ref E6) (.ref E7) = some false)
    (E6_t8 : PySem.W.kitOne K (.ref E6) (.ref E8) = some false)
    (E6_t9 : PySem.W.kitOne K (.ref E6) (.ref E9) = some false)
    (E6_t10 : PySem.W.kitOne K (.ref E6) (.ref E10) = some false)
    (E6_t11 : PySem.W.kitOne K (.ref E6) (.ref E11) = some false)
    (E6_t12 : PySem.W.kitOne K (.ref E6) (.ref E12) = some false)
    (E6_t13 : PySem.W.kitOne K (.ref E6) (.ref E13) = some false)
    (E6_t14 : PySem.W.kitOne K (.ref E6) (.ref E14) = some false)
    (E6_t15 : PySem.W.kitOne K (.ref E6) (.ref E15) = some false)
    (E6_ve : PySem.W.kitOne K (.ref E6) (.type "ValueError") = some true)
    (E6_sEL : PySem.W.subIn K (.ref E6) (.ref EL) = some true)
    (E6_sE14 : PySem.W.subIn K (.ref E6) (.ref E14) = some false)
    (E6_sE15 : PySem.W.subIn K (.ref E6) (.ref E15) = some false)
    (a10 : PySem.W.nsIn K mainGlobals "_law_right" = some (some (.ref f10)))
    (l10 : K.lookup f10 = some ⟨oc10, od10, .func (PySem.W.fnOf "_law_right" "_law_right" (defArgs s__law_right) (defBody s__law_right) (defScope s__law_right) .none kV10 dc10 pm10 an10 (.ref cr) ct10), sl10⟩)
    (c10 : PySem.W.codeIn K (.ref cr) "_law_right" = true)
    (k10 : PySem.W.keepIn K (.ref f10) = true)
    (lc_Pr : K.lookup cr = some ob_Pr)
    (lf_Pr : ob_Pr.data = .fields vs_Pr)
    (h11_Pr : (vs_Pr[11]? : Option Value) = some (.ref Pr))
    (hd_Pr : PySem.W.codeHdIn K cr Pr = true)
    (ho_Pr : K.lookup Pr = none)
    (ht_Pr : h.get? Pr = some (PySem.W.tabObj #[]))
    (a11 : PySem.W.nsIn K mainGlobals "law" = some (some (.ref f11)))
    (l11 : K.lookup f11 = some ⟨oc11, od11, .func (PySem.W.fnOf "law" "law" (defArgs s_law) (defBody s_law) (defScope s_law) .none kV11 dc11 pm11 an11 cd11 ct11), sl11⟩)
    (c11 : PySem.W.codeIn K cd11 "law" = true)
    (k11 : PySem.W.keepIn K (.ref f11) = true)
    (z_range : PySem.W.nsIn K mainGlobals "range" = some none) :
    LawAtG l w K L2.CX0 12 63 "script" mg fa h := by
  have e := hfa.symm.trans (PySem.W.mg_of X G a11)
  cases e
  have gf : GoodF K mg := ⟨PySem.W.mg_none_of X G z_isinstance, PySem.W.mg_none_of X G z_str, PySem.W.mg_none_of X G z_len, PySem.W.mg_none_of X G z_set, PySem.W.mg_none_of X G z_all, ⟨_, PySem.W.mg_of X G g_MOST_IGNORED, ⟨t_MOST_IGNORED, rfl⟩⟩, ⟨⟨_, _, fun_mk (st := s_is_plain) l0 c0 k0, PySem.W.mg_of X G a0⟩⟩, ⟨⟨_, _, fun_mk (st := s__can_be_ignored) l1 c1 k1, PySem.W.mg_of X G a1⟩⟩, ⟨⟨_, _, fun_mk (st := s__law_is_good) l2 c2 k2, PySem.W.mg_of X G a2⟩⟩⟩
  have ly : LayF K mg C := ⟨gf, ⟨C_pg, C_hd, C_po, C_sa⟩, PySem.W.mg_of X G aC, no_C_ignored, no_C_folded, ⟨f3, _, ⟨C_mk, a3, i3, C_kc⟩, fun_mk (st := s_Layout___init__) l3 c3 k3⟩, PySem.W.mg_none_of X G z_isinstance, PySem.W.mg_none_of X G z_bool, PySem.W.mg_none_of X G z_str, PySem.W.mg_none_of X G z_sorted⟩
  have pf : PoolF K mg := ⟨PySem.W.mg_none_of X G z_int, PySem.W.mg_none_of X G z_len, ⟨⟨_, _, fun_mk (st := s__law_pool) l4 c4 k4, PySem.W.mg_of X G a4⟩⟩, ⟨⟨_, _, fun_mk (st := s__law_mixed) l5 c5 k5, PySem.W.mg_of X G a5⟩⟩, ⟨⟨_, _, fun_mk (st := s__law_draw) l6 c6 k6, PySem.W.mg_of X G a6⟩⟩⟩
  have kt : KindT K mg (fun i : Nat => ([E0, E1, E2, E3, E4, E5, E6, E7, E8, E9, E10, E11, E12, E13, E14, E15] : List Addr).getD i 0) EL := ⟨PySem.W.mg_none_of X G z_isinstance, PySem.W.mg_none_of X G z_ValueError, PySem.W.mg_none_of X G z_repr, ⟨_, PySem.W.mg_of X G aE0, rfl⟩, ⟨_, PySem.W.mg_of X G aE1, rfl⟩, ⟨_, PySem.W.mg_of X G aE2, rfl⟩, ⟨_, PySem.W.mg_of X G aE3, rfl⟩, ⟨_, PySem.W.mg_of X G aE4, rfl⟩, ⟨_, PySem.W.mg_of X G aE5, rfl⟩, ⟨_, PySem.W.mg_of X G aE6, rfl⟩, ⟨_, PySem.W.mg_of X G aE7, rfl⟩, ⟨_, PySem.W.mg_of X G aE8, rfl⟩, ⟨_, PySem.W.mg_of X G aE9, rfl⟩, ⟨_, PySem.W.mg_of X G aE10, rfl⟩, ⟨_, PySem.W.mg_of X G aE11, rfl⟩, ⟨_, PySem.W.mg_of X G aE12, rfl⟩, ⟨_, PySem.W.mg_of X G aE13, rfl⟩, ⟨_, PySem.W.mg_of X G aE14, rfl⟩, ⟨_, PySem.W.mg_of X G aE15, rfl⟩, PySem.W.mg_of X G aEL, PySem.W.mg_of X G aE14, PySem.W.mg_of X G aE15, ⟨⟨_, _, fun_mk (st := s__law_kind) l7 c7 k7, PySem.W.mg_of X G a7⟩⟩, ⟨⟨_, _, fun_mk (st := s__law_caught) l8 c8 k8, PySem.W.mg_of X G a8⟩⟩⟩
  have en : ErrF K mg "InvalidLayout" "value" "InvalidLayout.__init__" E6 s_InvalidLayout___init__ := ⟨PySem.W.mg_of X G aE6, ⟨⟨nm_E6, q_E6, N_E6, bs_E6, bm_E6, sn_E6, sub_E6, ab_E6, col_E6, dd_E6, m0_E6, m1_E6, m2_E6, m3_E6, m5_E6, E6_x, E6_rv⟩, E6_sa, E6_ex, E6_ty, E6_kc⟩, E6_no, _, _, a9, t9, fun_mk (st := s_InvalidLayout___init__) l9 c9 k9⟩
  have kf : KindF K (fun i : Nat => ([E0, E1, E2, E3, E4, E5, E6, E7, E8, E9, E10, E11, E12, E13, E14, E15] : List Addr).getD i 0) EL E6 6 := ⟨⟨E6_hd, E6_ga, E6_gg, E6_ex2, E6_ca, cnk0, ctk0, E6_cm⟩, fun i hi => match i, hi with | 0, _ => E6_t0 | 1, _ => E6_t1 | 2, _ => E6_t2 | 3, _ => E6_t3 | 4, _ => E6_t4 | 5, _ => E6_t5 | 6, _ => E6_t6 | 7, _ => E6_t7 | 8, _ => E6_t8 | 9, _ => E6_t9 | 10, _ => E6_t10 | 11, _ => E6_t11 | 12, _ => E6_t12 | 13, _ => E6_t13 | 14, _ => E6_t14 | 15, _ => E6_t15 | n + 16, h => absurd h (by omega), E6_ve, by decide, any3 (PySem.W.exm_ref cb_EL cd_EL cy_EL E6_sEL) (PySem.W.exm_ref cb_E14 cd_E14 cy_E14 E6_sE14) (PySem.W.exm_ref cb_E15 cd_E15 cy_E15 E6_sE15)⟩
  have tr : Tr K mg C E6 (fun i : Nat => ([E0, E1, E2, E3, E4, E5, E6, E7, E8, E9, E10, E11, E12, E13, E14, E15] : List Addr).getD i 0) EL cr := ⟨ly, kt, en, kf, PySem.W.mg_none_of X G z_repr, PySem.W.mg_none_of X G z_isinstance, PySem.W.mg_none_of X G z_bool, ⟨⟨_, _, ⟨⟨oc10, od10, kV10, dc10, pm10, an10, ct10, sl10, rfl, l10, c10⟩, k10⟩, PySem.W.mg_of X G a10⟩⟩⟩
  have T : Tl K mg C E6 (fun i : Nat => ([E0, E1, E2, E3, E4, E5, E6, E7, E8, E9, E10, E11, E12, E13, E14, E15] : List Addr).getD i 0) EL cr := ⟨pf, tr, PySem.W.mg_none_of X G z_int, PySem.W.mg_none_of X G z_range⟩
  refine ⟨PySem.W.fnOf "law" "law" (defArgs s_law) (defBody s_law) (defScope s_law) .none kV11 dc11 pm11 an11 cd11 ct11, [(cr, Pr)], spLaw K [(Pr, "_law_right" ++ ".<locals>." ++ "<lambda>")], ⟨fun p hp => ?_, fun p hp => ?_, fun p hp => ?_⟩, fun s v => .of_eq rfl, fun H a ns hl hT hS => ⟨a, ns, rfl, hS, hl, fun p hp => ?_, fun _ => rfl⟩, fun base _ _ tb => ok_law (Pr := Pr) T ⟨tb (cr, Pr) List.mem_cons_self, List.mem_cons_self, fun p hp _ => by rw [List.mem_singleton.mp hp]⟩ (fun_mk (st := s_law) l11 c11 k11)⟩
  · rw [List.mem_singleton.mp hp]; exact ht_Pr
  · rw [List.mem_singleton.mp hp]; exact ho_Pr
  · rw [List.mem_singleton.mp hp]; exact PySem.W.codeHd_of_K X hd_Pr
  · rw [List.mem_singleton.mp hp]
    exact LamX.TabS.nil (hT (cr, Pr) List.mem_cons_self)
end Pk
open PySem PySem.W PyProof.Rows
set_option maxRecDepth 100000 in
set_option maxHeartbeats 0 in
theorem PySem.Challenge.cw_lineorigins_k08_layouts_refused_holds : PySem.Challenge.rw_lineorigins_k08_layouts_refused.Holds := by
  w_on; o_law; k_head; (case hw => w_witness2)
  k_fill
  refine Pk.walk_GT (l := PySem.Challenge.rw_lineorigins_k08_layouts_refused) (n := 63) (k := 12) (x := "script") (CX := fun _ => L2.CX0) rfl (by decide) rfl ⟨rfl, by decide, by decide⟩ (fun w h Y => PySem.W.km_in_of Y) ?F (fun _ _ _ _ _ h => h)
  case F =>
    intro w mg fa h Y KX G hmg
    refine' Pk.all_mk KX G hmg ?aC ?C_pg ?C_hd ?C_po ?C_sa ?C_mk ?C_kc ?z_isinstance ?z_str ?z_len ?z_set ?z_all ?g_MOST_IGNORED ?a0 ?l0 ?c0 ?k0 ?a1 ?l1 ?c1 ?k1 ?a2 ?l2 ?c2 ?k2 ?no_C_ignored ?no_C_folded ?a3 ?i3 ?l3 ?c3 ?k3 ?z_bool ?z_sorted ?z_int ?a4 ?l4 ?c4 ?k4 ?a5 ?l5 ?c5 ?k5 ?a6 ?l6 ?c6 ?k6 ?z_ValueError ?z_repr ?aE0 ?aE1 ?aE2 ?aE3 ?aE4 ?aE5 ?aE6 ?aE7 ?aE8 ?aE9 ?aE10 ?aE11 ?aE12 ?aE13 ?aE14 ?aE15 ?aEL ?a7 ?l7 ?c7 ?k7 ?a8 ?l8 ?c8 ?k8 ?E6_x ?E6_rv ?E6_sa ?E6_ex ?E6_ty ?E6_kc ?E6_no ?a9 ?t9 ?l9 ?c9 ?k9 ?cb_EL ?cd_EL ?cy_EL ?cb_E14 ?cd_E14 ?cy_E14 ?cb_E15 ?cd_E15 ?cy_E15 ?cnk0 ?ctk0 ?E6_hd ?E6_ga ?E6_gg ?E6_ex2 ?E6_ca ?E6_cm ?E6_t0 ?E6_t1 ?E6_t2 ?E6_t3 ?E6_t4 ?E6_t5 ?E6_t6 ?E6_t7 ?E6_t8 ?E6_t9 ?E6_t10 ?E6_t11 ?E6_t12 ?E6_t13 ?E6_t14 ?E6_t15 ?E6_ve ?E6_sEL ?E6_sE14 ?E6_sE15 ?a10 ?l10 ?c10 ?k10 ?lc_Pr ?lf_Pr ?h11_Pr ?hd_Pr ?ho_Pr ?ht_Pr ?a11 ?l11 ?c11 ?k11 ?z_range
    (case aC => k_is)
    (case C_pg => k_is)
    (case C_hd => k_is)
    (case C_po => k_is)
    (case C_sa => k_is)
    (case C_mk => k_is)
    (case C_kc => k_is)
    (case z_isinstance => k_is)
    (case z_str => k_is)
    (case z_len => k_is)
    (case z_set => k_is)
    (case z_all => k_is)
    (case g_MOST_IGNORED => k_is)
    (case a0 => k_is)
    (case l0 => k_is)
    (case c0 => k_is)
    (case k0 => k_is)
    (case a1 => k_is)
    (case l1 => k_is)
    (case c1 => k_is)
    (case k1 => k_is)
    (case a2 => k_is)
    (case l2 => k_is)
    (case c2 => k_is)
    (case k2 => k_is)
    (case no_C_ignored => k_is)
    (case no_C_folded => k_is)
    (case a3 => k_is)
    (case i3 => k_is)
    (case l3 => k_is)
    (case c3 => k_is)
    (case k3 => k_is)
    (case z_bool => k_is)
    (case z_sorted => k_is)
    (case z_int => k_is)
    (case a4 => k_is)
    (case l4 => k_is)
    (case c4 => k_is)
    (case k4 => k_is)
    (case a5 => k_is)
    (case l5 => k_is)
    (case c5 => k_is)
    (case k5 => k_is)
    (case a6 => k_is)
    (case l6 => k_is)
    (case c6 => k_is)
    (case k6 => k_is)
    (case z_ValueError => k_is)
    (case z_repr => k_is)
    (case aE0 => k_is)
    (case aE1 => k_is)
    (case aE2 => k_is)
    (case aE3 => k_is)
    (case aE4 => k_is)
    (case aE5 => k_is)
    (case aE6 => k_is)
    (case aE7 => k_is)
    (case aE8 => k_is)
    (case aE9 => k_is)
    (case aE10 => k_is)
    (case aE11 => k_is)
    (case aE12 => k_is)
    (case aE13 => k_is)
    (case aE14 => k_is)
    (case aE15 => k_is)
    (case aEL => k_is)
    (case a7 => k_is)
    (case l7 => k_is)
    (case c7 => k_is)
    (case k7 => k_is)
    (case a8 => k_is)
    (case l8 => k_is)
    (case c8 => k_is)
    (case k8 => k_is)
    (case E6_x => k_is)
    (case E6_rv => exact rfl)
    (case E6_sa => k_is)
    (case E6_ex => k_is)
    (case E6_ty => k_is)
    (case E6_kc => k_is)
    (case E6_no => k_is)
    (case a9 => k_is)
    (case t9 => k_is)
    (case l9 => k_is)
    (case c9 => k_is)
    (case k9 => k_is)
    (case cb_EL => k_is)
    (case cd_EL => k_is)
    (case cy_EL => k_is)
    (case cb_E14 => k_is)
    (case cd_E14 => k_is)
    (case cy_E14 => k_is)
    (case cb_E15 => k_is)
    (case cd_E15 => k_is)
    (case cy_E15 => k_is)
    (case cnk0 => k_is)
    (case ctk0 => k_is)
    (case E6_hd => k_is)
    (case E6_ga => k_is)
    (case E6_gg => k_is)
    (case E6_ex2 => k_is)
    (case E6_ca => k_is)
    (case E6_cm => k_is)
    (case E6_t0 => kit_is)
    (case E6_t1 => kit_is)
    (case E6_t2 => kit_is)
    (case E6_t3 => kit_is)
    (case E6_t4 => kit_is)
    (case E6_t5 => kit_is)
    (case E6_t6 => kit_is)
    (case E6_t7 => kit_is)
    (case E6_t8 => kit_is)
    (case E6_t9 => kit_is)
    (case E6_t10 => kit_is)
    (case E6_t11 => kit_is)
    (case E6_t12 => kit_is)
    (case E6_t13 => kit_is)
    (case E6_t14 => kit_is)
    (case E6_t15 => kit_is)
    (case E6_ve => kit_is)
    (case E6_sEL => k_is)
    (case E6_sE14 => k_is)
    (case E6_sE15 => k_is)
    (case a10 => k_is)
    (case l10 => k_is)
    (case c10 => k_is)
    (case k10 => k_is)
    (case lc_Pr => k_is)
    (case lf_Pr => exact rfl)
    (case h11_Pr => exact rfl)
    (case hd_Pr => kernel_rfl)
    (case ho_Pr => kernel_rfl)
    (case ht_Pr => exact PySem.W.km_tabs_of Y _ (by k_mem))
    (case a11 => k_is)
    (case l11 => k_is)
    (case c11 => k_is)
    (case k11 => k_is)
    (case z_range => k_is)
