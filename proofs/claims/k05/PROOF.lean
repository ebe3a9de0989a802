import PyProof.Rows.All
import Wide.All
import OpenK.AllK
import Wide.FinOn
import HandS.ForMost
import HandS.IsInst
import HandS.Wide
import HandS.Style
import HandS.Walk
import HandS.StrMore
import PyProof.StrBlock2
import PyProof.EqAt
import PyProof.NeKinds
import HandS.Property
import HandS.Gcd
import HandS.OwnEq
import HandS.Defaults
import HandS.Codes
import KE.KOpsOwn
import HandS.ClsMeth
import HandS.NoneIn
import PyProof.Rows.CountFlat
import PySem.Challenge.RW_lineorigins_k05_whole_ratios_are_in_orde
set_option Elab.async false
set_option linter.all false
set_option maxRecDepth 100000
set_option maxHeartbeats 4000000
namespace Pk
open PySem PySem.Spec PyProof.Rows L2

theorem same_upd {H : Hp} {p : Addr} {o : HO} (h : H p = none) : Same H (upd H p o) := fun b x e => by
  rw [upd_ne (ne_of_none e h)]
  exact e
theorem Same.get {H H' : Hp} {a : Addr} {o : HO} (e : Same H H') (h : H a = some o) : H' a = some o := e a o h
/-- a new object, the heap behind it forgotten but for what stands -/
theorem al {H : Hp} {o : HO} {Q : VK} (h : ∀ p H', H p = none → Same H H' → H' p = some o → Q (.ref p) H') : ∀ p, H p = none → Q (.ref p) (upd H p o) :=
  fun p hp => h p _ hp (same_upd hp) upd_same

/-! ### the written part by its name -/
section
variable {X : Cx} {K : PySem.W.Frag}
theorem pi_listK (hK : X.K = K) {tg l : Expr} {tl : TE} (hl : PE X l tl) : PI X tg l (iList K tl) := hK ▸ pi_list hl
theorem pi_tupK (hK : X.K = K) {tg l : Expr} {tl : TE} (hl : PE X l tl) : PI X tg l (iTup K tl) := hK ▸ pi_tup hl
end
/-! ### a thing walked in one of two ways -/
theorem pi_or {X : Cx} {tg l : Expr} {w1 w2 : TI} (a : PI X tg l w1) (b : PI X tg l w2) : PI X tg l (fun σ H R => w1 σ H R ∨ w2 σ H R) :=
  ⟨fun pins s σ H R I h => h.elim (a.run pins s σ H R I) (b.run pins s σ H R I)⟩
theorem pe_alt {X : Cx} {e : Expr} {t1 t2 : TE} (a : PE X e t1) (b : PE X e t2) : PE X e (fun σ H Q => t1 σ H Q ∨ t2 σ H Q) :=
  ⟨fun pins s σ H Q I h => h.elim (a.run pins s σ H Q I) (b.run pins s σ H Q I)⟩

/-! ### operators of more than one kind -/
def rAddX (K : PySem.W.Frag) : R2 := fun x y H Q => rI0 (fun i j => .int (i + j)) x y H Q ∨ ((∃ i j, x = .str i ∧ y = .str j ∧ i.length + j.length ≤ sizeLine ∧ Q (.str (i ++ j)) H) ∨ (rCat x y H Q ∨ rCatT K x y H Q))
theorem op_addX {X : Cx} : OpR X (binaryOp .Add) (rAddX X.K) := op_add.or (op_add_str.or (op_cat.or op_catT))
def rEqN : R2 := fun x y H Q => ∃ a b xs ys, x = .ref a ∧ y = .ref b ∧ H a = some (.lst xs) ∧ H b = some (.lst ys) ∧ xs.length ≠ ys.length ∧ Q (.bl false) H
theorem op_eqN {X : Cx} (hu : X.A.units < cLine) : OpR X (compareOp .Eq) rEqN := by
  intro pins s σ H x y v u Q I rx ry h
  obtain ⟨a, b, xs, ys, rfl, rfl, ha, hb, hn, q⟩ := h
  cases (show v = Value.ref a from rx)
  cases (show u = Value.ref b from ry)
  obtain ⟨is, r1, p1, _⟩ := I.list (SqL.of ha)
  obtain ⟨js, r2, p2, _⟩ := I.list (SqL.of hb)
  obtain ⟨o1, n1, e1, c1, _, d1⟩ := p1
  obtain ⟨o2, n2, e2, c2, _, d2⟩ := p2
  refine SeqAt.eq_list_lengthsAt ⟨o1, e1, c1, n1, d1⟩ ⟨o2, e2, c2, n2, d2⟩ ?_ hu ⟨.bl false, H, I, rfl, q⟩
  have l1 := r1.length
  have l2 := r2.length
  simp only [bne_iff_ne, List.size_toArray]
  omega
def rNeN : R2 := fun x y H Q => ∃ a b xs ys, x = .ref a ∧ y = .ref b ∧ H a = some (.lst xs) ∧ H b = some (.lst ys) ∧ xs.length ≠ ys.length ∧ Q (.bl true) H
theorem op_neN {X : Cx} (hu : X.A.units < cLine) : OpR X (compareOp .NotEq) rNeN := by
  intro pins s σ H x y v u Q I rx ry h
  obtain ⟨a, b, xs, ys, rfl, rfl, ha, hb, hn, q⟩ := h
  cases (show v = Value.ref a from rx)
  cases (show u = Value.ref b from ry)
  obtain ⟨is, r1, p1, _⟩ := I.list (SqL.of ha)
  obtain ⟨js, r2, p2, _⟩ := I.list (SqL.of hb)
  obtain ⟨o1, n1, e1, c1, _, d1⟩ := p1
  obtain ⟨o2, n2, e2, c2, _, d2⟩ := p2
  refine SeqAt.RcNeAt.lists_lengths ⟨o1, e1, c1, n1, d1⟩ ⟨o2, e2, c2, n2, d2⟩ ?_ hu X.prog X.w X.xe (EP X pins σ Q) ⟨.bl true, H, I, rfl, q⟩
  have l1 := r1.length
  have l2 := r2.length
  simp only [bne_iff_ne, List.size_toArray]
  omega
def rEqX (K : PySem.W.Frag) : R2 := fun x y H Q => rEq x y H Q ∨ (rEqD K x y H Q ∨ rEqN x y H Q)
theorem op_eqX {X : Cx} (hu : X.A.units + 64 < cLine) : OpR X (compareOp .Eq) (rEqX X.K) := op_eq.or ((op_eqD hu).or (op_eqN (by omega)))
def rNeX (K : PySem.W.Frag) : R2 := fun x y H Q => rNe x y H Q ∨ (rNeD K x y H Q ∨ rNeN x y H Q)
theorem op_neX {X : Cx} (hu : X.A.units + 64 < cLine) : OpR X (compareOp .NotEq) (rNeX X.K) := op_ne.or ((op_neD hu).or (op_neN (by omega)))

def rMuX : R2 := fun x y H Q => rI CMul (fun i j => .int (i * j)) x y H Q ∨ rI CMulW (fun i j => .int (i * j)) x y H Q
theorem op_muI {X : Cx} : OpR X (binaryOp .Mult) rMuX := op_mul.or op_mulW
/-- a text, several times -/
def rRepS : R2 := fun x y H Q => ∃ z k, x = .str z ∧ y = .int k ∧ MulOk z k ∧ Q (.str (Txt.mul z k)) H
theorem op_repS {X : Cx} : OpR X (binaryOp .Mult) rRepS := by
  intro pins s σ H x y v u Q I rx ry h
  obtain ⟨z, k, rfl, rfl, ok, q⟩ := h
  obtain ⟨t, rfl⟩ := rx
  obtain ⟨t2, rfl⟩ := ry
  exact PySem.SB.mul ok fun t' k' => ⟨.str (Txt.mul z k), H, I.tok _, ⟨_, rfl⟩, q⟩
def rMuXX : R2 := fun x y H Q => rMuX x y H Q ∨ (rRepS x y H Q ∨ rRep x y H Q)
theorem op_muX {X : Cx} : OpR X (binaryOp .Mult) rMuXX := op_muI.or (op_repS.or op_rep)
def rLtX : R2 := fun x y H Q => rI0 (fun i j => .bl (decide (i < j))) x y H Q ∨ (∃ i j, x = .str i ∧ y = .str j ∧ Q (.bl (decide (i.cps.toList < j.cps.toList))) H)
theorem op_ltX {X : Cx} : OpR X (compareOp .Lt) rLtX := op_lt.or op_lt_str
def rLeX : R2 := fun x y H Q => rI0 (fun i j => .bl (decide (i ≤ j))) x y H Q ∨ (∃ i j, x = .str i ∧ y = .str j ∧ Q (.bl (!decide (j.cps.toList < i.cps.toList))) H)
theorem op_leX {X : Cx} : OpR X (compareOp .LtE) rLeX := op_le.or op_le_str
def rGtX : R2 := fun x y H Q => rI0 (fun i j => .bl (decide (j < i))) x y H Q ∨ (∃ i j, x = .str i ∧ y = .str j ∧ Q (.bl (decide (j.cps.toList < i.cps.toList))) H)
theorem op_gtX {X : Cx} : OpR X (compareOp .Gt) rGtX := op_gt.or op_gt_str
def rGeX : R2 := fun x y H Q => rI0 (fun i j => .bl (decide (j ≤ i))) x y H Q ∨ (∃ i j, x = .str i ∧ y = .str j ∧ Q (.bl (!decide (i.cps.toList < j.cps.toList))) H)
theorem op_geX {X : Cx} : OpR X (compareOp .GtE) rGeX := op_ge.or op_ge_str
theorem op_fdX {X : Cx} : OpR X (binaryOp .FloorDiv) (rI CDivW fun i j => .int (i / j)) := op_fdivW
def rSlXX (K : PySem.W.Frag) : V → Option Int → Option Int → Hp → VK → Prop := fun x lo hi H Q => rSlL K x lo hi H Q ∨ rSlS x lo hi H Q
theorem sl_X {X : Cx} : SlR X (rSlXX X.K) := sl_list.or sl_str
def rIntX : List V → Hp → VK → Prop := fun xs H Q => ((∃ i, xs = [.int i] ∧ Q (.int i) H) ∨ ∃ k, xs = [.bl k] ∧ Q (.int (if k then 1 else 0)) H) ∨ (∃ a n, xs = [.str a] ∧ PySem.intText? a = some n ∧ a.length ≤ 640 ∧ Q (.int n) H)
theorem call_intX {X : Cx} : CallR X (.type "int") rIntX := call_int1.or call_int_str
def rLenX (K : PySem.W.Frag) : List V → Hp → VK → Prop := fun xs H Q => ∃ x n, xs = [x] ∧ LenV K x H n ∧ Q (.int n) H
theorem call_lenX {X : Cx} : CallR X (.builtin "len") (rLenX X.K) := call_len
def rTupX (K : PySem.W.Frag) : List V → Hp → VK → Prop := fun xs H Q => ∃ p ys, xs = [.ref p] ∧ ((SqL K H p ys ∧ ∀ l, H l = none → Q (.ref l) (upd H l (.tup ys))) ∨ (SqT K H p ys ∧ Q (.ref p) H))
theorem call_tupX {X : Cx} : CallR X (.type "tuple") (rTupX X.K) := call_tuple_of
def tTruX (K : PySem.W.Frag) (ta : TE) : TT := fun σ H Q => ta σ H fun x H' => ∃ k, TruV K x H' k ∧ Q k H'
theorem pt_truK {X : Cx} {K : PySem.W.Frag} (hK : X.K = K) {a : Expr} {ta : TE} (ha : PE X a ta) (he : ∀ whole, isTrue a X.env whole = (do let v ← whole; standAt a.pos; holding [v] (truthy v))) : PT X a (tTruX K ta) := hK ▸ pt_truth ha he
theorem pt_tru {X : Cx} {a : Expr} {ta : TE} (ha : PE X a ta) (he : ∀ whole, isTrue a X.env whole = (do let v ← whole; standAt a.pos; holding [v] (truthy v))) : PT X a (tTruX X.K ta) := pt_truth ha he
theorem pe_gc {X : Cx} {x : Str} {v : V} {pos : Pos} (hg : Gl X x) (h : ∃ u, X.mg x = some u ∧ RelV v u) (hd : (x == ("__debug__" : Str)) = false := by decide) : PE X (.Name x pos) (tC v) := by
  obtain ⟨u, h1, h2⟩ := h
  exact pe_glob hg h1 h2 hd

/-! ### a def of the text, at its name -/
structure DefAt (K : PySem.W.Frag) (mg : Str → Option Value) (x : Str) (st : Stmt) : Prop where
  ex : ∃ f fd, Fun K x x st f fd ∧ mg x = some (.ref f)
/-- how arguments bind: no defaults -/
def Bnd (x : Str) (st : Stmt) (ps : List Str) : Prop := ∀ (kV doc pm : Value) (an : Option Addr) (cdv ct : Value) (us : List Value), us.length = ps.length → bindArgs (PySem.W.fnOf x x (defArgs st) (defBody st) (defScope st) .none kV doc pm an cdv ct) ⟨us, []⟩ = pure (ps.zip us)
section
variable {P : Program} {w : World} {K : PySem.W.Frag} {mg : Str → Option Value} {base : Heap}
/-- a def that may be called by its name -/
structure Cal (P : Program) (w : World) (K : PySem.W.Frag) (mg : Str → Option Value) (base : Heap) (CX : CXT) (k : Nat) (x : Str) (sp : Sp) : Prop where
  ex : ∃ (f : Addr) (fd : FuncData) (ps : List Str), FnOk P w K mg base CX k f fd ps sp ∧ mg x = some (.ref f) ∧ PySem.W.keepIn K (.ref f) = true ∧ Binds K fd ps []
theorem cal0 {x : Str} {st : Stmt} {N ps : List Str} {k : Nat} {sp : Sp} (D : DefAt K mg x st) (S : FnScope N ps (defScope st)) (hb : Bnd x st ps) (len : ∀ vs H Q E, sp vs H Q E → vs.length = ps.length)
    (hbody : ∀ (f : Addr) (cdv : Value) (A : Around) (outer : List Env) (s : Shared) (H : Hp) (vs : List V) (Q : VK) (E : XK), Room k (A.deeper (envOfC x (defScope st) s.heap.objs.size f cdv)) → sp vs H Q E →
      ∃ t, PSs (cxOf CX0 P w K mg base N x (defScope st) f cdv A outer s H E).nox (defBody st) t ∧ t { nx := fun _ H' => Q .non H', rt := Q } (start N vs) H) : Cal P w K mg base CX0 (k + 1) x sp := by
  obtain ⟨f, fd, F, m⟩ := D.ex
  exact ⟨f, fd, ps, F.ok S len (hbody f), m, F.kp, F.binds hb⟩
end
section
variable {X : Cx} {k j : Nat} {x : Str} {sp : Sp} {p pos : Pos} {e : Expr} {es : List Expr} {t : TA}
theorem pe_c {CX : CXT} {E : XK} (c : Cal X.prog X.w X.K X.mg X.base CX k x sp) (hr : Room j X.A) (hk : k ≤ j) (hg : Gl X x) (hx : Passes CX X E) (ha : PA X (e :: es) t)
    (hdb : (x == ("__debug__" : Str)) = false := by decide) (he : starEach (e :: es) X.env = (false, eval e X.env) :: starEach es X.env := by rfl) (hpl : (backTo pos (starEach es X.env)).any (·.1) = false := by rfl) :
    PE X (.Call (.Name x p) (e :: es) [] pos) (tCall sp [] E t) := by
  obtain ⟨f, fd, ps, F, hm, kp, b⟩ := c.ex
  exact pe_call F (hr.mono hk) hg hm kp b .nil hx ha hdb he hpl
end
/-! ### readings, a step at a time -/
def LstK (Q : VK) : List V → Hp → Prop := fun xs H1 => xs.length ≤ sizeLine ∧ ∀ p, H1 p = none → Q (.ref p) (upd H1 p (.lst xs))
def TupK (Q : VK) : List V → Hp → Prop := fun xs H1 => xs.length ≤ sizeLine ∧ ∀ p, H1 p = none → Q (.ref p) (upd H1 p (.tup xs))
section
variable {K : PySem.W.Frag} {σ : L2.St} {H : Hp} {Q : VK} {D : Ends} {ta tb te tc : TE} {t tr : TA} {tt tu : TT} {ts tz tw : TS} {r : R2} {rm : V → List V → Hp → VK → Prop} {v x y : V} {i j : Int}
theorem i_ret (h : te σ H D.rt) : tRet te D σ H := h
theorem i_op (h : ta σ H fun x H1 => tb σ H1 fun y H2 => r x y H2 Q) : tOp r ta tb σ H Q := h
theorem i_un {r : V → Hp → VK → Prop} (h : ta σ H fun x H1 => r x H1 Q) : tUn r ta σ H Q := h
theorem i_var {n : Nat} (h : σ[n]? = some (some v)) (q : Q v H) : tVar n σ H Q := ⟨v, h, q⟩
theorem i_c (q : Q v H) : tC v σ H Q := q
theorem i_cb {r : List V → Hp → VK → Prop} (h : t σ H fun vs H1 => r vs H1 Q) : tCB r t σ H Q := h
theorem i_call {sp : Sp} {dvs : List V} {E : XK} (h : t σ H fun vs H1 => sp (vs ++ dvs) H1 Q E) : tCall sp dvs E t σ H Q := h
theorem i_cons {R : List V → Hp → Prop} (h : te σ H fun x H1 => tr σ H1 fun xs H2 => R (x :: xs) H2) : tCons te tr σ H R := h
theorem i_nil {R : List V → Hp → Prop} (h : R [] H) : tNil σ H R := h
theorem i_seq (h : ts { D with nx := tz D } σ H) : tSeq ts tz D σ H := h
theorem i_next (h : D.nx σ H) : tNext D σ H := h
theorem i_asg {g : TG} (h : te σ H fun x H1 => g x σ H1 D.nx) : tAsg te g D σ H := h
theorem i_name {n : Nat} {R : L2.St → Hp → Prop} (h : R (σ.set n (some v)) H) : gName n v σ H R := h
theorem i_sub {ts : TSet} {R : L2.St → Hp → Prop} (h : ta σ H fun o H1 => tb σ H1 fun i H2 => ts o i v H2 fun H3 => R σ H3) : gSub ta tb ts v σ H R := h
theorem i_drop (h : te σ H fun _ H1 => D.nx σ H1) : tDrop te D σ H := h
theorem i_ifs (h : tt σ H fun b H1 => if b = true then ts D σ H1 else tz D σ H1) : tIfS tt ts tz D σ H := h
theorem i_ife (h : tt σ H fun c H1 => if c = true then ta σ H1 Q else tb σ H1 Q) : tIf tt ta tb σ H Q := h
theorem i_test {R : Bool → Hp → Prop} (h : te σ H fun x H' => ∃ k, x = .bl k ∧ R k H') : tTest te σ H R := h
theorem i_tru {R : Bool → Hp → Prop} (h : te σ H fun x H' => ∃ k, TruV K x H' k ∧ R k H') : tTruX K te σ H R := h
theorem i_and {R : Bool → Hp → Prop} (h : tt σ H fun c H1 => if c = true then tu σ H1 R else R false H1) : tAnd tt tu σ H R := h
theorem i_or {R : Bool → Hp → Prop} (h : tt σ H fun c H1 => if c = true then R true H1 else tu σ H1 R) : tOr tt tu σ H R := h
theorem i_not {R : Bool → Hp → Prop} (h : tt σ H fun c H1 => R (!c) H1) : tNot tt σ H R := h
theorem i_andV (h : ta σ H fun x H1 => ∃ c, x = .bl c ∧ if c = true then tb σ H1 Q else Q (.bl false) H1) : tAndV ta tb σ H Q := h
theorem i_orV (h : ta σ H fun x H1 => ∃ c, x = .bl c ∧ if c = true then Q (.bl true) H1 else tb σ H1 Q) : tOrV ta tb σ H Q := h
theorem i_notV (h : ta σ H fun x H1 => ∃ c, x = .bl c ∧ Q (.bl (!c)) H1) : tNotV ta σ H Q := h
theorem i_bl {b : Bool} {R : Bool → Prop} (h : R b) : ∃ k, V.bl b = .bl k ∧ R k := ⟨b, rfl, h⟩
theorem i_blH {b : Bool} {R : Bool → Hp → Prop} (h : R b H) : ∃ k, V.bl b = .bl k ∧ R k H := ⟨b, rfl, h⟩
theorem i_trB {b : Bool} {R : Bool → Prop} (h : R b) : ∃ k, TruV K (.bl b) H k ∧ R k := ⟨b, rfl, h⟩
theorem i_lstF (h : t σ H (LstK Q)) : tLst t σ H Q := h
theorem i_tupF (h : t σ H (TupK Q)) : tTup t σ H Q := h
theorem p_lstK {xs : List V} (hl : xs.length ≤ sizeLine) (h : ∀ p H', H p = none → Same H H' → H' p = some (.lst xs) → Q (.ref p) H') : LstK Q xs H := ⟨hl, al h⟩
theorem p_tupK {xs : List V} (hl : xs.length ≤ sizeLine) (h : ∀ p H', H p = none → Same H H' → H' p = some (.tup xs) → Q (.ref p) H') : TupK Q xs H := ⟨hl, al h⟩
/-- operators -/
theorem p_addI (q : Q (.int (i + j)) H) : rAddX K (.int i) (.int j) H Q := .inl ⟨i, j, rfl, rfl, q⟩
theorem p_addS {a b : Str} (hl : a.length + b.length ≤ sizeLine) (q : Q (.str (a ++ b)) H) : rAddX K (.str a) (.str b) H Q := .inr (.inl ⟨a, b, rfl, rfl, hl, q⟩)
theorem p_addL {a b : Addr} {xs ys : List V} (h1 : H a = some (.lst xs)) (h2 : H b = some (.lst ys)) (hl : xs.length + ys.length ≤ sizeLine) (q : ∀ p H', H p = none → Same H H' → H' p = some (.lst (xs ++ ys)) → Q (.ref p) H') : rAddX K (.ref a) (.ref b) H Q :=
  .inr (.inr (.inl ⟨a, b, xs, ys, rfl, rfl, h1, h2, hl, al q⟩))
theorem p_I0 {g : Int → Int → V} (q : Q (g i j) H) : rI0 g (.int i) (.int j) H Q := ⟨i, j, rfl, rfl, q⟩
theorem p_I {C : Int → Int → Prop} {g : Int → Int → V} (c : C i j) (q : Q (g i j) H) : rI C g (.int i) (.int j) H Q := ⟨i, j, rfl, rfl, c, q⟩
theorem p_U {g : Int → V} (q : Q (g i) H) : rU g (.int i) H Q := ⟨i, rfl, q⟩
theorem p_muI (c : CMul i j ∨ CMulW i j) (q : Q (.int (i * j)) H) : rMuXX (.int i) (.int j) H Q := c.elim (fun c => .inl (.inl ⟨i, j, rfl, rfl, c, q⟩)) fun c => .inl (.inr ⟨i, j, rfl, rfl, c, q⟩)
theorem p_muS {z : Str} (c : MulOk z j) (q : Q (.str (Txt.mul z j)) H) : rMuXX (.str z) (.int j) H Q := .inr (.inl ⟨z, j, rfl, rfl, c, q⟩)
theorem p_ltI (q : Q (.bl (decide (i < j))) H) : rLtX (.int i) (.int j) H Q := .inl ⟨i, j, rfl, rfl, q⟩
theorem p_leI (q : Q (.bl (decide (i ≤ j))) H) : rLeX (.int i) (.int j) H Q := .inl ⟨i, j, rfl, rfl, q⟩
theorem p_gtI (q : Q (.bl (decide (j < i))) H) : rGtX (.int i) (.int j) H Q := .inl ⟨i, j, rfl, rfl, q⟩
theorem p_geI (q : Q (.bl (decide (j ≤ i))) H) : rGeX (.int i) (.int j) H Q := .inl ⟨i, j, rfl, rfl, q⟩
theorem p_ltS {a b : Str} (q : Q (.bl (decide (a.cps.toList < b.cps.toList))) H) : rLtX (.str a) (.str b) H Q := .inr ⟨a, b, rfl, rfl, q⟩
theorem p_leS {a b : Str} (q : Q (.bl (!decide (b.cps.toList < a.cps.toList))) H) : rLeX (.str a) (.str b) H Q := .inr ⟨a, b, rfl, rfl, q⟩
theorem p_gtS {a b : Str} (q : Q (.bl (decide (b.cps.toList < a.cps.toList))) H) : rGtX (.str a) (.str b) H Q := .inr ⟨a, b, rfl, rfl, q⟩
theorem p_eqI (q : Q (.bl (decide (i = j))) H) : rEqX K (.int i) (.int j) H Q := .inl ⟨rfl, by
  have e : decide (V.int i = V.int j) = decide (i = j) := decide_eq_decide.mpr ⟨fun h => V.int.inj h, fun h => h ▸ rfl⟩
  rw [e]
  exact q⟩
theorem p_neI (q : Q (.bl (!decide (i = j))) H) : rNeX K (.int i) (.int j) H Q := .inl ⟨rfl, by
  have e : decide (V.int i = V.int j) = decide (i = j) := decide_eq_decide.mpr ⟨fun h => V.int.inj h, fun h => h ▸ rfl⟩
  rw [e]
  exact q⟩
theorem p_eqS (s : scal x y = true) (q : Q (.bl (decide (x = y))) H) : rEqX K x y H Q := .inl ⟨s, q⟩
theorem p_neS (s : scal x y = true) (q : Q (.bl (!decide (x = y))) H) : rNeX K x y H Q := .inl ⟨s, q⟩
theorem p_int (q : Q (.int i) H) : rIntX [.int i] H Q := .inl (.inl ⟨i, rfl, q⟩)
theorem p_lenS {z : Str} (hl : z.length ≤ sizeLine) (q : Q (.int z.length) H) : rLenX K [.str z] H Q := ⟨.str z, z.length, rfl, ⟨hl, rfl⟩, q⟩
theorem p_lenL {a : Addr} {xs : List V} (h : SqL K H a xs) (q : Q (.int xs.length) H) : rLenX K [.ref a] H Q := ⟨.ref a, xs.length, rfl, .inl ⟨xs, h, rfl⟩, q⟩
theorem p_lenT {a : Addr} {xs : List V} (h : SqT K H a xs) (q : Q (.int xs.length) H) : rLenX K [.ref a] H Q := ⟨.ref a, xs.length, rfl, .inr ⟨xs, h, rfl⟩, q⟩
theorem p_ixL {a : Addr} {xs : List V} (h : SqL K H a xs) (ha : atI xs i = some v) (q : Q v H) : rIx K (.ref a) (.int i) H Q := .inl ⟨a, xs, i, v, rfl, rfl, h, ha, q⟩
theorem p_ixT {a : Addr} {xs : List V} (h : SqT K H a xs) (ha : atI xs i = some v) (q : Q v H) : rIx K (.ref a) (.int i) H Q := .inr (.inl ⟨a, xs, i, v, rfl, rfl, h, ha, q⟩)
theorem p_ixS {z : Str} {c : Nat} (hl : z.length ≤ sizeLine) (ha : atI z.cps.toList i = some c) (q : Q (.str ⟨#[c]⟩) H) : rIx K (.str z) (.int i) H Q := .inr (.inr ⟨z, i, c, rfl, rfl, hl, ha, q⟩)
theorem p_setL {a : Addr} {xs : List V} {n : Nat} {R : Hp → Prop} (h : H a = some (.lst xs)) (hi : ixN xs.length i = some n) (q : R (upd H a (.lst (xs.set n v)))) : rSetL (.ref a) (.int i) v H R := ⟨a, xs, i, n, rfl, rfl, h, hi, q⟩
theorem i_m1 (h : ta σ H fun x H1 => (∃ a, x = .str a) ∧ tb σ H1 fun y H2 => rm x [y] H2 Q) : tM1 rm ta tb σ H Q := h
theorem i_m0 (h : ta σ H fun x H1 => (∃ a, x = .str a) ∧ rm x [] H1 Q) : tM0 rm ta σ H Q := h
theorem i_str {z : Str} {B : Prop} (h : B) : (∃ a, V.str z = .str a) ∧ B := ⟨⟨z, rfl⟩, h⟩
theorem p_join {z : Str} {a : Addr} {ys : List Str} (h : SqL K H a (ys.map V.str)) (hl : (ys.map (·.length)).sum + ys.length * z.length ≤ 16777216) (q : Q (.str (Txt.join z ys)) H) :
    ∃ a' p, ∃ ys : List Str, V.str z = .str a' ∧ [V.ref a] = [.ref p] ∧ (SqL K H p (ys.map V.str) ∨ SqT K H p (ys.map V.str)) ∧ (ys.map (·.length)).sum + ys.length * a'.length ≤ 16777216 ∧ Q (.str (Txt.join a' ys)) H := ⟨z, a, ys, rfl, rfl, .inl h, hl, q⟩
theorem ift {A B : Prop} {c : Bool} (h1 : c = true → A) (h2 : c = false → B) : if c = true then A else B := by
  cases c with
  | true => exact h1 rfl
  | false => exact h2 rfl
end

/-! ### the pool -/
/-- the pool at p, its numbers at n, at most k draws so far -/
def PoolAt (H : Hp) (p n : Addr) (k : Int) : Prop := ∃ (ns : List Int) (a c z st : Int), H p = some (.lst [.ref n, .int a, .int c, .int z, .int st]) ∧ H n = some (.lst (ns.map V.int)) ∧ 0 ≤ a ∧ 0 ≤ c ∧ c ≤ k ∧ 0 ≤ z ∧ z < 2147483647
/-- what was tracked stands, but for the pool -/
def Keep (p n : Addr) (H H' : Hp) : Prop := ∀ a o, H a = some o → a ≠ p → a ≠ n → H' a = some o
theorem Keep.get {p n a : Addr} {H H' : Hp} {o : HO} (e : Keep p n H H') (h : H a = some o) (h1 : a ≠ p) (h2 : a ≠ n) : H' a = some o := e a o h h1 h2
theorem Keep.refl (p n : Addr) (H : Hp) : Keep p n H H := fun _ _ h _ _ => h
theorem Keep.trans {p n : Addr} {H H1 H2 : Hp} (a : Keep p n H H1) (b : Keep p n H1 H2) : Keep p n H H2 := fun x o h h1 h2 => b x o (a x o h h1 h2) h1 h2
theorem Keep.same {p n : Addr} {H H1 : Hp} (a : Same H H1) : Keep p n H H1 := fun x o h _ _ => a x o h
theorem Keep.upd {p n d : Addr} {H H1 : Hp} {o : HO} (k : Keep p n H H1) (h : H d = none) : Keep p n H (L2.upd H1 d o) := fun x u e h1 h2 => by
  rw [upd_ne (ne_of_none e h)]
  exact k x u e h1 h2
theorem PoolAt.ne {p n a : Addr} {H : Hp} {k : Int} (h : PoolAt H p n k) (e : H a = none) : a ≠ p ∧ a ≠ n := by
  obtain ⟨ns, b, c, z, st, h1, h2, _⟩ := h
  exact ⟨(ne_of_none h1 e).symm, (ne_of_none h2 e).symm⟩
theorem PoolAt.same {p n : Addr} {H H' : Hp} {k : Int} (h : PoolAt H p n k) (e : Same H H') : PoolAt H' p n k := by
  obtain ⟨ns, b, c, z, st, h1, h2, h3⟩ := h
  exact ⟨ns, b, c, z, st, e _ _ h1, e _ _ h2, h3⟩
theorem PoolAt.mono {p n : Addr} {H : Hp} {k j : Int} (h : PoolAt H p n k) (e : k ≤ j) : PoolAt H p n j := by
  obtain ⟨ns, b, c, z, st, h1, h2, h3, h4, h5, h6⟩ := h
  exact ⟨ns, b, c, z, st, h1, h2, h3, h4, by omega, h6⟩
theorem PoolAt.upd {p n d : Addr} {H : Hp} {k : Int} {o : HO} (h : PoolAt H p n k) (h1 : d ≠ p) (h2 : d ≠ n) : PoolAt (L2.upd H d o) p n k := by
  obtain ⟨ns, b, c, z, st, e1, e2, h3⟩ := h
  exact ⟨ns, b, c, z, st, by rw [upd_ne (Ne.symm h1)]; exact e1, by rw [upd_ne (Ne.symm h2)]; exact e2, h3⟩
theorem Same.upd {d : Addr} {H H1 : Hp} {o : HO} (k : Same H H1) (h : H d = none) : Same H (L2.upd H1 d o) := fun x u e => by
  rw [upd_ne (ne_of_none e h)]
  exact k x u e

theorem log_lt {m : Int} (h0 : 0 ≤ m) (h : m < 1000000000000) : m.natAbs.log2 < 9000 := Nat.lt_of_lt_of_le (PySem.Flt.log2_lt_of (k := 64) (by decide) (by
  have e : (2 : Nat) ^ 64 = 18446744073709551616 := by decide
  rw [e]
  omega)) (by decide)
/-! ### slices -/
section
variable {K : PySem.W.Frag} {σ : L2.St} {H : Hp} {Q : VK} {te : TE} {tl th : TO} {lo hi : Option Int}
theorem i_sl {r : V → Option Int → Option Int → Hp → VK → Prop} (h : te σ H fun x H1 => tl σ H1 fun a H2 => th σ H2 fun b H3 => r x a b H3 Q) : tSl r te tl th σ H Q := h
theorem i_np {R : Option Int → Hp → Prop} (h : R none H) : tNoPart σ H R := h
theorem i_pt {R : Option Int → Hp → Prop} (h : te σ H fun x H1 => ∃ i, x = .int i ∧ R (some i) H1) : tPart te σ H R := h
theorem i_in {i : Int} {R : Int → Prop} (h : R i) : ∃ k, V.int i = .int k ∧ R k := ⟨i, rfl, h⟩
theorem p_slL {a : Addr} {xs : List V} (h : SqL K H a xs) (q : ∀ p H', H p = none → Same H H' → H' p = some (.lst (cutV xs lo hi)) → Q (.ref p) H') : rSlXX K (.ref a) lo hi H Q := .inl ⟨a, xs, rfl, h, al q⟩
theorem p_slS {z : Str} (h : z.length ≤ sizeLine) (q : Q (.str (cutS z lo hi)) H) : rSlXX K (.str z) lo hi H Q := .inr ⟨z, rfl, h, q⟩
theorem cutV_to (xs : List V) (k : Nat) : cutV xs none (some (k : Int)) = xs.take k := by
  unfold cutV
  rw [show HT.sIx xs.length 0 none = 0 from HT.sIx_none _ _, HT.sIx_nat]
  rw [List.drop_zero, Nat.sub_zero]
  by_cases h : k ≤ xs.length
  · rw [Nat.min_eq_left h]
  · rw [Nat.min_eq_right (by omega), List.take_length, List.take_of_length_le (by omega)]
theorem cutV_from (xs : List V) (k : Nat) : cutV xs (some (k : Int)) none = xs.drop k := by
  unfold cutV
  rw [HT.sIx_nat, HT.sIx_none]
  by_cases h : k ≤ xs.length
  · rw [Nat.min_eq_left h]
    exact List.take_of_length_le (by rw [List.length_drop]; exact Nat.le_refl _)
  · rw [Nat.min_eq_right (by omega), List.drop_length, List.drop_of_length_le (by omega), List.take_nil]
end

/-! ### comprehensions -/
section
variable {K : PySem.W.Frag} {a D : Addr} {xs : List V} {g : TG} {tt : TT} {te : TE} {vs : List Nat} {σ : L2.St} {H1 : Hp} {Qd : Hp → Prop}
/-- behind i turns: R of the heap, J of the list made so far -/
def LcNx (D : Addr) (R : Nat → Hp → Prop) (J : Nat → List V → Prop) (i : Nat) (H : Hp) : Prop := ∃ acc, H D = some (.lst acc) ∧ R i H ∧ J i acc ∧ acc.length ≤ i
def LcEnd (D : Addr) (R : Nat → Hp → Prop) (J : Nat → List V → Prop) (i : Nat) : VK := fun y H4 => ∃ acc, H4 D = some (.lst acc) ∧ acc.length < sizeLine ∧ LcNx D R J i (upd H4 D (.lst (acc ++ [y])))
def LcTurn (D : Addr) (R : Nat → Hp → Prop) (J : Nat → List V → Prop) (g : TG) (tt : TT) (te : TE) (vs : List Nat) (σ : L2.St) (i : Nat) (x : V) : Prop := ∀ acc H, R i H → J i acc → H D = some (.lst acc) → acc.length ≤ i →
  g x (wipe σ vs) H fun σ2 H2 => wipe σ2 vs = wipe σ vs ∧ tt σ2 H2 fun b H3 => if b = true then te σ2 H3 (LcEnd D R J (i + 1)) else LcNx D R J (i + 1) H3
theorem lc_end {R : Nat → Hp → Prop} {J : Nat → List V → Prop} {i : Nat} {y : V} {H4 : Hp} {acc : List V} (h : H4 D = some (.lst acc)) (hl : acc.length ≤ i) (hi : i < 100000) (r : R (i + 1) (upd H4 D (.lst (acc ++ [y])))) (j : J (i + 1) (acc ++ [y])) : LcEnd D R J (i + 1) y H4 :=
  ⟨acc, h, Nat.lt_of_lt_of_le (by omega) (show 100000 ≤ sizeLine by decide), acc ++ [y], upd_same, r, j, by rw [List.length_append, List.length_singleton]; omega⟩
theorem lc_skip {R : Nat → Hp → Prop} {J : Nat → List V → Prop} {i : Nat} {H4 : Hp} {acc : List V} (h : H4 D = some (.lst acc)) (hl : acc.length ≤ i) (r : R (i + 1) H4) (j : J (i + 1) acc) : LcNx D R J (i + 1) H4 :=
  ⟨acc, h, r, j, by omega⟩
/-- what is asked of the walked thing -/
def LcBody (g : TG) (tt : TT) (te : TE) (vs : List Nat) (σ : L2.St) (Q : VK) : It → Hp → Prop := fun J H1 => tLc (fun _ H R => R J H) g tt te vs σ H1 Q
theorem i_lc {wi : TI} {Q : VK} (h : wi σ H1 (LcBody g tt te vs σ Q)) : tLc wi g tt te vs σ H1 Q := h
/-- a walked thing that gives the items of xs, the heap as it was -/
abbrev WalkX (J : It) (xs : List V) (G : Hp → Prop) : Prop := Walk J xs.length G (YAt xs)
theorem lcw {J : It} {G : Hp → Prop} {Q : VK} (w : WalkX J xs G) (h : ∀ D, H1 D = none → ∃ (R : Nat → Hp → Prop) (Jx : Nat → List V → Prop), R 0 (upd H1 D (.lst [])) ∧ Jx 0 [] ∧ (∀ i H, R i H → G H) ∧ (∀ i x, xs[i]? = some x → LcTurn D R Jx g tt te vs σ i x) ∧
      ∀ acc H, R xs.length H → Jx xs.length acc → H D = some (.lst acc) → acc.length ≤ xs.length → Q (.ref D) H) : LcBody g tt te vs σ Q J H1 := by
  intro D hD
  obtain ⟨R, Jx, r0, j0, hG, ht, hd⟩ := h D hD
  refine lc_it w (LcNx D R Jx) ⟨[], upd_same, r0, j0, Nat.le_refl _⟩ (fun i H _ p => ?_) (fun i x H H' hi p y => ?_) (fun H p => ?_)
  · obtain ⟨acc, _, r, _⟩ := p
    exact hG i H r
  · obtain ⟨acc, e, r, j, l⟩ := p
    obtain ⟨rfl, hx⟩ := y
    exact ht i x hx acc H' r j e l
  · obtain ⟨acc, e, r, j, l⟩ := p
    exact hd acc H r j e l
theorem list_take_more {α : Type} {l : List α} {i : Nat} {x : α} (h : l[i]? = some x) : l.take (i + 1) = l.take i ++ [x] := by
  rw [List.take_add_one, h]
  rfl
/-- pure: the items that p lets through, by f -/
theorem lcw_fm {J : It} {G : Hp → Prop} {Q : VK} {j : Nat} (w : WalkX J xs G) (p : V → Bool) (f : V → V) (hG : ∀ H', Same H1 H' → G H') (hz : xs.length < 100000) (hw : ∀ x, wipe ((wipe σ vs).set j (some x)) vs = wipe σ vs)
    (ht : ∀ x, x ∈ xs → ∀ (H' : Hp) (R : Bool → Hp → Prop), Same H1 H' → (∀ H'', Same H' H'' → R (p x) H'') → tt ((wipe σ vs).set j (some x)) H' R)
    (he : ∀ x, x ∈ xs → p x = true → ∀ (H' : Hp) (R : VK), Same H1 H' → (∀ H'', Same H' H'' → R (f x) H'') → te ((wipe σ vs).set j (some x)) H' R)
    (q : ∀ D H', H1 D = none → Same H1 H' → H' D = some (.lst ((xs.filter p).map f)) → Q (.ref D) H') : LcBody (gName j) tt te vs σ Q J H1 := by
  refine lcw w fun D hD => ⟨fun _ H => Same H1 H, fun i acc => acc = ((xs.take i).filter p).map f, same_upd hD, rfl, fun _ H s => hG H s, fun i x hx acc H s ej e hl => ?_, fun acc H s ej e _ => ?_⟩
  · have hm : x ∈ xs := List.mem_of_getElem? hx
    have hi : i < 100000 := Nat.lt_trans (List.getElem?_eq_some_iff.mp hx).1 hz
    refine ⟨hw x, ht x hm H _ s fun H3 s3 => ?_⟩
    cases hp : p x with
    | true =>
      refine iteT (he x hm hp H3 _ (s.trans s3) fun H4 s4 => ?_)
      have s14 := (s.trans s3).trans s4
      refine lc_end (s4 _ _ (s3 _ _ e)) hl hi (Same.upd s14 hD) ?_
      have ej : acc = ((xs.take i).filter p).map f := ej
      show acc ++ [f x] = ((xs.take (i + 1)).filter p).map f
      rw [list_take_more hx, List.filter_append, List.map_append, ← ej]
      simp [hp]
    | false =>
      refine iteF (lc_skip (s3 _ _ e) hl (s.trans s3) ?_)
      have ej : acc = ((xs.take i).filter p).map f := ej
      show acc = ((xs.take (i + 1)).filter p).map f
      rw [list_take_more hx, List.filter_append, List.map_append, ← ej]
      simp [hp]
  · have ej : acc = ((xs.take xs.length).filter p).map f := ej
    rw [List.take_length] at ej
    exact q D H hD s (by rw [← ej]; exact e)
/-- with draws: R tells the pool's state, J the list -/
theorem lcw_pool {J : It} {G : Hp → Prop} {Q : VK} {j : Nat} {p n : Addr} {k d : Int} (w : WalkX J xs G) (Jx : Nat → List V → Prop) (hP : PoolAt H1 p n k) (hG : ∀ H', Keep p n H1 H' → G H') (hz : xs.length < 100000) (hw : ∀ x, wipe ((wipe σ vs).set j (some x)) vs = wipe σ vs) (j0 : Jx 0 [])
    (he : ∀ i x acc, xs[i]? = some x → Jx i acc → ∀ (H' : Hp) (R : VK), Keep p n H1 H' → PoolAt H' p n (k + i * d) → (∀ y H'', Keep p n H' H'' → PoolAt H'' p n (k + (i + 1 : Nat) * d) → Jx (i + 1) (acc ++ [y]) → R y H'') → te ((wipe σ vs).set j (some x)) H' R)
    (q : ∀ D H' acc, H1 D = none → Keep p n H1 H' → PoolAt H' p n (k + xs.length * d) → Jx xs.length acc → acc.length ≤ xs.length → H' D = some (.lst acc) → Q (.ref D) H') : LcBody (gName j) tYes te vs σ Q J H1 := by
  refine lcw w fun D hD => ⟨fun i H => Keep p n H1 H ∧ PoolAt H p n (k + i * d), Jx, ⟨(Keep.refl p n H1).upd hD, ?_⟩, j0, fun _ H s => hG H s.1, fun i x hx acc H s ej e hl => ?_, fun acc H s ej e hl => q D H acc hD s.1 s.2 ej hl e⟩
  · have z : PoolAt (L2.upd H1 D (.lst [])) p n k := hP.upd (hP.ne hD).1 (hP.ne hD).2
    exact z.mono (by simp)
  · have hi : i < 100000 := Nat.lt_trans (List.getElem?_eq_some_iff.mp hx).1 hz
    refine ⟨hw x, ?_⟩
    have goal : te ((wipe σ vs).set j (some x)) H (LcEnd D (fun i H => Keep p n H1 H ∧ PoolAt H p n (k + i * d)) Jx (i + 1)) := he i x acc hx ej H _ s.1 s.2 fun y H4 s4 p4 j4 => by
      have e4 := s4 _ _ e (hP.ne hD).1 (hP.ne hD).2
      exact lc_end e4 hl hi ⟨(s.1.trans s4).upd hD, p4.upd (hP.ne hD).1 (hP.ne hD).2⟩ j4
    exact goal
theorem p_lcL {Q : VK} {xs : List V} (h : SqL K H1 a xs) (q : LcBody g tt te vs σ Q (Itl K a) H1) : ∃ a', V.ref a = .ref a' ∧ (∃ xs, SqL K H1 a' xs) ∧ LcBody g tt te vs σ Q (Itl K a') H1 := ⟨a, rfl, ⟨xs, h⟩, q⟩
theorem p_lcT {Q : VK} {xs : List V} (h : SqT K H1 a xs) (q : LcBody g tt te vs σ Q (Itt K a) H1) : ∃ a', V.ref a = .ref a' ∧ (∃ xs, SqT K H1 a' xs) ∧ LcBody g tt te vs σ Q (Itt K a') H1 := ⟨a, rfl, ⟨xs, h⟩, q⟩
end
/-! ### walked things -/
section
variable {K : PySem.W.Frag} {a : Addr} {xs : List V} {σ : L2.St} {H : Hp} {R : It → Hp → Prop} {te : TE} {ta : TA}
theorem i_itl (h : te σ H fun x H1 => ∃ a, x = .ref a ∧ (∃ xs, SqL K H1 a xs) ∧ R (Itl K a) H1) : iList K te σ H R := h
theorem i_itt (h : te σ H fun x H1 => ∃ a, x = .ref a ∧ (∃ xs, SqT K H1 a xs) ∧ R (Itt K a) H1) : iTup K te σ H R := h
theorem i_itr (h : ta σ H fun vs H1 => ∃ j : Int, vs = [.int j] ∧ -(2 ^ 62) ≤ j ∧ j < 2 ^ 62 ∧ R (Itr 0 j.toNat) H1) : iRng1 ta σ H R := h
theorem i_its (h : te σ H fun v H1 => ∃ x, v = .str x ∧ R (Its x) H1) : iStr te σ H R := h
theorem p_itl {R : Addr → Prop} (h : SqL K H a xs) (q : R a) : ∃ a', V.ref a = .ref a' ∧ (∃ xs, SqL K H a' xs) ∧ R a' := ⟨a, rfl, ⟨xs, h⟩, q⟩
theorem p_itt {R : Addr → Prop} (h : SqT K H a xs) (q : R a) : ∃ a', V.ref a = .ref a' ∧ (∃ xs, SqT K H a' xs) ∧ R a' := ⟨a, rfl, ⟨xs, h⟩, q⟩
theorem p_itr {R : Int → Prop} {i : Int} (h1 : -(2 ^ 62) ≤ i) (h2 : i < 2 ^ 62) (q : R i) : ∃ j, [V.int i] = [.int j] ∧ -(2 ^ 62) ≤ j ∧ j < 2 ^ 62 ∧ R j := ⟨i, rfl, h1, h2, q⟩
theorem p_its {R : Str → Prop} {z : Str} (q : R z) : ∃ x, V.str z = .str x ∧ R x := ⟨z, rfl, q⟩
/-- the signs of a text, each a text -/
def chars (z : Str) : List V := z.cps.toList.map fun c => V.str ⟨#[c]⟩
def intsV (n : Nat) : List V := (List.range n).map fun i : Nat => V.int i
theorem intsV_len (n : Nat) : (intsV n).length = n := by simp [intsV]
theorem chars_len (z : Str) : (chars z).length = z.length := by simp [chars, Str.length]
theorem wx_list : WalkX (Itl K a) xs (fun H => SqL K H a xs) := walk_list
theorem wx_tup : WalkX (Itt K a) xs (fun H => SqT K H a xs) := walk_tup
theorem wx_range {n : Nat} : WalkX (Itr 0 n) (intsV n) (fun _ => True) := by
  unfold WalkX
  rw [intsV_len]
  refine walk_range.mono (fun _ h => h) fun i H x H' hi _ y => ⟨y.1, ?_⟩
  rw [y.2, intsV, List.getElem?_map, List.getElem?_range hi]
  simp
theorem wx_str {z : Str} : WalkX (Its z) (chars z) (fun _ => True) := by
  have e : (chars z).length = z.cps.size := by simp [chars]
  unfold WalkX
  rw [e]
  refine walk_str.mono (fun _ h => h) fun i H x H' hi _ y => ⟨y.1, ?_⟩
  obtain ⟨c, hc, rfl⟩ := y.2
  rw [chars, List.getElem?_map, Array.getElem?_toList, hc]
  rfl
/-! ### for -/
def FoBody (g : TG) (tb : TS) (D : Ends) (σ : L2.St) : It → Hp → Prop := fun J H1 => tFor (fun _ H R => R J H) g tb D σ H1
theorem i_for {wi : TI} {g : TG} {tb : TS} {D : Ends} (h : wi σ H (FoBody g tb D σ)) : tFor wi g tb D σ H := h
theorem fow {J : It} {G : Hp → Prop} {g : TG} {tb : TS} {D : Ends} (w : WalkX J xs G) (Pv : Nat → L2.St → Hp → Prop) (h0 : Pv 0 σ H) (hG : ∀ i σ H, Pv i σ H → G H)
    (hs : ∀ i x σ H, xs[i]? = some x → Pv i σ H → g x σ H fun σ2 H2 => tb { D with nx := Pv (i + 1), ct := Pv (i + 1), bk := D.nx } σ2 H2) (hd : ∀ σ H, Pv xs.length σ H → D.nx σ H) : FoBody g tb D σ J H :=
  for_it w Pv h0 (fun i σ H _ p => hG i σ H p) (fun i x σ H H' _ p y => by
    obtain ⟨rfl, hx⟩ := y
    exact hs i x σ H' hx p) hd
end
end Pk

namespace Pk
open PySem PySem.Spec PyProof.Rows L2
/-! ### kinds of plain values -/
inductive Kn where | non | bl | int | str | lst | tup | dct
  deriving DecidableEq
def Kn.is : Kn → Kn → Bool
  | .bl, .int => true
  | a, b => a == b
inductive Kd (H : Hp) : V → Kn → Prop where
  | non : Kd H .non .non
  | bl (b : Bool) : Kd H (.bl b) .bl
  | int (i : Int) : Kd H (.int i) .int
  | str (z : Str) (h : z.length ≤ 10000) : Kd H (.str z) .str
  | lst {a : Addr} {xs : List V} (e : H a = some (.lst xs)) : Kd H (.ref a) .lst
  | tup {a : Addr} {xs : List V} (e : H a = some (.tup xs)) : Kd H (.ref a) .tup
  | dct {a : Addr} {kvs : List (Key × V)} (e : H a = some (.dK kvs)) : Kd H (.ref a) .dct
theorem Kd.same {H H' : Hp} {x : V} {k : Kn} (s : Same H H') (h : Kd H x k) : Kd H' x k := by
  cases h with
  | non => exact .non
  | bl b => exact .bl b
  | int i => exact .int i
  | str z h => exact .str z h
  | lst e => exact .lst (s _ _ e)
  | tup e => exact .tup (s _ _ e)
  | dct e => exact .dct (s _ _ e)
def Kn.nm : Kn → String
  | .non => "NoneType" | .bl => "bool" | .int => "int" | .str => "str" | .lst => "list" | .tup => "tuple" | .dct => "dict"
theorem kit_nm (a c : Kn) (hc : c ≠ .non) : kitB a.nm c.nm = some (a.is c) := by
  cases a <;> cases c <;> first | exact absurd rfl hc | decide +kernel
theorem Kd.tyx {K : PySem.W.Frag} {H : Hp} {x : V} {k : Kn} (h : Kd H x k) : TyX K H x (.type k.nm) := by
  cases h with
  | non => exact .base .non
  | bl b => exact .base (.bl b)
  | int i => exact .base (.int i)
  | str z _ => exact .base (.str z)
  | lst e => exact .base (.lst e)
  | tup e => exact .base (.tup e)
  | dct e => exact .base (.dK e)
section
variable {K : PySem.W.Frag} {σ : L2.St} {H : Hp} {Q : VK} {x : V} {a : Kn}
theorem p_isi (c : Kn) (hc : c ≠ .non) (h : Kd H x a) (q : Q (.bl (a.is c)) H) : rIsi K [x, .ty c.nm] H Q := ⟨x, .ty c.nm, .type a.nm, .type c.nm, a.is c, rfl, .ty _, h.tyx, kit_ty (kit_nm a c hc), q⟩
theorem p_isStr (h : Kd H x a) (q : Q (.bl (a.is .str)) H) : rIsi K [x, .ty "str"] H Q := p_isi .str (by decide) h q
theorem p_isInt (h : Kd H x a) (q : Q (.bl (a.is .int)) H) : rIsi K [x, .ty "int"] H Q := p_isi .int (by decide) h q
theorem p_isBool (h : Kd H x a) (q : Q (.bl (a.is .bl)) H) : rIsi K [x, .ty "bool"] H Q := p_isi .bl (by decide) h q
theorem p_isi2 (c d : Kn) (hc : c ≠ .non) (hd : d ≠ .non) {t : Addr} (ht : H t = some (.tup [.ty c.nm, .ty d.nm])) (h : Kd H x a) (q : Q (.bl (a.is c || a.is d)) H) : rIsiT K [x, .ref t] H Q := by
  refine ⟨x, t, _, .type a.nm, [.type c.nm, .type d.nm], a.is c || a.is d, rfl, ht, .cons (.ty _) (.cons (.ty _) .nil), h.tyx, ?_, q⟩
  refine kitAny_cons (kit_ty (kit_nm a c hc)) (fun h1 => ?_) (fun h1 => by rw [h1]; rfl)
  refine kitAny_cons (kit_ty (kit_nm a d hd)) (fun h2 => ?_) (fun h2 => by rw [h2, Bool.or_true])
  rw [h1, h2]
  exact kitAny_nil
theorem p_isLT {t : Addr} (ht : H t = some (.tup [.ty "list", .ty "tuple"])) (h : Kd H x a) (q : Q (.bl (a.is .lst || a.is .tup)) H) : rIsiT K [x, .ref t] H Q := p_isi2 .lst .tup (by decide) (by decide) ht h q
/-! ### all, chains, truth -/
theorem p_all {p : Addr} {bs : List Bool} (h : SqL K H p (bs.map V.bl)) (q : Q (.bl (bs.all id)) H) : rAll K [.ref p] H Q := ⟨p, bs, rfl, h, q⟩
theorem i_chain {r r' : R2} {ta tb tc : TE} (h : ta σ H fun x H1 => tb σ H1 fun y H2 => r x y H2 fun z H3 => ∃ k, z = .bl k ∧ (if k = true then tc σ H3 fun w' H4 => r' y w' H4 Q else Q (.bl false) H3)) : tChain r r' ta tb tc σ H Q := h
theorem sign_lt (c d : Nat) : decide ((#[c] : Array Nat).toList < (#[d] : Array Nat).toList) = decide (c < d) := by
  apply decide_eq_decide.mpr
  constructor
  · intro h
    rcases h with h | h | ⟨h, h2⟩
    · exact h
  · intro h
    exact .rel h
/-! ### == [] over texts -/
theorem dp_strs {ys : List Str} : DpAll K H (ys.map V.str) (ys.map PyData.str) := by
  induction ys with
  | nil => exact .nil
  | cons y r ih => exact .cons (.str y) ih
theorem lay_strs : ∀ ys : List Str, (∀ y ∈ ys, PyData.strOk y = true) → PyData.canLayAll0 (ys.map PyData.str) = true
  | [], _ => by simp [PyData.canLayAll0]
  | y :: r, h => by
    have ih := lay_strs r fun z hz => h z (List.mem_cons_of_mem _ hz)
    simp [PyData.canLayAll0, PyData.canLay0, ih, h y List.mem_cons_self]
theorem dep_strs : ∀ ys : List Str, PyData.depthAll (ys.map PyData.str) = 0
  | [] => by simp [PyData.depthAll]
  | y :: r => by
    have ih := dep_strs r
    simp [PyData.depthAll, PyData.depth, ih]
theorem sh_strs {ys : List Str} (h : ∀ y ∈ ys, PyData.strOk y = true) : SeqAt.shaped (.list (ys.map PyData.str)) = true := by
  unfold SeqAt.shaped
  simp [PyData.canLay0, lay_strs ys h, PyData.depth, dep_strs]
theorem eqv_nil (ys : List Str) : PyData.eqv (.list (ys.map PyData.str)) (.list []) = ys.isEmpty := by
  cases ys <;> simp [PyData.eqv, PyData.eqvAll]
theorem p_eqNil {p r : Addr} {xs : List V} (h1 : H p = some (.lst xs)) (h2 : H r = some (.lst [])) (q : Q (.bl xs.isEmpty) H) : rEqX K (.ref p) (.ref r) H Q := by
  cases xs with
  | nil => exact .inr (.inl ⟨.list [], .list [], .lst (SqL.of h1) .nil, .lst (SqL.of h2) .nil, by decide +kernel, by decide +kernel, by
      have e : PyData.eqv (.list []) (.list []) = true := by decide +kernel
      rw [e]
      exact q⟩)
  | cons x r' => exact .inr (.inr ⟨p, r, _, _, rfl, rfl, h1, h2, by simp, q⟩)
theorem p_neNil {p r : Addr} {xs : List V} (h1 : H p = some (.lst xs)) (h2 : H r = some (.lst [])) (q : Q (.bl (!xs.isEmpty)) H) : rNeX K (.ref p) (.ref r) H Q := by
  cases xs with
  | nil => exact .inr (.inl ⟨.list [], .list [], .lst (SqL.of h1) .nil, .lst (SqL.of h2) .nil, by decide +kernel, by decide +kernel, by
      have e : PyData.eqv (.list []) (.list []) = true := by decide +kernel
      rw [e]
      exact q⟩)
  | cons x r' => exact .inr (.inr ⟨p, r, _, _, rfl, rfl, h1, h2, by simp, q⟩)
/-! ### texts -/
theorem foldl_app (cs : List Nat) : ∀ acc : Array Nat, (cs.map fun c => (⟨#[c]⟩ : Str)).foldl (fun acc p => acc ++ (⟨#[]⟩ : Str).cps ++ p.cps) acc = acc ++ cs.toArray := by
  induction cs with
  | nil => intro acc; simp
  | cons c r ih =>
    intro acc
    rw [List.map_cons, List.foldl_cons, ih]
    simp
theorem join_chars (cs : List Nat) : Txt.join Str.empty (cs.map fun c => (⟨#[c]⟩ : Str)) = ⟨cs.toArray⟩ := by
  cases cs with
  | nil => rfl
  | cons c r =>
    show Builtin.Str.glued _ _ = _
    unfold Builtin.Str.glued
    have e := foldl_app r #[c]
    refine congrArg Str.mk ?_
    rw [List.map_cons, List.drop_one, List.tail_cons]
    refine Eq.trans e ?_
    simp
theorem ifT' {c : Bool} {A B : Prop} (h : c = true) (a : A) : if c = true then A else B := by rw [if_pos h]; exact a
theorem ifF' {c : Bool} {A B : Prop} (h : c = false) (b : B) : if c = true then A else B := by rw [h]; exact iteF b
def plainB (z : Str) : Bool := z.cps.toList.all fun c => decide (32 ≤ c) && decide (c ≤ 126)
def lineB : V → Bool
  | .str z => decide (z.length ≤ 40) && plainB z
  | _ => false
theorem cut_to (z : Str) (k : Nat) : cutS z none (some (k : Int)) = ⟨(z.cps.toList.take k).toArray⟩ := by
  unfold cutS
  rw [show HT.sIx z.length 0 none = 0 from HT.sIx_none _ _, HT.sIx_nat, List.drop_zero, Nat.sub_zero]
  have e : z.length = z.cps.toList.length := by simp [Str.length]
  by_cases h : k ≤ z.length
  · rw [Nat.min_eq_left h]
  · rw [Nat.min_eq_right (by omega), List.take_of_length_le (by omega), List.take_of_length_le (by omega)]
theorem cut_from (z : Str) (k : Nat) : cutS z (some (k : Int)) none = ⟨(z.cps.toList.drop k).toArray⟩ := by
  unfold cutS
  have e : z.length = z.cps.toList.length := by simp [Str.length]
  rw [HT.sIx_nat, HT.sIx_none]
  by_cases h : k ≤ z.length
  · rw [Nat.min_eq_left h, List.take_of_length_le (by rw [List.length_drop]; omega)]
  · rw [Nat.min_eq_right (by omega), List.drop_of_length_le (by omega), List.drop_of_length_le (by omega), List.take_nil]
theorem app_cps (a b : Str) : (a ++ b).cps.toList = a.cps.toList ++ b.cps.toList := by
  show (a.cps ++ b.cps).toList = _
  simp
theorem app_len (a b : Str) : (a ++ b).length = a.length + b.length := by
  show (a.cps ++ b.cps).size = _
  simp [Str.length]
theorem sum_ones (cs : List Nat) : ((cs.map fun c => (⟨#[c]⟩ : Str)).map (·.length)).sum = cs.length := by
  induction cs with
  | nil => rfl
  | cons c r ih =>
    rw [List.map_cons, List.map_cons, List.sum_cons, ih, List.length_cons]
    show 1 + r.length = r.length + 1
    omega
/-! ### kinds beside the pool -/
def KdP (p n : Addr) (H : Hp) (x : V) (k : Kn) : Prop := Kd H x k ∧ ∀ b, x = .ref b → b ≠ p ∧ b ≠ n
theorem KdP.keep {p n : Addr} {H H' : Hp} {x : V} {k : Kn} (e : Keep p n H H') (h : KdP p n H x k) : KdP p n H' x k := by
  obtain ⟨h, hb⟩ := h
  refine ⟨?_, hb⟩
  cases h with
  | non => exact .non
  | bl b => exact .bl b
  | int i => exact .int i
  | str z h => exact .str z h
  | lst q => exact .lst (e _ _ q (hb _ rfl).1 (hb _ rfl).2)
  | tup q => exact .tup (e _ _ q (hb _ rfl).1 (hb _ rfl).2)
  | dct q => exact .dct (e _ _ q (hb _ rfl).1 (hb _ rfl).2)
theorem KdP.same {p n : Addr} {H H' : Hp} {x : V} {k : Kn} (e : Same H H') (h : KdP p n H x k) : KdP p n H' x k := ⟨h.1.same e, h.2⟩
theorem KdP.flat {p n : Addr} {H : Hp} {x : V} {k : Kn} (h : Kd H x k) (hx : ∀ b, x ≠ .ref b) : KdP p n H x k := ⟨h, fun b e => absurd e (hx b)⟩
theorem two_at {x y : V} {r : Int} (h0 : 0 ≤ r) (h1 : r < 2) : ∃ v, (v = x ∨ v = y) ∧ atI [x, y] r = some v := by
  have h : r = 0 ∨ r = 1 := by omega
  rcases h with rfl | rfl
  · exact ⟨x, .inl rfl, rfl⟩
  · exact ⟨y, .inr rfl, rfl⟩
theorem at_lt {xs : List V} {r : Int} (h0 : 0 ≤ r) (h1 : r < xs.length) : ∃ v, v ∈ xs ∧ atI xs r = some v := by
  have h : r.toNat < xs.length := by omega
  exact ⟨xs[r.toNat], List.getElem_mem h, at_of (j := r.toNat) (by omega) (List.getElem?_eq_getElem h)⟩
theorem intsV_at {n i : Nat} {x : V} (h : (intsV n)[i]? = some x) : i < n ∧ x = .int i := by
  have hi : i < n := by
    have := (List.getElem?_eq_some_iff.mp h).1
    rwa [intsV_len] at this
  rw [intsV, List.getElem?_map, List.getElem?_range hi] at h
  exact ⟨hi, (Option.some.inj h).symm⟩
theorem cutS_len (z : Str) (lo hi : Option Int) : (cutS z lo hi).length ≤ z.length := cutS_length z lo hi
/-- the empty dict -/
theorem p_dnew {R : VK} (q : ∀ d H', H d = none → Same H H' → H' d = some (.dK []) → R (.ref d) H') : ∀ d, H d = none → R (.ref d) (upd H d (.dK [])) := fun d hd => q d _ hd (same_upd hd) upd_same
theorem p_tupL {p : Addr} {xs : List V} (h : SqL K H p xs) (q : ∀ d H', H d = none → Same H H' → H' d = some (.tup xs) → Q (.ref d) H') : rTupX K [.ref p] H Q := ⟨p, xs, rfl, .inl ⟨h, al q⟩⟩
theorem i_dnew (q : ∀ d H', H d = none → Same H H' → H' d = some (.dK []) → Q (.ref d) H') : tDNewK σ H Q := p_dnew q
theorem mem_cutV {xs : List V} {lo hi : Option Int} {x : V} (h : x ∈ cutV xs lo hi) : x ∈ xs := List.mem_of_mem_drop (List.mem_of_mem_take h)
theorem all_filter {α : Type} (p : α → Bool) (xs : List α) : xs.all p = (xs.filter fun x => !p x).isEmpty := by
  induction xs with
  | nil => rfl
  | cons x r ih =>
    rw [List.all_cons, List.filter_cons, ih]
    cases p x <;> simp
theorem p_notB {a b : Bool} (q : Q (.bl (!decide (a = b))) H) : rNotB (.bl a) (.bl b) H Q := ⟨a, b, rfl, rfl, q⟩
theorem p_isB {a b : Bool} (q : Q (.bl (decide (a = b))) H) : rIsB (.bl a) (.bl b) H Q := ⟨a, b, rfl, rfl, q⟩
end
end Pk

/-! own operators -/
namespace Pk
open PySem PySem.Spec PyProof.Rows L2
/-! ### an int asked first declines -/
theorem int_lt_ref (a : Int) (t : Tok) (x C dx : Addr) : Meets (Builtin.«int.__lt__» ⟨[.int a t, .ref x], []⟩) (fun _ R s => s.heap.get? x = some (PySem.W.instObj C dx) ∧ R (.ok (.ret .notImplemented)) s) :=
  .of_wp fun prog w A R s h => by
    obtain ⟨hp, g, d, tk, os⟩ := s
    obtain ⟨hl, h⟩ := h
    unfold PySem.W.instObj at hl
    wp_walk using PySem.AutoSeq1.wpAny_loadPart' hl
    exact ⟨_, rfl, h⟩
theorem int_le_ref (a : Int) (t : Tok) (x C dx : Addr) : Meets (Builtin.«int.__le__» ⟨[.int a t, .ref x], []⟩) (fun _ R s => s.heap.get? x = some (PySem.W.instObj C dx) ∧ R (.ok (.ret .notImplemented)) s) :=
  .of_wp fun prog w A R s h => by
    obtain ⟨hp, g, d, tk, os⟩ := s
    obtain ⟨hl, h⟩ := h
    unfold PySem.W.instObj at hl
    wp_walk using PySem.AutoSeq1.wpAny_loadPart' hl
    exact ⟨_, rfl, h⟩
theorem int_gt_ref (a : Int) (t : Tok) (x C dx : Addr) : Meets (Builtin.«int.__gt__» ⟨[.int a t, .ref x], []⟩) (fun _ R s => s.heap.get? x = some (PySem.W.instObj C dx) ∧ R (.ok (.ret .notImplemented)) s) :=
  .of_wp fun prog w A R s h => by
    obtain ⟨hp, g, d, tk, os⟩ := s
    obtain ⟨hl, h⟩ := h
    unfold PySem.W.instObj at hl
    wp_walk using PySem.AutoSeq1.wpAny_loadPart' hl
    exact ⟨_, rfl, h⟩
theorem int_ge_ref (a : Int) (t : Tok) (x C dx : Addr) : Meets (Builtin.«int.__ge__» ⟨[.int a t, .ref x], []⟩) (fun _ R s => s.heap.get? x = some (PySem.W.instObj C dx) ∧ R (.ok (.ret .notImplemented)) s) :=
  .of_wp fun prog w A R s h => by
    obtain ⟨hp, g, d, tk, os⟩ := s
    obtain ⟨hl, h⟩ := h
    unfold PySem.W.instObj at hl
    wp_walk using PySem.AutoSeq1.wpAny_loadPart' hl
    exact ⟨_, rfl, h⟩
theorem int_eq_ref (a : Int) (t : Tok) (x C dx : Addr) : Meets (Builtin.«int.__eq__» ⟨[.int a t, .ref x], []⟩) (fun _ R s => s.heap.get? x = some (PySem.W.instObj C dx) ∧ R (.ok (.ret .notImplemented)) s) :=
  .of_wp fun prog w A R s h => by
    obtain ⟨hp, g, d, tk, os⟩ := s
    obtain ⟨hl, h⟩ := h
    unfold PySem.W.instObj at hl
    wp_walk using PySem.AutoSeq1.wpAny_loadPart' hl
    exact ⟨_, rfl, h⟩
theorem int_ne_ref (a : Int) (t : Tok) (x C dx : Addr) : Meets (Builtin.«int.__ne__» ⟨[.int a t, .ref x], []⟩) (fun _ R s => s.heap.get? x = some (PySem.W.instObj C dx) ∧ R (.ok (.ret .notImplemented)) s) :=
  .of_wp fun prog w A R s h => by
    obtain ⟨hp, g, d, tk, os⟩ := s
    obtain ⟨hl, h⟩ := h
    unfold PySem.W.instObj at hl
    wp_walk using PySem.AutoSeq1.wpAny_loadPart' hl
    exact ⟨_, rfl, h⟩
section
variable {prog : Program} {w : World} {A : Around} {E : Value → Shared → Prop} {s : Shared} {K : PySem.W.Frag} {x C dx f : Addr} {od : Option Obj} {i : Int} {t : Tok}
/-- int op instance: the int declines, the class's own reflected method answers -/
theorem cmp_refl {op : CmpOp} {ida : String} {B : Builtin} {Q : Value → Shared → Prop} (hu : A.units < cLine) (X : K.In s.heap) (I : PySem.W.InstAt s.heap x (PySem.W.instObj C dx) C od) (hsub : PySem.W.subIn K (.ref C) (.type "int") = some false)
    (h1 : Slot "int" (cmpInfo op).2.1 ida) (he : entryFor table ida = some B) (ha : argsOk ida ⟨[.int i t, .ref x], []⟩)
    (hm : Meets (B ⟨[.int i t, .ref x], []⟩) (fun _ R s => s.heap.get? x = some (PySem.W.instObj C dx) ∧ R (.ok (.ret .notImplemented)) s))
    (hs : PySem.W.findIn K (.ref C) (cmpInfo op).2.2 = some (some (.ref f))) (hf : PySem.W.isFn K (.ref f) = true)
    (h : wpAny (model prog w) A (call (.ref f) [.ref x, .int i t]) (PySem.W.CmpBack Q) E s) : wpAny (model prog w) A (richCompare op (.int i t) (.ref x)) Q E s := by
  have two : wpAny (model prog w) A (tryCompare (.ref x) (cmpInfo op).2.2 (.int i t)) (fun r s' => ∃ v, r = some v ∧ Q v s') E s := by
    unfold tryCompare
    refine wpAny_bind (PySem.W.ifBound_K X I hs hf (wpAny_mono h (fun v s' hv => ?_) fun _ _ e => e))
    cases v <;> first | exact hv.elim | exact wpAny_pure ⟨_, rfl, hv⟩
  have ti : s.TypeIs (.int i t) "int" := typeIs_int s i t
  rcases hi : cmpInfo op with ⟨sym, g, r⟩
  rw [hi] at h1 two
  simp only [richCompare, hi, ti.oneThing_none]
  refine wpAny_holding ?_
  refine wpAny_bind (wpAny_cRoomFor hu ?_)
  refine wpAny_bind (wpAny_typeOf ti (wpAny_bind (I.type.here ?_)))
  have hne : (Value.type "int" != Value.ref C) = true := by simp
  simp only [hne, if_true]
  refine wpAny_bind ((PySem.W.looks_subIn X hsub).here ?_)
  simp only [Bool.false_eq_true, if_false, Bool.not_false, if_true]
  refine wpAny_bind (m := tryCompare (.int i t) _ (.ref x)) (wpAny_tryCompare_declines ti h1 (call_meets h1 ti he ha hm ⟨I.at_, rfl, ?_⟩))
  refine wpAny_bind (m := tryCompare (.ref x) _ (.int i t)) (wpAny_mono two (fun r s' z => ?_) fun _ _ e => e)
  obtain ⟨v, rfl, hq⟩ := z
  exact wpAny_pure hq
end

/-! ### the same as rules -/
section
variable {X : Cx} {k : Nat} {C f : Addr} {fd : FuncData} {ps : List Str} {sp : Sp}
theorem run_own {pins : List (Addr × Obj)} {σ : L2.St} {H : Hp} {s : Shared} {Q : VK} {us : List Value} {vs : List V} (F : FnOk X.prog X.w X.K X.mg X.base CX0 k f fd ps sp) (hb : Binds X.K fd ps []) (hr : Room k X.A) (I : Inv X pins σ H s) (r : Vals vs us) (h : sp vs H Q E0) :
    wpAny (model X.prog X.w) X.A (call (.ref f) us) (EP X pins σ Q) X.xe s := by
  have hl : us.length = ps.length := by rw [← F.len _ _ _ _ h, r.length]
  have hb' := hb s us I.kIn (by simpa using hl)
  rw [List.append_nil] at hb'
  refine wpAny_call (codeAny_mono (F.run X.A X.stack s H ⟨us, []⟩ us vs Q E0 hr I.env0 hb' r h) fun r s' hq => ?_)
  cases r with
  | error e => exact False.elim hq
  | ok fl =>
    cases fl with
    | ret u => exact I.after hq
    | next => exact False.elim hq
    | brk => exact False.elim hq
    | cont => exact False.elim hq
theorem ep_back {pins : List (Addr × Obj)} {σ : L2.St} {Q : VK} {u : Value} {s' : Shared} (h : EP X pins σ Q u s') : PySem.W.CmpBack (EP X pins σ Q) u s' := by
  obtain ⟨v, H', I, r, q⟩ := id h
  cases v with
  | non => cases (show u = Value.none from r); exact h
  | bl b => cases (show u = Value.bool b from r); exact h
  | int i => obtain ⟨t, e⟩ := (show ∃ t, u = Value.int i t from r); cases e; exact h
  | str z => obtain ⟨t, e⟩ := (show ∃ t, u = Value.str z t from r); cases e; exact h
  | byt z => obtain ⟨t, e⟩ := (show ∃ t, u = Value.bytes z t from r); cases e; exact h
  | flt z => obtain ⟨t, e⟩ := (show ∃ t, u = Value.float z t from r); cases e; exact h
  | ref a => cases (show u = Value.ref a from r); exact h
  | ty n => cases (show u = Value.type n from r); exact h
theorem looks_kd {M : Model} {pins : List (Addr × Obj)} {σ : L2.St} {H : Hp} {s : Shared} {y : V} {u : Value} {kn : Kn} (I : Inv X pins σ H s) (h : Kd H y kn) (r : RelV y u) : PySem.W.Looks M s.heap (typeOf u) (.type kn.nm) := by
  cases h with
  | non => cases (show u = Value.none from r); exact PySem.W.Looks.of_pure rfl
  | bl b => cases (show u = Value.bool b from r); exact PySem.W.Looks.of_pure rfl
  | int i => obtain ⟨t, e⟩ := (show ∃ t, u = Value.int i t from r); cases e; exact PySem.W.Looks.of_pure rfl
  | str z _ => obtain ⟨t, e⟩ := (show ∃ t, u = Value.str z t from r); cases e; exact PySem.W.Looks.of_pure rfl
  | @lst a xs e =>
    cases (show u = Value.ref a from r)
    obtain ⟨_, _, n, _, h1⟩ := (show ObjOk X.prog X.w H s.heap a (.lst xs) from I.hok a _ e)
    exact (PySem.W.Looks.ld (part := Option.none) h1).andThen .now
  | @tup a xs e =>
    cases (show u = Value.ref a from r)
    obtain ⟨_, _, _, o, h1, h2, _⟩ := (show ObjOk X.prog X.w H s.heap a (.tup xs) from I.hok a _ e)
    have L := (PySem.W.Looks.ld (M := M) (part := Option.none) h1).andThen (f := fun o => pure o.cls) .now
    rw [h2] at L
    exact L
  | @dct a kvs e =>
    cases (show u = Value.ref a from r)
    obtain ⟨_, _, vs, _, o, es, ep, h1, h2, _⟩ := (show ObjOk X.prog X.w H s.heap a (.dK kvs) from I.hok a _ e)
    have L := (PySem.W.Looks.ld (M := M) (part := Option.none) h1).andThen (f := fun o => pure o.cls) .now
    rw [h2.1] at L
    exact L
end
/-- an own method (an operator's), its promise -/
structure OwnM (P : Program) (w : World) (K : PySem.W.Frag) (mg : Str → Option Value) (base : Heap) (k : Nat) (C : Addr) (m : Str) (sp : Sp) : Prop where
  ex : ∃ (f : Addr) (fd : FuncData) (ps : List Str), FnOk P w K mg base CX0 k f fd ps sp ∧ PySem.W.findIn K (.ref C) m = some (some (.ref f)) ∧ PySem.W.isFn K (.ref f) = true ∧ PySem.W.keepIn K (.ref f) = true ∧ Binds K fd ps []
/-- a property, its getter's promise -/
structure PropM (P : Program) (w : World) (K : PySem.W.Frag) (mg : Str → Option Value) (base : Heap) (k : Nat) (C : Addr) (m : Str) (sp : Sp) : Prop where
  ex : ∃ (p g : Addr) (fd : FuncData) (ps : List Str), PropOf K C m p g ∧ FnOk P w K mg base CX0 k g fd ps sp ∧ Binds K fd ps []
/-- no built-in kind is a kind of C -/
def Apart (K : PySem.W.Frag) (C : Addr) : Prop := ∀ kn : Kn, PySem.W.subIn K (.type kn.nm) (.ref C) = some false
def rOwn (C : Addr) (sp : Sp) : R2 := fun x y H Q => ∃ a dx fs, x = .ref a ∧ H a = some (.ins C dx fs) ∧ ((∃ kn, Kd H y kn) ∨ (∃ b dy gs, y = .ref b ∧ H b = some (.ins C dy gs))) ∧ sp [x, y] H Q E0
def rRef (C : Addr) (sp : Sp) : R2 := fun x y H Q => ∃ i b dy gs, x = .int i ∧ y = .ref b ∧ H b = some (.ins C dy gs) ∧ sp [y, x] H Q E0
section
variable {X : Cx} {k j : Nat} {C : Addr} {sp : Sp}
theorem op_own {op : CmpOp} {m : Str} (hop : ∀ v u, compareOp op v u = richCompare op v u) (c : OwnM X.prog X.w X.K X.mg X.base k C m sp) (hm : (cmpInfo op).2.1 = m) (hk : k ≤ j) (hr : Room j X.A) (hn : Apart X.K C) : OpR X (compareOp op) (rOwn C sp) := by
  intro pins s σ H x y v u Q I rx ry h
  obtain ⟨a, dx, fs, rfl, ha, hy, h⟩ := h
  obtain ⟨f, fd, ps, F, hs, hf, _, hb⟩ := c.ex
  subst hm
  cases (show v = Value.ref a from rx)
  obtain ⟨mA, J, _⟩ := ins_get I.hok ha
  obtain ⟨od, J, _⟩ := J.look
  obtain ⟨m, hF⟩ := I.fr
  rw [hop]
  have go : wpAny (model X.prog X.w) X.A (call (.ref f) [.ref a, u]) (PySem.W.CmpBack (EP X pins σ Q)) X.xe s :=
    wpAny_mono (run_own (vs := [.ref a, y]) F hb (hr.mono hk) I (.cons rfl (.cons ry .nil)) h) (fun _ _ q => ep_back q) fun _ _ q => q
  rcases hy with ⟨kn, hy⟩ | ⟨b, dy, gs, rfl, hb'⟩
  · exact PySem.W.cmp_K (op := op) (tb := .type kn.nm) hr.units0 hF I.ok.mod.kin J (looks_kd I hy ry) (by simp [PySem.W.notFirst, hn kn]) hs hf go
  · cases (show u = Value.ref b from ry)
    obtain ⟨mB, J', _⟩ := ins_get I.hok hb'
    obtain ⟨od', J', _⟩ := J'.look
    exact PySem.W.cmp_K (op := op) (tb := .ref C) hr.units0 hF I.ok.mod.kin J J'.type (by simp [PySem.W.notFirst]) hs hf go
theorem op_ownR {op : CmpOp} {m : Str} {ida : String} {B : Builtin} (hop : ∀ v u, compareOp op v u = richCompare op v u) (c : OwnM X.prog X.w X.K X.mg X.base k C m sp) (hm : (cmpInfo op).2.2 = m) (hk : k ≤ j) (hr : Room j X.A) (hsub : PySem.W.subIn X.K (.ref C) (.type "int") = some false)
    (h1 : Slot "int" (cmpInfo op).2.1 ida) (he : entryFor table ida = some B) (ha : ∀ a b, argsOk ida ⟨[a, b], []⟩)
    (hi : ∀ (a : Int) (t : Tok) (x C dx : Addr), Meets (B ⟨[.int a t, .ref x], []⟩) (fun _ R s => s.heap.get? x = some (PySem.W.instObj C dx) ∧ R (.ok (.ret .notImplemented)) s)) : OpR X (compareOp op) (rRef C sp) := by
  intro pins s σ H x y v u Q I rx ry h
  obtain ⟨i, b, dy, gs, rfl, rfl, hb', h⟩ := h
  obtain ⟨f, fd, ps, F, hs, hf, _, hb⟩ := c.ex
  subst hm
  obtain ⟨t, rfl⟩ := rx
  cases (show u = Value.ref b from ry)
  obtain ⟨mB, J, _⟩ := ins_get I.hok hb'
  obtain ⟨od, J, _⟩ := J.look
  rw [hop]
  have go : wpAny (model X.prog X.w) X.A (call (.ref f) [.ref b, .int i t]) (PySem.W.CmpBack (EP X pins σ Q)) X.xe s :=
    wpAny_mono (run_own (vs := [.ref b, .int i]) F hb (hr.mono hk) I (.cons rfl (.cons ⟨t, rfl⟩ .nil)) h) (fun _ _ q => ep_back q) fun _ _ q => q
  exact cmp_refl hr.units0 I.kIn J hsub h1 he (ha _ _) (hi i t b C dy) hs hf go
theorem pe_pr {e : Expr} {f : Str} {pos : Pos} {ta : TE} (he : PE X e ta) (c : Cls X.K C) (m : PropM X.prog X.w X.K X.mg X.base k C f sp) (hk : k + 1 ≤ j) (hr : Room j X.A) (hab : attributeBase e f X.env (eval e X.env) = eval e X.env := by rfl) : PE X (.Attribute e f pos) (tProp C sp [] E0 ta) := by
  obtain ⟨p, g, fd, ps, hp, F, hb⟩ := m.ex
  exact pe_prop he c hp F (hr.mono hk) hb .nil (fun _ _ _ _ _ _ _ h => h.elim) hab
end
/-! ### bool(x) by an own __bool__ -/
section
variable {prog : Program} {w : World}
theorem meets_bool_ref (x : Addr) : MeetsIn prog w (Builtin.«bool.__new__» ⟨[.type "bool", .ref x], []⟩) (fun A R s => wpAny (model prog w) A.in1 (truthy (.ref x)) (fun b s' => R (.ok (.ret (.bool b))) s') (fun e s' => R (.error e) s') s) :=
  MeetsIn.of_wp fun A R s hs => by
    obtain ⟨hp, g, d, tk, os⟩ := s
    have f1 := F.conv_sub_bool
    repeat (any_goals (first | assumption | (refine wpAny_mono hs (fun b s' hb => ?_) fun _ _ e => e) | wp_step))
    all_goals first | exact ⟨_, rfl, hb⟩ | skip
end
section
variable {X : Cx} {k j : Nat} {C : Addr} {sp : Sp}
def rBoolO (C : Addr) (sp : Sp) : List V → Hp → VK → Prop := fun xs H Q => ∃ a dx fs, xs = [.ref a] ∧ H a = some (.ins C dx fs) ∧ sp [.ref a] H (fun v H' => ∃ b, v = .bl b ∧ Q (.bl b) H') E0
theorem call_boolO (c : OwnM X.prog X.w X.K X.mg X.base k C "__bool__" sp) (hk : k + 2 ≤ j) (hr : Room j X.A) : CallR X (.type "bool") (rBoolO C sp) := by
  intro pins s σ H xs us Q I r h
  obtain ⟨a, dx, fs, rfl, ha, h⟩ := h
  obtain ⟨f, fd, ps, Fn, hs, hf, _, hb⟩ := c.ex
  cases r with
  | cons rx rn =>
    cases rn
    rename_i u
    cases (show u = Value.ref a from rx)
    obtain ⟨mA, J, _⟩ := ins_get I.hok ha
    obtain ⟨od, J, _⟩ := J.look
    obtain ⟨m, hF⟩ := I.fr
    refine callType_newIn F.called_bool F.newNe_bool (F.typeCall_bool_1 _) (F.newCall_bool_1 _) (fun obj => F.args_object_init_2 obj _) F.entry_bool_new (meets_bool_ref a) ?_
    show wpAny (model X.prog X.w) X.A.in1.in1 (truthy (.ref a)) _ _ s
    have hr2 : Room k X.A.in1.in1 := (Room.in1 (Room.in1 (hr.mono hk)))
    have hl : ([Value.ref a] : List Value).length = ps.length := by rw [← Fn.len _ _ _ _ h]; rfl
    have hb' := hb s [.ref a] I.kIn (by simpa using hl)
    rw [List.append_nil] at hb'
    refine PySem.W.truthy_K hF I.ok.mod.kin J hs hf (wpAny_call (codeAny_mono (Fn.run X.A.in1.in1 X.stack s H ⟨[.ref a], []⟩ [.ref a] [.ref a] _ E0 hr2 I.env0.in1.in1 hb' (.cons rfl .nil) h) fun r s' hq => ?_))
    cases r with
    | error e => exact False.elim hq
    | ok fl =>
      cases fl with
      | ret u =>
        obtain ⟨v, H', I', rv, b, rfl, q⟩ := I.after hq
        cases (show u = Value.bool b from rv)
        exact ⟨rfl, .bl b, H', I', rfl, q⟩
      | next => exact False.elim hq
      | brk => exact False.elim hq
      | cont => exact False.elim hq
end
end Pk

/-! own classes: packages by name -/
namespace Pk
open PySem PySem.Spec PyProof.Rows L2
def BndM (m q : Str) (st : Stmt) (ps : List Str) : Prop := ∀ (kV doc pm : Value) (an : Option Addr) (cdv ct : Value) (us : List Value), us.length = ps.length → bindArgs (PySem.W.fnOf m q (defArgs st) (defBody st) (defScope st) .none kV doc pm an cdv ct) ⟨us, []⟩ = pure (ps.zip us)
structure MethAt (K : PySem.W.Frag) (C : Addr) (m q : Str) (st : Stmt) : Prop where
  ex : ∃ f fd, Fun K m q st f fd ∧ Meth K C m f
structure PropAt (K : PySem.W.Frag) (C : Addr) (m q : Str) (st : Stmt) : Prop where
  ex : ∃ p g fd, Fun K m q st g fd ∧ PropOf K C m p g
structure InitAt (K : PySem.W.Frag) (C : Addr) (q : Str) (st : Stmt) (dvs : List V) : Prop where
  ex : ∃ f fd, Mk K C f ∧ FunD K "__init__" q (defArgs st) (defBody st) (defScope st) dvs [] f fd
structure IniOk (P : Program) (w : World) (K : PySem.W.Frag) (mg : Str → Option Value) (base : Heap) (k : Nat) (C : Addr) (q : Str) (st : Stmt) (ps : List Str) (dvs : List V) (sp : Sp) : Prop where
  ex : ∃ f fd, Mk K C f ∧ FunD K "__init__" q (defArgs st) (defBody st) (defScope st) dvs [] f fd ∧ FnOk P w K mg base CX0 k f fd ps sp
section
variable {P : Program} {w : World} {K : PySem.W.Frag} {mg : Str → Option Value} {base : Heap} {C : Addr} {m q x : Str} {st : Stmt} {N ps : List Str} {k : Nat} {sp : Sp} {dvs : List V}
theorem own0 (D : MethAt K C m q st) (S : FnScope N ps (defScope st)) (hb : BndM m q st ps) (len : ∀ vs H Q E, sp vs H Q E → vs.length = ps.length)
    (hbody : ∀ (f : Addr) (cdv : Value) (A : Around) (outer : List Env) (s : Shared) (H : Hp) (vs : List V) (Q : VK) (E : XK), Room k (A.deeper (envOfC q (defScope st) s.heap.objs.size f cdv)) → sp vs H Q E →
      ∃ t, PSs (cxOf CX0 P w K mg base N q (defScope st) f cdv A outer s H E).nox (defBody st) t ∧ t { nx := fun _ H' => Q .non H', rt := Q } (start N vs) H) : OwnM P w K mg base (k + 1) C m sp := by
  obtain ⟨f, fd, F, e⟩ := D.ex
  exact ⟨f, fd, ps, F.ok S len (hbody f), e.at_, e.fn, e.kp, F.binds hb⟩
theorem prop0 (D : PropAt K C m q st) (S : FnScope N ps (defScope st)) (hb : BndM m q st ps) (len : ∀ vs H Q E, sp vs H Q E → vs.length = ps.length)
    (hbody : ∀ (f : Addr) (cdv : Value) (A : Around) (outer : List Env) (s : Shared) (H : Hp) (vs : List V) (Q : VK) (E : XK), Room k (A.deeper (envOfC q (defScope st) s.heap.objs.size f cdv)) → sp vs H Q E →
      ∃ t, PSs (cxOf CX0 P w K mg base N q (defScope st) f cdv A outer s H E).nox (defBody st) t ∧ t { nx := fun _ H' => Q .non H', rt := Q } (start N vs) H) : PropM P w K mg base (k + 1) C m sp := by
  obtain ⟨p, g, fd, F, e⟩ := D.ex
  exact ⟨p, g, fd, ps, e, F.ok S len (hbody g), F.binds hb⟩
theorem ini0 (D : InitAt K C q st dvs) (S : FnScope N ps (defScope st)) (len : ∀ vs H Q E, sp vs H Q E → vs.length = ps.length)
    (hbody : ∀ (f : Addr) (cdv : Value) (A : Around) (outer : List Env) (s : Shared) (H : Hp) (vs : List V) (Q : VK) (E : XK), Room k (A.deeper (envOfC q (defScope st) s.heap.objs.size f cdv)) → sp vs H Q E →
      ∃ t, PSs (cxOf CX0 P w K mg base N q (defScope st) f cdv A outer s H E).nox (defBody st) t ∧ t { nx := fun _ H' => Q .non H', rt := Q } (start N vs) H) : IniOk P w K mg base (k + 1) C q st ps dvs sp := by
  obtain ⟨f, fd, M, F⟩ := D.ex
  exact ⟨f, fd, M, F, F.ok S len fun cdv A outer s H vs Q E hr h => by
    obtain ⟨t, h1, h2⟩ := hbody f cdv A outer s H vs Q E hr h
    exact ⟨t, h1.nox, h2⟩⟩
theorem mkr_d (I : IniOk P w K mg base k C q st ps dvs sp) (hm : mg x = some (.ref C)) (n j : Nat) (hd : dvs ≠ []) (hn : n + (dvs.length - j) = ps.length)
    (h : ∀ (T : Addr) (kV doc pm : Value) (an : Option Addr) (cdv ct : Value) (us its : List Value), us.length = n → its.length = dvs.length →
      ∃ k, bindArgs (PySem.W.fnOf "__init__" q (defArgs st) (defBody st) (defScope st) (.ref T) kV doc pm an cdv ct) ⟨us, []⟩ = seqItems? (.ref T) >>= k ∧ k (some its.toArray) = pure (ps.zip (us ++ its.drop j))) : C8.Mak P w K mg base k x C sp (dvs.drop j) := by
  obtain ⟨f, fd, M, F, G⟩ := I.ex
  obtain ⟨ds, r, b⟩ := F.binds1 n j hd hn h
  exact ⟨f, fd, ps, ds, M, G, hm, b, r⟩
end
section
variable {X : Cx}
def CDivZ (_ j : Int) : Prop := j ≠ 0 ∧ j.natAbs.log2 < 9000
theorem op_fdZ : OpR X (binaryOp .FloorDiv) (rI CDivZ fun i j => .int (i.fdiv j)) := opI fun _ _ _ _ _ _ _ hc q => floordiv_int hc.1 q (.inl (PyProof.noPylong_of_log2 hc.2))
end
/-- what isinstance asks of an own class -/
structure InsF (K : PySem.W.Frag) (C : Addr) : Prop where
  cl : Cls K C
  ha : PySem.W.findIn K (.ref C) "__class__" = some (some (.builtin "object.__class__"))
  hn : PySem.W.specialIn K (.builtin "object.__class__") "__get__" = some (some (.builtin "getset_descriptor.__get__"))
  ht : PySem.W.takesIn K (.builtin "object.__class__") = some true
  hm : PySem.W.mroIn K C (.type "object") = some true
  sf : PySem.W.kitOne K (.ref C) (.ref C) = some true
  si : PySem.W.kitOne K (.ref C) (.type "int") = some false
  sk : ∀ kn : Kn, PySem.W.kitOne K (.type kn.nm) (.ref C) = some false
section
variable {K : PySem.W.Frag} {C : Addr} {H : Hp} {Q : VK} {a dx : Addr} {fs : List (Str × V)} {x : V} {kn : Kn}
theorem p_isC (F : InsF K C) (h : H a = some (.ins C dx fs)) (q : Q (.bl true) H) : rIsi K [.ref a, .ref C] H Q := ⟨.ref a, .ref C, .ref C, .ref C, true, rfl, .own C, .base (.ins h F.cl F.ha F.hn F.ht F.hm), F.sf, q⟩
theorem p_isCint (F : InsF K C) (h : H a = some (.ins C dx fs)) (q : Q (.bl false) H) : rIsi K [.ref a, .ty "int"] H Q := ⟨.ref a, .ty "int", .ref C, .type "int", false, rfl, .ty _, .base (.ins h F.cl F.ha F.hn F.ht F.hm), F.si, q⟩
theorem p_isCn (F : InsF K C) (h : Kd H x kn) (q : Q (.bl false) H) : rIsi K [x, .ref C] H Q := ⟨x, .ref C, .type kn.nm, .ref C, false, rfl, .own C, h.tyx, F.sk kn, q⟩
end
end Pk

/-! own two-place operators -/
namespace Pk
open PySem PySem.Spec PyProof.Rows L2
/-- what an operator asks of an own class and of int -/
structure BinF (K : PySem.W.Frag) (C : Addr) (nm : String) : Prop where
  first : PySem.W.selfFirst K C = true
  refl : ∃ g : Addr, PySem.W.findIn K (.ref C) (dunderR nm) = some (some (.ref g))
  i1 : ∃ fo, PySem.W.findIn K (.type "int") (PySem.dunder nm) = some fo
  i2 : ∃ ro, PySem.W.findIn K (.type "int") (dunderR nm) = some ro
  sub : PySem.W.subIn K (.type "int") (.ref C) = some false
  sub2 : PySem.W.subIn K (.ref C) (.type "int") = some false
section
variable {prog : Program} {w : World} {A : Around} {E : Value → Shared → Prop} {s : Shared} {K : PySem.W.Frag} {x C dx f g : Addr} {od : Option Obj} {i : Int} {t : Tok} {nm ida : String}
/-- int op instance: the int declines, the reflected method answers -/
theorem bin_refl {op : Operator} {B : Builtin} {Q : Value → Shared → Prop} (hop : op.info.2 = nm) (F : BinF K C nm) (X : K.In s.heap) (I : PySem.W.InstAt s.heap x (PySem.W.instObj C dx) C od)
    (h1 : Slot "int" (PySem.dunder nm) ida) (he : entryFor table ida = some B) (ha : argsOk ida ⟨[.int i t, .ref x], []⟩)
    (hm : Meets (B ⟨[.int i t, .ref x], []⟩) (fun _ R s => s.heap.get? x = some (PySem.W.instObj C dx) ∧ R (.ok (.ret .notImplemented)) s))
    (hs : PySem.W.findIn K (.ref C) (PySem.dunder nm) = some (some (.ref f))) (hg : PySem.W.findIn K (.ref C) (dunderR nm) = some (some (.ref g))) (hf : PySem.W.isFn K (.ref g) = true)
    (h : wpAny (model prog w) A (call (.ref g) [.ref x, .int i t]) (PySem.W.CmpBack Q) E s) : wpAny (model prog w) A (binaryOp op (.int i t) (.ref x)) Q E s := by
  obtain ⟨cd, rest, hcd, hmro⟩ := PySem.W.ksp_first F.first
  obtain ⟨fo, i1⟩ := F.i1
  obtain ⟨ro, i2⟩ := F.i2
  have two := PySem.W.ksp_try X I hg hf h
  have ti : s.TypeIs (.int i t) "int" := typeIs_int s i t
  have no : ∀ {R : Option Value → Shared → Prop}, R none s → wpAny (model prog w) A (tryMethod (.int i t) (PySem.dunder nm) (.ref x)) R E s := fun {R} r => wpAny_tryMethod_declines ti h1 (call_meets h1 ti he ha hm ⟨I.at_, rfl, r⟩)
  obtain ⟨hh, gg, d, tt, os⟩ := s
  have L1 : PySem.W.Looks (model prog w) hh (typeOf (.ref x)) (.ref C) := I.type
  have L2 : PySem.W.Looks (model prog w) hh (typeOf (.int i t)) (.type "int") := PySem.W.Looks.of_pure rfl
  have L3 : PySem.W.Looks (model prog w) hh (fillsNumberSlot (.ref C) nm) true := PySem.W.fills_K X hcd hmro hs
  have L4 : PySem.W.Looks (model prog w) hh (fillsNumberSlot (.type "int") nm) ((fo.isSome && !isSeqSlot fo) || (ro.isSome && !isSeqSlot ro)) := PySem.W.ksp_fillsT X i1 i2
  have L5 : PySem.W.Looks (model prog w) hh (isSubtype (.ref C) (.type "int")) false := PySem.W.looks_subIn X F.sub2
  have L7 : PySem.W.Looks (model prog w) hh (numberSlotInPython (.type "int") nm) false := PySem.W.Looks.of_pure rfl
  generalize ((fo.isSome && !isSeqSlot fo) || (ro.isSome && !isSeqSlot ro)) = left at L4
  have hne : (Value.type "int" == Value.ref C) = false := Bool.eq_false_iff.mpr fun q => by cases beq_iff_eq.mp q
  rcases hi : op.info with ⟨sym, nm'⟩
  rw [hi] at hop
  obtain rfl : nm' = nm := hop
  simp only [binaryOp, hi]
  refine wpAny_holding (wpAny_bind ?_)
  unfold binaryOp1
  refine wpAny_bind (L2.at (wpAny_bind (L1.at (wpAny_bind (L4.at ?_)))))
  simp only [hne, Bool.false_eq_true, if_false]
  cases left with
  | false =>
    ksp_lk
    refine wpAny_mono two (fun r s' hr' => ?_) fun _ _ e => e
    obtain ⟨v, rfl, hq⟩ := hr'
    ksp_lk
    exact hq
  | true =>
    ksp_lk
    refine no ?_
    ksp_lk
    refine wpAny_mono two (fun r s' hr' => ?_) fun _ _ e => e
    obtain ⟨v, rfl, hq⟩ := hr'
    ksp_lk
    exact hq
end
theorem int_add_ref (a : Int) (t : Tok) (x C dx : Addr) : Meets (Builtin.«int.__add__» ⟨[.int a t, .ref x], []⟩) (fun _ R s => s.heap.get? x = some (PySem.W.instObj C dx) ∧ R (.ok (.ret .notImplemented)) s) :=
  .of_wp fun prog w A R s h => by
    obtain ⟨hp, g, d, tk, os⟩ := s
    obtain ⟨hl, h⟩ := h
    unfold PySem.W.instObj at hl
    wp_walk using PySem.AutoSeq1.wpAny_loadPart' hl
    exact ⟨_, rfl, h⟩
theorem int_sub_ref (a : Int) (t : Tok) (x C dx : Addr) : Meets (Builtin.«int.__sub__» ⟨[.int a t, .ref x], []⟩) (fun _ R s => s.heap.get? x = some (PySem.W.instObj C dx) ∧ R (.ok (.ret .notImplemented)) s) :=
  .of_wp fun prog w A R s h => by
    obtain ⟨hp, g, d, tk, os⟩ := s
    obtain ⟨hl, h⟩ := h
    unfold PySem.W.instObj at hl
    wp_walk using PySem.AutoSeq1.wpAny_loadPart' hl
    exact ⟨_, rfl, h⟩
theorem int_mul_ref (a : Int) (t : Tok) (x C dx : Addr) : Meets (Builtin.«int.__mul__» ⟨[.int a t, .ref x], []⟩) (fun _ R s => s.heap.get? x = some (PySem.W.instObj C dx) ∧ R (.ok (.ret .notImplemented)) s) :=
  .of_wp fun prog w A R s h => by
    obtain ⟨hp, g, d, tk, os⟩ := s
    obtain ⟨hl, h⟩ := h
    unfold PySem.W.instObj at hl
    wp_walk using PySem.AutoSeq1.wpAny_loadPart' hl
    exact ⟨_, rfl, h⟩
/-! ### as rules -/
def rBB (C : Addr) (sp : Sp) : R2 := fun x y H Q => ∃ a dx fs b dy gs, x = .ref a ∧ H a = some (.ins C dx fs) ∧ y = .ref b ∧ H b = some (.ins C dy gs) ∧ sp [x, y] H Q E0
def rBI (C : Addr) (sp : Sp) : R2 := fun x y H Q => ∃ a dx fs i, x = .ref a ∧ H a = some (.ins C dx fs) ∧ y = .int i ∧ sp [x, y] H Q E0
section
variable {X : Cx} {k j l : Nat} {C : Addr} {sp sp' : Sp} {nm m m' ida : String} {op : Operator}
theorem op_bb (hop : op.info.2 = nm) (F : BinF X.K C nm) (c : OwnM X.prog X.w X.K X.mg X.base k C m sp) (hm : PySem.dunder nm = m) (hk : k ≤ j) (hr : Room j X.A) : OpR X (binaryOp op) (rBB C sp) := by
  intro pins s σ H x y v u Q I rx ry h
  obtain ⟨a, dx, fs, b, dy, gs, rfl, ha, rfl, hb, h⟩ := h
  obtain ⟨f, fd, ps, Fn, hs, hf, _, hbd⟩ := c.ex
  cases (show v = Value.ref a from rx)
  cases (show u = Value.ref b from ry)
  obtain ⟨mA, J, _⟩ := ins_get I.hok ha
  obtain ⟨od, J, _⟩ := J.look
  obtain ⟨mB, J', _⟩ := ins_get I.hok hb
  obtain ⟨od', J', _⟩ := J'.look
  obtain ⟨mm, hF⟩ := I.fr
  refine PySem.W.binop_K (op := op) hF I.ok.mod.kin J J'.type F.first (by rw [hop, hm]; exact hs) hf ?_
  exact wpAny_mono (run_own (vs := [.ref a, .ref b]) Fn hbd (hr.mono hk) I (.cons rfl (.cons rfl .nil)) h) (fun _ _ q => ep_back q) fun _ _ q => q
theorem op_bi (hop : op.info.2 = nm) (F : BinF X.K C nm) (c : OwnM X.prog X.w X.K X.mg X.base k C m sp) (hm : PySem.dunder nm = m) (hk : k ≤ j) (hr : Room j X.A) : OpR X (binaryOp op) (rBI C sp) := by
  intro pins s σ H x y v u Q I rx ry h
  obtain ⟨a, dx, fs, i, rfl, ha, rfl, h⟩ := h
  obtain ⟨f, fd, ps, Fn, hs, hf, _, hbd⟩ := c.ex
  cases (show v = Value.ref a from rx)
  obtain ⟨t, rfl⟩ := ry
  obtain ⟨mA, J, _⟩ := ins_get I.hok ha
  obtain ⟨od, J, _⟩ := J.look
  obtain ⟨mm, hF⟩ := I.fr
  obtain ⟨g, hg⟩ := F.refl
  obtain ⟨fo, i1⟩ := F.i1
  obtain ⟨ro, i2⟩ := F.i2
  refine PySem.W.ksp_binT (op := op) (T := "int") (rc := some (.ref g)) (fo := fo) (ro := ro) hF I.ok.mod.kin J rfl F.first (by rw [hop, hm]; exact hs) hf (by rw [hop]; exact hg) (.inr ⟨g, rfl⟩) (by rw [hop]; exact i1) (by rw [hop]; exact i2) F.sub ?_
  exact wpAny_mono (run_own (vs := [.ref a, .int i]) Fn hbd (hr.mono hk) I (.cons rfl (.cons ⟨t, rfl⟩ .nil)) h) (fun _ _ q => ep_back q) fun _ _ q => q
/-- c: the class's own method; c': the reflected one -/
theorem op_br {B : Builtin} (hop : op.info.2 = nm) (F : BinF X.K C nm) (c : OwnM X.prog X.w X.K X.mg X.base l C m sp) (hm : PySem.dunder nm = m) (c' : OwnM X.prog X.w X.K X.mg X.base k C m' sp') (hm' : dunderR nm = m') (hk : k ≤ j) (hr : Room j X.A)
    (h1 : Slot "int" (PySem.dunder nm) ida) (he : entryFor table ida = some B) (ha : ∀ a b, argsOk ida ⟨[a, b], []⟩)
    (hi : ∀ (a : Int) (t : Tok) (x C dx : Addr), Meets (B ⟨[.int a t, .ref x], []⟩) (fun _ R s => s.heap.get? x = some (PySem.W.instObj C dx) ∧ R (.ok (.ret .notImplemented)) s)) : OpR X (binaryOp op) (rRef C sp') := by
  intro pins s σ H x y v u Q I rx ry h
  obtain ⟨i, b, dy, gs, rfl, rfl, hb, h⟩ := h
  obtain ⟨f, _, _, _, hs, _, _, _⟩ := c.ex
  obtain ⟨g, fd, ps, Fn, hg, hf, _, hbd⟩ := c'.ex
  obtain ⟨t, rfl⟩ := rx
  cases (show u = Value.ref b from ry)
  obtain ⟨mB, J, _⟩ := ins_get I.hok hb
  obtain ⟨od, J, _⟩ := J.look
  refine bin_refl hop F I.kIn J h1 he (ha _ _) (hi i t b C dy) (f := f) (by rw [hm]; exact hs) (g := g) (by rw [hm']; exact hg) hf ?_
  exact wpAny_mono (run_own (vs := [.ref b, .int i]) Fn hbd (hr.mono hk) I (.cons rfl (.cons ⟨t, rfl⟩ .nil)) h) (fun _ _ q => ep_back q) fun _ _ q => q
def rNegO (C : Addr) (sp : Sp) : V → Hp → VK → Prop := fun x H Q => ∃ a dx fs, x = .ref a ∧ H a = some (.ins C dx fs) ∧ sp [x] H Q E0
theorem un_own (c : OwnM X.prog X.w X.K X.mg X.base k C "__neg__" sp) (hk : k ≤ j) (hr : Room j X.A) : UnR X (unaryOp .USub) (rNegO C sp) := by
  intro pins s σ H x v Q I rx h
  obtain ⟨a, dx, fs, rfl, ha, h⟩ := h
  obtain ⟨f, fd, ps, Fn, hs, hf, _, hbd⟩ := c.ex
  cases (show v = Value.ref a from rx)
  obtain ⟨mA, J, _⟩ := ins_get I.hok ha
  obtain ⟨od, J, _⟩ := J.look
  obtain ⟨mm, hF⟩ := I.fr
  refine PySem.W.ksp_neg hF I.ok.mod.kin J hs hf ?_
  exact run_own (vs := [.ref a]) Fn hbd (hr.mono hk) I (.cons rfl .nil) h
end
theorem abs_own {prog : Program} {w : World} {A : Around} {E : Value → Shared → Prop} {s : Shared} {K : PySem.W.Frag} {x C f : Addr} {ox : Obj} {od : Option Obj} {Q : Value → Shared → Prop} (X : K.In s.heap) (I : PySem.W.InstAt s.heap x ox C od)
    (hs : PySem.W.findIn K (.ref C) "__abs__" = some (some (.ref f))) (hf : PySem.W.isFn K (.ref f) = true) (h : wpAny (model prog w) A.in1 (call (.ref f) [.ref x]) Q E s) : wpAny (model prog w) A (call (.builtin "abs") [.ref x]) Q E s := by
  refine PySem.Calls.call_function_entry kind_abs plain_abs entry_abs (args_abs _) ?_
  unfold Builtin.«abs»
  refine wpAny_bind (m := oneArg "abs" _) (wpAny_pure ?_)
  refine wpAny_bind (PySem.W.special_fn X I hs (beq_iff_eq.mp hf) (wpAny_mono h (fun v s' q => ?_) fun _ _ e => e))
  first | exact ⟨_, rfl, q⟩ | exact wpAny_pure q | exact wpAny_pure ⟨_, rfl, q⟩ | exact q
def rAbsO (C : Addr) (sp : Sp) : List V → Hp → VK → Prop := fun xs H Q => ∃ a dx fs, xs = [.ref a] ∧ H a = some (.ins C dx fs) ∧ sp [.ref a] H Q E0
theorem call_absO {X : Cx} {k j : Nat} {C : Addr} {sp : Sp} (c : OwnM X.prog X.w X.K X.mg X.base k C "__abs__" sp) (hk : k + 1 ≤ j) (hr : Room j X.A) : CallR X (.builtin "abs") (rAbsO C sp) := by
  intro pins s σ H xs us Q I r h
  obtain ⟨a, dx, fs, rfl, ha, h⟩ := h
  obtain ⟨f, fd, ps, Fn, hs, hf, _, hbd⟩ := c.ex
  obtain ⟨u, rfl, ru⟩ := vals1 r
  cases (show u = Value.ref a from ru)
  obtain ⟨mA, J, _⟩ := ins_get I.hok ha
  obtain ⟨od, J, _⟩ := J.look
  refine abs_own I.kIn J hs hf ?_
  have hb' := hbd s [.ref a] I.kIn (by rw [List.append_nil, ← Fn.len _ _ _ _ h] <;> rfl)
  refine wpAny_call (codeAny_mono (Fn.run X.A.in1 X.stack s H ⟨[.ref a], []⟩ [.ref a] [.ref a] Q E0 (Room.in1 (hr.mono hk)) I.env0.in1 hb' (.cons rfl .nil) h) fun r s' hq => ?_)
  cases r with
  | error e => exact False.elim hq
  | ok fl => cases fl with
    | ret u => exact I.after hq
    | next => exact hq.elim
    | brk => exact hq.elim
    | cont => exact hq.elim
end Pk

/-! C.m(..), m a staticmethod -/
namespace Pk
open PySem PySem.Spec PyProof.Rows L2
structure StatM (P : Program) (w : World) (K : PySem.W.Frag) (mg : Str → Option Value) (base : Heap) (k : Nat) (C : Addr) (m : Str) (sp : Sp) : Prop where
  ex : ∃ (mc : Value) (p g : Addr) (fd : FuncData) (ps : List Str), ClX.CRead K C mc ∧ PySem.W.findCls K (.ref C) mc m = some (.get (.builtin "staticmethod.__get__") (.ref p) .none (.ref C)) ∧ (∃ rest, PySem.W.recIn K p "staticmethod" = some (.ref g :: rest)) ∧ PySem.W.handedIn (.ref g) = true ∧
    PySem.W.keepIn K (.ref g) = true ∧ FnOk P w K mg base CX0 k g fd ps sp ∧ Binds K fd ps []
/-- C.m(e, ..) -/
def tStat (C : Addr) (sp : Sp) (ta : TE) (t : TA) : TE := fun σ H Q => ta σ H fun x H1 => x = .ref C ∧ t σ H1 fun vs H2 => sp vs H2 Q E0
section
variable {X : Cx} {k j : Nat} {C : Addr} {sp : Sp} {o e : Expr} {es : List Expr} {m : Str} {pos apos : Pos} {ta : TE} {t : TA} {pl : Sem Bool}
theorem pe_stat (c : StatM X.prog X.w X.K X.mg X.base k C m sp) (hk : k ≤ j) (hr : Room j X.A) (he : PE X o ta) (ha : PA X (e :: es) t)
    (hst : starEach (e :: es) X.env = (false, eval e X.env) :: starEach es X.env := by rfl) (hpl : (backTo pos (starEach es X.env)).any (·.1) = false := by rfl)
    (ht : eval (.Call (.Attribute o m apos) (e :: es) [] pos) X.env = (do
      let ov ← eval o X.env
      standAt apos.atName
      let (f, first) ← holding [ov] (getMethod ov m pl)
      callWith pos f first (backTo pos (starEach (e :: es) X.env)) (backToKw pos (keywordEach [] X.env))) := by rfl) :
    PE X (.Call (.Attribute o m apos) (e :: es) [] pos) (tStat C sp ta t) := by
  obtain ⟨mc, p, g, fd, ps, r, at_, ⟨rest, hp⟩, hh, kp, F, hb⟩ := c.ex
  refine ⟨fun pins s σ H Q I h => ?_⟩
  refine PySem.W.methodCall_KW (pl := pl) (thn (he.run pins s σ H _ I h) fun u s1 hz => ?_) ht
  obtain ⟨x, H1, I1, rx, ex, q⟩ := hz
  subst ex
  obtain rfl : u = Value.ref C := rx
  refine PySem.W.method_cls I1.kIn r.ga (PySem.W.cls_bind I1.kIn r.rd at_ ?_)
  refine wpAny_call (PySem.W.sm_get (s := { s1 with toks := s1.toks + 1 }) I1.kIn hp (PySem.W.handed_on hh ?_))
  have I2 := I1.tok (s1.toks + 1)
  refine PySem.W.callWith_K (first := []) (h₀ := X.base) I2.ok.mod.kin kp (thn (ha.run pos pins _ σ H1 _ I2 q) fun us s2 hy => ?_) hst hpl
  obtain ⟨vs, H2, I3, rv, q2⟩ := hy
  refine ⟨I3.kIn, run_fn F (hr.mono hk) hb .nil pass0 I3 rv ?_⟩
  rw [List.append_nil]
  exact q2
end
end Pk

namespace Pk
open PySem PySem.Spec PyProof.Rows L2
local macro_rules | `(tactic| walk_at "sz") => `(tactic| first | assumption | decide +kernel | exact Nat.le_trans (Nat.le_of_ble_eq_true rfl) (show 100000 ≤ sizeLine by decide) | exact Nat.le_trans (by omega) (show 100000 ≤ sizeLine by decide) | (show _ ≤ sizeLine; exact Nat.le_trans (by (simp only [List.length_append, List.length_map, List.length_cons, List.length_nil]; omega)) (show 100000 ≤ sizeLine by decide)))
local macro_rules | `(tactic| walk_at "mul") => `(tactic| first | exact Or.inl (Or.inl ⟨by omega, by omega⟩) | exact Or.inl (Or.inr ⟨by omega, by omega⟩))
local macro_rules | `(tactic| walk_at "ci") => `(tactic| first | assumption | exact (by decide : (0 : Int) < _) | (show (0 : Int) < _; omega) | exact ⟨by assumption, by assumption⟩ | exact ⟨by decide, by decide⟩ | exact ⟨by decide, by decide, by omega⟩)
local macro_rules | `(tactic| walk_at "lk") => `(tactic| first | assumption | exact upd_same | ((refine Eq.trans (upd_ne (by first | assumption | exact Ne.symm (by assumption))) ?_); walk_at "lk") | exact Same.get (by assumption) (by walk_at "lk") | exact Keep.get (by assumption) (by walk_at "lk") (by assumption) (by assumption))
local macro_rules | `(tactic| walk_at "sq") => `(tactic| first | assumption | exact SqL.of (by walk_at "lk") | exact Same.seq (by assumption) (by walk_at "sq"))
local macro_rules | `(tactic| walk_at "stt") => `(tactic| exact SqT.of (by walk_at "lk"))
local macro_rules | `(tactic| walk_at "kd") => `(tactic| first | assumption | exact Kd.str _ (by first | assumption | omega | decide) | exact Kd.bl _ | exact Kd.int _ | exact Kd.non | exact Kd.lst (by walk_at "lk") | exact Kd.tup (by walk_at "lk") | exact Kd.dct (by walk_at "lk") | exact Kd.same (by assumption) (by walk_at "kd"))
local macro_rules | `(tactic| walk_at "sm") => `(tactic| first | assumption | exact Same.refl _ | (refine Same.trans ?_ (by assumption); walk_at "sm"))
local macro_rules | `(tactic| walk_at "st") => `(tactic| first
  | with_reducible refine i_seq ?_ | with_reducible refine i_asg ?_ | with_reducible refine i_ret ?_ | with_reducible refine i_op ?_
  | ((with_reducible show tVar _ _ _ _); refine i_var rfl ?_)
  | with_reducible refine i_c ?_ | with_reducible refine i_cb ?_ | with_reducible refine i_call ?_ | with_reducible refine i_cons ?_ | with_reducible refine i_nil ?_
  | with_reducible refine i_name ?_ | with_reducible refine i_sub ?_ | with_reducible refine i_drop ?_ | with_reducible refine i_ifs ?_ | with_reducible refine i_ife ?_
  | with_reducible refine i_test ?_ | with_reducible refine i_tru ?_ | with_reducible refine i_and ?_ | with_reducible refine i_or ?_ | with_reducible refine i_not ?_
  | with_reducible refine i_andV ?_ | with_reducible refine i_orV ?_ | with_reducible refine i_notV ?_ | with_reducible refine i_un ?_
  | with_reducible refine i_bl ?_ | with_reducible refine i_trB ?_ | with_reducible refine i_next ?_
  | with_reducible refine iteF ?_ | with_reducible refine iteT ?_
  | with_reducible refine i_lstF ?_ | with_reducible refine i_tupF ?_
  | with_reducible refine p_addI ?_ | with_reducible refine p_I0 ?_ | with_reducible refine p_U ?_
  | with_reducible refine p_ltI ?_ | with_reducible refine p_leI ?_ | with_reducible refine p_gtI ?_ | with_reducible refine p_geI ?_
  | with_reducible refine p_ltS ?_ | with_reducible refine p_leS ?_ | with_reducible refine p_gtS ?_
  | with_reducible refine p_eqI ?_ | with_reducible refine p_neI ?_ | with_reducible refine p_int ?_
  | ((with_reducible show rMuXX (V.int _) (V.int _) _ _); refine p_muI (by walk_at "mul") ?_)
  | ((with_reducible show rI _ _ (V.int _) (V.int _) _ _); refine p_I (by walk_at "ci") ?_)
  | ((with_reducible show rIx _ (V.ref _) (V.int _) _ _); (first | refine p_ixL (by walk_at "sq") (by first | exact rfl | assumption) ?_ | refine p_ixT (SqT.of (by walk_at "lk")) (by first | exact rfl | assumption) ?_))
  | ((with_reducible show rSetL (V.ref _) (V.int _) _ _ _); refine p_setL (by walk_at "lk") (by first | exact rfl | assumption) ?_)
  | ((with_reducible show rLenX _ [V.ref _] _ _); (first | refine p_lenL (by walk_at "sq") ?_ | refine p_lenT (SqT.of (by walk_at "lk")) ?_))
  | ((with_reducible show rLenX _ [V.str _] _ _); refine p_lenS (by walk_at "sz") ?_)
  | with_reducible refine i_lc ?_ | with_reducible refine i_for ?_ | with_reducible refine i_itl ?_ | with_reducible refine i_itt ?_ | with_reducible refine i_itr ?_ | with_reducible refine i_its ?_
  | ((with_reducible show ∃ _, V.ref _ = V.ref _ ∧ (∃ _, SqL _ _ _ _) ∧ _); refine p_itl (by walk_at "sq") ?_)
  | ((with_reducible show ∃ _, V.ref _ = V.ref _ ∧ (∃ _, SqT _ _ _ _) ∧ _); refine p_itt (by walk_at "stt") ?_) | with_reducible refine p_its ?_
  | ((with_reducible show ∃ _, [V.int _] = [V.int _] ∧ _); refine p_itr (by omega) (by omega) ?_)
  | with_reducible refine i_sl ?_ | with_reducible refine i_np ?_ | with_reducible refine i_pt ?_ | with_reducible refine i_in ?_
  | ((with_reducible show rSlXX _ (V.ref _) _ _ _ _); refine p_slL (by walk_at "sq") ?_; intro _ _ _ _ _)
  | ((with_reducible show rSlXX _ (V.str _) _ _ _ _); refine p_slS (by walk_at "sz") ?_)
  | ((with_reducible show rIsi _ [_, V.ty "str"] _ _); refine p_isStr (by walk_at "kd") ?_)
  | ((with_reducible show rIsi _ [_, V.ty "int"] _ _); refine p_isInt (by walk_at "kd") ?_)
  | ((with_reducible show rIsi _ [_, V.ty "bool"] _ _); refine p_isBool (by walk_at "kd") ?_)
  | ((with_reducible show rIsiT _ [_, V.ref _] _ _); refine p_isLT (by walk_at "lk") (by walk_at "kd") ?_)
  | with_reducible refine i_chain ?_ | with_reducible refine i_m1 ?_ | with_reducible refine i_m0 ?_ | with_reducible refine i_str ?_
  | ((with_reducible show LstK _ _ _); refine p_lstK (by walk_at "sz") ?_; intro _ _ _ _ _)
  | ((with_reducible show TupK _ _ _); refine p_tupK (by walk_at "sz") ?_; intro _ _ _ _ _)
  | ((with_reducible show (if _ = true then _ else _)); (first | refine ifT' (by first | assumption | exact rfl) ?_ | refine ifF' (by first | assumption | exact rfl) ?_))
  | ((with_reducible show rEqX _ (V.bl _) (V.bl _) _ _); refine p_eqS rfl ?_) | ((with_reducible show rNeX _ (V.bl _) (V.bl _) _ _); refine p_neS rfl ?_)
  | ((with_reducible show rEqX _ (V.ref _) (V.ref _) _ _); refine p_eqNil (by walk_at "lk") (by walk_at "lk") ?_) | ((with_reducible show rNeX _ (V.ref _) (V.ref _) _ _); refine p_neNil (by walk_at "lk") (by walk_at "lk") ?_)
  | ((with_reducible show rAddX _ (V.str _) (V.str _) _ _); refine p_addS (by walk_at "sz") ?_)
  | ((with_reducible show rMuXX (V.str _) (V.int _) _ _); refine p_muS ⟨by decide +kernel, by decide +kernel, by decide +kernel⟩ ?_)
  | ((with_reducible show tDNewK _ _ _); refine i_dnew ?_; intro _ _ _ _ _)
  | ((with_reducible show rTupX _ [V.ref _] _ _); refine p_tupL (by walk_at "sq") ?_; intro _ _ _ _ _)
  | ((with_reducible show rAddX _ (V.ref _) (V.ref _) _ _); refine p_addL (by walk_at "lk") (by walk_at "lk") (by walk_at "sz") ?_; intro _ _ _ _ _)
  | with_reducible refine p_notB ?_ | with_reducible refine p_isB ?_)
local macro_rules | `(tactic| walk_at "go") => `(tactic| (walk_at "st"; (repeat walk_at "st")))

def top (i : Nat) : Stmt := PySem.Challenge.pw_lineorigins_k05_whole_ratios_are_in_orde.main.body.getD i (.Pass ⟨0, 0, 0, 0⟩)
abbrev s_is_whole : Stmt := top 6
abbrev N_is_whole : List Str := ["value"]
theorem sc_is_whole : FnScope ["value"] ["value"] (defScope s_is_whole) := ⟨rfl, rfl, rfl, by decide +kernel, rfl, by decide +kernel, by decide +kernel⟩
abbrev s_Ratio___init__ : Stmt := inClass (top 8) 0
abbrev N_Ratio___init__ : List Str := ["self", "top", "bottom", "shared"]
theorem sc_Ratio___init__ : FnScope ["self", "top", "bottom", "shared"] ["self", "top", "bottom"] (defScope s_Ratio___init__) := ⟨rfl, rfl, rfl, by decide +kernel, rfl, by decide +kernel, by decide +kernel⟩
abbrev s_Ratio_top : Stmt := inClass (top 8) 1
abbrev N_Ratio_top : List Str := ["self"]
theorem sc_Ratio_top : FnScope ["self"] ["self"] (defScope s_Ratio_top) := ⟨rfl, rfl, rfl, by decide +kernel, rfl, by decide +kernel, by decide +kernel⟩
abbrev s_Ratio_bottom : Stmt := inClass (top 8) 2
abbrev N_Ratio_bottom : List Str := ["self"]
theorem sc_Ratio_bottom : FnScope ["self"] ["self"] (defScope s_Ratio_bottom) := ⟨rfl, rfl, rfl, by decide +kernel, rfl, by decide +kernel, by decide +kernel⟩
abbrev s_Ratio___bool__ : Stmt := inClass (top 8) 15
abbrev N_Ratio___bool__ : List Str := ["self"]
theorem sc_Ratio___bool__ : FnScope ["self"] ["self"] (defScope s_Ratio___bool__) := ⟨rfl, rfl, rfl, by decide +kernel, rfl, by decide +kernel, by decide +kernel⟩
abbrev s_Ratio___eq__ : Stmt := inClass (top 8) 16
abbrev N_Ratio___eq__ : List Str := ["self", "other"]
theorem sc_Ratio___eq__ : FnScope ["self", "other"] ["self", "other"] (defScope s_Ratio___eq__) := ⟨rfl, rfl, rfl, by decide +kernel, rfl, by decide +kernel, by decide +kernel⟩
abbrev s_Ratio___ne__ : Stmt := inClass (top 8) 17
abbrev N_Ratio___ne__ : List Str := ["self", "other"]
theorem sc_Ratio___ne__ : FnScope ["self", "other"] ["self", "other"] (defScope s_Ratio___ne__) := ⟨rfl, rfl, rfl, by decide +kernel, rfl, by decide +kernel, by decide +kernel⟩
abbrev s_Ratio___lt__ : Stmt := inClass (top 8) 18
abbrev N_Ratio___lt__ : List Str := ["self", "other", "number"]
theorem sc_Ratio___lt__ : FnScope ["self", "other", "number"] ["self", "other"] (defScope s_Ratio___lt__) := ⟨rfl, rfl, rfl, by decide +kernel, rfl, by decide +kernel, by decide +kernel⟩
abbrev s_Ratio___le__ : Stmt := inClass (top 8) 19
abbrev N_Ratio___le__ : List Str := ["self", "other", "number"]
theorem sc_Ratio___le__ : FnScope ["self", "other", "number"] ["self", "other"] (defScope s_Ratio___le__) := ⟨rfl, rfl, rfl, by decide +kernel, rfl, by decide +kernel, by decide +kernel⟩
abbrev s_Ratio___gt__ : Stmt := inClass (top 8) 20
abbrev N_Ratio___gt__ : List Str := ["self", "other", "number"]
theorem sc_Ratio___gt__ : FnScope ["self", "other", "number"] ["self", "other"] (defScope s_Ratio___gt__) := ⟨rfl, rfl, rfl, by decide +kernel, rfl, by decide +kernel, by decide +kernel⟩
abbrev s_Ratio___ge__ : Stmt := inClass (top 8) 21
abbrev N_Ratio___ge__ : List Str := ["self", "other", "number"]
theorem sc_Ratio___ge__ : FnScope ["self", "other", "number"] ["self", "other"] (defScope s_Ratio___ge__) := ⟨rfl, rfl, rfl, by decide +kernel, rfl, by decide +kernel, by decide +kernel⟩
abbrev s_Ratio___add__ : Stmt := inClass (top 8) 7
abbrev N_Ratio___add__ : List Str := ["self", "other", "number", "top"]
theorem sc_Ratio___add__ : FnScope ["self", "other", "number", "top"] ["self", "other"] (defScope s_Ratio___add__) := ⟨rfl, rfl, rfl, by decide +kernel, rfl, by decide +kernel, by decide +kernel⟩
abbrev s_Ratio___radd__ : Stmt := inClass (top 8) 8
abbrev N_Ratio___radd__ : List Str := ["self", "other"]
theorem sc_Ratio___radd__ : FnScope ["self", "other"] ["self", "other"] (defScope s_Ratio___radd__) := ⟨rfl, rfl, rfl, by decide +kernel, rfl, by decide +kernel, by decide +kernel⟩
abbrev s_Ratio___sub__ : Stmt := inClass (top 8) 9
abbrev N_Ratio___sub__ : List Str := ["self", "other"]
theorem sc_Ratio___sub__ : FnScope ["self", "other"] ["self", "other"] (defScope s_Ratio___sub__) := ⟨rfl, rfl, rfl, by decide +kernel, rfl, by decide +kernel, by decide +kernel⟩
abbrev s_Ratio___rsub__ : Stmt := inClass (top 8) 10
abbrev N_Ratio___rsub__ : List Str := ["self", "other"]
theorem sc_Ratio___rsub__ : FnScope ["self", "other"] ["self", "other"] (defScope s_Ratio___rsub__) := ⟨rfl, rfl, rfl, by decide +kernel, rfl, by decide +kernel, by decide +kernel⟩
abbrev s_Ratio___mul__ : Stmt := inClass (top 8) 11
abbrev N_Ratio___mul__ : List Str := ["self", "other", "number"]
theorem sc_Ratio___mul__ : FnScope ["self", "other", "number"] ["self", "other"] (defScope s_Ratio___mul__) := ⟨rfl, rfl, rfl, by decide +kernel, rfl, by decide +kernel, by decide +kernel⟩
abbrev s_Ratio___rmul__ : Stmt := inClass (top 8) 12
abbrev N_Ratio___rmul__ : List Str := ["self", "other"]
theorem sc_Ratio___rmul__ : FnScope ["self", "other"] ["self", "other"] (defScope s_Ratio___rmul__) := ⟨rfl, rfl, rfl, by decide +kernel, rfl, by decide +kernel, by decide +kernel⟩
abbrev s_Ratio___neg__ : Stmt := inClass (top 8) 13
abbrev N_Ratio___neg__ : List Str := ["self"]
theorem sc_Ratio___neg__ : FnScope ["self"] ["self"] (defScope s_Ratio___neg__) := ⟨rfl, rfl, rfl, by decide +kernel, rfl, by decide +kernel, by decide +kernel⟩
abbrev s_Ratio___abs__ : Stmt := inClass (top 8) 14
abbrev N_Ratio___abs__ : List Str := ["self"]
theorem sc_Ratio___abs__ : FnScope ["self"] ["self"] (defScope s_Ratio___abs__) := ⟨rfl, rfl, rfl, by decide +kernel, rfl, by decide +kernel, by decide +kernel⟩
abbrev s_Ratio_divided : Stmt := inClass (top 8) 6
abbrev N_Ratio_divided : List Str := ["self", "other", "number"]
theorem sc_Ratio_divided : FnScope ["self", "other", "number"] ["self", "other"] (defScope s_Ratio_divided) := ⟨rfl, rfl, rfl, by decide +kernel, rfl, by decide +kernel, by decide +kernel⟩
abbrev s_Ratio_middle : Stmt := inClass (top 8) 5
abbrev N_Ratio_middle : List Str := ["first", "second"]
theorem sc_Ratio_middle : FnScope ["first", "second"] ["first", "second"] (defScope s_Ratio_middle) := ⟨rfl, rfl, rfl, by decide +kernel, rfl, by decide +kernel, by decide +kernel⟩
abbrev s_is_number : Stmt := top 9
abbrev N_is_number : List Str := ["value"]
theorem sc_is_number : FnScope ["value"] ["value"] (defScope s_is_number) := ⟨rfl, rfl, rfl, by decide +kernel, rfl, by decide +kernel, by decide +kernel⟩
abbrev s_as_ratio : Stmt := top 10
abbrev N_as_ratio : List Str := ["number"]
theorem sc_as_ratio : FnScope ["number"] ["number"] (defScope s_as_ratio) := ⟨rfl, rfl, rfl, by decide +kernel, rfl, by decide +kernel, by decide +kernel⟩
def rf (t b : Int) : List (Str × V) := putF "_bottom" (.int b) (putF "_top" (.int t) [])
theorem rf_t (t b : Int) : (rf t b).lookup ("_top" : Str) = some (.int t) := by
  unfold rf
  rw [lookup_putF, if_neg (by decide +kernel), lookup_putF, if_pos rfl]
theorem rf_b (t b : Int) : (rf t b).lookup ("_bottom" : Str) = some (.int b) := by
  unfold rf
  rw [lookup_putF, if_pos rfl]
/-- a ratio t/b stands at a -/
def RAt (C : Addr) (H : Hp) (a : Addr) (t b : Int) : Prop := ∃ dx, H a = some (.ins C dx (rf t b))
theorem RAt.same {C : Addr} {H H' : Hp} {a : Addr} {t b : Int} (s : Same H H') (h : RAt C H a t b) : RAt C H' a t b := h.elim fun dx e => ⟨dx, s _ _ e⟩
def sg (t b : Int) : Int := if b < 0 then -((Nat.gcd t.natAbs b.natAbs : Nat) : Int) else ((Nat.gcd t.natAbs b.natAbs : Nat) : Int)
def rN (t b : Int) : Int := t.fdiv (sg t b)
def rD (t b : Int) : Int := b.fdiv (sg t b)
/-- an integer or a ratio -/
inductive Nb (C : Addr) (H : Hp) : V → Int → Int → Prop where
  | int (i : Int) : Nb C H (.int i) i 1
  | rat {a : Addr} {t b : Int} (h : RAt C H a t b) : Nb C H (.ref a) t b
/-- what is_whole and is_number look at -/
inductive Kr (C : Addr) (H : Hp) : V → Bool → Bool → Prop where
  | kd {x : V} {k : Kn} (h : Kd H x k) : Kr C H x (k.is .int && !k.is .bl) false
  | rat {a : Addr} {t b : Int} (h : RAt C H a t b) : Kr C H (.ref a) false true
structure RatF (K : PySem.W.Frag) (mg : Str → Option Value) (C : Addr) : Prop where
  I : InsF K C
  v_Ratio : ∃ u, mg "Ratio" = some u ∧ RelV (.ref C) u
  nT : NoAttr K C "_top"
  nB : NoAttr K C "_bottom"
  ap : Apart K C
  sI : PySem.W.subIn K (.ref C) (.type "int") = some false
  ini : InitAt K C "Ratio.__init__" s_Ratio___init__ [.int 1]
  pT : PropAt K C "top" "Ratio.top" s_Ratio_top
  pB : PropAt K C "bottom" "Ratio.bottom" s_Ratio_bottom
  m_bool : MethAt K C "__bool__" "Ratio.__bool__" s_Ratio___bool__
  m_eq : MethAt K C "__eq__" "Ratio.__eq__" s_Ratio___eq__
  m_ne : MethAt K C "__ne__" "Ratio.__ne__" s_Ratio___ne__
  m_lt : MethAt K C "__lt__" "Ratio.__lt__" s_Ratio___lt__
  m_le : MethAt K C "__le__" "Ratio.__le__" s_Ratio___le__
  m_gt : MethAt K C "__gt__" "Ratio.__gt__" s_Ratio___gt__
  m_ge : MethAt K C "__ge__" "Ratio.__ge__" s_Ratio___ge__
  m_add : MethAt K C "__add__" "Ratio.__add__" s_Ratio___add__
  m_radd : MethAt K C "__radd__" "Ratio.__radd__" s_Ratio___radd__
  m_sub : MethAt K C "__sub__" "Ratio.__sub__" s_Ratio___sub__
  m_rsub : MethAt K C "__rsub__" "Ratio.__rsub__" s_Ratio___rsub__
  m_mul : MethAt K C "__mul__" "Ratio.__mul__" s_Ratio___mul__
  m_rmul : MethAt K C "__rmul__" "Ratio.__rmul__" s_Ratio___rmul__
  m_neg : MethAt K C "__neg__" "Ratio.__neg__" s_Ratio___neg__
  m_abs : MethAt K C "__abs__" "Ratio.__abs__" s_Ratio___abs__
  m_divided : MethAt K C "divided" "Ratio.divided" s_Ratio_divided
  m_middle : ∃ (mc : Value) (p g : Addr) (fd : FuncData), ClX.CRead K C mc ∧ PySem.W.findCls K (.ref C) mc "middle" = some (.get (.builtin "staticmethod.__get__") (.ref p) .none (.ref C)) ∧ (∃ rest, PySem.W.recIn K p "staticmethod" = some (.ref g :: rest)) ∧ PySem.W.handedIn (.ref g) = true ∧ Fun K "middle" "Ratio.middle" s_Ratio_middle g fd
  b_add : BinF K C "add"
  b_sub : BinF K C "sub"
  b_mul : BinF K C "mul"
  n_abs : mg "abs" = none
  n_int : mg "int" = none
  n_bool : mg "bool" = none
  n_isinstance : mg "isinstance" = none
  m_gcd : mg "gcd" = some (.builtin "math.gcd")
  d_whole : DefAt K mg "is_whole" s_is_whole
  d_number : DefAt K mg "is_number" s_is_number
  d_as : DefAt K mg "as_ratio" s_as_ratio
theorem RatF.cl {K : PySem.W.Frag} {mg : Str → Option Value} {C : Addr} (T : RatF K mg C) : Cls K C := T.I.cl
/-! ### steps -/
def MkK (C : Addr) (sp : Sp) (dvs : List V) (E : XK) (Q : VK) : List V → Hp → Prop := fun vs H1 => ∀ x dx, H1 x = none → H1 dx = none → dx ≠ x → sp (.ref x :: (vs ++ dvs)) (upd (upd H1 dx (.own x)) x (.ins C dx [])) (fun v H3 => v = .non ∧ Q (.ref x) H3) E
def PrK (C : Addr) (sp : Sp) (Q : VK) : V → Hp → Prop := fun x H1 => ∃ a dx fs, x = .ref a ∧ H1 a = some (.ins C dx fs) ∧ sp [.ref a] H1 Q E0
def FlK (K : PySem.W.Frag) (f : Str) (Q : VK) : V → Hp → Prop := fun x H1 => ∃ a C dx fs v, x = .ref a ∧ H1 a = some (.ins C dx fs) ∧ Cls K C ∧ NoAttr K C f ∧ fs.lookup f = some v ∧ Q v H1
section
variable {K : PySem.W.Frag} {mg : Str → Option Value} {C : Addr} {σ : L2.St} {H : Hp} {Q : VK} {D : Ends} {t : TA} {ta tv : TE} {sp : Sp} {dvs : List V} {f : Str} {a : Addr} {n b : Int}
theorem i_par {i j : Nat} {D : Ends} (h : t σ H fun vs H1 => ∃ v w, vs = [v, w] ∧ D.nx ((σ.set i (some v)).set j (some w)) H1) : tPar i j t D σ H := h
theorem i_sfl {D : Ends} (h : tv σ H fun y H1 => ta σ H1 fun x H2 => ∃ a C dx fs, x = .ref a ∧ H2 a = some (.ins C dx fs) ∧ Cls K C ∧ NoAttr K C f ∧ fs.length < 1000 ∧ D.nx σ (upd H2 a (.ins C dx (putF f y fs)))) : sFld K ta tv f D σ H := h
theorem i_mk {E : XK} (h : t σ H (MkK C sp dvs E Q)) : tMake C sp dvs E t σ H Q := h
theorem i_pr (h : ta σ H (PrK C sp Q)) : tProp C sp [] E0 ta σ H Q := h
theorem i_fl (h : ta σ H (FlK K f Q)) : tFld K ta f σ H Q := h
theorem p_flT (T : RatF K mg C) (h : RAt C H a n b) (q : Q (.int n) H) : FlK K "_top" Q (.ref a) H := h.elim fun dx e => ⟨a, C, dx, _, _, rfl, e, T.cl, T.nT, rf_t _ _, q⟩
theorem p_flB (T : RatF K mg C) (h : RAt C H a n b) (q : Q (.int b) H) : FlK K "_bottom" Q (.ref a) H := h.elim fun dx e => ⟨a, C, dx, _, _, rfl, e, T.cl, T.nB, rf_b _ _, q⟩
def spTop (C : Addr) : Sp := fun vs H Q _ => ∃ a t b, vs = [.ref a] ∧ RAt C H a t b ∧ Q (.int t) H
def spBot (C : Addr) : Sp := fun vs H Q _ => ∃ a t b, vs = [.ref a] ∧ RAt C H a t b ∧ Q (.int b) H
theorem p_prT (h : RAt C H a n b) (q : Q (.int n) H) : PrK C (spTop C) Q (.ref a) H := h.elim fun dx e => ⟨a, dx, _, rfl, e, a, n, b, rfl, h, q⟩
theorem p_prB (h : RAt C H a n b) (q : Q (.int b) H) : PrK C (spBot C) Q (.ref a) H := h.elim fun dx e => ⟨a, dx, _, rfl, e, a, n, b, rfl, h, q⟩
def spIni (C : Addr) : Sp := fun vs H Q _ => ∃ p dx t b, vs = [.ref p, .int t, .int b] ∧ H p = some (.ins C dx []) ∧ b ≠ 0 ∧ b.natAbs < 2 ^ 4000 ∧ ∀ H', H' p = some (.ins C dx (rf (rN t b) (rD t b))) → (∀ a, a ≠ p → H' a = H a) → Q .non H'
theorem p_isR (T : RatF K mg C) (h : RAt C H a n b) (q : Q (.bl true) H) : rIsi K [.ref a, .ref C] H Q := h.elim fun dx e => p_isC T.I e q
theorem p_isRi (T : RatF K mg C) (h : RAt C H a n b) (q : Q (.bl false) H) : rIsi K [.ref a, .ty "int"] H Q := h.elim fun dx e => p_isCint T.I e q
theorem p_isRn {x : V} {kn : Kn} (T : RatF K mg C) (h : Kd H x kn) (q : Q (.bl false) H) : rIsi K [x, .ref C] H Q := p_isCn T.I h q
theorem p_mk {vs : List V} {E : XK} (e : vs ++ dvs = [.int n, .int b]) (h : b ≠ 0) (hb : b.natAbs < 2 ^ 4000) (q : ∀ p H', RAt C H' p (rN n b) (rD n b) → Same H H' → H p = none → Q (.ref p) H') : MkK C (spIni C) dvs E Q vs H := by
  intro x dx n1 n2 ne
  rw [e]
  refine ⟨x, dx, n, b, rfl, upd_same, h, hb, fun H' e1 e2 => ⟨rfl, q x H' ⟨dx, e1⟩ (fun c o ec => ?_) n1⟩⟩
  rw [e2 c (ne_of_none ec n1), upd_ne (ne_of_none ec n1), upd_ne (ne_of_none ec n2)]
  exact ec
end
local macro_rules | `(tactic| walk_at "rx") => `(tactic| first
  | with_reducible refine i_par ?_ | ((with_reducible show ∃ _ _, [_, _] = [_, _] ∧ _); refine ⟨_, _, rfl, ?_⟩) | ((with_reducible show ∃ _, [V.int _] = [V.int _] ∧ _); refine ⟨_, rfl, ?_⟩)
  | with_reducible refine i_sfl ?_ | with_reducible refine i_mk ?_ | with_reducible refine i_pr ?_ | with_reducible refine i_fl ?_
  | ((with_reducible show FlK _ _ _ (V.ref _) _); first | refine p_flT (by assumption) (by assumption) ?_ | refine p_flB (by assumption) (by assumption) ?_)
  | ((with_reducible show rIsi _ [V.ref _, V.ref _] _ _); refine p_isR (by assumption) (by assumption) ?_)
  | ((with_reducible show rIsi _ [V.ref _, V.ty "int"] _ _); refine p_isRi (by assumption) (by assumption) ?_)
  | ((with_reducible show rIsi _ [_, V.ref _] _ _); refine p_isRn (by assumption) (by walk_at "kd") ?_)
  | ((with_reducible show rMuXX (V.int _) (V.int _) _ _); refine p_muI (Or.inr (by assumption)) ?_)
  | ((with_reducible show rGcd [V.int _, V.int _] _ _); refine ⟨_, _, rfl, ?_⟩)
  | ((with_reducible show PrK _ _ _ (V.ref _) _); first | refine p_prT (by assumption) ?_ | refine p_prB (by assumption) ?_))
local macro_rules | `(tactic| walk_at "gr") => `(tactic| repeat (first | walk_at "st" | walk_at "rx"))

section
variable {P : Program} {w : World} {K : PySem.W.Frag} {mg : Str → Option Value} {base : Heap} {C : Addr}
theorem c_top (T : RatF K mg C) : PropM P w K mg base 1 C "top" (spTop C) := by
  refine prop0 T.pT sc_Ratio_top (fun _ _ _ _ _ _ us hl => match us, hl with | [_], _ => rfl) (fun vs H Q E h => ?_) (fun f cdv A outer s H vs Q E hr h => ?_)
  · obtain ⟨a, t, b, rfl, _⟩ := h
    rfl
  · obtain ⟨a, t, b, rfl, h, q⟩ := h
    refine ⟨_, (pss_one (ps_ret (pe_fld (pv 0) rfl))), ?_⟩
    walk_at "gr"
    exact q
theorem c_bot (T : RatF K mg C) : PropM P w K mg base 1 C "bottom" (spBot C) := by
  refine prop0 T.pB sc_Ratio_bottom (fun _ _ _ _ _ _ us hl => match us, hl with | [_], _ => rfl) (fun vs H Q E h => ?_) (fun f cdv A outer s H vs Q E hr h => ?_)
  · obtain ⟨a, t, b, rfl, _⟩ := h
    rfl
  · obtain ⟨a, t, b, rfl, h, q⟩ := h
    refine ⟨_, (pss_one (ps_ret (pe_fld (pv 0) rfl))), ?_⟩
    walk_at "gr"
    exact q
def spWhole (C : Addr) : Sp := fun vs H Q _ => ∃ x i r, vs = [x] ∧ Kr C H x i r ∧ Q (.bl i) H
theorem c_is_whole (T : RatF K mg C) : Cal P w K mg base CX0 1 "is_whole" (spWhole C) := by
  refine cal0 T.d_whole sc_is_whole (fun _ _ _ _ _ _ us hl => match us, hl with | [_], _ => rfl) (fun vs H Q E h => ?_) (fun f cdv A outer s H vs Q E hr h => ?_)
  · obtain ⟨x, i, r, rfl, _⟩ := h
    rfl
  · obtain ⟨x, i, r, rfl, h, q⟩ := h
    refine ⟨_, (pss_one (ps_ret (pe_and (pe_callB (r := rIsi K) call_isi (by rfl) T.n_isinstance (by decide +kernel) (pa_cons (pv 0) (pa_cons (pe_bltn (v := .ty "int") (by rfl) T.n_int (by decide +kernel) rfl) pa_nil))) (pe_one (pe_not (pe_callB (r := rIsi K) call_isi (by rfl) T.n_isinstance (by decide +kernel) (pa_cons (pv 0) (pa_cons (pe_bltn (v := .ty "bool") (by rfl) T.n_bool (by decide +kernel) rfl) pa_nil)))))))), ?_⟩
    cases h with
    | kd h =>
      walk_at "gr"
      refine ift (fun hc => ?_) (fun hc => ?_)
      · walk_at "gr"
        rw [hc, Bool.true_and] at q
        exact q
      · rw [hc, Bool.false_and] at q
        exact q
    | rat h =>
      walk_at "gr"
      exact q
def spNumber (C : Addr) : Sp := fun vs H Q _ => ∃ x i r, vs = [x] ∧ Kr C H x i r ∧ Q (.bl (i || r)) H
theorem c_is_number (T : RatF K mg C) : Cal P w K mg base CX0 2 "is_number" (spNumber C) := by
  have c_is_whole : Cal P w K mg base CX0 1 "is_whole" (spWhole C) := c_is_whole T
  refine cal0 T.d_number sc_is_number (fun _ _ _ _ _ _ us hl => match us, hl with | [_], _ => rfl) (fun vs H Q E h => ?_) (fun f cdv A outer s H vs Q E hr h => ?_)
  · obtain ⟨x, i, r, rfl, _⟩ := h
    rfl
  · obtain ⟨x, i, r, rfl, h, q⟩ := h
    refine ⟨_, (pss_one (ps_ret (pe_or (pe_c c_is_whole hr (by decide) (by rfl) pass0 (pa_cons (pv 0) pa_nil)) (pe_one (pe_callB (r := rIsi K) call_isi (by rfl) T.n_isinstance (by decide +kernel) (pa_cons (pv 0) (pa_cons (pe_gc (by rfl) T.v_Ratio) pa_nil))))))), ?_⟩
    walk_at "gr"
    refine ⟨x, i, r, rfl, h, ?_⟩
    walk_at "gr"
    cases h with
    | kd h =>
      refine ift (fun hc => ?_) (fun hc => ?_)
      · rw [hc] at q
        walk_at "gr"
        exact q
      · rw [hc] at q
        walk_at "gr"
        exact q
    | rat h =>
      walk_at "gr"
      exact q
theorem i_gcd {σ : L2.St} {H : Hp} {Q : VK} {a b : Int} (q : Q (.int ((Nat.gcd a.natAbs b.natAbs : Nat) : Int)) H) : rGcd [.int a, .int b] H Q := ⟨a, b, rfl, q⟩
theorem c_init (T : RatF K mg C) : IniOk P w K mg base 2 C "Ratio.__init__" s_Ratio___init__ ["self", "top", "bottom"] [.int 1] (spIni C) := by
  have c_is_whole : Cal P w K mg base CX0 1 "is_whole" (spWhole C) := c_is_whole T
  refine ini0 T.ini sc_Ratio___init__ (fun vs H Q E h => ?_) (fun f cdv A outer s H vs Q E hr h => ?_)
  · obtain ⟨p, dx, t, b, rfl, _⟩ := h
    rfl
  · obtain ⟨p, dx, t, b, rfl, hp, b0, hb, q⟩ := h
    refine ⟨_, (pss_cons (ps_if (pt_not (pt_truK (K := K) rfl (pe_c c_is_whole hr (by decide) (by rfl) pass0 (pa_cons (pv 1) pa_nil)) (by intro _; rfl))) (pss_one ps_never) pss_nil)
      (pss_cons (ps_if (PW.pt (pw_or (pt_not (pt_truK (K := K) rfl (pe_c c_is_whole hr (by decide) (by rfl) pass0 (pa_cons (pv 2) pa_nil)) (by intro _; rfl))) (pw_or1 (pt_cmpR (r := rEqX K) (op_eqX hr.units) (pv 2) pe_int (nomark _))))) (pss_one ps_never) pss_nil)
      (pss_cons (ps_set (i := 3) sc_Ratio___init__.nd rfl (by first | exact Or.inl rfl | exact Or.inr rfl) (pe_callBfun cr_gcd (by rfl) T.m_gcd (pa_cons (pv 1) (pa_cons (pv 2) pa_nil))))
      (pss_cons (ps_if (pt_cmpR op_ltX (pv 2) pe_int (nomark _)) (pss_one (ps_set (i := 3) sc_Ratio___init__.nd rfl (by first | exact Or.inl rfl | exact Or.inr rfl) (pe_un un_neg (pv 3)))) pss_nil)
      (pss_cons (ps_fld (pv 0) (pe_op op_fdZ (pv 1) (pv 3)) rfl)
      (pss_one (ps_fld (pv 0) (pe_op op_fdZ (pv 2) (pv 3)) rfl))))))), ?_⟩
    walk_at "gr"
    refine ⟨_, _, _, rfl, .kd (.int t), ?_⟩
    walk_at "gr"
    refine ⟨_, _, _, rfl, .kd (.int b), ?_⟩
    walk_at "gr"
    refine ift (fun hc => absurd (of_decide_eq_true hc) b0) (fun _ => ?_)
    walk_at "gr"
    have g0 : Nat.gcd t.natAbs b.natAbs ≠ 0 := fun e => b0 (Int.natAbs_eq_zero.mp (Nat.gcd_eq_zero_iff.mp e).2)
    have g1 : Nat.gcd t.natAbs b.natAbs < 2 ^ 4000 := Nat.lt_of_le_of_lt (Nat.gcd_le_right _ (Int.natAbs_pos.mpr b0)) hb
    have go : ∀ (s' : Int), s' = sg t b → ∀ (v3 : Int) , CDivZ t s' ∧ CDivZ b s' := fun s' e _ => by
      have e2 : s'.natAbs = Nat.gcd t.natAbs b.natAbs := by
        rw [e]; unfold sg; split <;> simp
      have z : s' ≠ 0 := fun q => g0 (by rw [← e2, q]; rfl)
      have l : s'.natAbs.log2 < 9000 := Nat.lt_of_lt_of_le (PySem.Flt.log2_lt_of (k := 4000) (by decide) (by rw [e2]; exact g1)) (by decide)
      exact ⟨⟨z, l⟩, ⟨z, l⟩⟩
    refine ift (fun hc => ?_) (fun hc => ?_)
    · have e : sg t b = -((Nat.gcd t.natAbs b.natAbs : Nat) : Int) := by unfold sg; rw [if_pos (of_decide_eq_true hc)]
      obtain ⟨d1, d2⟩ := go _ e.symm 0
      walk_at "gr"
      refine ⟨p, C, dx, [], rfl, hp, T.cl, T.nT, by decide, ?_⟩
      walk_at "gr"
      refine ⟨p, C, dx, _, rfl, upd_same, T.cl, T.nB, (by show 1 < 1000; decide), ?_⟩
      walk_at "gr"
      refine q _ ?_ fun c hc => by rw [upd_ne hc, upd_ne hc]
      rw [upd_same, ← e]
      rfl
    · have e : sg t b = ((Nat.gcd t.natAbs b.natAbs : Nat) : Int) := by unfold sg; rw [if_neg (of_decide_eq_false hc)]
      obtain ⟨d1, d2⟩ := go _ e.symm 0
      walk_at "gr"
      refine ⟨p, C, dx, [], rfl, hp, T.cl, T.nT, by decide, ?_⟩
      walk_at "gr"
      refine ⟨p, C, dx, _, rfl, upd_same, T.cl, T.nB, (by show 1 < 1000; decide), ?_⟩
      walk_at "gr"
      refine q _ ?_ fun c hc => by rw [upd_ne hc, upd_ne hc]
      rw [upd_same, ← e]
      rfl
theorem c_Ratio2 (T : RatF K mg C) : C8.Mak P w K mg base 2 "Ratio" C (spIni C) [] := mkr_d (c_init T) (T.v_Ratio.elim fun u h => h.1.trans (congrArg some h.2)) 3 1 (by simp) rfl (fun _ _ _ _ _ _ _ us its h1 h2 => match us, its, h1, h2 with | [_, _, _], [_], _, _ => ⟨_, rfl, rfl⟩)
theorem c_Ratio1 (T : RatF K mg C) : C8.Mak P w K mg base 2 "Ratio" C (spIni C) [.int 1] := mkr_d (c_init T) (T.v_Ratio.elim fun u h => h.1.trans (congrArg some h.2)) 2 0 (by simp) rfl (fun _ _ _ _ _ _ _ us its h1 h2 => match us, its, h1, h2 with | [_, _], [_], _, _ => ⟨_, rfl, rfl⟩)
theorem rN_one (i : Int) : rN i 1 = i := by
  unfold rN sg
  simp
theorem rD_one (i : Int) : rD i 1 = 1 := by
  unfold rD sg
  simp
def spAs (C : Addr) : Sp := fun vs H Q _ => ∃ x t b, vs = [x] ∧ Nb C H x t b ∧ ∀ a H', RAt C H' a t b → Same H H' → Q (.ref a) H'
theorem c_as_ratio (T : RatF K mg C) : Cal P w K mg base CX0 4 "as_ratio" (spAs C) := by
  have c_Ratio1 : C8.Mak P w K mg base 2 "Ratio" C (spIni C) [.int 1] := c_Ratio1 T
  refine cal0 T.d_as sc_as_ratio (fun _ _ _ _ _ _ us hl => match us, hl with | [_], _ => rfl) (fun vs H Q E h => ?_) (fun f cdv A outer s H vs Q E hr h => ?_)
  · obtain ⟨x, t, b, rfl, _⟩ := h
    rfl
  · obtain ⟨x, t, b, rfl, h, q⟩ := h
    refine ⟨_, (pss_cons (ps_if (pt_truK (K := K) rfl (pe_callB (r := rIsi K) call_isi (by rfl) T.n_isinstance (by decide +kernel) (pa_cons (pv 0) (pa_cons (pe_gc (by rfl) T.v_Ratio) pa_nil))) (by intro _; rfl)) (pss_one (ps_ret (pv 0))) pss_nil)
      (pss_one (ps_ret (C8.pe_mk c_Ratio1 hr (by decide) (by rfl) (pa_cons (pv 0) pa_nil))))), ?_⟩
    cases h with
    | int =>
      walk_at "gr"
      refine p_mk (vs := [.int t]) (dvs := [.int 1]) (n := t) (b := 1) rfl (by decide) (Nat.one_lt_two_pow (by decide)) fun p H' r s _ => ?_
      rw [rN_one, rD_one] at r
      exact q p H' r s
    | rat h =>
      walk_at "gr"
      exact q _ _ h (Same.refl _)
def Rel4 (f : Int → Int → Int → Int → Bool) (C : Addr) : Sp := fun vs H Q _ => ∃ a t b y u v, vs = [.ref a, y] ∧ RAt C H a t b ∧ Nb C H y u v ∧ (t.natAbs < 2 ^ 4000 ∧ b.natAbs < 2 ^ 4000) ∧ (u.natAbs < 2 ^ 4000 ∧ v.natAbs < 2 ^ 4000) ∧ ∀ H', Same H H' → Q (.bl (f t b u v)) H'
theorem Nb.kr {H : Hp} {y : V} {u v : Int} (h : Nb C H y u v) : ∃ i r, Kr C H y i r ∧ (i || r) = true := by
  cases h with
  | int => exact ⟨_, _, .kd (.int u), rfl⟩
  | rat h => exact ⟨_, _, .rat h, rfl⟩
theorem c_lt (T : RatF K mg C) : OwnM P w K mg base 5 C "__lt__" (Rel4 (fun t b u v => decide (t * v < u * b)) C) := by
  have c_is_number : Cal P w K mg base CX0 2 "is_number" (spNumber C) := c_is_number T
  have c_as_ratio : Cal P w K mg base CX0 4 "as_ratio" (spAs C) := c_as_ratio T
  have m_top : PropM P w K mg base 1 C "top" (spTop C) := c_top T
  have m_bottom : PropM P w K mg base 1 C "bottom" (spBot C) := c_bot T
  refine own0 T.m_lt sc_Ratio___lt__ (fun _ _ _ _ _ _ us hl => match us, hl with | [_, _], _ => rfl) (fun vs H Q E h => ?_) (fun f cdv A outer s H vs Q E hr h => ?_)
  · obtain ⟨a, t, b, y, u, v, rfl, _⟩ := h
    rfl
  · obtain ⟨a, t, b, y, u, v, rfl, h, hy, ⟨t1, b1⟩, ⟨u1, v1⟩, q⟩ := h
    refine ⟨_, (pss_cons (ps_if (pt_not (pt_truK (K := K) rfl (pe_c c_is_number hr (by decide) (by rfl) pass0 (pa_cons (pv 1) pa_nil)) (by intro _; rfl))) (pss_one ps_never) pss_nil)
      (pss_cons (ps_set (i := 2) sc_Ratio___lt__.nd rfl (by first | exact Or.inl rfl | exact Or.inr rfl) (pe_c c_as_ratio hr (by decide) (by rfl) pass0 (pa_cons (pv 1) pa_nil)))
      (pss_one (ps_ret (pe_cmpR op_ltX (pe_op op_muX (pe_fld (pv 0) rfl) (pe_pr (pv 2) T.cl m_bottom (by decide) hr)) (pe_op op_muX (pe_pr (pv 2) T.cl m_top (by decide) hr) (pe_fld (pv 0) rfl)) (nomark _)))))), ?_⟩
    obtain ⟨i, r, hk, ht⟩ := hy.kr
    walk_at "gr"
    refine ⟨y, i, r, rfl, hk, ?_⟩
    walk_at "gr"
    rw [ht]
    walk_at "gr"
    refine ⟨y, u, v, rfl, hy, fun n H1 hn s1 => ?_⟩
    have h := h.same s1
    have w1 : CMulW t v := wide_mul t1 v1 (by decide) (by decide) (by decide)
    have w2 : CMulW u b := wide_mul u1 b1 (by decide) (by decide) (by decide)
    walk_at "gr"
    exact q _ s1
theorem c_le (T : RatF K mg C) : OwnM P w K mg base 5 C "__le__" (Rel4 (fun t b u v => decide (t * v ≤ u * b)) C) := by
  have c_is_number : Cal P w K mg base CX0 2 "is_number" (spNumber C) := c_is_number T
  have c_as_ratio : Cal P w K mg base CX0 4 "as_ratio" (spAs C) := c_as_ratio T
  have m_top : PropM P w K mg base 1 C "top" (spTop C) := c_top T
  have m_bottom : PropM P w K mg base 1 C "bottom" (spBot C) := c_bot T
  refine own0 T.m_le sc_Ratio___le__ (fun _ _ _ _ _ _ us hl => match us, hl with | [_, _], _ => rfl) (fun vs H Q E h => ?_) (fun f cdv A outer s H vs Q E hr h => ?_)
  · obtain ⟨a, t, b, y, u, v, rfl, _⟩ := h
    rfl
  · obtain ⟨a, t, b, y, u, v, rfl, h, hy, ⟨t1, b1⟩, ⟨u1, v1⟩, q⟩ := h
    refine ⟨_, (pss_cons (ps_if (pt_not (pt_truK (K := K) rfl (pe_c c_is_number hr (by decide) (by rfl) pass0 (pa_cons (pv 1) pa_nil)) (by intro _; rfl))) (pss_one ps_never) pss_nil)
      (pss_cons (ps_set (i := 2) sc_Ratio___le__.nd rfl (by first | exact Or.inl rfl | exact Or.inr rfl) (pe_c c_as_ratio hr (by decide) (by rfl) pass0 (pa_cons (pv 1) pa_nil)))
      (pss_one (ps_ret (pe_cmpR op_leX (pe_op op_muX (pe_fld (pv 0) rfl) (pe_pr (pv 2) T.cl m_bottom (by decide) hr)) (pe_op op_muX (pe_pr (pv 2) T.cl m_top (by decide) hr) (pe_fld (pv 0) rfl)) (nomark _)))))), ?_⟩
    obtain ⟨i, r, hk, ht⟩ := hy.kr
    walk_at "gr"
    refine ⟨y, i, r, rfl, hk, ?_⟩
    walk_at "gr"
    rw [ht]
    walk_at "gr"
    refine ⟨y, u, v, rfl, hy, fun n H1 hn s1 => ?_⟩
    have h := h.same s1
    have w1 : CMulW t v := wide_mul t1 v1 (by decide) (by decide) (by decide)
    have w2 : CMulW u b := wide_mul u1 b1 (by decide) (by decide) (by decide)
    walk_at "gr"
    exact q _ s1
theorem c_gt (T : RatF K mg C) : OwnM P w K mg base 5 C "__gt__" (Rel4 (fun t b u v => decide (t * v > u * b)) C) := by
  have c_is_number : Cal P w K mg base CX0 2 "is_number" (spNumber C) := c_is_number T
  have c_as_ratio : Cal P w K mg base CX0 4 "as_ratio" (spAs C) := c_as_ratio T
  have m_top : PropM P w K mg base 1 C "top" (spTop C) := c_top T
  have m_bottom : PropM P w K mg base 1 C "bottom" (spBot C) := c_bot T
  refine own0 T.m_gt sc_Ratio___gt__ (fun _ _ _ _ _ _ us hl => match us, hl with | [_, _], _ => rfl) (fun vs H Q E h => ?_) (fun f cdv A outer s H vs Q E hr h => ?_)
  · obtain ⟨a, t, b, y, u, v, rfl, _⟩ := h
    rfl
  · obtain ⟨a, t, b, y, u, v, rfl, h, hy, ⟨t1, b1⟩, ⟨u1, v1⟩, q⟩ := h
    refine ⟨_, (pss_cons (ps_if (pt_not (pt_truK (K := K) rfl (pe_c c_is_number hr (by decide) (by rfl) pass0 (pa_cons (pv 1) pa_nil)) (by intro _; rfl))) (pss_one ps_never) pss_nil)
      (pss_cons (ps_set (i := 2) sc_Ratio___gt__.nd rfl (by first | exact Or.inl rfl | exact Or.inr rfl) (pe_c c_as_ratio hr (by decide) (by rfl) pass0 (pa_cons (pv 1) pa_nil)))
      (pss_one (ps_ret (pe_cmpR op_gtX (pe_op op_muX (pe_fld (pv 0) rfl) (pe_pr (pv 2) T.cl m_bottom (by decide) hr)) (pe_op op_muX (pe_pr (pv 2) T.cl m_top (by decide) hr) (pe_fld (pv 0) rfl)) (nomark _)))))), ?_⟩
    obtain ⟨i, r, hk, ht⟩ := hy.kr
    walk_at "gr"
    refine ⟨y, i, r, rfl, hk, ?_⟩
    walk_at "gr"
    rw [ht]
    walk_at "gr"
    refine ⟨y, u, v, rfl, hy, fun n H1 hn s1 => ?_⟩
    have h := h.same s1
    have w1 : CMulW t v := wide_mul t1 v1 (by decide) (by decide) (by decide)
    have w2 : CMulW u b := wide_mul u1 b1 (by decide) (by decide) (by decide)
    walk_at "gr"
    exact q _ s1
theorem c_ge (T : RatF K mg C) : OwnM P w K mg base 5 C "__ge__" (Rel4 (fun t b u v => decide (t * v ≥ u * b)) C) := by
  have c_is_number : Cal P w K mg base CX0 2 "is_number" (spNumber C) := c_is_number T
  have c_as_ratio : Cal P w K mg base CX0 4 "as_ratio" (spAs C) := c_as_ratio T
  have m_top : PropM P w K mg base 1 C "top" (spTop C) := c_top T
  have m_bottom : PropM P w K mg base 1 C "bottom" (spBot C) := c_bot T
  refine own0 T.m_ge sc_Ratio___ge__ (fun _ _ _ _ _ _ us hl => match us, hl with | [_, _], _ => rfl) (fun vs H Q E h => ?_) (fun f cdv A outer s H vs Q E hr h => ?_)
  · obtain ⟨a, t, b, y, u, v, rfl, _⟩ := h
    rfl
  · obtain ⟨a, t, b, y, u, v, rfl, h, hy, ⟨t1, b1⟩, ⟨u1, v1⟩, q⟩ := h
    refine ⟨_, (pss_cons (ps_if (pt_not (pt_truK (K := K) rfl (pe_c c_is_number hr (by decide) (by rfl) pass0 (pa_cons (pv 1) pa_nil)) (by intro _; rfl))) (pss_one ps_never) pss_nil)
      (pss_cons (ps_set (i := 2) sc_Ratio___ge__.nd rfl (by first | exact Or.inl rfl | exact Or.inr rfl) (pe_c c_as_ratio hr (by decide) (by rfl) pass0 (pa_cons (pv 1) pa_nil)))
      (pss_one (ps_ret (pe_cmpR op_geX (pe_op op_muX (pe_fld (pv 0) rfl) (pe_pr (pv 2) T.cl m_bottom (by decide) hr)) (pe_op op_muX (pe_pr (pv 2) T.cl m_top (by decide) hr) (pe_fld (pv 0) rfl)) (nomark _)))))), ?_⟩
    obtain ⟨i, r, hk, ht⟩ := hy.kr
    walk_at "gr"
    refine ⟨y, i, r, rfl, hk, ?_⟩
    walk_at "gr"
    rw [ht]
    walk_at "gr"
    refine ⟨y, u, v, rfl, hy, fun n H1 hn s1 => ?_⟩
    have h := h.same s1
    have w1 : CMulW t v := wide_mul t1 v1 (by decide) (by decide) (by decide)
    have w2 : CMulW u b := wide_mul u1 b1 (by decide) (by decide) (by decide)
    walk_at "gr"
    exact q _ s1
def spBool (C : Addr) : Sp := fun vs H Q _ => ∃ a t b, vs = [.ref a] ∧ RAt C H a t b ∧ Q (.bl (!decide (t = 0))) H
theorem c_bool (T : RatF K mg C) : OwnM P w K mg base 1 C "__bool__" (spBool C) := by
  refine own0 T.m_bool sc_Ratio___bool__ (fun _ _ _ _ _ _ us hl => match us, hl with | [_], _ => rfl) (fun vs H Q E h => ?_) (fun f cdv A outer s H vs Q E hr h => ?_)
  · obtain ⟨a, t, b, rfl, _⟩ := h
    rfl
  · obtain ⟨a, t, b, rfl, h, q⟩ := h
    refine ⟨_, (pss_one (ps_ret (pe_callTy call_bool1 (by rfl) T.n_bool (by decide +kernel) (pa_cons (pe_cmpR (r := rNeX K) (op_neX hr.units) (pe_fld (pv 0) rfl) pe_int (nomark _)) pa_nil)))), ?_⟩
    walk_at "gr"
    exact .inr ⟨_, rfl, q⟩
inductive Er (C : Addr) (H : Hp) (t b : Int) : V → Bool → Prop where
  | rat {a : Addr} {u v : Int} (h : RAt C H a u v) : Er C H t b (.ref a) (decide (t = u) && decide (b = v))
  | kd {x : V} {k : Kn} (h : Kd H x k) (hk : k ≠ .int) : Er C H t b x false
  | int {i : Int} : Er C H t b (.int i) (decide (b = 1) && decide (t = i))
def spEq (C : Addr) : Sp := fun vs H Q _ => ∃ a t b y r, vs = [.ref a, y] ∧ RAt C H a t b ∧ Er C H t b y r ∧ Q (.bl r) H
theorem c_eq (T : RatF K mg C) : OwnM P w K mg base 3 C "__eq__" (spEq C) := by
  have c_is_whole : Cal P w K mg base CX0 1 "is_whole" (spWhole C) := c_is_whole T
  have m_top : PropM P w K mg base 1 C "top" (spTop C) := c_top T
  have m_bottom : PropM P w K mg base 1 C "bottom" (spBot C) := c_bot T
  refine own0 T.m_eq sc_Ratio___eq__ (fun _ _ _ _ _ _ us hl => match us, hl with | [_, _], _ => rfl) (fun vs H Q E h => ?_) (fun f cdv A outer s H vs Q E hr h => ?_)
  · obtain ⟨a, t, b, y, r, rfl, _⟩ := h
    rfl
  · obtain ⟨a, t, b, y, r, rfl, h, hy, q⟩ := h
    refine ⟨_, (pss_cons (ps_if (pt_truK (K := K) rfl (pe_callB (r := rIsi K) call_isi (by rfl) T.n_isinstance (by decide +kernel) (pa_cons (pv 1) (pa_cons (pe_gc (by rfl) T.v_Ratio) pa_nil))) (by intro _; rfl)) (pss_one (ps_ret (pe_and (pe_cmpR (r := rEqX K) (op_eqX hr.units) (pe_fld (pv 0) rfl) (pe_pr (pv 1) T.cl m_top (by decide) hr) (nomark _)) (pe_one (pe_cmpR (r := rEqX K) (op_eqX hr.units) (pe_fld (pv 0) rfl) (pe_pr (pv 1) T.cl m_bottom (by decide) hr) (nomark _)))))) pss_nil)
      (pss_one (ps_ret (pe_and (pe_c c_is_whole hr (by decide) (by rfl) pass0 (pa_cons (pv 1) pa_nil)) (pe_and (pe_cmpR (r := rEqX K) (op_eqX hr.units) (pe_fld (pv 0) rfl) pe_int (nomark _)) (pe_one (pe_cmpR (r := rEqX K) (op_eqX hr.units) (pe_fld (pv 0) rfl) (pv 1) (nomark _)))))))), ?_⟩
    cases hy with
    | rat h' =>
      walk_at "gr"
      refine ift (fun hc => ?_) (fun hc => ?_)
      · walk_at "gr"
        rw [hc, Bool.true_and] at q
        exact q
      · rw [hc, Bool.false_and] at q
        exact q
    | @kd x k h' hk =>
      walk_at "gr"
      have e : (k.is .int && !k.is .bl) = false := by revert hk; cases k <;> decide
      refine ⟨_, _, _, rfl, .kd h', ?_⟩
      rw [e]
      walk_at "gr"
      exact q
    | int =>
      walk_at "gr"
      refine ⟨_, _, _, rfl, .kd (.int _), ?_⟩
      walk_at "gr"
      refine ift (fun hc => ?_) (fun hc => ?_)
      · walk_at "gr"
        rw [hc, Bool.true_and] at q
        exact q
      · rw [hc, Bool.false_and] at q
        exact q
def spNe (C : Addr) : Sp := fun vs H Q _ => ∃ a t b y r, vs = [.ref a, y] ∧ RAt C H a t b ∧ Er C H t b y r ∧ Q (.bl (!r)) H
theorem p_own {H : Hp} {Q : VK} {a : Addr} {t b : Int} {y : V} {r : Bool} (h : RAt C H a t b) (e : Er C H t b y r) (q : Q (.bl r) H) : rOwn C (spEq C) (.ref a) y H Q := by
  obtain ⟨dx, h1⟩ := id h
  refine ⟨a, dx, _, rfl, h1, ?_, a, t, b, y, r, rfl, h, e, q⟩
  cases e with
  | rat h' => exact h'.elim fun dy h2 => .inr ⟨_, dy, _, rfl, h2⟩
  | kd h' _ => exact .inl ⟨_, h'⟩
  | int => exact .inl ⟨_, .int _⟩
theorem c_ne (T : RatF K mg C) : OwnM P w K mg base 4 C "__ne__" (spNe C) := by
  have m___eq__ : OwnM P w K mg base 3 C "__eq__" (spEq C) := c_eq T
  refine own0 T.m_ne sc_Ratio___ne__ (fun _ _ _ _ _ _ us hl => match us, hl with | [_, _], _ => rfl) (fun vs H Q E h => ?_) (fun f cdv A outer s H vs Q E hr h => ?_)
  · obtain ⟨a, t, b, y, r, rfl, _⟩ := h
    rfl
  · obtain ⟨a, t, b, y, r, rfl, h, hy, q⟩ := h
    refine ⟨_, (pss_one (ps_ret (pe_not (pe_cmpR (r := rOwn C (spEq C)) (op_own (m := "__eq__") (fun _ _ => rfl) m___eq__ rfl (by decide) hr T.ap) (pv 0) (pv 1) (nomark _))))), ?_⟩
    walk_at "gr"
    refine p_own h hy ?_
    walk_at "gr"
    exact q

end
end Pk

namespace Pk
open PySem PySem.Spec PyProof.Rows L2
local macro_rules | `(tactic| walk_at "sz") => `(tactic| first | assumption | decide +kernel | exact Nat.le_trans (Nat.le_of_ble_eq_true rfl) (show 100000 ≤ sizeLine by decide) | exact Nat.le_trans (by omega) (show 100000 ≤ sizeLine by decide) | (show _ ≤ sizeLine; exact Nat.le_trans (by (simp only [List.length_append, List.length_map, List.length_cons, List.length_nil]; omega)) (show 100000 ≤ sizeLine by decide)))
local macro_rules | `(tactic| walk_at "mul") => `(tactic| first | exact Or.inl (Or.inl ⟨by omega, by omega⟩) | exact Or.inl (Or.inr ⟨by omega, by omega⟩))
local macro_rules | `(tactic| walk_at "ci") => `(tactic| first | assumption | exact (by decide : (0 : Int) < _) | (show (0 : Int) < _; omega) | exact ⟨by assumption, by assumption⟩ | exact ⟨by decide, by decide⟩ | exact ⟨by decide, by decide, by omega⟩)
local macro_rules | `(tactic| walk_at "lk") => `(tactic| first | assumption | exact upd_same | ((refine Eq.trans (upd_ne (by first | assumption | exact Ne.symm (by assumption))) ?_); walk_at "lk") | exact Same.get (by assumption) (by walk_at "lk") | exact Keep.get (by assumption) (by walk_at "lk") (by assumption) (by assumption))
local macro_rules | `(tactic| walk_at "sq") => `(tactic| first | assumption | exact SqL.of (by walk_at "lk") | exact Same.seq (by assumption) (by walk_at "sq"))
local macro_rules | `(tactic| walk_at "stt") => `(tactic| exact SqT.of (by walk_at "lk"))
local macro_rules | `(tactic| walk_at "kd") => `(tactic| first | assumption | exact Kd.str _ (by first | assumption | omega | decide) | exact Kd.bl _ | exact Kd.int _ | exact Kd.non | exact Kd.lst (by walk_at "lk") | exact Kd.tup (by walk_at "lk") | exact Kd.dct (by walk_at "lk") | exact Kd.same (by assumption) (by walk_at "kd"))
local macro_rules | `(tactic| walk_at "sm") => `(tactic| first | assumption | exact Same.refl _ | (refine Same.trans ?_ (by assumption); walk_at "sm"))
local macro_rules | `(tactic| walk_at "st") => `(tactic| first
  | with_reducible refine i_seq ?_ | with_reducible refine i_asg ?_ | with_reducible refine i_ret ?_ | with_reducible refine i_op ?_
  | ((with_reducible show tVar _ _ _ _); refine i_var rfl ?_)
  | with_reducible refine i_c ?_ | with_reducible refine i_cb ?_ | with_reducible refine i_call ?_ | with_reducible refine i_cons ?_ | with_reducible refine i_nil ?_
  | with_reducible refine i_name ?_ | with_reducible refine i_sub ?_ | with_reducible refine i_drop ?_ | with_reducible refine i_ifs ?_ | with_reducible refine i_ife ?_
  | with_reducible refine i_test ?_ | with_reducible refine i_tru ?_ | with_reducible refine i_and ?_ | with_reducible refine i_or ?_ | with_reducible refine i_not ?_
  | with_reducible refine i_andV ?_ | with_reducible refine i_orV ?_ | with_reducible refine i_notV ?_ | with_reducible refine i_un ?_
  | with_reducible refine i_bl ?_ | with_reducible refine i_trB ?_ | with_reducible refine i_next ?_
  | with_reducible refine iteF ?_ | with_reducible refine iteT ?_
  | with_reducible refine i_lstF ?_ | with_reducible refine i_tupF ?_
  | with_reducible refine p_addI ?_ | with_reducible refine p_I0 ?_ | with_reducible refine p_U ?_
  | with_reducible refine p_ltI ?_ | with_reducible refine p_leI ?_ | with_reducible refine p_gtI ?_ | with_reducible refine p_geI ?_
  | with_reducible refine p_ltS ?_ | with_reducible refine p_leS ?_ | with_reducible refine p_gtS ?_
  | with_reducible refine p_eqI ?_ | with_reducible refine p_neI ?_ | with_reducible refine p_int ?_
  | ((with_reducible show rMuXX (V.int _) (V.int _) _ _); refine p_muI (by walk_at "mul") ?_)
  | ((with_reducible show rI _ _ (V.int _) (V.int _) _ _); refine p_I (by walk_at "ci") ?_)
  | ((with_reducible show rIx _ (V.ref _) (V.int _) _ _); (first | refine p_ixL (by walk_at "sq") (by first | exact rfl | assumption) ?_ | refine p_ixT (SqT.of (by walk_at "lk")) (by first | exact rfl | assumption) ?_))
  | ((with_reducible show rSetL (V.ref _) (V.int _) _ _ _); refine p_setL (by walk_at "lk") (by first | exact rfl | assumption) ?_)
  | ((with_reducible show rLenX _ [V.ref _] _ _); (first | refine p_lenL (by walk_at "sq") ?_ | refine p_lenT (SqT.of (by walk_at "lk")) ?_))
  | ((with_reducible show rLenX _ [V.str _] _ _); refine p_lenS (by walk_at "sz") ?_)
  | with_reducible refine i_lc ?_ | with_reducible refine i_for ?_ | with_reducible refine i_itl ?_ | with_reducible refine i_itt ?_ | with_reducible refine i_itr ?_ | with_reducible refine i_its ?_
  | ((with_reducible show ∃ _, V.ref _ = V.ref _ ∧ (∃ _, SqL _ _ _ _) ∧ _); refine p_itl (by walk_at "sq") ?_)
  | ((with_reducible show ∃ _, V.ref _ = V.ref _ ∧ (∃ _, SqT _ _ _ _) ∧ _); refine p_itt (by walk_at "stt") ?_) | with_reducible refine p_its ?_
  | ((with_reducible show ∃ _, [V.int _] = [V.int _] ∧ _); refine p_itr (by omega) (by omega) ?_)
  | with_reducible refine i_sl ?_ | with_reducible refine i_np ?_ | with_reducible refine i_pt ?_ | with_reducible refine i_in ?_
  | ((with_reducible show rSlXX _ (V.ref _) _ _ _ _); refine p_slL (by walk_at "sq") ?_; intro _ _ _ _ _)
  | ((with_reducible show rSlXX _ (V.str _) _ _ _ _); refine p_slS (by walk_at "sz") ?_)
  | ((with_reducible show rIsi _ [_, V.ty "str"] _ _); refine p_isStr (by walk_at "kd") ?_)
  | ((with_reducible show rIsi _ [_, V.ty "int"] _ _); refine p_isInt (by walk_at "kd") ?_)
  | ((with_reducible show rIsi _ [_, V.ty "bool"] _ _); refine p_isBool (by walk_at "kd") ?_)
  | ((with_reducible show rIsiT _ [_, V.ref _] _ _); refine p_isLT (by walk_at "lk") (by walk_at "kd") ?_)
  | with_reducible refine i_chain ?_ | with_reducible refine i_m1 ?_ | with_reducible refine i_m0 ?_ | with_reducible refine i_str ?_
  | ((with_reducible show LstK _ _ _); refine p_lstK (by walk_at "sz") ?_; intro _ _ _ _ _)
  | ((with_reducible show TupK _ _ _); refine p_tupK (by walk_at "sz") ?_; intro _ _ _ _ _)
  | ((with_reducible show (if _ = true then _ else _)); (first | refine ifT' (by first | assumption | exact rfl) ?_ | refine ifF' (by first | assumption | exact rfl) ?_))
  | ((with_reducible show rEqX _ (V.bl _) (V.bl _) _ _); refine p_eqS rfl ?_) | ((with_reducible show rNeX _ (V.bl _) (V.bl _) _ _); refine p_neS rfl ?_)
  | ((with_reducible show rEqX _ (V.ref _) (V.ref _) _ _); refine p_eqNil (by walk_at "lk") (by walk_at "lk") ?_) | ((with_reducible show rNeX _ (V.ref _) (V.ref _) _ _); refine p_neNil (by walk_at "lk") (by walk_at "lk") ?_)
  | ((with_reducible show rAddX _ (V.str _) (V.str _) _ _); refine p_addS (by walk_at "sz") ?_)
  | ((with_reducible show rMuXX (V.str _) (V.int _) _ _); refine p_muS ⟨by decide +kernel, by decide +kernel, by decide +kernel⟩ ?_)
  | ((with_reducible show tDNewK _ _ _); refine i_dnew ?_; intro _ _ _ _ _)
  | ((with_reducible show rTupX _ [V.ref _] _ _); refine p_tupL (by walk_at "sq") ?_; intro _ _ _ _ _)
  | ((with_reducible show rAddX _ (V.ref _) (V.ref _) _ _); refine p_addL (by walk_at "lk") (by walk_at "lk") (by walk_at "sz") ?_; intro _ _ _ _ _)
  | with_reducible refine p_notB ?_ | with_reducible refine p_isB ?_)
local macro_rules | `(tactic| walk_at "go") => `(tactic| (walk_at "st"; (repeat walk_at "st")))

local macro_rules | `(tactic| walk_at "rx") => `(tactic| first
  | with_reducible refine i_par ?_ | ((with_reducible show ∃ _ _, [_, _] = [_, _] ∧ _); refine ⟨_, _, rfl, ?_⟩) | ((with_reducible show ∃ _, [V.int _] = [V.int _] ∧ _); refine ⟨_, rfl, ?_⟩)
  | with_reducible refine i_sfl ?_ | with_reducible refine i_mk ?_ | with_reducible refine i_pr ?_ | with_reducible refine i_fl ?_
  | ((with_reducible show FlK _ _ _ (V.ref _) _); first | refine p_flT (by assumption) (by assumption) ?_ | refine p_flB (by assumption) (by assumption) ?_)
  | ((with_reducible show rIsi _ [V.ref _, V.ref _] _ _); refine p_isR (by assumption) (by assumption) ?_)
  | ((with_reducible show rIsi _ [V.ref _, V.ty "int"] _ _); refine p_isRi (by assumption) (by assumption) ?_)
  | ((with_reducible show rIsi _ [_, V.ref _] _ _); refine p_isRn (by assumption) (by walk_at "kd") ?_)
  | ((with_reducible show rMuXX (V.int _) (V.int _) _ _); refine p_muI (Or.inr (by assumption)) ?_)
  | ((with_reducible show rGcd [V.int _, V.int _] _ _); refine ⟨_, _, rfl, ?_⟩)
  | ((with_reducible show PrK _ _ _ (V.ref _) _); first | refine p_prT (by assumption) ?_ | refine p_prB (by assumption) ?_))
local macro_rules | `(tactic| walk_at "gr") => `(tactic| repeat (first | walk_at "st" | walk_at "rx"))

/-! ### fractions by any of their terms -/
def Low (t b : Int) : Prop := 0 < b ∧ Nat.gcd t.natAbs b.natAbs = 1
/-- N/D is t/b; t and b have at most k bits -/
structure Eqv (N D t b : Int) (k : Nat) : Prop where
  low : Low N D
  eq : N * b = t * D
  pos : 0 < b
  bt : t.natAbs < 2 ^ k
  bb : b.natAbs < 2 ^ k
def Np (C : Addr) (H : Hp) (x : V) (t b : Int) (k : Nat) : Prop := ∃ N D, Nb C H x N D ∧ Eqv N D t b k
theorem Nb.same {C : Addr} {H H' : Hp} {x : V} {t b : Int} (s : Same H H') (h : Nb C H x t b) : Nb C H' x t b := by
  cases h with
  | int => exact .int _
  | rat h => exact .rat (h.same s)
theorem Np.same {C : Addr} {H H' : Hp} {x : V} {t b : Int} {k : Nat} (s : Same H H') (h : Np C H x t b k) : Np C H' x t b k := by
  obtain ⟨N, D, h, e⟩ := h
  exact ⟨N, D, h.same s, e⟩
theorem Eqv.le {N D t b : Int} {k : Nat} (e : Eqv N D t b k) : N.natAbs ≤ t.natAbs ∧ D.natAbs ≤ b.natAbs := by
  have e2 : N.natAbs * b.natAbs = t.natAbs * D.natAbs := by rw [← Int.natAbs_mul, ← Int.natAbs_mul, e.eq]
  have p := e.pos
  have q := e.low.1
  have d1 : D.natAbs ∣ b.natAbs := (Nat.Coprime.symm e.low.2).dvd_of_dvd_mul_left (e2 ▸ Nat.dvd_mul_left _ _)
  have d2 : N.natAbs ∣ t.natAbs := Nat.Coprime.dvd_of_dvd_mul_right e.low.2 (e2 ▸ Nat.dvd_mul_right _ _)
  refine ⟨?_, Nat.le_of_dvd (by omega) d1⟩
  by_cases h : t = 0
  · have : N * b = 0 := by rw [e.eq, h, Int.zero_mul]
    rcases Int.mul_eq_zero.mp this with z | z
    · rw [z]; simp
    · omega
  · exact Nat.le_of_dvd (by omega) d2
theorem Eqv.sm {N D t b : Int} {k : Nat} (e : Eqv N D t b k) (hk : k ≤ 1500) : N.natAbs < 2 ^ 1500 ∧ D.natAbs < 2 ^ 1500 :=
  ⟨Nat.lt_of_le_of_lt e.le.1 (Nat.lt_of_lt_of_le e.bt (Nat.pow_le_pow_right (by decide) hk)), Nat.lt_of_le_of_lt e.le.2 (Nat.lt_of_lt_of_le e.bb (Nat.pow_le_pow_right (by decide) hk))⟩
theorem rvZ {t b : Int} (hb : b ≠ 0) : Low (rN t b) (rD t b) ∧ rN t b * b = t * rD t b := by
  have g0 : 0 < Nat.gcd t.natAbs b.natAbs := Nat.gcd_pos_of_pos_right _ (by omega)
  have sa : (sg t b).natAbs = Nat.gcd t.natAbs b.natAbs := by unfold sg; split <;> simp
  have s0 : sg t b ≠ 0 := fun e => by rw [e] at sa; simp at sa; omega
  obtain ⟨x, hx⟩ : sg t b ∣ t := Int.natAbs_dvd_natAbs.mp (by rw [sa]; exact Nat.gcd_dvd_left _ _)
  obtain ⟨y, hy⟩ : sg t b ∣ b := Int.natAbs_dvd_natAbs.mp (by rw [sa]; exact Nat.gcd_dvd_right _ _)
  have en : rN t b = x := by
    unfold rN
    conv => lhs; lhs; rw [hx]
    exact Int.mul_fdiv_cancel_left _ s0
  have ed : rD t b = y := by
    unfold rD
    conv => lhs; lhs; rw [hy]
    exact Int.mul_fdiv_cancel_left _ s0
  rw [en, ed]
  have y0 : 0 < y := by
    by_cases h : b < 0
    · have e : sg t b = -((Nat.gcd t.natAbs b.natAbs : Nat) : Int) := by unfold sg; rw [if_pos h]
      have e2 : sg t b < 0 := by rw [e]; omega
      rw [hy] at h
      rw [Int.mul_comm] at h
      exact Int.pos_of_mul_neg_left h e2
    · have e : sg t b = ((Nat.gcd t.natAbs b.natAbs : Nat) : Int) := by unfold sg; rw [if_neg h]
      have e2 : 0 < sg t b := by rw [e]; omega
      have h' : 0 < b := by omega
      rw [hy] at h'
      exact Int.pos_of_mul_pos_right h' (by omega)
  refine ⟨⟨y0, ?_⟩, ?_⟩
  · have hx' : t.natAbs = Nat.gcd t.natAbs b.natAbs * x.natAbs := by conv => lhs; rw [hx, Int.natAbs_mul, sa]
    have hy' : b.natAbs = Nat.gcd t.natAbs b.natAbs * y.natAbs := by conv => lhs; rw [hy, Int.natAbs_mul, sa]
    have z : Nat.gcd t.natAbs b.natAbs * Nat.gcd x.natAbs y.natAbs = Nat.gcd t.natAbs b.natAbs * 1 := by
      rw [← Nat.gcd_mul_left, ← hx', ← hy', Nat.mul_one]
    exact Nat.eq_of_mul_eq_mul_left g0 z
  · conv => lhs; rw [hy]
    conv => rhs; lhs; rw [hx]
    grind
/-- what Ratio(p, q) is, p/q being T/B -/
theorem rv_of {p q T B : Int} {k : Nat} (hq : q ≠ 0) (hB : 0 < B) (e : p * B = T * q) (b1 : T.natAbs < 2 ^ k) (b2 : B.natAbs < 2 ^ k) : Eqv (rN p q) (rD p q) T B k := by
  obtain ⟨l, h⟩ := rvZ (t := p) hq
  refine ⟨l, ?_, hB, b1, b2⟩
  have z : (rN p q * B) * q = (T * rD p q) * q := by
    have a1 : (rN p q * B) * q = (rN p q * q) * B := by grind
    have a2 : (T * rD p q) * q = (T * q) * rD p q := by grind
    rw [a1, h, a2, ← e]
    grind
  exact Int.eq_of_mul_eq_mul_right hq z
theorem bits_mul {a b : Int} {k l : Nat} (h1 : a.natAbs < 2 ^ k) (h2 : b.natAbs < 2 ^ l) : (a * b).natAbs < 2 ^ (k + l) := by
  rw [Int.natAbs_mul, Nat.pow_add]
  exact Nat.mul_lt_mul'' h1 h2
theorem bits_add {a b : Int} {k : Nat} (h1 : a.natAbs < 2 ^ k) (h2 : b.natAbs < 2 ^ k) : (a + b).natAbs < 2 ^ (k + 1) := by
  rw [Nat.pow_succ]
  omega
theorem bits_up {a : Int} {k l : Nat} (h1 : a.natAbs < 2 ^ k) (h : k ≤ l) : a.natAbs < 2 ^ l := Nat.lt_of_lt_of_le h1 (Nat.pow_le_pow_right (by decide) h)
/-- a sum -/
theorem eqv_add {N D t b M E u v : Int} {k l : Nat} (h : Eqv N D t b k) (g : Eqv M E u v l) : Eqv (rN (N * E + M * D) (D * E)) (rD (N * E + M * D) (D * E)) (t * v + u * b) (b * v) (k + l + 1) := by
  refine rv_of (Int.mul_ne_zero (by have := h.low.1; omega) (by have := g.low.1; omega)) (Int.mul_pos h.pos g.pos) ?_ (bits_add (bits_mul h.bt g.bb) (by rw [Nat.add_comm k l]; exact bits_mul g.bt h.bb)) (bits_up (bits_mul h.bb g.bb) (by omega))
  have a := h.eq
  have c := g.eq
  have e1 : (N * E + M * D) * (b * v) = (N * b) * (E * v) + (M * v) * (D * b) := by grind
  rw [e1, a, c]
  grind
theorem eqv_mul {N D t b M E u v : Int} {k l : Nat} (h : Eqv N D t b k) (g : Eqv M E u v l) : Eqv (rN (N * M) (D * E)) (rD (N * M) (D * E)) (t * u) (b * v) (k + l + 1) := by
  refine rv_of (Int.mul_ne_zero (by have := h.low.1; omega) (by have := g.low.1; omega)) (Int.mul_pos h.pos g.pos) ?_ (bits_up (bits_mul h.bt g.bt) (by omega)) (bits_up (bits_mul h.bb g.bb) (by omega))
  have a := h.eq
  have c := g.eq
  have e1 : (N * M) * (b * v) = (N * b) * (M * v) := by grind
  rw [e1, a, c]
  grind
theorem eqv_neg {N D t b : Int} {k : Nat} (h : Eqv N D t b k) : Eqv (rN (-N) D) (rD (-N) D) (-t) b k := by
  refine rv_of (by have := h.low.1; omega) h.pos ?_ (by rw [Int.natAbs_neg]; exact h.bt) h.bb
  rw [Int.neg_mul, h.eq, Int.neg_mul]
theorem eqv_abs {N D t b : Int} {k : Nat} (h : Eqv N D t b k) : Eqv (rN (if N < 0 then -N else N) D) (rD (if N < 0 then -N else N) D) (t.natAbs : Int) b k := by
  refine rv_of (by have := h.low.1; omega) h.pos ?_ (by rw [Int.natAbs_natCast]; exact h.bt) h.bb
  have e : (if N < 0 then -N else N) = (N.natAbs : Int) := by split <;> omega
  rw [e]
  have e2 : N.natAbs * b.natAbs = t.natAbs * D.natAbs := by rw [← Int.natAbs_mul, ← Int.natAbs_mul, h.eq]
  have p := h.pos
  have q := h.low.1
  have e3 : ((N.natAbs : Int)) * (b.natAbs : Int) = (t.natAbs : Int) * (D.natAbs : Int) := by exact_mod_cast e2
  rw [show ((b.natAbs : Nat) : Int) = b by omega, show ((D.natAbs : Nat) : Int) = D by omega] at e3
  exact e3
theorem eqv_div {N D t b M E u v : Int} {k l : Nat} (h : Eqv N D t b k) (g : Eqv M E u v l) (hu : u ≠ 0) : Eqv (rN (N * E) (D * M)) (rD (N * E) (D * M)) (t * v * u.sign) (b * (u.natAbs : Int)) (k + l + 1) := by
  have hM : M ≠ 0 := fun z => by
    have e := g.eq
    rw [z, Int.zero_mul] at e
    rcases Int.mul_eq_zero.mp e.symm with q | q
    · exact hu q
    · have := g.low.1; omega
  refine rv_of (Int.mul_ne_zero (by have := h.low.1; omega) hM) (Int.mul_pos h.pos (by omega)) ?_ ?_ (bits_up (bits_mul h.bb (by rw [Int.natAbs_natCast]; exact g.bt)) (by omega))
  · have a := h.eq
    have c := g.eq
    have s : u.sign * u = (u.natAbs : Int) := by
      rcases (by omega : u < 0 ∨ 0 < u) with z | z
      · rw [Int.sign_eq_neg_one_of_neg z]; omega
      · rw [Int.sign_eq_one_of_pos z]; omega
    have e1 : (N * E) * (b * (u.natAbs : Int)) = (N * b) * E * (u.natAbs : Int) := by grind
    rw [e1, a, ← s]
    have e2 : t * v * u.sign * (D * M) = t * D * u.sign * (M * v) := by grind
    rw [e2, c]
    grind
  · rw [Int.natAbs_mul]
    have h1 := bits_mul h.bt g.bb
    have h2 : u.sign.natAbs ≤ 1 := by
      rw [Int.natAbs_sign_of_ne_zero hu]
      exact Nat.le_refl _
    exact Nat.lt_of_le_of_lt (Nat.mul_le_mul_left _ h2) (by rw [Nat.mul_one]; exact Nat.lt_of_lt_of_le h1 (Nat.pow_le_pow_right (by decide) (by omega)))
/-! ### the operators' promises -/
section
variable {P : Program} {w : World} {K : PySem.W.Frag} {mg : Str → Option Value} {base : Heap} {C : Addr}
abbrev F4 := Int → Int → Int → Int → Int
/-- a new ratio of the two operands; the first is a ratio -/
def Ar (C : Addr) (T B : F4) : Sp := fun vs H Q _ => ∃ x y t b u v k l, vs = [x, y] ∧ (∃ a, x = .ref a) ∧ Np C H x t b k ∧ Np C H y u v l ∧ k ≤ 1000 ∧ l ≤ 1000 ∧ ∀ q H', Np C H' (.ref q) (T t b u v) (B t b u v) (k + l + 1) → Same H H' → Q (.ref q) H'
abbrev tAdd : F4 := fun t b u v => t * v + u * b
abbrev tSub : F4 := fun t b u v => t * v + -u * b
abbrev tMul : F4 := fun t b u v => t * u
abbrev dBV : F4 := fun t b u v => b * v
abbrev rsT : F4 := fun t b u v => -t * v + u * b
theorem Np.ref {H : Hp} {a : Addr} {t b : Int} {k : Nat} (h : Np C H (.ref a) t b k) : ∃ N D, RAt C H a N D ∧ Eqv N D t b k := by
  obtain ⟨N, D, h, e⟩ := h
  cases h with
  | rat h => exact ⟨N, D, h, e⟩
theorem wm {a b : Int} (h1 : a.natAbs < 2 ^ 1500) (h2 : b.natAbs < 2 ^ 1500) : CMulW a b := wide_mul h1 h2 (by decide) (by decide) (by decide)
theorem lt4 {a b : Int} (h1 : a.natAbs < 2 ^ 1500) (h2 : b.natAbs < 2 ^ 1500) : (a * b).natAbs < 2 ^ 4000 := bits_up (bits_mul h1 h2) (by decide)
theorem pos0 {N D t b : Int} {k : Nat} (h : Eqv N D t b k) : D ≠ 0 := by have := h.low.1; omega
theorem c_add (T : RatF K mg C) : OwnM P w K mg base 5 C "__add__" (Ar C tAdd dBV) := by
  have c_is_number : Cal P w K mg base CX0 2 "is_number" (spNumber C) := c_is_number T
  have c_as_ratio : Cal P w K mg base CX0 4 "as_ratio" (spAs C) := c_as_ratio T
  have c_Ratio2 : C8.Mak P w K mg base 2 "Ratio" C (spIni C) [] := c_Ratio2 T
  have m_top : PropM P w K mg base 1 C "top" (spTop C) := c_top T
  have m_bottom : PropM P w K mg base 1 C "bottom" (spBot C) := c_bot T
  refine own0 T.m_add sc_Ratio___add__ (fun _ _ _ _ _ _ us hl => match us, hl with | [_, _], _ => rfl) (fun vs H Q E h => ?_) (fun f cdv A outer s H vs Q E hr h => ?_)
  · obtain ⟨x, y, t, b, u, v, k, l, rfl, _⟩ := h
    rfl
  · obtain ⟨x, y, t, b, u, v, k, l, rfl, ⟨a, rfl⟩, hx, hy, hk, hl, q⟩ := h
    obtain ⟨N, D, h, e⟩ := hx.ref
    obtain ⟨M, E', hy, g⟩ := hy
    obtain ⟨sN, sD⟩ := e.sm (by omega)
    obtain ⟨sM, sE⟩ := g.sm (by omega)
    refine ⟨_, (pss_cons (ps_if (pt_not (pt_truK (K := K) rfl (pe_c c_is_number hr (by decide) (by rfl) pass0 (pa_cons (pv 1) pa_nil)) (by intro _; rfl))) (pss_one ps_never) pss_nil)
      (pss_cons (ps_set (i := 2) sc_Ratio___add__.nd rfl (by first | exact Or.inl rfl | exact Or.inr rfl) (pe_c c_as_ratio hr (by decide) (by rfl) pass0 (pa_cons (pv 1) pa_nil)))
      (pss_cons (ps_set (i := 3) sc_Ratio___add__.nd rfl (by first | exact Or.inl rfl | exact Or.inr rfl) (pe_op (r := rAddX K) op_addX (pe_op op_muX (pe_fld (pv 0) rfl) (pe_pr (pv 2) T.cl m_bottom (by decide) hr)) (pe_op op_muX (pe_pr (pv 2) T.cl m_top (by decide) hr) (pe_fld (pv 0) rfl))))
      (pss_one (ps_ret (C8.pe_mk c_Ratio2 hr (by decide) (by rfl) (pa_cons (pv 3) (pa_cons (pe_op op_muX (pe_fld (pv 0) rfl) (pe_pr (pv 2) T.cl m_bottom (by decide) hr)) pa_nil)))))))), ?_⟩
    obtain ⟨i, r, hkr, ht⟩ := hy.kr
    walk_at "gr"
    refine ⟨y, i, r, rfl, hkr, ?_⟩
    walk_at "gr"
    rw [ht]
    walk_at "gr"
    refine ⟨y, M, E', rfl, hy, fun n H1 hn s1 => ?_⟩
    have h := h.same s1
    have w1 : CMulW N E' := wm sN sE
    have w2 : CMulW M D := wm sM sD
    have w3 : CMulW D E' := wm sD sE
    walk_at "gr"
    refine p_mk (vs := [.int (N * E' + M * D), .int (D * E')]) (dvs := []) rfl (Int.mul_ne_zero (pos0 e) (pos0 g)) (lt4 sD sE) fun p H' r s _ => ?_
    exact q p H' ⟨_, _, .rat r, eqv_add e g⟩ (s1.trans s)
theorem c_mul (T : RatF K mg C) : OwnM P w K mg base 5 C "__mul__" (Ar C tMul dBV) := by
  have c_is_number : Cal P w K mg base CX0 2 "is_number" (spNumber C) := c_is_number T
  have c_as_ratio : Cal P w K mg base CX0 4 "as_ratio" (spAs C) := c_as_ratio T
  have c_Ratio2 : C8.Mak P w K mg base 2 "Ratio" C (spIni C) [] := c_Ratio2 T
  have m_top : PropM P w K mg base 1 C "top" (spTop C) := c_top T
  have m_bottom : PropM P w K mg base 1 C "bottom" (spBot C) := c_bot T
  refine own0 T.m_mul sc_Ratio___mul__ (fun _ _ _ _ _ _ us hl => match us, hl with | [_, _], _ => rfl) (fun vs H Q E h => ?_) (fun f cdv A outer s H vs Q E hr h => ?_)
  · obtain ⟨x, y, t, b, u, v, k, l, rfl, _⟩ := h
    rfl
  · obtain ⟨x, y, t, b, u, v, k, l, rfl, ⟨a, rfl⟩, hx, hy, hk, hl, q⟩ := h
    obtain ⟨N, D, h, e⟩ := hx.ref
    obtain ⟨M, E', hy, g⟩ := hy
    obtain ⟨sN, sD⟩ := e.sm (by omega)
    obtain ⟨sM, sE⟩ := g.sm (by omega)
    refine ⟨_, (pss_cons (ps_if (pt_not (pt_truK (K := K) rfl (pe_c c_is_number hr (by decide) (by rfl) pass0 (pa_cons (pv 1) pa_nil)) (by intro _; rfl))) (pss_one ps_never) pss_nil)
      (pss_cons (ps_set (i := 2) sc_Ratio___mul__.nd rfl (by first | exact Or.inl rfl | exact Or.inr rfl) (pe_c c_as_ratio hr (by decide) (by rfl) pass0 (pa_cons (pv 1) pa_nil)))
      (pss_one (ps_ret (C8.pe_mk c_Ratio2 hr (by decide) (by rfl) (pa_cons (pe_op op_muX (pe_fld (pv 0) rfl) (pe_pr (pv 2) T.cl m_top (by decide) hr)) (pa_cons (pe_op op_muX (pe_fld (pv 0) rfl) (pe_pr (pv 2) T.cl m_bottom (by decide) hr)) pa_nil))))))), ?_⟩
    obtain ⟨i, r, hkr, ht⟩ := hy.kr
    walk_at "gr"
    refine ⟨y, i, r, rfl, hkr, ?_⟩
    walk_at "gr"
    rw [ht]
    walk_at "gr"
    refine ⟨y, M, E', rfl, hy, fun n H1 hn s1 => ?_⟩
    have h := h.same s1
    have w1 : CMulW N M := wm sN sM
    have w3 : CMulW D E' := wm sD sE
    walk_at "gr"
    refine p_mk (vs := [.int (N * M), .int (D * E')]) (dvs := []) rfl (Int.mul_ne_zero (pos0 e) (pos0 g)) (lt4 sD sE) fun p H' r s _ => ?_
    exact q p H' ⟨_, _, .rat r, eqv_mul e g⟩ (s1.trans s)
/-- a new ratio of one -/
def Un1 (C : Addr) (T : Int → Int) : Sp := fun vs H Q _ => ∃ a t b k, vs = [.ref a] ∧ Np C H (.ref a) t b k ∧ k ≤ 1000 ∧ ∀ q H', Np C H' (.ref q) (T t) b k → Same H H' → Q (.ref q) H'
abbrev tNeg : Int → Int := fun t => -t
abbrev tAbs : Int → Int := fun t => (t.natAbs : Int)
theorem c_neg (T : RatF K mg C) : OwnM P w K mg base 4 C "__neg__" (Un1 C tNeg) := by
  have c_Ratio2 : C8.Mak P w K mg base 2 "Ratio" C (spIni C) [] := c_Ratio2 T
  refine own0 T.m_neg sc_Ratio___neg__ (fun _ _ _ _ _ _ us hl => match us, hl with | [_], _ => rfl) (fun vs H Q E h => ?_) (fun f cdv A outer s H vs Q E hr h => ?_)
  · obtain ⟨a, t, b, k, rfl, _⟩ := h
    rfl
  · obtain ⟨a, t, b, k, rfl, hx, hk, q⟩ := h
    obtain ⟨N, D, h, e⟩ := hx.ref
    obtain ⟨sN, sD⟩ := e.sm (by omega)
    refine ⟨_, (pss_one (ps_ret (C8.pe_mk c_Ratio2 hr (by decide) (by rfl) (pa_cons (pe_un un_neg (pe_fld (pv 0) rfl)) (pa_cons (pe_fld (pv 0) rfl) pa_nil))))), ?_⟩
    walk_at "gr"
    refine p_mk (vs := [.int (-N), .int D]) (dvs := []) rfl (pos0 e) (bits_up sD (by decide)) fun p H' r s _ => ?_
    exact q p H' ⟨_, _, .rat r, eqv_neg e⟩ s
theorem c_abs (T : RatF K mg C) : OwnM P w K mg base 4 C "__abs__" (Un1 C tAbs) := by
  have c_Ratio2 : C8.Mak P w K mg base 2 "Ratio" C (spIni C) [] := c_Ratio2 T
  refine own0 T.m_abs sc_Ratio___abs__ (fun _ _ _ _ _ _ us hl => match us, hl with | [_], _ => rfl) (fun vs H Q E h => ?_) (fun f cdv A outer s H vs Q E hr h => ?_)
  · obtain ⟨a, t, b, k, rfl, _⟩ := h
    rfl
  · obtain ⟨a, t, b, k, rfl, hx, hk, q⟩ := h
    obtain ⟨N, D, h, e⟩ := hx.ref
    obtain ⟨sN, sD⟩ := e.sm (by omega)
    refine ⟨_, (pss_one (ps_ret (C8.pe_mk c_Ratio2 hr (by decide) (by rfl) (pa_cons (pe_callB call_abs (by rfl) T.n_abs (by decide +kernel) (pa_cons (pe_fld (pv 0) rfl) pa_nil)) (pa_cons (pe_fld (pv 0) rfl) pa_nil))))), ?_⟩
    walk_at "gr"
    refine p_mk (vs := [.int (if N < 0 then -N else N), .int D]) (dvs := []) rfl (pos0 e) (bits_up sD (by decide)) fun p H' r s _ => ?_
    exact q p H' ⟨_, _, .rat r, eqv_abs e⟩ s
/-! ### the reflected ones; minus -/
theorem Np.ins {H : Hp} {a : Addr} {t b : Int} {k : Nat} (h : Np C H (.ref a) t b k) : ∃ dx fs, H a = some (.ins C dx fs) := by
  obtain ⟨N, D, h, _⟩ := h.ref
  exact h.elim fun dx e => ⟨dx, _, e⟩
theorem p_bb {T B : F4} {H : Hp} {Q : VK} {x y : Addr} {t b u v : Int} {k l : Nat} (hx : Np C H (.ref x) t b k) (hy : Np C H (.ref y) u v l) (hk : k ≤ 1000) (hl : l ≤ 1000) (q : ∀ q H', Np C H' (.ref q) (T t b u v) (B t b u v) (k + l + 1) → Same H H' → Q (.ref q) H') : rBB C (Ar C T B) (.ref x) (.ref y) H Q := by
  obtain ⟨dx, fs, e⟩ := hx.ins
  obtain ⟨dy, gs, g⟩ := hy.ins
  exact ⟨x, dx, fs, y, dy, gs, rfl, e, rfl, g, _, _, _, _, _, _, _, _, rfl, ⟨x, rfl⟩, hx, hy, hk, hl, q⟩
theorem p_bi {T B : F4} {H : Hp} {Q : VK} {x : Addr} {i : Int} {t b u v : Int} {k l : Nat} (hx : Np C H (.ref x) t b k) (hy : Np C H (.int i) u v l) (hk : k ≤ 1000) (hl : l ≤ 1000) (q : ∀ q H', Np C H' (.ref q) (T t b u v) (B t b u v) (k + l + 1) → Same H H' → Q (.ref q) H') : rBI C (Ar C T B) (.ref x) (.int i) H Q := by
  obtain ⟨dx, fs, e⟩ := hx.ins
  exact ⟨x, dx, fs, i, rfl, e, rfl, _, _, _, _, _, _, _, _, rfl, ⟨x, rfl⟩, hx, hy, hk, hl, q⟩
theorem p_neg {T : Int → Int} {H : Hp} {Q : VK} {x : Addr} {t b : Int} {k : Nat} (hx : Np C H (.ref x) t b k) (hk : k ≤ 1000) (q : ∀ q H', Np C H' (.ref q) (T t) b k → Same H H' → Q (.ref q) H') : rNegO C (Un1 C T) (.ref x) H Q := by
  obtain ⟨dx, fs, e⟩ := hx.ins
  exact ⟨x, dx, fs, rfl, e, x, t, b, k, rfl, hx, hk, q⟩
/-- self op an integer, asked of the class by the integer -/
def ArI (C : Addr) (T B : F4) : Sp := fun vs H Q _ => ∃ x i t b u v k l, vs = [.ref x, .int i] ∧ Np C H (.ref x) t b k ∧ Np C H (.int i) u v l ∧ k ≤ 1000 ∧ l ≤ 1000 ∧ ∀ q H', Np C H' (.ref q) (T t b u v) (B t b u v) (k + l + 1) → Same H H' → Q (.ref q) H'
theorem kr_int {H : Hp} {i : Int} : Kr C H (.int i) true false := .kd (k := .int) (.int i)
theorem c_radd (T : RatF K mg C) : OwnM P w K mg base 6 C "__radd__" (ArI C tAdd dBV) := by
  have c_is_number : Cal P w K mg base CX0 2 "is_number" (spNumber C) := c_is_number T
  have m_add : OwnM P w K mg base 5 C "__add__" (Ar C tAdd dBV) := c_add T
  have m_neg : OwnM P w K mg base 4 C "__neg__" (Un1 C tNeg) := c_neg T
  refine own0 T.m_radd sc_Ratio___radd__ (fun _ _ _ _ _ _ us hl => match us, hl with | [_, _], _ => rfl) (fun vs H Q E h => ?_) (fun f cdv A outer s H vs Q E hr h => ?_)
  · obtain ⟨x, i, t, b, u, v, k, l, rfl, _⟩ := h
    rfl
  · obtain ⟨x, i, t, b, u, v, k, l, rfl, hx, hy, hk, hl, q⟩ := h
    refine ⟨_, (pss_cons (ps_if (pt_not (pt_truK (K := K) rfl (pe_c c_is_number hr (by decide) (by rfl) pass0 (pa_cons (pv 1) pa_nil)) (by intro _; rfl))) (pss_one ps_never) pss_nil)
      (pss_one (ps_ret (pe_op (op_bi (nm := "add") rfl T.b_add m_add rfl (by decide) hr) (pv 0) (pv 1))))), ?_⟩
    walk_at "gr"
    refine ⟨_, true, false, rfl, kr_int, ?_⟩
    walk_at "gr"
    exact p_bi hx hy hk hl q
theorem c_rmul (T : RatF K mg C) : OwnM P w K mg base 6 C "__rmul__" (ArI C tMul dBV) := by
  have c_is_number : Cal P w K mg base CX0 2 "is_number" (spNumber C) := c_is_number T
  have m_mul : OwnM P w K mg base 5 C "__mul__" (Ar C tMul dBV) := c_mul T
  have m_neg : OwnM P w K mg base 4 C "__neg__" (Un1 C tNeg) := c_neg T
  refine own0 T.m_rmul sc_Ratio___rmul__ (fun _ _ _ _ _ _ us hl => match us, hl with | [_, _], _ => rfl) (fun vs H Q E h => ?_) (fun f cdv A outer s H vs Q E hr h => ?_)
  · obtain ⟨x, i, t, b, u, v, k, l, rfl, _⟩ := h
    rfl
  · obtain ⟨x, i, t, b, u, v, k, l, rfl, hx, hy, hk, hl, q⟩ := h
    refine ⟨_, (pss_cons (ps_if (pt_not (pt_truK (K := K) rfl (pe_c c_is_number hr (by decide) (by rfl) pass0 (pa_cons (pv 1) pa_nil)) (by intro _; rfl))) (pss_one ps_never) pss_nil)
      (pss_one (ps_ret (pe_op (op_bi (nm := "mul") rfl T.b_mul m_mul rfl (by decide) hr) (pv 0) (pv 1))))), ?_⟩
    walk_at "gr"
    refine ⟨_, true, false, rfl, kr_int, ?_⟩
    walk_at "gr"
    exact p_bi hx hy hk hl q
theorem c_rsub (T : RatF K mg C) : OwnM P w K mg base 6 C "__rsub__" (ArI C rsT dBV) := by
  have c_is_number : Cal P w K mg base CX0 2 "is_number" (spNumber C) := c_is_number T
  have m_add : OwnM P w K mg base 5 C "__add__" (Ar C tAdd dBV) := c_add T
  have m_neg : OwnM P w K mg base 4 C "__neg__" (Un1 C tNeg) := c_neg T
  refine own0 T.m_rsub sc_Ratio___rsub__ (fun _ _ _ _ _ _ us hl => match us, hl with | [_, _], _ => rfl) (fun vs H Q E h => ?_) (fun f cdv A outer s H vs Q E hr h => ?_)
  · obtain ⟨x, i, t, b, u, v, k, l, rfl, _⟩ := h
    rfl
  · obtain ⟨x, i, t, b, u, v, k, l, rfl, hx, hy, hk, hl, q⟩ := h
    refine ⟨_, (pss_cons (ps_if (pt_not (pt_truK (K := K) rfl (pe_c c_is_number hr (by decide) (by rfl) pass0 (pa_cons (pv 1) pa_nil)) (by intro _; rfl))) (pss_one ps_never) pss_nil)
      (pss_one (ps_ret (pe_op (op_bi (nm := "add") rfl T.b_add m_add rfl (by decide) hr) (pe_un (un_own m_neg (by decide) hr) (pv 0)) (pv 1))))), ?_⟩
    walk_at "gr"
    refine ⟨_, true, false, rfl, kr_int, ?_⟩
    walk_at "gr"
    refine p_neg hx hk fun z H1 hz s1 => ?_
    walk_at "gr"
    exact p_bi hz (hy.same s1) hk hl fun q' H' h' s' => q q' H' h' (s1.trans s')
theorem c_sub (T : RatF K mg C) : OwnM P w K mg base 6 C "__sub__" (Ar C tSub dBV) := by
  have c_is_number : Cal P w K mg base CX0 2 "is_number" (spNumber C) := c_is_number T
  have c_as_ratio : Cal P w K mg base CX0 4 "as_ratio" (spAs C) := c_as_ratio T
  have m_add : OwnM P w K mg base 5 C "__add__" (Ar C tAdd dBV) := c_add T
  have m_neg : OwnM P w K mg base 4 C "__neg__" (Un1 C tNeg) := c_neg T
  refine own0 T.m_sub sc_Ratio___sub__ (fun _ _ _ _ _ _ us hl => match us, hl with | [_, _], _ => rfl) (fun vs H Q E h => ?_) (fun f cdv A outer s H vs Q E hr h => ?_)
  · obtain ⟨x, y, t, b, u, v, k, l, rfl, _⟩ := h
    rfl
  · obtain ⟨x, y, t, b, u, v, k, l, rfl, ⟨a, rfl⟩, hx, hy, hk, hl, q⟩ := h
    obtain ⟨M, E', hy, g⟩ := hy
    obtain ⟨i, r, hkr, ht⟩ := hy.kr
    refine ⟨_, (pss_cons (ps_if (pt_not (pt_truK (K := K) rfl (pe_c c_is_number hr (by decide) (by rfl) pass0 (pa_cons (pv 1) pa_nil)) (by intro _; rfl))) (pss_one ps_never) pss_nil)
      (pss_one (ps_ret (pe_op (op_bb (nm := "add") rfl T.b_add m_add rfl (by decide) hr) (pv 0) (pe_un (un_own m_neg (by decide) hr) (pe_c c_as_ratio hr (by decide) (by rfl) pass0 (pa_cons (pv 1) pa_nil))))))), ?_⟩
    walk_at "gr"
    refine ⟨y, i, r, rfl, hkr, ?_⟩
    walk_at "gr"
    rw [ht]
    walk_at "gr"
    refine ⟨y, M, E', rfl, hy, fun n H1 hn s1 => ?_⟩
    walk_at "gr"
    refine p_neg (t := u) (b := v) (k := l) ⟨M, E', .rat hn, g⟩ hl fun z H2 hz s2 => ?_
    walk_at "gr"
    exact p_bb ((hx.same s1).same s2) hz hk hl fun q' H' h' s' => q q' H' h' (s1.trans (s2.trans s'))
end
end Pk

namespace Pk
open PySem PySem.Spec PyProof.Rows L2
local macro_rules | `(tactic| walk_at "sz") => `(tactic| first | assumption | decide +kernel | exact Nat.le_trans (Nat.le_of_ble_eq_true rfl) (show 100000 ≤ sizeLine by decide) | exact Nat.le_trans (by omega) (show 100000 ≤ sizeLine by decide) | (show _ ≤ sizeLine; exact Nat.le_trans (by (simp only [List.length_append, List.length_map, List.length_cons, List.length_nil]; omega)) (show 100000 ≤ sizeLine by decide)))
local macro_rules | `(tactic| walk_at "mul") => `(tactic| first | exact Or.inl (Or.inl ⟨by omega, by omega⟩) | exact Or.inl (Or.inr ⟨by omega, by omega⟩))
local macro_rules | `(tactic| walk_at "ci") => `(tactic| first | assumption | exact (by decide : (0 : Int) < _) | (show (0 : Int) < _; omega) | exact ⟨by assumption, by assumption⟩ | exact ⟨by decide, by decide⟩ | exact ⟨by decide, by decide, by omega⟩)
local macro_rules | `(tactic| walk_at "lk") => `(tactic| first | assumption | exact upd_same | ((refine Eq.trans (upd_ne (by first | assumption | exact Ne.symm (by assumption))) ?_); walk_at "lk") | exact Same.get (by assumption) (by walk_at "lk") | exact Keep.get (by assumption) (by walk_at "lk") (by assumption) (by assumption))
local macro_rules | `(tactic| walk_at "sq") => `(tactic| first | assumption | exact SqL.of (by walk_at "lk") | exact Same.seq (by assumption) (by walk_at "sq"))
local macro_rules | `(tactic| walk_at "stt") => `(tactic| exact SqT.of (by walk_at "lk"))
local macro_rules | `(tactic| walk_at "kd") => `(tactic| first | assumption | exact Kd.str _ (by first | assumption | omega | decide) | exact Kd.bl _ | exact Kd.int _ | exact Kd.non | exact Kd.lst (by walk_at "lk") | exact Kd.tup (by walk_at "lk") | exact Kd.dct (by walk_at "lk") | exact Kd.same (by assumption) (by walk_at "kd"))
local macro_rules | `(tactic| walk_at "sm") => `(tactic| first | assumption | exact Same.refl _ | (refine Same.trans ?_ (by assumption); walk_at "sm"))
local macro_rules | `(tactic| walk_at "st") => `(tactic| first
  | with_reducible refine i_seq ?_ | with_reducible refine i_asg ?_ | with_reducible refine i_ret ?_ | with_reducible refine i_op ?_
  | ((with_reducible show tVar _ _ _ _); refine i_var rfl ?_)
  | with_reducible refine i_c ?_ | with_reducible refine i_cb ?_ | with_reducible refine i_call ?_ | with_reducible refine i_cons ?_ | with_reducible refine i_nil ?_
  | with_reducible refine i_name ?_ | with_reducible refine i_sub ?_ | with_reducible refine i_drop ?_ | with_reducible refine i_ifs ?_ | with_reducible refine i_ife ?_
  | with_reducible refine i_test ?_ | with_reducible refine i_tru ?_ | with_reducible refine i_and ?_ | with_reducible refine i_or ?_ | with_reducible refine i_not ?_
  | with_reducible refine i_andV ?_ | with_reducible refine i_orV ?_ | with_reducible refine i_notV ?_ | with_reducible refine i_un ?_
  | with_reducible refine i_bl ?_ | with_reducible refine i_trB ?_ | with_reducible refine i_next ?_
  | with_reducible refine iteF ?_ | with_reducible refine iteT ?_
  | with_reducible refine i_lstF ?_ | with_reducible refine i_tupF ?_
  | with_reducible refine p_addI ?_ | with_reducible refine p_I0 ?_ | with_reducible refine p_U ?_
  | with_reducible refine p_ltI ?_ | with_reducible refine p_leI ?_ | with_reducible refine p_gtI ?_ | with_reducible refine p_geI ?_
  | with_reducible refine p_ltS ?_ | with_reducible refine p_leS ?_ | with_reducible refine p_gtS ?_
  | with_reducible refine p_eqI ?_ | with_reducible refine p_neI ?_ | with_reducible refine p_int ?_
  | ((with_reducible show rMuXX (V.int _) (V.int _) _ _); refine p_muI (by walk_at "mul") ?_)
  | ((with_reducible show rI _ _ (V.int _) (V.int _) _ _); refine p_I (by walk_at "ci") ?_)
  | ((with_reducible show rIx _ (V.ref _) (V.int _) _ _); (first | refine p_ixL (by walk_at "sq") (by first | exact rfl | assumption) ?_ | refine p_ixT (SqT.of (by walk_at "lk")) (by first | exact rfl | assumption) ?_))
  | ((with_reducible show rSetL (V.ref _) (V.int _) _ _ _); refine p_setL (by walk_at "lk") (by first | exact rfl | assumption) ?_)
  | ((with_reducible show rLenX _ [V.ref _] _ _); (first | refine p_lenL (by walk_at "sq") ?_ | refine p_lenT (SqT.of (by walk_at "lk")) ?_))
  | ((with_reducible show rLenX _ [V.str _] _ _); refine p_lenS (by walk_at "sz") ?_)
  | with_reducible refine i_lc ?_ | with_reducible refine i_for ?_ | with_reducible refine i_itl ?_ | with_reducible refine i_itt ?_ | with_reducible refine i_itr ?_ | with_reducible refine i_its ?_
  | ((with_reducible show ∃ _, V.ref _ = V.ref _ ∧ (∃ _, SqL _ _ _ _) ∧ _); refine p_itl (by walk_at "sq") ?_)
  | ((with_reducible show ∃ _, V.ref _ = V.ref _ ∧ (∃ _, SqT _ _ _ _) ∧ _); refine p_itt (by walk_at "stt") ?_) | with_reducible refine p_its ?_
  | ((with_reducible show ∃ _, [V.int _] = [V.int _] ∧ _); refine p_itr (by omega) (by omega) ?_)
  | with_reducible refine i_sl ?_ | with_reducible refine i_np ?_ | with_reducible refine i_pt ?_ | with_reducible refine i_in ?_
  | ((with_reducible show rSlXX _ (V.ref _) _ _ _ _); refine p_slL (by walk_at "sq") ?_; intro _ _ _ _ _)
  | ((with_reducible show rSlXX _ (V.str _) _ _ _ _); refine p_slS (by walk_at "sz") ?_)
  | ((with_reducible show rIsi _ [_, V.ty "str"] _ _); refine p_isStr (by walk_at "kd") ?_)
  | ((with_reducible show rIsi _ [_, V.ty "int"] _ _); refine p_isInt (by walk_at "kd") ?_)
  | ((with_reducible show rIsi _ [_, V.ty "bool"] _ _); refine p_isBool (by walk_at "kd") ?_)
  | ((with_reducible show rIsiT _ [_, V.ref _] _ _); refine p_isLT (by walk_at "lk") (by walk_at "kd") ?_)
  | with_reducible refine i_chain ?_ | with_reducible refine i_m1 ?_ | with_reducible refine i_m0 ?_ | with_reducible refine i_str ?_
  | ((with_reducible show LstK _ _ _); refine p_lstK (by walk_at "sz") ?_; intro _ _ _ _ _)
  | ((with_reducible show TupK _ _ _); refine p_tupK (by walk_at "sz") ?_; intro _ _ _ _ _)
  | ((with_reducible show (if _ = true then _ else _)); (first | refine ifT' (by first | assumption | exact rfl) ?_ | refine ifF' (by first | assumption | exact rfl) ?_))
  | ((with_reducible show rEqX _ (V.bl _) (V.bl _) _ _); refine p_eqS rfl ?_) | ((with_reducible show rNeX _ (V.bl _) (V.bl _) _ _); refine p_neS rfl ?_)
  | ((with_reducible show rEqX _ (V.ref _) (V.ref _) _ _); refine p_eqNil (by walk_at "lk") (by walk_at "lk") ?_) | ((with_reducible show rNeX _ (V.ref _) (V.ref _) _ _); refine p_neNil (by walk_at "lk") (by walk_at "lk") ?_)
  | ((with_reducible show rAddX _ (V.str _) (V.str _) _ _); refine p_addS (by walk_at "sz") ?_)
  | ((with_reducible show rMuXX (V.str _) (V.int _) _ _); refine p_muS ⟨by decide +kernel, by decide +kernel, by decide +kernel⟩ ?_)
  | ((with_reducible show tDNewK _ _ _); refine i_dnew ?_; intro _ _ _ _ _)
  | ((with_reducible show rTupX _ [V.ref _] _ _); refine p_tupL (by walk_at "sq") ?_; intro _ _ _ _ _)
  | ((with_reducible show rAddX _ (V.ref _) (V.ref _) _ _); refine p_addL (by walk_at "lk") (by walk_at "lk") (by walk_at "sz") ?_; intro _ _ _ _ _)
  | with_reducible refine p_notB ?_ | with_reducible refine p_isB ?_)
local macro_rules | `(tactic| walk_at "go") => `(tactic| (walk_at "st"; (repeat walk_at "st")))

local macro_rules | `(tactic| walk_at "rx") => `(tactic| first
  | with_reducible refine i_par ?_ | ((with_reducible show ∃ _ _, [_, _] = [_, _] ∧ _); refine ⟨_, _, rfl, ?_⟩) | ((with_reducible show ∃ _, [V.int _] = [V.int _] ∧ _); refine ⟨_, rfl, ?_⟩)
  | with_reducible refine i_sfl ?_ | with_reducible refine i_mk ?_ | with_reducible refine i_pr ?_ | with_reducible refine i_fl ?_
  | ((with_reducible show FlK _ _ _ (V.ref _) _); first | refine p_flT (by assumption) (by assumption) ?_ | refine p_flB (by assumption) (by assumption) ?_)
  | ((with_reducible show rIsi _ [V.ref _, V.ref _] _ _); refine p_isR (by assumption) (by assumption) ?_)
  | ((with_reducible show rIsi _ [V.ref _, V.ty "int"] _ _); refine p_isRi (by assumption) (by assumption) ?_)
  | ((with_reducible show rIsi _ [_, V.ref _] _ _); refine p_isRn (by assumption) (by walk_at "kd") ?_)
  | ((with_reducible show rMuXX (V.int _) (V.int _) _ _); refine p_muI (Or.inr (by assumption)) ?_)
  | ((with_reducible show rGcd [V.int _, V.int _] _ _); refine ⟨_, _, rfl, ?_⟩)
  | ((with_reducible show PrK _ _ _ (V.ref _) _); first | refine p_prT (by assumption) ?_ | refine p_prB (by assumption) ?_))
local macro_rules | `(tactic| walk_at "gr") => `(tactic| repeat (first | walk_at "st" | walk_at "rx"))

section
variable {P : Program} {w : World} {K : PySem.W.Frag} {mg : Str → Option Value} {base : Heap} {C : Addr}
def rDivEq (K : PySem.W.Frag) (C : Addr) : R2 := fun x y H Q => rOwn C (spEq C) x y H Q ∨ rEqX K x y H Q
theorem rf_no (t b : Int) {m : Str} (h1 : ¬ m = "_top") (h2 : ¬ m = "_bottom") : (rf t b).lookup m = none := by
  unfold rf
  rw [lookup_putF, if_neg h2, lookup_putF, if_neg h1]
  rfl
theorem i_mt {m : Str} {sp : Sp} {dvs : List V} {E : XK} {ta : TE} {t : TA} {σ : L2.St} {H : Hp} {Q : VK} (h : ta σ H fun x H1 => ∃ a dx fs, x = .ref a ∧ H1 a = some (.ins C dx fs) ∧ fs.lookup m = none ∧ t σ H1 fun vs H2 => sp (x :: (vs ++ dvs)) H2 Q E) : tMeth C m sp dvs E ta t σ H Q := h
theorem i_stat {sp : Sp} {ta : TE} {t : TA} {σ : L2.St} {H : Hp} {Q : VK} (h : ta σ H fun x H1 => x = .ref C ∧ t σ H1 fun vs H2 => sp vs H2 Q E0) : tStat C sp ta t σ H Q := h
def spDiv (C : Addr) : Sp := fun vs H Q _ => ∃ a y t b u v k l, vs = [.ref a, y] ∧ Np C H (.ref a) t b k ∧ Np C H y u v l ∧ u ≠ 0 ∧ k ≤ 1000 ∧ l ≤ 1000 ∧ ∀ q H', Np C H' (.ref q) (t * v * u.sign) (b * (u.natAbs : Int)) (k + l + 1) → Same H H' → Q (.ref q) H'
theorem c_divided (T : RatF K mg C) : C8.Met P w K mg base 5 C "divided" (spDiv C) [] := by
  have c_is_number : Cal P w K mg base CX0 2 "is_number" (spNumber C) := c_is_number T
  have c_as_ratio : Cal P w K mg base CX0 4 "as_ratio" (spAs C) := c_as_ratio T
  have c_Ratio2 : C8.Mak P w K mg base 2 "Ratio" C (spIni C) [] := c_Ratio2 T
  have m_top : PropM P w K mg base 1 C "top" (spTop C) := c_top T
  have m_bottom : PropM P w K mg base 1 C "bottom" (spBot C) := c_bot T
  have m_eq : OwnM P w K mg base 3 C "__eq__" (spEq C) := c_eq T
  obtain ⟨ff, fd, F, me⟩ := T.m_divided.ex
  refine ⟨ff, fd, ["self", "other"], [], T.cl, me, F.ok sc_Ratio_divided (fun vs H Q E h => ?_) (fun cdv A outer s H vs Q E hr h => ?_), F.binds (fun _ _ _ _ _ _ us hl => match us, hl with | [_, _], _ => rfl), .nil⟩
  · obtain ⟨a, y, t, b, u, v, k, l, rfl, _⟩ := h
    rfl
  · obtain ⟨a, y, t, b, u, v, k, l, rfl, hx, hy, u0, hk, hl, q⟩ := h
    obtain ⟨N, D, h, e⟩ := hx.ref
    obtain ⟨M, E', hy, g⟩ := hy
    obtain ⟨sN, sD⟩ := e.sm (by omega)
    obtain ⟨sM, sE⟩ := g.sm (by omega)
    have M0 : M ≠ 0 := fun z => by
      have e := g.eq
      rw [z, Int.zero_mul] at e
      rcases Int.mul_eq_zero.mp e.symm with q | q
      · exact u0 q
      · have := g.low.1; omega
    have hr : Room 4 _ := hr
    refine ⟨_, (pss_cons (ps_if (PW.pt (pw_or (pt_not (pt_truK (K := K) rfl (pe_c c_is_number hr (by decide) (by rfl) pass0 (pa_cons (pv 1) pa_nil)) (by intro _; rfl))) (pw_or1 (pt_cmpR (r := rDivEq K C) ((op_own (m := "__eq__") (fun _ _ => rfl) m_eq rfl (by decide) hr T.ap).or (op_eqX hr.units)) (pv 1) pe_int (nomark _))))) (pss_one ps_never) pss_nil)
      (pss_cons (ps_set (i := 2) sc_Ratio_divided.nd rfl (by first | exact Or.inl rfl | exact Or.inr rfl) (pe_c c_as_ratio hr (by decide) (by rfl) pass0 (pa_cons (pv 1) pa_nil)))
      (pss_one (ps_ret (C8.pe_mk c_Ratio2 hr (by decide) (by rfl) (pa_cons (pe_op op_muX (pe_fld (pv 0) rfl) (pe_pr (pv 2) T.cl m_bottom (by decide) hr)) (pa_cons (pe_op op_muX (pe_fld (pv 0) rfl) (pe_pr (pv 2) T.cl m_top (by decide) hr)) pa_nil))))))), ?_⟩
    obtain ⟨i, r, hkr, ht⟩ := hy.kr
    walk_at "gr"
    refine ⟨y, i, r, rfl, hkr, ?_⟩
    walk_at "gr"
    rw [ht]
    walk_at "gr"
    have w1 : CMulW N E' := wm sN sE
    have w3 : CMulW D M := wm sD sM
    have z : decide (M = 0) = false := decide_eq_false M0
    have go : ∀ (Q : VK), Q (.bl false) H → rDivEq K C y (.int 0) H Q := fun Q q => by
      cases hy with
      | int => exact .inr (p_eqI (by rw [z]; exact q))
      | rat h' => exact .inl (p_own h' .int (by rw [z, Bool.and_false]; exact q))
    refine go _ ?_
    walk_at "gr"
    refine ⟨y, M, E', rfl, hy, fun n H1 hn s1 => ?_⟩
    have h := h.same s1
    walk_at "gr"
    refine p_mk (vs := [.int (N * E'), .int (D * M)]) (dvs := []) rfl (Int.mul_ne_zero (pos0 e) M0) (lt4 sD sM) fun p H' r s _ => ?_
    exact q p H' ⟨_, _, .rat r, eqv_div e g u0⟩ (s1.trans s)
def spMid (C : Addr) : Sp := fun vs H Q _ => ∃ x y t b u v k l, vs = [x, y] ∧ Np C H x t b k ∧ Np C H y u v l ∧ k ≤ 400 ∧ l ≤ 400 ∧ ∀ q H', Np C H' (.ref q) (t * v + u * b) (b * v * 2) (k + l + 4) → Same H H' → Q (.ref q) H'
theorem eqv_two : Eqv 2 1 2 1 2 := ⟨⟨by decide, by decide⟩, by decide, by decide, by decide, by decide⟩
theorem c_middle (T : RatF K mg C) : StatM P w K mg base 7 C "middle" (spMid C) := by
  have c_as_ratio : Cal P w K mg base CX0 4 "as_ratio" (spAs C) := c_as_ratio T
  have m_add : OwnM P w K mg base 5 C "__add__" (Ar C tAdd dBV) := c_add T
  have m_divided : C8.Met P w K mg base 5 C "divided" (spDiv C) [] := c_divided T
  obtain ⟨mc, p, g, fd, h1, h2, h3, h4, F⟩ := T.m_middle
  refine ⟨mc, p, g, fd, ["first", "second"], h1, h2, h3, h4, F.kp, F.ok sc_Ratio_middle (fun vs H Q E h => ?_) (fun cdv A outer s H vs Q E hr h => ?_), F.binds (fun _ _ _ _ _ _ us hl => match us, hl with | [_, _], _ => rfl)⟩
  · obtain ⟨x, y, t, b, u, v, k, l, rfl, _⟩ := h
    rfl
  · obtain ⟨x, y, t, b, u, v, k, l, rfl, hx, hy, hk, hl, q⟩ := h
    obtain ⟨N, D, hx, e⟩ := hx
    obtain ⟨M, E', hy, g⟩ := hy
    have hr : Room 6 _ := hr
    refine ⟨_, (pss_one (ps_ret (C8.pe_mt m_divided hr (by decide) (pe_op (op_bb (nm := "add") rfl T.b_add m_add rfl (by decide) hr) (pe_c c_as_ratio hr (by decide) (by rfl) pass0 (pa_cons (pv 0) pa_nil)) (pe_c c_as_ratio hr (by decide) (by rfl) pass0 (pa_cons (pv 1) pa_nil))) (pa_cons pe_int pa_nil)))), ?_⟩
    refine i_ret (i_mt ?_)
    walk_at "gr"
    refine ⟨x, N, D, rfl, hx, fun n1 H1 hn1 s1 => ?_⟩
    walk_at "gr"
    refine ⟨y, M, E', rfl, hy.same s1, fun n2 H2 hn2 s2 => ?_⟩
    walk_at "gr"
    refine p_bb (t := t) (b := b) (k := k) (u := u) (v := v) (l := l) ⟨N, D, .rat (hn1.same s2), e⟩ ⟨M, E', .rat hn2, g⟩ (by omega) (by omega) fun z H3 hz s3 => ?_
    obtain ⟨N3, D3, hz3, e3⟩ := hz.ref
    obtain ⟨dx, hd⟩ := id hz3
    refine ⟨z, dx, _, rfl, hd, rf_no _ _ (by decide +kernel) (by decide +kernel), ?_⟩
    walk_at "gr"
    refine ⟨z, .int 2, _, _, 2, 1, _, 2, rfl, hz, ⟨2, 1, .int 2, eqv_two⟩, by decide, by omega, by decide, fun q' H' hq s4 => ?_⟩
    refine q q' H' ?_ (s1.trans (s2.trans (s3.trans s4)))
    have e1 : (t * v + u * b) * 1 * Int.sign 2 = t * v + u * b := by rw [show Int.sign 2 = 1 from rfl, Int.mul_one, Int.mul_one]
    have e2 : b * v * ((Int.natAbs 2 : Nat) : Int) = b * v * 2 := rfl
    have hq' : Np C H' (.ref q') ((t * v + u * b) * 1 * Int.sign 2) (b * v * ((Int.natAbs 2 : Nat) : Int)) (k + l + 1 + 2 + 1) := hq
    rw [e1, e2] at hq'
    exact hq'
end
end Pk

namespace Pk
open PySem PySem.Spec PyProof.Rows L2
local macro_rules | `(tactic| walk_at "sz") => `(tactic| first | assumption | decide +kernel | exact Nat.le_trans (Nat.le_of_ble_eq_true rfl) (show 100000 ≤ sizeLine by decide) | exact Nat.le_trans (by omega) (show 100000 ≤ sizeLine by decide) | (show _ ≤ sizeLine; exact Nat.le_trans (by (simp only [List.length_append, List.length_map, List.length_cons, List.length_nil]; omega)) (show 100000 ≤ sizeLine by decide)))
local macro_rules | `(tactic| walk_at "mul") => `(tactic| first | exact Or.inl (Or.inl ⟨by omega, by omega⟩) | exact Or.inl (Or.inr ⟨by omega, by omega⟩))
local macro_rules | `(tactic| walk_at "ci") => `(tactic| first | assumption | exact (by decide : (0 : Int) < _) | (show (0 : Int) < _; omega) | exact ⟨by assumption, by assumption⟩ | exact ⟨by decide, by decide⟩ | exact ⟨by decide, by decide, by omega⟩)
local macro_rules | `(tactic| walk_at "lk") => `(tactic| first | assumption | exact upd_same | ((refine Eq.trans (upd_ne (by first | assumption | exact Ne.symm (by assumption))) ?_); walk_at "lk") | exact Same.get (by assumption) (by walk_at "lk") | exact Keep.get (by assumption) (by walk_at "lk") (by assumption) (by assumption))
local macro_rules | `(tactic| walk_at "sq") => `(tactic| first | assumption | exact SqL.of (by walk_at "lk") | exact Same.seq (by assumption) (by walk_at "sq"))
local macro_rules | `(tactic| walk_at "stt") => `(tactic| exact SqT.of (by walk_at "lk"))
local macro_rules | `(tactic| walk_at "kd") => `(tactic| first | assumption | exact Kd.str _ (by first | assumption | omega | decide) | exact Kd.bl _ | exact Kd.int _ | exact Kd.non | exact Kd.lst (by walk_at "lk") | exact Kd.tup (by walk_at "lk") | exact Kd.dct (by walk_at "lk") | exact Kd.same (by assumption) (by walk_at "kd"))
local macro_rules | `(tactic| walk_at "sm") => `(tactic| first | assumption | exact Same.refl _ | (refine Same.trans ?_ (by assumption); walk_at "sm"))
local macro_rules | `(tactic| walk_at "st") => `(tactic| first
  | with_reducible refine i_seq ?_ | with_reducible refine i_asg ?_ | with_reducible refine i_ret ?_ | with_reducible refine i_op ?_
  | ((with_reducible show tVar _ _ _ _); refine i_var rfl ?_)
  | with_reducible refine i_c ?_ | with_reducible refine i_cb ?_ | with_reducible refine i_call ?_ | with_reducible refine i_cons ?_ | with_reducible refine i_nil ?_
  | with_reducible refine i_name ?_ | with_reducible refine i_sub ?_ | with_reducible refine i_drop ?_ | with_reducible refine i_ifs ?_ | with_reducible refine i_ife ?_
  | with_reducible refine i_test ?_ | with_reducible refine i_tru ?_ | with_reducible refine i_and ?_ | with_reducible refine i_or ?_ | with_reducible refine i_not ?_
  | with_reducible refine i_andV ?_ | with_reducible refine i_orV ?_ | with_reducible refine i_notV ?_ | with_reducible refine i_un ?_
  | with_reducible refine i_bl ?_ | with_reducible refine i_trB ?_ | with_reducible refine i_next ?_
  | with_reducible refine iteF ?_ | with_reducible refine iteT ?_
  | with_reducible refine i_lstF ?_ | with_reducible refine i_tupF ?_
  | with_reducible refine p_addI ?_ | with_reducible refine p_I0 ?_ | with_reducible refine p_U ?_
  | with_reducible refine p_ltI ?_ | with_reducible refine p_leI ?_ | with_reducible refine p_gtI ?_ | with_reducible refine p_geI ?_
  | with_reducible refine p_ltS ?_ | with_reducible refine p_leS ?_ | with_reducible refine p_gtS ?_
  | with_reducible refine p_eqI ?_ | with_reducible refine p_neI ?_ | with_reducible refine p_int ?_
  | ((with_reducible show rMuXX (V.int _) (V.int _) _ _); refine p_muI (by walk_at "mul") ?_)
  | ((with_reducible show rI _ _ (V.int _) (V.int _) _ _); refine p_I (by walk_at "ci") ?_)
  | ((with_reducible show rIx _ (V.ref _) (V.int _) _ _); (first | refine p_ixL (by walk_at "sq") (by first | exact rfl | assumption) ?_ | refine p_ixT (SqT.of (by walk_at "lk")) (by first | exact rfl | assumption) ?_))
  | ((with_reducible show rSetL (V.ref _) (V.int _) _ _ _); refine p_setL (by walk_at "lk") (by first | exact rfl | assumption) ?_)
  | ((with_reducible show rLenX _ [V.ref _] _ _); (first | refine p_lenL (by walk_at "sq") ?_ | refine p_lenT (SqT.of (by walk_at "lk")) ?_))
  | ((with_reducible show rLenX _ [V.str _] _ _); refine p_lenS (by walk_at "sz") ?_)
  | with_reducible refine i_lc ?_ | with_reducible refine i_for ?_ | with_reducible refine i_itl ?_ | with_reducible refine i_itt ?_ | with_reducible refine i_itr ?_ | with_reducible refine i_its ?_
  | ((with_reducible show ∃ _, V.ref _ = V.ref _ ∧ (∃ _, SqL _ _ _ _) ∧ _); refine p_itl (by walk_at "sq") ?_)
  | ((with_reducible show ∃ _, V.ref _ = V.ref _ ∧ (∃ _, SqT _ _ _ _) ∧ _); refine p_itt (by walk_at "stt") ?_) | with_reducible refine p_its ?_
  | ((with_reducible show ∃ _, [V.int _] = [V.int _] ∧ _); refine p_itr (by omega) (by omega) ?_)
  | with_reducible refine i_sl ?_ | with_reducible refine i_np ?_ | with_reducible refine i_pt ?_ | with_reducible refine i_in ?_
  | ((with_reducible show rSlXX _ (V.ref _) _ _ _ _); refine p_slL (by walk_at "sq") ?_; intro _ _ _ _ _)
  | ((with_reducible show rSlXX _ (V.str _) _ _ _ _); refine p_slS (by walk_at "sz") ?_)
  | ((with_reducible show rIsi _ [_, V.ty "str"] _ _); refine p_isStr (by walk_at "kd") ?_)
  | ((with_reducible show rIsi _ [_, V.ty "int"] _ _); refine p_isInt (by walk_at "kd") ?_)
  | ((with_reducible show rIsi _ [_, V.ty "bool"] _ _); refine p_isBool (by walk_at "kd") ?_)
  | ((with_reducible show rIsiT _ [_, V.ref _] _ _); refine p_isLT (by walk_at "lk") (by walk_at "kd") ?_)
  | with_reducible refine i_chain ?_ | with_reducible refine i_m1 ?_ | with_reducible refine i_m0 ?_ | with_reducible refine i_str ?_
  | ((with_reducible show LstK _ _ _); refine p_lstK (by walk_at "sz") ?_; intro _ _ _ _ _)
  | ((with_reducible show TupK _ _ _); refine p_tupK (by walk_at "sz") ?_; intro _ _ _ _ _)
  | ((with_reducible show (if _ = true then _ else _)); (first | refine ifT' (by first | assumption | exact rfl) ?_ | refine ifF' (by first | assumption | exact rfl) ?_))
  | ((with_reducible show rEqX _ (V.bl _) (V.bl _) _ _); refine p_eqS rfl ?_) | ((with_reducible show rNeX _ (V.bl _) (V.bl _) _ _); refine p_neS rfl ?_)
  | ((with_reducible show rEqX _ (V.ref _) (V.ref _) _ _); refine p_eqNil (by walk_at "lk") (by walk_at "lk") ?_) | ((with_reducible show rNeX _ (V.ref _) (V.ref _) _ _); refine p_neNil (by walk_at "lk") (by walk_at "lk") ?_)
  | ((with_reducible show rAddX _ (V.str _) (V.str _) _ _); refine p_addS (by walk_at "sz") ?_)
  | ((with_reducible show rMuXX (V.str _) (V.int _) _ _); refine p_muS ⟨by decide +kernel, by decide +kernel, by decide +kernel⟩ ?_)
  | ((with_reducible show tDNewK _ _ _); refine i_dnew ?_; intro _ _ _ _ _)
  | ((with_reducible show rTupX _ [V.ref _] _ _); refine p_tupL (by walk_at "sq") ?_; intro _ _ _ _ _)
  | ((with_reducible show rAddX _ (V.ref _) (V.ref _) _ _); refine p_addL (by walk_at "lk") (by walk_at "lk") (by walk_at "sz") ?_; intro _ _ _ _ _)
  | with_reducible refine p_notB ?_ | with_reducible refine p_isB ?_)
local macro_rules | `(tactic| walk_at "go") => `(tactic| (walk_at "st"; (repeat walk_at "st")))

local macro_rules | `(tactic| walk_at "rx") => `(tactic| first
  | with_reducible refine i_par ?_ | ((with_reducible show ∃ _ _, [_, _] = [_, _] ∧ _); refine ⟨_, _, rfl, ?_⟩) | ((with_reducible show ∃ _, [V.int _] = [V.int _] ∧ _); refine ⟨_, rfl, ?_⟩)
  | with_reducible refine i_sfl ?_ | with_reducible refine i_mk ?_ | with_reducible refine i_pr ?_ | with_reducible refine i_fl ?_
  | ((with_reducible show FlK _ _ _ (V.ref _) _); first | refine p_flT (by assumption) (by assumption) ?_ | refine p_flB (by assumption) (by assumption) ?_)
  | ((with_reducible show rIsi _ [V.ref _, V.ref _] _ _); refine p_isR (by assumption) (by assumption) ?_)
  | ((with_reducible show rIsi _ [V.ref _, V.ty "int"] _ _); refine p_isRi (by assumption) (by assumption) ?_)
  | ((with_reducible show rIsi _ [_, V.ref _] _ _); refine p_isRn (by assumption) (by walk_at "kd") ?_)
  | ((with_reducible show rMuXX (V.int _) (V.int _) _ _); refine p_muI (Or.inr (by assumption)) ?_)
  | ((with_reducible show rGcd [V.int _, V.int _] _ _); refine ⟨_, _, rfl, ?_⟩)
  | ((with_reducible show PrK _ _ _ (V.ref _) _); first | refine p_prT (by assumption) ?_ | refine p_prB (by assumption) ?_))
local macro_rules | `(tactic| walk_at "gr") => `(tactic| repeat (first | walk_at "st" | walk_at "rx"))

section
variable {P : Program} {w : World} {K : PySem.W.Frag} {mg : Str → Option Value} {base : Heap} {C : Addr}
/-! ### comparisons by any terms -/
abbrev fLt (t b u v : Int) : Bool := decide (t * v < u * b)
abbrev fLe (t b u v : Int) : Bool := decide (t * v ≤ u * b)
abbrev fGt (t b u v : Int) : Bool := decide (t * v > u * b)
abbrev fGe (t b u v : Int) : Bool := decide (t * v ≥ u * b)
def rCmp (C : Addr) (sp sp' : Sp) : R2 := fun x y H Q => rOwn C sp x y H Q ∨ rRef C sp' x y H Q
def rEU (K : PySem.W.Frag) (C : Addr) (sp sp' : Sp) : R2 := fun x y H Q => rCmp C sp sp' x y H Q ∨ rEqX K x y H Q
def rNU (K : PySem.W.Frag) (C : Addr) (sp sp' : Sp) : R2 := fun x y H Q => rCmp C sp sp' x y H Q ∨ rNeX K x y H Q
def rArU (C : Addr) (sp sp' : Sp) : R2 := fun x y H Q => rBB C sp x y H Q ∨ (rBI C sp x y H Q ∨ rRef C sp' x y H Q)
theorem Nb.side {H : Hp} {y : V} {t b : Int} (h : Nb C H y t b) : (∃ kn, Kd H y kn) ∨ (∃ a dx fs, y = .ref a ∧ H a = some (.ins C dx fs)) := by
  cases h with
  | int => exact .inl ⟨_, .int _⟩
  | rat h => exact .inr (h.elim fun dx e => ⟨_, dx, _, rfl, e⟩)
theorem cross {N D t b M E u v : Int} {k l : Nat} (h : Eqv N D t b k) (g : Eqv M E u v l) : (N * E) * (b * v) = (t * v) * (D * E) ∧ (M * D) * (b * v) = (u * b) * (D * E) ∧ 0 < b * v ∧ 0 < D * E := by
  have a := h.eq
  have c := g.eq
  refine ⟨?_, ?_, Int.mul_pos h.pos g.pos, Int.mul_pos h.low.1 g.low.1⟩
  · have e : (N * E) * (b * v) = (N * b) * (E * v) := by grind
    rw [e, a]; grind
  · have e : (M * D) * (b * v) = (M * v) * (D * b) := by grind
    rw [e, c]; grind
theorem x_lt {N D t b M E u v : Int} {k l : Nat} (h : Eqv N D t b k) (g : Eqv M E u v l) : (N * E < M * D) ↔ (t * v < u * b) := by
  obtain ⟨a, c, p, q⟩ := cross h g
  rw [← Int.mul_lt_mul_right p, a, c, Int.mul_lt_mul_right q]
theorem x_gt {N D t b M E u v : Int} {k l : Nat} (h : Eqv N D t b k) (g : Eqv M E u v l) : (M * D < N * E) ↔ (u * b < t * v) := by
  obtain ⟨a, c, p, q⟩ := cross h g
  rw [← Int.mul_lt_mul_right p, a, c, Int.mul_lt_mul_right q]
theorem x_eq {N D t b M E u v : Int} {k l : Nat} (h : Eqv N D t b k) (g : Eqv M E u v l) : (N * E = M * D) ↔ (t * v = u * b) := by
  have a := x_lt h g
  have c := x_gt h g
  omega
theorem low_eq {t b u v : Int} (h1 : Low t b) (h2 : Low u v) : (decide (t = u) && decide (b = v)) = decide (t * v = u * b) := by
  rw [Bool.eq_iff_iff, Bool.and_eq_true, decide_eq_true_iff, decide_eq_true_iff, decide_eq_true_iff]
  constructor
  · rintro ⟨rfl, rfl⟩
    rfl
  · intro e
    have e2 : t.natAbs * v.natAbs = u.natAbs * b.natAbs := by rw [← Int.natAbs_mul, ← Int.natAbs_mul, e]
    have d1 : b.natAbs ∣ v.natAbs := (Nat.Coprime.symm h1.2).dvd_of_dvd_mul_left (e2 ▸ Nat.dvd_mul_left _ _)
    have d2 : v.natAbs ∣ b.natAbs := (Nat.Coprime.symm h2.2).dvd_of_dvd_mul_left (e2 ▸ Nat.dvd_mul_left _ _)
    have e3 := Nat.dvd_antisymm d1 d2
    have e4 : b = v := by have := h1.1; have := h2.1; omega
    subst e4
    exact ⟨Int.eq_of_mul_eq_mul_right (by have := h1.1; omega) e, rfl⟩
theorem p_cmpN {H : Hp} {Q : VK} {x y : V} {t b u v : Int} {k l : Nat} {f f' : Int → Int → Int → Int → Bool} (e : ∀ t b u v, f' u v t b = f t b u v) (tr : ∀ N D M E, Eqv N D t b k → Eqv M E u v l → f N D M E = f t b u v) (hx : Np C H x t b k) (hy : Np C H y u v l) (one : (∃ a, x = .ref a) ∨ ∃ a, y = .ref a) (hk : k ≤ 1000) (hl : l ≤ 1000) (q : ∀ H', Same H H' → Q (.bl (f t b u v)) H') : rCmp C (Rel4 f C) (Rel4 f' C) x y H Q := by
  obtain ⟨N, D, hx, g⟩ := hx
  obtain ⟨M, E, hy, g'⟩ := hy
  have z := tr N D M E g g'
  obtain ⟨a1, a2⟩ := g.sm (by omega)
  obtain ⟨a3, a4⟩ := g'.sm (by omega)
  have m : N.natAbs < 2 ^ 4000 ∧ D.natAbs < 2 ^ 4000 := ⟨bits_up a1 (by decide), bits_up a2 (by decide)⟩
  have n : M.natAbs < 2 ^ 4000 ∧ E.natAbs < 2 ^ 4000 := ⟨bits_up a3 (by decide), bits_up a4 (by decide)⟩
  cases hx with
  | rat h =>
    obtain ⟨dx, h1⟩ := id h
    exact .inl ⟨_, dx, _, rfl, h1, hy.side, _, _, _, _, _, _, rfl, h, hy, m, n, fun H' s => by rw [z]; exact q H' s⟩
  | int =>
    cases hy with
    | int => rcases one with ⟨a, z⟩ | ⟨a, z⟩ <;> cases z
    | rat h =>
      obtain ⟨dx, h1⟩ := id h
      exact .inr ⟨_, _, dx, _, rfl, rfl, h1, _, _, _, _, _, _, rfl, h, .int _, n, m, fun H' s => by rw [e, z]; exact q H' s⟩
section
variable {H : Hp} {Q : VK} {x y : V} {t b u v : Int} {k l : Nat}
theorem p_ltN (hx : Np C H x t b k) (hy : Np C H y u v l) (one : (∃ a, x = .ref a) ∨ ∃ a, y = .ref a) (hk : k ≤ 1000) (hl : l ≤ 1000) (q : ∀ H', Same H H' → Q (.bl (decide (t * v < u * b))) H') : rCmp C (Rel4 fLt C) (Rel4 fGt C) x y H Q := p_cmpN (fun _ _ _ _ => rfl) (fun _ _ _ _ h g => decide_eq_decide.mpr (x_lt h g)) hx hy one hk hl q
theorem p_leN (hx : Np C H x t b k) (hy : Np C H y u v l) (one : (∃ a, x = .ref a) ∨ ∃ a, y = .ref a) (hk : k ≤ 1000) (hl : l ≤ 1000) (q : ∀ H', Same H H' → Q (.bl (decide (t * v ≤ u * b))) H') : rCmp C (Rel4 fLe C) (Rel4 fGe C) x y H Q := p_cmpN (fun _ _ _ _ => rfl) (fun _ _ _ _ h g => decide_eq_decide.mpr (by have := x_gt h g; omega)) hx hy one hk hl q
theorem p_gtN (hx : Np C H x t b k) (hy : Np C H y u v l) (one : (∃ a, x = .ref a) ∨ ∃ a, y = .ref a) (hk : k ≤ 1000) (hl : l ≤ 1000) (q : ∀ H', Same H H' → Q (.bl (decide (t * v > u * b))) H') : rCmp C (Rel4 fGt C) (Rel4 fLt C) x y H Q := p_cmpN (fun _ _ _ _ => rfl) (fun _ _ _ _ h g => decide_eq_decide.mpr (x_gt h g)) hx hy one hk hl q
theorem p_geN (hx : Np C H x t b k) (hy : Np C H y u v l) (one : (∃ a, x = .ref a) ∨ ∃ a, y = .ref a) (hk : k ≤ 1000) (hl : l ≤ 1000) (q : ∀ H', Same H H' → Q (.bl (decide (t * v ≥ u * b))) H') : rCmp C (Rel4 fGe C) (Rel4 fLe C) x y H Q := p_cmpN (fun _ _ _ _ => rfl) (fun _ _ _ _ h g => decide_eq_decide.mpr (by have := x_lt h g; omega)) hx hy one hk hl q
theorem p_eqR (hx : Np C H x t b k) (hy : Np C H y u v l) (one : (∃ a, x = .ref a) ∨ ∃ a, y = .ref a) (g : Bool → Bool) (sp : Sp) (hsp : ∀ a t b y r H Q, RAt C H a t b → Er C H t b y r → Q (.bl (g r)) H → sp [.ref a, y] H Q E0) (q : Q (.bl (g (decide (t * v = u * b)))) H) : rCmp C sp sp x y H Q := by
  obtain ⟨N, D, hx, e⟩ := hx
  obtain ⟨M, E, hy, e'⟩ := hy
  rw [← decide_eq_decide.mpr (x_eq e e'), ← low_eq e.low e'.low] at q
  cases hx with
  | rat h =>
    obtain ⟨dx, h1⟩ := id h
    refine .inl ⟨_, dx, _, rfl, h1, hy.side, ?_⟩
    cases hy with
    | rat h' => exact hsp _ _ _ _ _ _ _ h (.rat h') q
    | int => exact hsp _ _ _ _ _ _ _ h .int (by rw [Bool.and_comm]; exact q)
  | int =>
    cases hy with
    | int => rcases one with ⟨a, z⟩ | ⟨a, z⟩ <;> cases z
    | rat h =>
      obtain ⟨dx, h1⟩ := id h
      refine .inr ⟨_, _, dx, _, rfl, rfl, h1, hsp _ _ _ _ _ _ _ h .int ?_⟩
      rw [Bool.and_comm, show decide (E = 1) = decide ((1 : Int) = E) from decide_eq_decide.mpr ⟨Eq.symm, Eq.symm⟩, show decide (M = N) = decide (N = M) from decide_eq_decide.mpr ⟨Eq.symm, Eq.symm⟩]
      exact q
theorem p_eqN (hx : Np C H x t b k) (hy : Np C H y u v l) (one : (∃ a, x = .ref a) ∨ ∃ a, y = .ref a) (q : Q (.bl (decide (t * v = u * b))) H) : rEU K C (spEq C) (spEq C) x y H Q := .inl (p_eqR hx hy one id (spEq C) (fun a t b y r H Q h e k => ⟨a, t, b, y, r, rfl, h, e, k⟩) q)
theorem p_neN (hx : Np C H x t b k) (hy : Np C H y u v l) (one : (∃ a, x = .ref a) ∨ ∃ a, y = .ref a) (q : Q (.bl (!decide (t * v = u * b))) H) : rNU K C (spNe C) (spNe C) x y H Q := .inl (p_eqR hx hy one (fun r => !r) (spNe C) (fun a t b y r H Q h e k => ⟨a, t, b, y, r, rfl, h, e, k⟩) q)
end
section
variable {H : Hp} {Q : VK} {x y : Addr} {i : Int} {t b u v : Int} {k l : Nat} {T B : F4} {sp sp' : Sp}
theorem p_arBB (hx : Np C H (.ref x) t b k) (hy : Np C H (.ref y) u v l) (hk : k ≤ 1000) (hl : l ≤ 1000) (q : ∀ q H', Np C H' (.ref q) (T t b u v) (B t b u v) (k + l + 1) → Same H H' → Q (.ref q) H') : rArU C (Ar C T B) sp' (.ref x) (.ref y) H Q := .inl (p_bb hx hy hk hl q)
theorem p_arBI (hx : Np C H (.ref x) t b k) (hy : Np C H (.int i) u v l) (hk : k ≤ 1000) (hl : l ≤ 1000) (q : ∀ q H', Np C H' (.ref q) (T t b u v) (B t b u v) (k + l + 1) → Same H H' → Q (.ref q) H') : rArU C (Ar C T B) sp' (.ref x) (.int i) H Q := .inr (.inl (p_bi hx hy hk hl q))
theorem p_arIB {T' : F4} (e : ∀ t b u v, T' u v t b = T t b u v) (hx : Np C H (.int i) t b k) (hy : Np C H (.ref y) u v l) (hk : k ≤ 1000) (hl : l ≤ 1000) (q : ∀ q H', Np C H' (.ref q) (T t b u v) (b * v) (k + l + 1) → Same H H' → Q (.ref q) H') : rArU C sp (ArI C T' dBV) (.int i) (.ref y) H Q := by
  obtain ⟨dy, gs, g⟩ := hy.ins
  refine .inr (.inr ⟨i, y, dy, gs, rfl, rfl, g, y, i, u, v, t, b, l, k, rfl, hy, hx, hl, hk, fun q' H' h s => q q' H' ?_ s⟩)
  have h' : Np C H' (.ref q') (T' u v t b) (v * b) (l + k + 1) := h
  rw [e, Int.mul_comm v b, Nat.add_comm l k] at h'
  exact h'
theorem p_addIB (hx : Np C H (.int i) t b k) (hy : Np C H (.ref y) u v l) (hk : k ≤ 1000) (hl : l ≤ 1000) (q : ∀ q H', Np C H' (.ref q) (t * v + u * b) (b * v) (k + l + 1) → Same H H' → Q (.ref q) H') : rArU C (Ar C tAdd dBV) (ArI C tAdd dBV) (.int i) (.ref y) H Q := p_arIB (T := tAdd) (fun _ _ _ _ => Int.add_comm _ _) hx hy hk hl q
theorem p_subIB (hx : Np C H (.int i) t b k) (hy : Np C H (.ref y) u v l) (hk : k ≤ 1000) (hl : l ≤ 1000) (q : ∀ q H', Np C H' (.ref q) (t * v + -u * b) (b * v) (k + l + 1) → Same H H' → Q (.ref q) H') : rArU C (Ar C tSub dBV) (ArI C rsT dBV) (.int i) (.ref y) H Q := p_arIB (T := tSub) (fun _ _ _ _ => Int.add_comm _ _) hx hy hk hl q
theorem p_mulIB (hx : Np C H (.int i) t b k) (hy : Np C H (.ref y) u v l) (hk : k ≤ 1000) (hl : l ≤ 1000) (q : ∀ q H', Np C H' (.ref q) (t * u) (b * v) (k + l + 1) → Same H H' → Q (.ref q) H') : rArU C (Ar C tMul dBV) (ArI C tMul dBV) (.int i) (.ref y) H Q := p_arIB (T := tMul) (fun _ _ _ _ => Int.mul_comm _ _) hx hy hk hl q
theorem p_absN (hx : Np C H (.ref x) t b k) (hk : k ≤ 1000) (q : ∀ q H', Np C H' (.ref q) (t.natAbs : Int) b k → Same H H' → Q (.ref q) H') : rAbsO C (Un1 C tAbs) [.ref x] H Q := by
  obtain ⟨dx, fs, e⟩ := hx.ins
  exact ⟨x, dx, fs, rfl, e, x, t, b, k, rfl, hx, hk, q⟩
end
theorem ifn {X Y : Int} {A B : Prop} (e : X = Y) (h : B) : if (!decide (X = Y)) = true then A else B := by
  rw [decide_eq_true e]
  exact h
theorem np_zero {C : Addr} {H : Hp} {a : Addr} {t b : Int} {k : Nat} {Q : VK} (h : Np C H (.ref a) t b k) (q : Q (.bl (!decide (t = 0))) H) : rBoolO C (spBool C) [.ref a] H Q := by
  obtain ⟨N, D, h, e⟩ := h.ref
  obtain ⟨dx, h1⟩ := id h
  refine ⟨a, dx, _, rfl, h1, a, N, D, rfl, h, _, rfl, ?_⟩
  have z : decide (N = 0) = decide (t = 0) := by
    have a := e.eq
    have p := e.pos
    have r := e.low.1
    refine decide_eq_decide.mpr ⟨fun z => ?_, fun z => ?_⟩
    · rw [z, Int.zero_mul] at a
      rcases Int.mul_eq_zero.mp a.symm with y | y
      · exact y
      · omega
    · rw [z, Int.zero_mul] at a
      rcases Int.mul_eq_zero.mp a with y | y
      · exact y
      · omega
  rw [z]
  exact q
theorem sign_mul (u : Int) : u.sign * u = (u.natAbs : Int) := by
  rcases (by omega : u < 0 ∨ u = 0 ∨ 0 < u) with z | z | z
  · rw [Int.sign_eq_neg_one_of_neg z]; omega
  · subst z; rfl
  · rw [Int.sign_eq_one_of_pos z]; omega
theorem of_bnot {t : Int} (h : (!decide (t = 0)) = true) : t ≠ 0 := fun e => by rw [decide_eq_true e] at h; cases h
theorem p_met {m : Str} {H : Hp} {t b : Int} {k : Nat} {a : Addr} {R : Prop} (h1 : ¬ m = "_top") (h2 : ¬ m = "_bottom") (hx : Np C H (.ref a) t b k) (h : R) : ∃ a' dx fs, V.ref a = .ref a' ∧ H a' = some (.ins C dx fs) ∧ fs.lookup m = none ∧ R := by
  obtain ⟨N, D, ⟨dx, e⟩, _⟩ := hx.ref
  exact ⟨a, dx, _, rfl, e, rf_no _ _ h1 h2, h⟩
theorem p_div {H : Hp} {Q : VK} {E : XK} {a : Addr} {y : V} {t b u v : Int} {k l : Nat} (hx : Np C H (.ref a) t b k) (hy : Np C H y u v l) (u0 : u ≠ 0) (hk : k ≤ 1000) (hl : l ≤ 1000) (q : ∀ q H', Np C H' (.ref q) (t * v * u.sign) (b * (u.natAbs : Int)) (k + l + 1) → Same H H' → Q (.ref q) H') : spDiv C (.ref a :: ([y] ++ [])) H Q E := ⟨a, y, t, b, u, v, k, l, rfl, hx, hy, u0, hk, hl, q⟩
theorem p_mid {H : Hp} {Q : VK} {E : XK} {x y : V} {t b u v : Int} {k l : Nat} (hx : Np C H x t b k) (hy : Np C H y u v l) (hk : k ≤ 400) (hl : l ≤ 400) (q : ∀ q H', Np C H' (.ref q) (t * v + u * b) (b * v * 2) (k + l + 4) → Same H H' → Q (.ref q) H') : spMid C [x, y] H Q E := ⟨x, y, t, b, u, v, k, l, rfl, hx, hy, hk, hl, q⟩
section
variable {X : Cx} {j k k' : Nat} {sp sp' : Sp} {mg : Str → Option Value}
theorem op_ltU (T : RatF X.K mg C) (c : OwnM X.prog X.w X.K X.mg X.base k C "__lt__" sp) (c' : OwnM X.prog X.w X.K X.mg X.base k' C "__gt__" sp') (h : k ≤ j) (h' : k' ≤ j) (hr : Room j X.A) : OpR X (compareOp .Lt) (rCmp C sp sp') := ((op_own (m := "__lt__") (fun _ _ => rfl) c rfl h hr T.ap).or (op_ownR (m := "__gt__") (fun _ _ => rfl) c' rfl h' hr T.sI PySem.F.slot_int_lt PySem.F.entry_int_lt (fun a b => PySem.F.args_int_lt_2 a b) int_lt_ref))
theorem op_lteU (T : RatF X.K mg C) (c : OwnM X.prog X.w X.K X.mg X.base k C "__le__" sp) (c' : OwnM X.prog X.w X.K X.mg X.base k' C "__ge__" sp') (h : k ≤ j) (h' : k' ≤ j) (hr : Room j X.A) : OpR X (compareOp .LtE) (rCmp C sp sp') := ((op_own (m := "__le__") (fun _ _ => rfl) c rfl h hr T.ap).or (op_ownR (m := "__ge__") (fun _ _ => rfl) c' rfl h' hr T.sI PySem.F.slot_int_le PySem.F.entry_int_le (fun a b => PySem.F.args_int_le_2 a b) int_le_ref))
theorem op_gtU (T : RatF X.K mg C) (c : OwnM X.prog X.w X.K X.mg X.base k C "__gt__" sp) (c' : OwnM X.prog X.w X.K X.mg X.base k' C "__lt__" sp') (h : k ≤ j) (h' : k' ≤ j) (hr : Room j X.A) : OpR X (compareOp .Gt) (rCmp C sp sp') := ((op_own (m := "__gt__") (fun _ _ => rfl) c rfl h hr T.ap).or (op_ownR (m := "__lt__") (fun _ _ => rfl) c' rfl h' hr T.sI PySem.F.slot_int_gt PySem.F.entry_int_gt (fun a b => PySem.F.args_int_gt_2 a b) int_gt_ref))
theorem op_gteU (T : RatF X.K mg C) (c : OwnM X.prog X.w X.K X.mg X.base k C "__ge__" sp) (c' : OwnM X.prog X.w X.K X.mg X.base k' C "__le__" sp') (h : k ≤ j) (h' : k' ≤ j) (hr : Room j X.A) : OpR X (compareOp .GtE) (rCmp C sp sp') := ((op_own (m := "__ge__") (fun _ _ => rfl) c rfl h hr T.ap).or (op_ownR (m := "__le__") (fun _ _ => rfl) c' rfl h' hr T.sI PySem.F.slot_int_ge PySem.F.entry_int_ge (fun a b => PySem.F.args_int_ge_2 a b) int_ge_ref))
theorem op_eqU (T : RatF X.K mg C) (c : OwnM X.prog X.w X.K X.mg X.base k C "__eq__" sp) (c' : OwnM X.prog X.w X.K X.mg X.base k' C "__eq__" sp') (h : k ≤ j) (h' : k' ≤ j) (hr : Room j X.A) : OpR X (compareOp .Eq) (rEU X.K C sp sp') := ((op_own (m := "__eq__") (fun _ _ => rfl) c rfl h hr T.ap).or (op_ownR (m := "__eq__") (fun _ _ => rfl) c' rfl h' hr T.sI PySem.F.slot_int_eq PySem.F.entry_int_eq (fun a b => PySem.F.args_int_eq_2 a b) int_eq_ref)).or (op_eqX hr.units)
theorem op_noteqU (T : RatF X.K mg C) (c : OwnM X.prog X.w X.K X.mg X.base k C "__ne__" sp) (c' : OwnM X.prog X.w X.K X.mg X.base k' C "__ne__" sp') (h : k ≤ j) (h' : k' ≤ j) (hr : Room j X.A) : OpR X (compareOp .NotEq) (rNU X.K C sp sp') := ((op_own (m := "__ne__") (fun _ _ => rfl) c rfl h hr T.ap).or (op_ownR (m := "__ne__") (fun _ _ => rfl) c' rfl h' hr T.sI PySem.F.slot_int_ne PySem.F.entry_int_ne (fun a b => PySem.F.args_int_ne_2 a b) int_ne_ref)).or (op_neX hr.units)
theorem op_addU (T : RatF X.K mg C) (c : OwnM X.prog X.w X.K X.mg X.base k C "__add__" sp) (c' : OwnM X.prog X.w X.K X.mg X.base k' C "__radd__" sp') (h : k ≤ j) (h' : k' ≤ j) (hr : Room j X.A) : OpR X (binaryOp .Add) (rArU C sp sp') := (op_bb (nm := "add") rfl T.b_add c rfl h hr).or ((op_bi (nm := "add") rfl T.b_add c rfl h hr).or (op_br (nm := "add") rfl T.b_add c rfl c' rfl h' hr PySem.F.slot_int_add PySem.F.entry_int_add (fun a b => PySem.F.args_int_add_2 a b) int_add_ref))
theorem op_subU (T : RatF X.K mg C) (c : OwnM X.prog X.w X.K X.mg X.base k C "__sub__" sp) (c' : OwnM X.prog X.w X.K X.mg X.base k' C "__rsub__" sp') (h : k ≤ j) (h' : k' ≤ j) (hr : Room j X.A) : OpR X (binaryOp .Sub) (rArU C sp sp') := (op_bb (nm := "sub") rfl T.b_sub c rfl h hr).or ((op_bi (nm := "sub") rfl T.b_sub c rfl h hr).or (op_br (nm := "sub") rfl T.b_sub c rfl c' rfl h' hr PySem.F.slot_int_sub PySem.F.entry_int_sub (fun a b => PySem.F.args_int_sub_2 a b) int_sub_ref))
theorem op_multU (T : RatF X.K mg C) (c : OwnM X.prog X.w X.K X.mg X.base k C "__mul__" sp) (c' : OwnM X.prog X.w X.K X.mg X.base k' C "__rmul__" sp') (h : k ≤ j) (h' : k' ≤ j) (hr : Room j X.A) : OpR X (binaryOp .Mult) (rArU C sp sp') := (op_bb (nm := "mul") rfl T.b_mul c rfl h hr).or ((op_bi (nm := "mul") rfl T.b_mul c rfl h hr).or (op_br (nm := "mul") rfl T.b_mul c rfl c' rfl h' hr PySem.F.slot_int_mul PySem.F.entry_int_mul (fun a b => PySem.F.args_int_mul_2 a b) int_mul_ref))
end
end
end Pk

namespace Pk
open PySem PySem.Spec PyProof.Rows L2
local macro_rules | `(tactic| walk_at "sz") => `(tactic| first | assumption | decide +kernel | exact Nat.le_trans (Nat.le_of_ble_eq_true rfl) (show 100000 ≤ sizeLine by decide) | exact Nat.le_trans (by omega) (show 100000 ≤ sizeLine by decide) | (show _ ≤ sizeLine; exact Nat.le_trans (by (simp only [List.length_append, List.length_map, List.length_cons, List.length_nil]; omega)) (show 100000 ≤ sizeLine by decide)))
local macro_rules | `(tactic| walk_at "mul") => `(tactic| first | exact Or.inl (Or.inl ⟨by omega, by omega⟩) | exact Or.inl (Or.inr ⟨by omega, by omega⟩))
local macro_rules | `(tactic| walk_at "ci") => `(tactic| first | assumption | exact (by decide : (0 : Int) < _) | (show (0 : Int) < _; omega) | exact ⟨by assumption, by assumption⟩ | exact ⟨by decide, by decide⟩ | exact ⟨by decide, by decide, by omega⟩)
local macro_rules | `(tactic| walk_at "lk") => `(tactic| first | assumption | exact upd_same | ((refine Eq.trans (upd_ne (by first | assumption | exact Ne.symm (by assumption))) ?_); walk_at "lk") | exact Same.get (by assumption) (by walk_at "lk") | exact Keep.get (by assumption) (by walk_at "lk") (by assumption) (by assumption))
local macro_rules | `(tactic| walk_at "sq") => `(tactic| first | assumption | exact SqL.of (by walk_at "lk") | exact Same.seq (by assumption) (by walk_at "sq"))
local macro_rules | `(tactic| walk_at "stt") => `(tactic| exact SqT.of (by walk_at "lk"))
local macro_rules | `(tactic| walk_at "kd") => `(tactic| first | assumption | exact Kd.str _ (by first | assumption | omega | decide) | exact Kd.bl _ | exact Kd.int _ | exact Kd.non | exact Kd.lst (by walk_at "lk") | exact Kd.tup (by walk_at "lk") | exact Kd.dct (by walk_at "lk") | exact Kd.same (by assumption) (by walk_at "kd"))
local macro_rules | `(tactic| walk_at "sm") => `(tactic| first | assumption | exact Same.refl _ | (refine Same.trans ?_ (by assumption); walk_at "sm"))
local macro_rules | `(tactic| walk_at "st") => `(tactic| first
  | with_reducible refine i_seq ?_ | with_reducible refine i_asg ?_ | with_reducible refine i_ret ?_ | with_reducible refine i_op ?_
  | ((with_reducible show tVar _ _ _ _); refine i_var rfl ?_)
  | with_reducible refine i_c ?_ | with_reducible refine i_cb ?_ | with_reducible refine i_call ?_ | with_reducible refine i_cons ?_ | with_reducible refine i_nil ?_
  | with_reducible refine i_name ?_ | with_reducible refine i_sub ?_ | with_reducible refine i_drop ?_ | with_reducible refine i_ifs ?_ | with_reducible refine i_ife ?_
  | with_reducible refine i_test ?_ | with_reducible refine i_tru ?_ | with_reducible refine i_and ?_ | with_reducible refine i_or ?_ | with_reducible refine i_not ?_
  | with_reducible refine i_andV ?_ | with_reducible refine i_orV ?_ | with_reducible refine i_notV ?_ | with_reducible refine i_un ?_
  | with_reducible refine i_bl ?_ | with_reducible refine i_trB ?_ | with_reducible refine i_next ?_
  | with_reducible refine iteF ?_ | with_reducible refine iteT ?_
  | with_reducible refine i_lstF ?_ | with_reducible refine i_tupF ?_
  | with_reducible refine p_addI ?_ | with_reducible refine p_I0 ?_ | with_reducible refine p_U ?_
  | with_reducible refine p_ltI ?_ | with_reducible refine p_leI ?_ | with_reducible refine p_gtI ?_ | with_reducible refine p_geI ?_
  | with_reducible refine p_ltS ?_ | with_reducible refine p_leS ?_ | with_reducible refine p_gtS ?_
  | with_reducible refine p_eqI ?_ | with_reducible refine p_neI ?_ | with_reducible refine p_int ?_
  | ((with_reducible show rMuXX (V.int _) (V.int _) _ _); refine p_muI (by walk_at "mul") ?_)
  | ((with_reducible show rI _ _ (V.int _) (V.int _) _ _); refine p_I (by walk_at "ci") ?_)
  | ((with_reducible show rIx _ (V.ref _) (V.int _) _ _); (first | refine p_ixL (by walk_at "sq") (by first | exact rfl | assumption) ?_ | refine p_ixT (SqT.of (by walk_at "lk")) (by first | exact rfl | assumption) ?_))
  | ((with_reducible show rSetL (V.ref _) (V.int _) _ _ _); refine p_setL (by walk_at "lk") (by first | exact rfl | assumption) ?_)
  | ((with_reducible show rLenX _ [V.ref _] _ _); (first | refine p_lenL (by walk_at "sq") ?_ | refine p_lenT (SqT.of (by walk_at "lk")) ?_))
  | ((with_reducible show rLenX _ [V.str _] _ _); refine p_lenS (by walk_at "sz") ?_)
  | with_reducible refine i_lc ?_ | with_reducible refine i_for ?_ | with_reducible refine i_itl ?_ | with_reducible refine i_itt ?_ | with_reducible refine i_itr ?_ | with_reducible refine i_its ?_
  | ((with_reducible show ∃ _, V.ref _ = V.ref _ ∧ (∃ _, SqL _ _ _ _) ∧ _); refine p_itl (by walk_at "sq") ?_)
  | ((with_reducible show ∃ _, V.ref _ = V.ref _ ∧ (∃ _, SqT _ _ _ _) ∧ _); refine p_itt (by walk_at "stt") ?_) | with_reducible refine p_its ?_
  | ((with_reducible show ∃ _, [V.int _] = [V.int _] ∧ _); refine p_itr (by omega) (by omega) ?_)
  | with_reducible refine i_sl ?_ | with_reducible refine i_np ?_ | with_reducible refine i_pt ?_ | with_reducible refine i_in ?_
  | ((with_reducible show rSlXX _ (V.ref _) _ _ _ _); refine p_slL (by walk_at "sq") ?_; intro _ _ _ _ _)
  | ((with_reducible show rSlXX _ (V.str _) _ _ _ _); refine p_slS (by walk_at "sz") ?_)
  | ((with_reducible show rIsi _ [_, V.ty "str"] _ _); refine p_isStr (by walk_at "kd") ?_)
  | ((with_reducible show rIsi _ [_, V.ty "int"] _ _); refine p_isInt (by walk_at "kd") ?_)
  | ((with_reducible show rIsi _ [_, V.ty "bool"] _ _); refine p_isBool (by walk_at "kd") ?_)
  | ((with_reducible show rIsiT _ [_, V.ref _] _ _); refine p_isLT (by walk_at "lk") (by walk_at "kd") ?_)
  | with_reducible refine i_chain ?_ | with_reducible refine i_m1 ?_ | with_reducible refine i_m0 ?_ | with_reducible refine i_str ?_
  | ((with_reducible show LstK _ _ _); refine p_lstK (by walk_at "sz") ?_; intro _ _ _ _ _)
  | ((with_reducible show TupK _ _ _); refine p_tupK (by walk_at "sz") ?_; intro _ _ _ _ _)
  | ((with_reducible show (if _ = true then _ else _)); (first | refine ifT' (by first | assumption | exact rfl) ?_ | refine ifF' (by first | assumption | exact rfl) ?_))
  | ((with_reducible show rEqX _ (V.bl _) (V.bl _) _ _); refine p_eqS rfl ?_) | ((with_reducible show rNeX _ (V.bl _) (V.bl _) _ _); refine p_neS rfl ?_)
  | ((with_reducible show rEqX _ (V.ref _) (V.ref _) _ _); refine p_eqNil (by walk_at "lk") (by walk_at "lk") ?_) | ((with_reducible show rNeX _ (V.ref _) (V.ref _) _ _); refine p_neNil (by walk_at "lk") (by walk_at "lk") ?_)
  | ((with_reducible show rAddX _ (V.str _) (V.str _) _ _); refine p_addS (by walk_at "sz") ?_)
  | ((with_reducible show rMuXX (V.str _) (V.int _) _ _); refine p_muS ⟨by decide +kernel, by decide +kernel, by decide +kernel⟩ ?_)
  | ((with_reducible show tDNewK _ _ _); refine i_dnew ?_; intro _ _ _ _ _)
  | ((with_reducible show rTupX _ [V.ref _] _ _); refine p_tupL (by walk_at "sq") ?_; intro _ _ _ _ _)
  | ((with_reducible show rAddX _ (V.ref _) (V.ref _) _ _); refine p_addL (by walk_at "lk") (by walk_at "lk") (by walk_at "sz") ?_; intro _ _ _ _ _)
  | with_reducible refine p_notB ?_ | with_reducible refine p_isB ?_)
local macro_rules | `(tactic| walk_at "go") => `(tactic| (walk_at "st"; (repeat walk_at "st")))

local macro_rules | `(tactic| walk_at "rx") => `(tactic| first
  | with_reducible refine i_par ?_ | ((with_reducible show ∃ _ _, [_, _] = [_, _] ∧ _); refine ⟨_, _, rfl, ?_⟩) | ((with_reducible show ∃ _, [V.int _] = [V.int _] ∧ _); refine ⟨_, rfl, ?_⟩)
  | with_reducible refine i_sfl ?_ | with_reducible refine i_mk ?_ | with_reducible refine i_pr ?_ | with_reducible refine i_fl ?_
  | ((with_reducible show FlK _ _ _ (V.ref _) _); first | refine p_flT (by assumption) (by assumption) ?_ | refine p_flB (by assumption) (by assumption) ?_)
  | ((with_reducible show rIsi _ [V.ref _, V.ref _] _ _); refine p_isR (by assumption) (by assumption) ?_)
  | ((with_reducible show rIsi _ [V.ref _, V.ty "int"] _ _); refine p_isRi (by assumption) (by assumption) ?_)
  | ((with_reducible show rIsi _ [_, V.ref _] _ _); refine p_isRn (by assumption) (by walk_at "kd") ?_)
  | ((with_reducible show rMuXX (V.int _) (V.int _) _ _); refine p_muI (Or.inr (by assumption)) ?_)
  | ((with_reducible show rGcd [V.int _, V.int _] _ _); refine ⟨_, _, rfl, ?_⟩)
  | ((with_reducible show PrK _ _ _ (V.ref _) _); first | refine p_prT (by assumption) ?_ | refine p_prB (by assumption) ?_))
local macro_rules | `(tactic| walk_at "gr") => `(tactic| repeat (first | walk_at "st" | walk_at "rx"))

local macro_rules | `(tactic| walk_at "np") => `(tactic| first | assumption | exact Np.same (by assumption) (by walk_at "np"))
local macro_rules | `(tactic| walk_at "nx") => `(tactic| first
  | ((with_reducible show rBoolO _ (spBool _) [V.ref _] _ _); (apply np_zero; (walk_at "np")))
  | ((with_reducible show ∃ _ _ _, V.ref _ = V.ref _ ∧ _ ∧ _ ∧ _); (apply p_met (by decide +kernel) (by decide +kernel); (walk_at "np")))
  | ((with_reducible show spDiv _ _ _ _ _); (apply p_div; (walk_at "np"); (walk_at "np"); assumption; decide; decide); intro _ _ _ _)
  | ((with_reducible show spMid _ _ _ _ _); (apply p_mid; (walk_at "np"); (walk_at "np"); decide; decide); intro _ _ _ _)
  | with_reducible refine i_bm ?_ | ((with_reducible show V.ref _ = V.ref _ ∧ _); refine ⟨rfl, ?_⟩)
  | with_reducible refine i_mt ?_ | with_reducible refine i_stat ?_
  | ((with_reducible show rArU _ _ _ (V.ref _) (V.ref _) _ _); (apply p_arBB; (walk_at "np"); (walk_at "np"); decide; decide); intro _ _ _ _)
  | ((with_reducible show rArU _ _ _ (V.ref _) (V.int _) _ _); (apply p_arBI; (walk_at "np"); (walk_at "np"); decide; decide); intro _ _ _ _)
  | ((with_reducible show rArU _ (Ar _ tAdd _) _ (V.int _) (V.ref _) _ _); (apply p_addIB; (walk_at "np"); (walk_at "np"); decide; decide); intro _ _ _ _)
  | ((with_reducible show rArU _ (Ar _ tSub _) _ (V.int _) (V.ref _) _ _); (apply p_subIB; (walk_at "np"); (walk_at "np"); decide; decide); intro _ _ _ _)
  | ((with_reducible show rArU _ (Ar _ tMul _) _ (V.int _) (V.ref _) _ _); (apply p_mulIB; (walk_at "np"); (walk_at "np"); decide; decide); intro _ _ _ _)
  | ((with_reducible show rNegO _ (Un1 _ _) (V.ref _) _ _); (apply p_neg; (walk_at "np"); decide); intro _ _ _ _)
  | ((with_reducible show rAbsO _ (Un1 _ _) _ _ _); (apply p_absN; (walk_at "np"); decide); intro _ _ _ _)
  | ((with_reducible show rCmp _ (Rel4 fLt _) _ _ _ _ _); (apply p_ltN; (walk_at "np"); (walk_at "np"); (walk_at "one"); decide; decide); intro _ _)
  | ((with_reducible show rCmp _ (Rel4 fLe _) _ _ _ _ _); (apply p_leN; (walk_at "np"); (walk_at "np"); (walk_at "one"); decide; decide); intro _ _)
  | ((with_reducible show rCmp _ (Rel4 fGt _) _ _ _ _ _); (apply p_gtN; (walk_at "np"); (walk_at "np"); (walk_at "one"); decide; decide); intro _ _)
  | ((with_reducible show rCmp _ (Rel4 fGe _) _ _ _ _ _); (apply p_geN; (walk_at "np"); (walk_at "np"); (walk_at "one"); decide; decide); intro _ _)
  | ((with_reducible show rEU _ _ _ _ _ _ _ _); (first | (apply p_eqN; (walk_at "np"); (walk_at "np"); (walk_at "one")) | (refine .inr (p_eqI ?_)) | (refine .inr (p_eqS rfl ?_))))
  | ((with_reducible show rNU _ _ _ _ _ _ _ _); (first | (apply p_neN; (walk_at "np"); (walk_at "np"); (walk_at "one")) | (refine .inr (p_neI ?_)) | (refine .inr (p_neS rfl ?_)))))
local macro_rules | `(tactic| walk_at "one") => `(tactic| first | exact .inl ⟨_, rfl⟩ | exact .inr ⟨_, rfl⟩)
local macro_rules | `(tactic| walk_at "gn") => `(tactic| repeat (first | walk_at "st" | walk_at "rx" | walk_at "nx"))

abbrev s__law_pool : Stmt := top 12
abbrev N__law_pool : List Str := ["script", "numbers", "seed", "cell"]
theorem sc__law_pool : FnScope ["script", "numbers", "seed", "cell"] ["script"] (defScope s__law_pool) := ⟨rfl, rfl, rfl, by decide +kernel, rfl, by decide +kernel, by decide +kernel⟩
abbrev s__law_mixed : Stmt := top 13
abbrev N__law_mixed : List Str := ["number", "count", "many"]
theorem sc__law_mixed : FnScope ["number", "count", "many"] ["number", "count", "many"] (defScope s__law_mixed) := ⟨rfl, rfl, rfl, by decide +kernel, rfl, by decide +kernel, by decide +kernel⟩
abbrev s__law_draw : Stmt := top 14
abbrev N__law_draw : List Str := ["pool", "many", "at", "numbers", "cell"]
theorem sc__law_draw : FnScope ["pool", "many", "at", "numbers", "cell"] ["pool", "many"] (defScope s__law_draw) := ⟨rfl, rfl, rfl, by decide +kernel, rfl, by decide +kernel, by decide +kernel⟩
abbrev s__law_integer : Stmt := top 15
abbrev N__law_integer : List Str := ["pool", "size"]
theorem sc__law_integer : FnScope ["pool", "size"] ["pool"] (defScope s__law_integer) := ⟨rfl, rfl, rfl, by decide +kernel, rfl, by decide +kernel, by decide +kernel⟩
abbrev s__law_pair : Stmt := top 16
abbrev N__law_pair : List Str := ["pool", "times", "upper", "lower"]
theorem sc__law_pair : FnScope ["pool", "times", "upper", "lower"] ["pool"] (defScope s__law_pair) := ⟨rfl, rfl, rfl, by decide +kernel, rfl, by decide +kernel, by decide +kernel⟩
abbrev s__law_ring : Stmt := top 17
abbrev N__law_ring : List Str := ["a", "b", "c"]
theorem sc__law_ring : FnScope ["a", "b", "c"] ["a", "b", "c"] (defScope s__law_ring) := ⟨rfl, rfl, rfl, by decide +kernel, rfl, by decide +kernel, by decide +kernel⟩
abbrev s__law_order : Stmt := top 18
abbrev N__law_order : List Str := ["a", "b", "c", "half"]
theorem sc__law_order : FnScope ["a", "b", "c", "half"] ["a", "b", "c"] (defScope s__law_order) := ⟨rfl, rfl, rfl, by decide +kernel, rfl, by decide +kernel, by decide +kernel⟩
abbrev s_law : Stmt := top 19
abbrev N_law : List Str := ["script", "pool", "k", "pairs", "number", "whole", "a", "b", "c", "one", "other", "third", "pair"]
theorem sc_law : FnScope ["script", "pool", "k", "pairs", "number", "whole", "a", "b", "c", "one", "other", "third", "pair"] ["script"] (defScope s_law) := ⟨rfl, rfl, rfl, by decide +kernel, rfl, by decide +kernel, by decide +kernel⟩
structure Tx (K : PySem.W.Frag) (mg : Str → Option Value) (C : Addr) : Prop where
  R : RatF K mg C
  n_int : mg "int" = none
  n_len : mg "len" = none
  n_abs : mg "abs" = none
  n_bool : mg "bool" = none
  n_range : mg "range" = none
  d_pool : DefAt K mg "_law_pool" s__law_pool
  d_mixed : DefAt K mg "_law_mixed" s__law_mixed
  d_draw : DefAt K mg "_law_draw" s__law_draw
  d_integer : DefAt K mg "_law_integer" s__law_integer
  d_pair : DefAt K mg "_law_pair" s__law_pair
  d_ring : DefAt K mg "_law_ring" s__law_ring
  d_order : DefAt K mg "_law_order" s__law_order
  d_law : DefAt K mg "law" s_law
theorem Tx.v_Ratio {K : PySem.W.Frag} {mg : Str → Option Value} {C : Addr} (T : Tx K mg C) : ∃ u, mg "Ratio" = some u ∧ RelV (.ref C) u := T.R.v_Ratio
section
variable {P : Program} {w : World} {K : PySem.W.Frag} {mg : Str → Option Value} {base : Heap} {C : Addr}
def spMixed : Sp := fun vs H Q _ => ∃ (a c m : Int), vs = [.int a, .int c, .int m] ∧ 0 ≤ a ∧ a < 2147483647 ∧ 0 ≤ c ∧ c < 2 ^ 50 ∧ 0 < m ∧ ∀ r : Int, 0 ≤ r → r < m → Q (.int r) H
theorem c__law_mixed (T : Tx K mg C) : Cal P w K mg base CX0 1 "_law_mixed" spMixed := by
  refine cal0 T.d_mixed sc__law_mixed (fun _ _ _ _ _ _ us hl => match us, hl with | [_, _, _], _ => rfl) (fun vs H Q E h => ?_) (fun f cdv A outer s H vs Q E hr h => ?_)
  · obtain ⟨a, c, m, rfl, _⟩ := h
    rfl
  · obtain ⟨a, c, m, rfl, h1, h2, h3, h4, h5, k⟩ := h
    refine ⟨_, (pss_one (ps_ret (pe_op op_mod (pe_op op_fdX (pe_callTy call_intX (by rfl) T.n_int (by decide +kernel) (pa_cons (pe_op op_mod (pe_op op_pow (pe_callTy call_intX (by rfl) T.n_int (by decide +kernel) (pa_cons (pe_op (r := rAddX K) op_addX (pv 0) (pe_op op_muX pe_int (pv 1))) pa_nil)) pe_int) pe_int) pa_nil)) pe_int) (pv 2)))), ?_⟩
    walk_at "go"
    exact k _ (Int.emod_nonneg _ (by omega)) (Int.emod_lt_of_pos _ h5)
def spDraw : Sp := fun vs H Q _ => ∃ (p n : Addr) (m k : Int), vs = [.ref p, .int m] ∧ PoolAt H p n k ∧ 0 ≤ k ∧ k < 1000000000 ∧ 0 < m ∧ m.natAbs.log2 < 9000 ∧ ∀ (r : Int) (H' : Hp), 0 ≤ r → r < m → PoolAt H' p n (k + 1) → Keep p n H H' → Q (.int r) H'
theorem c__law_draw (T : Tx K mg C) : Cal P w K mg base CX0 2 "_law_draw" spDraw := by
  have c__law_mixed : Cal P w K mg base CX0 1 "_law_mixed" spMixed := c__law_mixed T
  refine cal0 T.d_draw sc__law_draw (fun _ _ _ _ _ _ us hl => match us, hl with | [_, _], _ => rfl) (fun vs H Q E h => ?_) (fun f cdv A outer s H vs Q E hr h => ?_)
  · obtain ⟨p, n, m, k, rfl, _⟩ := h
    rfl
  · obtain ⟨p, n, m, k, rfl, ⟨ns, a, c, z, st, hp, hn, h1, h2, h3, h4, h5⟩, h6, h7, h8, h9, q⟩ := h
    have npn : p ≠ n := ne_of hp hn (fun e => by cases ns <;> simp at e)
    refine ⟨_, (pss_cons (ps_asg (pe_op (r := rAddX K) op_addX (pe_ix (r := rIx K) ix_seq (pv 0) pe_int (fun _ _ => rfl)) pe_int) (pg_sub (pv 0) pe_int set_list))
      (pss_cons (ps_if (pt_cmpR op_geX (pe_ix (r := rIx K) ix_seq (pv 0) pe_int (fun _ _ => rfl)) (pe_callB (r := rLenX K) call_lenX (by rfl) T.n_len (by decide +kernel) (pa_cons (pe_ix (r := rIx K) ix_seq (pv 0) pe_int (fun _ _ => rfl)) pa_nil)) (nomark _)) (pss_one (ps_ret (pe_c c__law_mixed hr (by decide) (by rfl) pass0 (pa_cons (pe_ix (r := rIx K) ix_seq (pv 0) pe_int (fun _ _ => rfl)) (pa_cons (pe_ix (r := rIx K) ix_seq (pv 0) pe_int (fun _ _ => rfl)) (pa_cons (pv 1) pa_nil)))))) pss_nil)
      (pss_cons (ps_set (i := 2) sc__law_draw.nd rfl (by first | exact Or.inl rfl | exact Or.inr rfl) (pe_ix (r := rIx K) ix_seq (pv 0) pe_int (fun _ _ => rfl)))
      (pss_cons (ps_set (i := 3) sc__law_draw.nd rfl (by first | exact Or.inl rfl | exact Or.inr rfl) (pe_ix (r := rIx K) ix_seq (pv 0) pe_int (fun _ _ => rfl)))
      (pss_cons (ps_set (i := 4) sc__law_draw.nd rfl (by first | exact Or.inl rfl | exact Or.inr rfl) (pe_ix (r := rIx K) ix_seq (pv 3) (pv 2) (fun _ _ => rfl)))
      (pss_cons (ps_if (PW.pt (pw_and (pt_cmpR (r := rNeX K) (op_neX hr.units) (pe_ix (r := rIx K) ix_seq (pv 0) pe_int (fun _ _ => rfl)) pe_int (nomark _)) (pw_and1 (pt_cmpR op_ltX (pv 4) (pe_op op_pow pe_int pe_int) (nomark _))))) (pss_cons (ps_asg (pe_op (r := rAddX K) op_addX (pe_ix (r := rIx K) ix_seq (pv 0) pe_int (fun _ _ => rfl)) pe_int) (pg_sub (pv 0) pe_int set_list))
      (pss_cons (ps_if (pt_cmpR (r := rEqX K) (op_eqX hr.units) (pe_ix (r := rIx K) ix_seq (pv 0) pe_int (fun _ _ => rfl)) pe_int (nomark _)) (pss_cons (ps_asg (pe_op (r := rAddX K) op_addX (pv 2) pe_int) (pg_sub (pv 0) pe_int set_list))
      (pss_one (ps_asg pe_int (pg_sub (pv 0) pe_int set_list)))) pss_nil)
      (pss_one (ps_ret (pe_c c__law_mixed hr (by decide) (by rfl) pass0 (pa_cons (pe_op op_mod (pe_callTy call_intX (by rfl) T.n_int (by decide +kernel) (pa_cons (pv 4) pa_nil)) pe_int) (pa_cons (pe_ix (r := rIx K) ix_seq (pv 0) pe_int (fun _ _ => rfl)) (pa_cons (pv 1) pa_nil)))))))) pss_nil)
      (pss_cons (ps_asg pe_int (pg_sub (pv 0) pe_int set_list))
      (pss_cons (ps_asg (pe_op op_fdX (pe_callTy call_intX (by rfl) T.n_int (by decide +kernel) (pa_cons (pv 4) pa_nil)) (pv 1)) (pg_sub (pv 3) (pv 2) set_list))
      (pss_cons (ps_if (pt_cmpR (r := rEqX K) (op_eqX hr.units) (pe_ix (r := rIx K) ix_seq (pv 3) (pv 2) (fun _ _ => rfl)) pe_int (nomark _)) (pss_cons (ps_asg (pe_op (r := rAddX K) op_addX (pv 2) pe_int) (pg_sub (pv 0) pe_int set_list))
      (pss_one (ps_asg pe_int (pg_sub (pv 0) pe_int set_list)))) pss_nil)
      (pss_one (ps_ret (pe_op op_mod (pe_callTy call_intX (by rfl) T.n_int (by decide +kernel) (pa_cons (pv 4) pa_nil)) (pv 1))))))))))))), ?_⟩
    walk_at "go"
    have kp : ∀ {H' : Hp}, (∀ b : Addr, b ≠ p → b ≠ n → H' b = H b) → Keep p n H H' := fun {H'} h b o e x y => (h b x y).trans e
    refine ift (fun hc => ?_) (fun hc => ?_)
    · walk_at "go"
      refine ⟨z, c + 1, m, rfl, h4, h5, by omega, by omega, h8, fun r r0 r1 => q r _ r0 r1 ⟨ns, a, c + 1, z, st, by walk_at "lk", by walk_at "lk", h1, by omega, by omega, h4, h5⟩ (kp fun b x y => ?_)⟩
      simp only [upd_ne x]
    · have ha : a.toNat < ns.length := by
        have e := of_decide_eq_false hc
        rw [List.length_map] at e
        omega
      have hx : atI (ns.map V.int) a = some (V.int ns[a.toNat]) := at_of (j := a.toNat) (by omega) (by rw [List.getElem?_map, List.getElem?_eq_getElem ha]; rfl)
      generalize ns[a.toNat] = y at hx
      have hj : ixN (ns.map V.int).length a = some a.toNat := by
        unfold ixN
        rw [List.length_map, if_pos h1, if_pos (by omega)]
      have hx2 : atI ((ns.map V.int).set a.toNat (V.int (y / m))) a = some (V.int (y / m)) := at_of (j := a.toNat) (by omega) (List.getElem?_set_self (by rw [List.length_map]; exact ha))
      have es : (ns.map V.int).set a.toNat (V.int (y / m)) = (ns.set a.toNat (y / m)).map V.int := List.map_set.symm
      have y0 : 0 ≤ y % 2147483647 := Int.emod_nonneg _ (by decide)
      have y1 : y % 2147483647 < 2147483647 := Int.emod_lt_of_pos _ (by decide)
      have m0 : 0 ≤ y % m := Int.emod_nonneg _ (by omega)
      have m1 : y % m < m := Int.emod_lt_of_pos _ h8
      have hw : CDivW y m := ⟨h8, h9⟩
      walk_at "go"
      refine ift (fun hd => ?_) (fun hd => ?_)
      · walk_at "go"
        refine ift (fun he => ?_) (fun he => ?_)
        · walk_at "go"
          refine ift (fun hf => ?_) (fun hf => ?_)
          · walk_at "go"
            refine ⟨_, c + 1, m, rfl, y0, y1, by omega, by omega, h8, fun r r0 r1 => q r _ r0 r1 ⟨ns, a + 1, c + 1, z, 0, by walk_at "lk", by walk_at "lk", by omega, by omega, by omega, h4, h5⟩ (kp fun b x y => ?_)⟩
            simp only [upd_ne x]
          · walk_at "go"
            refine ⟨_, c + 1, m, rfl, y0, y1, by omega, by omega, h8, fun r r0 r1 => q r _ r0 r1 ⟨ns, a, c + 1, z, st + 1, by walk_at "lk", by walk_at "lk", by omega, by omega, by omega, h4, h5⟩ (kp fun b x y => ?_)⟩
            simp only [upd_ne x]
        · walk_at "go"
          refine ift (fun hf => ?_) (fun hf => ?_)
          · walk_at "go"
            refine q _ _ m0 m1 ⟨ns.set a.toNat (y / m), a + 1, c + 1, z, 0, by walk_at "lk", by rw [← es]; walk_at "lk", by omega, by omega, by omega, h4, h5⟩ (kp fun b x y => ?_)
            simp only [upd_ne x, upd_ne y]
          · walk_at "go"
            refine q _ _ m0 m1 ⟨ns.set a.toNat (y / m), a, c + 1, z, 2, by walk_at "lk", by rw [← es]; walk_at "lk", by omega, by omega, by omega, h4, h5⟩ (kp fun b x y => ?_)
            simp only [upd_ne x, upd_ne y]
      · walk_at "go"
        refine ift (fun hf => ?_) (fun hf => ?_)
        · walk_at "go"
          refine q _ _ m0 m1 ⟨ns.set a.toNat (y / m), a + 1, c + 1, z, 0, by walk_at "lk", by rw [← es]; walk_at "lk", by omega, by omega, by omega, h4, h5⟩ (kp fun b x y => ?_)
          simp only [upd_ne x, upd_ne y]
        · walk_at "go"
          refine q _ _ m0 m1 ⟨ns.set a.toNat (y / m), a, c + 1, z, 2, by walk_at "lk", by rw [← es]; walk_at "lk", by omega, by omega, by omega, h4, h5⟩ (kp fun b x y => ?_)
          simp only [upd_ne x, upd_ne y]
def spPool (K : PySem.W.Frag) : Sp := fun vs H Q _ => ∃ (a : Addr) (ns : List Int), vs = [.ref a] ∧ SqL K H a (ns.map V.int) ∧ ns.length ≤ 63 ∧ ∀ (p n : Addr) (H' : Hp), PoolAt H' p n 0 → Same H H' → H p = none → H n = none → Q (.ref p) H'
theorem c__law_pool (T : Tx K mg C) : Cal P w K mg base CX0 1 "_law_pool" (spPool K) := by
  refine cal0 T.d_pool sc__law_pool (fun _ _ _ _ _ _ us hl => match us, hl with | [_], _ => rfl) (fun vs H Q E h => ?_) (fun f cdv A outer s H vs Q E hr h => ?_)
  · obtain ⟨a, ns, rfl, _⟩ := h
    rfl
  · obtain ⟨a, ns, rfl, hS, hl, q⟩ := h
    refine ⟨_, (pss_cons (ps_setLc (i := 1) (own := [("cell", 3)]) (g := gName 3) (tt := tYes) rfl sc__law_pool.nd rfl rfl (sw_true rfl rfl rfl (by decide +kernel)) (pi_listK (K := K) rfl (pe_slice (r := rSlXX K) sl_X (pv 0) po_none (po_some pe_int))) (blkOk_by (N := N__law_pool) (sc := defScope s__law_pool) (by decide +kernel)) (fun _ _ _ _ _ => (pg_name (i := 3) sc__law_pool.nd rfl (by first | exact Or.inl rfl | exact Or.inr rfl))) (fun _ _ _ _ _ => pts_nil) (fun _ _ _ _ _ => (pe_callTy call_intX (by rfl) T.n_int (by decide +kernel) (pa_cons (pv 3) pa_nil))))
      (pss_cons (ps_set (i := 2) sc__law_pool.nd rfl (by first | exact Or.inl rfl | exact Or.inr rfl) pe_int)
      (pss_cons (ps_for PassesOwn.never rfl (pi_listK (K := K) rfl (pv 1)) (pg_name (i := 3) sc__law_pool.nd rfl (by first | exact Or.inl rfl | exact Or.inr rfl)) (pss_one (ps_set (i := 2) sc__law_pool.nd rfl (by first | exact Or.inl rfl | exact Or.inr rfl) (pe_op op_mod (pe_callTy call_intX (by rfl) T.n_int (by decide +kernel) (pa_cons (pe_op (r := rAddX K) op_addX (pe_op op_muX (pv 2) pe_int) (pv 3)) pa_nil)) pe_int))))
      (pss_one (ps_ret (pe_lst (pa_cons (pv 1) (pa_cons pe_int (pa_cons pe_int (pa_cons (pv 2) (pa_cons pe_int pa_nil))))))))))), ?_⟩
    walk_at "go"
    rename_i l H1 n1 s1 h1
    have e1 : cutV (ns.map V.int) none (some 63) = ns.map V.int := by
      rw [show (63 : Int) = ((63 : Nat) : Int) from rfl, cutV_to, List.take_of_length_le (by rw [List.length_map]; exact hl)]
    rw [e1] at h1
    refine lcw_fm (xs := ns.map V.int) (j := 3) wx_list (fun _ => true) (fun x => x) (fun H' s => SqL.of (s _ _ h1)) (by rw [List.length_map]; omega) (fun _ => rfl) (fun x _ H' R _ k => k H' (Same.refl H')) (fun x hx _ H' R _ k => ?_) (fun d H2 n2 s2 h2 => ?_)
    · obtain ⟨z, _, rfl⟩ := List.mem_map.mp hx
      walk_at "go"
      exact k H' (Same.refl H')
    · rw [show (((ns.map V.int).filter fun _ => true).map fun x => x) = ns.map V.int by simp] at h2
      walk_at "go"
      refine fow (xs := ns.map V.int) wx_list (fun i σ' H' => ∃ (z : Int) (v : Option V), σ' = [some (.ref a), some (.ref d), some (.int z), v] ∧ 0 ≤ z ∧ z < 2147483647 ∧ H' = H2) ⟨11, none, rfl, by decide, by decide, rfl⟩ (fun i σ' H' ⟨_, _, _, _, _, e⟩ => e ▸ SqL.of h2) (fun i x σ' H' hx ⟨z, v, es, z0, z1, eh⟩ => ?_) (fun σ' H' ⟨z, v, es, z0, z1, eh⟩ => ?_)
      · obtain ⟨y, _, rfl⟩ := List.mem_map.mp (List.mem_of_getElem? hx)
        subst es eh
        walk_at "go"
        exact ⟨_, _, rfl, Int.emod_nonneg _ (by decide), Int.emod_lt_of_pos _ (by decide), rfl⟩
      · subst es eh
        walk_at "go"
        rename_i p H3 n3 s3 h3
        exact q p d H3 ⟨ns, 0, 0, z, 0, h3, s3 _ _ h2, by decide, by decide, by decide, z0, z1⟩ (by walk_at "sm") (Same.free (by walk_at "sm") n3) (Same.free (by walk_at "sm") n2)
theorem log29 {z : Int} (h0 : 0 < z) (h : z ≤ 10 ^ 29) : z.natAbs.log2 < 9000 := Nat.lt_of_lt_of_le (PySem.Flt.log2_lt_of (k := 100) (by decide) (by
  have e : (10 : Int) ^ 29 < 2 ^ 100 := by decide
  have : z < 2 ^ 100 := by omega
  omega)) (by decide)
theorem mul29 {a y : Int} (h0 : 0 ≤ a) (h : a < 10 ^ 40) (hy : y = 1 ∨ y = -1) : CMulW a y := wide_mul (a := 200) (b := 10) (by
  have e : (10 : Int) ^ 40 < 2 ^ 200 := by decide
  omega) (by omega) (by decide) (by decide) (by decide)
def spInteger : Sp := fun vs H Q _ => ∃ (p n : Addr) (k : Int), vs = [.ref p] ∧ PoolAt H p n k ∧ 0 ≤ k ∧ k < 999999000 ∧ ∀ (r : Int) (H' : Hp), r.natAbs < 10 ^ 29 → PoolAt H' p n (k + 3) → Keep p n H H' → Q (.int r) H'
theorem c__law_integer (T : Tx K mg C) : Cal P w K mg base CX0 3 "_law_integer" spInteger := by
  have c__law_draw : Cal P w K mg base CX0 2 "_law_draw" spDraw := c__law_draw T
  refine cal0 T.d_integer sc__law_integer (fun _ _ _ _ _ _ us hl => match us, hl with | [_], _ => rfl) (fun vs H Q E h => ?_) (fun f cdv A outer s H vs Q E hr h => ?_)
  · obtain ⟨p, n, k, rfl, _⟩ := h
    rfl
  · obtain ⟨p, n, k, rfl, hp, k0, k1, q⟩ := h
    refine ⟨_, (pss_cons (ps_set (i := 1) sc__law_integer.nd rfl (by first | exact Or.inl rfl | exact Or.inr rfl) (pe_ix (r := rIx K) ix_seq (pe_lst (pa_cons pe_int (pa_cons pe_int (pa_cons pe_int (pa_cons (pe_op op_pow pe_int pe_int) pa_nil))))) (pe_c c__law_draw hr (by decide) (by rfl) pass0 (pa_cons (pv 0) (pa_cons pe_int pa_nil))) (fun _ _ => rfl)))
      (pss_one (ps_ret (pe_op op_muX (pe_c c__law_draw hr (by decide) (by rfl) pass0 (pa_cons (pv 0) (pa_cons (pv 1) pa_nil))) (pe_ix (r := rIx K) ix_seq (pe_lst (pa_cons pe_int (pa_cons (pe_un un_neg pe_int) pa_nil))) (pe_c c__law_draw hr (by decide) (by rfl) pass0 (pa_cons (pv 0) (pa_cons pe_int pa_nil))) (fun _ _ => rfl)))))), ?_⟩
    walk_at "gr"
    rename_i L H0 nL sL eL
    obtain ⟨ne1, ne2⟩ := hp.ne nL
    refine ⟨p, n, 4, k, rfl, hp.same sL, k0, by omega, by decide, by decide +kernel, fun r H1 r0 r1 hp1 kp1 => ?_⟩
    have eL1 := kp1.get eL ne1 ne2
    obtain ⟨z, hz, z0, z1⟩ : ∃ z : Int, atI [V.int 9, V.int 9, V.int 40, V.int (10 ^ 29)] r = some (.int z) ∧ 0 < z ∧ z ≤ 10 ^ 29 := by
      rcases (by omega : r = 0 ∨ r = 1 ∨ r = 2 ∨ r = 3) with rfl | rfl | rfl | rfl <;> exact ⟨_, rfl, by decide, by decide⟩
    walk_at "gr"
    refine ⟨p, n, z, k + 1, rfl, hp1, by omega, by omega, z0, log29 z0 z1, fun r2 H2 q0 q1 hp2 kp2 => ?_⟩
    walk_at "gr"
    rename_i L' H3 nL' sL' eL'
    obtain ⟨ne1', ne2'⟩ := hp2.ne nL'
    refine ⟨p, n, 2, k + 1 + 1, rfl, hp2.same sL', by omega, by omega, by decide, by decide +kernel, fun r4 H4 u0 u1 hp4 kp4 => ?_⟩
    have eL4 := kp4.get eL' ne1' ne2'
    obtain ⟨y, hy, hy2⟩ : ∃ y : Int, atI [V.int 1, V.int (-1)] r4 = some (.int y) ∧ (y = 1 ∨ y = -1) := by
      rcases (by omega : r4 = 0 ∨ r4 = 1) with rfl | rfl
      · exact ⟨1, rfl, .inl rfl⟩
      · exact ⟨-1, rfl, .inr rfl⟩
    have cm : CMulW r2 y := mul29 q0 (by omega) hy2
    walk_at "gr"
    refine q _ _ ?_ (hp4.mono (by omega)) ((((Keep.same sL).trans kp1).trans kp2).trans ((Keep.same sL').trans kp4))
    rcases hy2 with rfl | rfl <;> omega
theorem keep_none {p n a : Addr} {k : Int} {H H' : Hp} (e : Keep p n H H') (h : PoolAt H' p n k) (z : H' a = none) : H a = none := by
  obtain ⟨n1, n2⟩ := h.ne z
  cases q : H a with
  | none => rfl
  | some o => rw [e a o q n1 n2] at z; cases z
def spPair : Sp := fun vs H Q _ => ∃ (p n : Addr) (k : Int), vs = [.ref p] ∧ PoolAt H p n k ∧ 0 ≤ k ∧ k < 999990000 ∧ ∀ (q : Addr) (t b : Int) (H' : Hp), t.natAbs < 10 ^ 30 → b ≠ 0 → b.natAbs < 10 ^ 31 → H' q = some (.tup [.int t, .int b]) → H q = none → PoolAt H' p n (k + 8) → Keep p n H H' → Q (.ref q) H'
theorem c__law_pair (T : Tx K mg C) : Cal P w K mg base CX0 4 "_law_pair" spPair := by
  have c__law_draw : Cal P w K mg base CX0 2 "_law_draw" spDraw := c__law_draw T
  have c__law_integer : Cal P w K mg base CX0 3 "_law_integer" spInteger := c__law_integer T
  refine cal0 T.d_pair sc__law_pair (fun _ _ _ _ _ _ us hl => match us, hl with | [_], _ => rfl) (fun vs H Q E h => ?_) (fun f cdv A outer s H vs Q E hr h => ?_)
  · obtain ⟨p, n, k, rfl, _⟩ := h
    rfl
  · obtain ⟨p, n, k, rfl, hp, k0, k1, q⟩ := h
    refine ⟨_, (pss_cons (ps_par (i := 2) (j := 3) (by rfl) sc__law_pair.nd rfl rfl (by decide) rfl rfl (pa_cons (pe_c c__law_integer hr (by decide) (by rfl) pass0 (pa_cons (pv 0) pa_nil)) (pa_cons (pe_op (r := rAddX K) op_addX pe_int (pe_callB call_abs (by rfl) T.n_abs (by decide +kernel) (pa_cons (pe_c c__law_integer hr (by decide) (by rfl) pass0 (pa_cons (pv 0) pa_nil)) pa_nil))) pa_nil)) (by rfl))
      (pss_cons (ps_set (i := 1) sc__law_pair.nd rfl (by first | exact Or.inl rfl | exact Or.inr rfl) (pe_ix (r := rIx K) ix_seq (pe_lst (pa_cons pe_int (pa_cons pe_int (pa_cons pe_int (pa_cons pe_int pa_nil))))) (pe_c c__law_draw hr (by decide) (by rfl) pass0 (pa_cons (pv 0) (pa_cons pe_int pa_nil))) (fun _ _ => rfl)))
      (pss_one (ps_ret (pe_tup (pa_cons (pe_op op_muX (pv 2) (pv 1)) (pa_cons (pe_op op_muX (pe_op op_muX (pv 3) (pv 1)) (pe_ix (r := rIx K) ix_seq (pe_lst (pa_cons pe_int (pa_cons (pe_un un_neg pe_int) pa_nil))) (pe_c c__law_draw hr (by decide) (by rfl) pass0 (pa_cons (pv 0) (pa_cons pe_int pa_nil))) (fun _ _ => rfl))) pa_nil))))))), ?_⟩
    walk_at "gr"
    refine ⟨p, n, k, rfl, hp, k0, by omega, fun r1 H1 l1 hp1 kp1 => ?_⟩
    walk_at "gr"
    refine ⟨p, n, k + 3, rfl, hp1, by omega, by omega, fun r2 H2 l2 hp2 kp2 => ?_⟩
    walk_at "gr"
    rename_i L H3 nL sL eL
    obtain ⟨ne1, ne2⟩ := hp2.ne nL
    refine ⟨p, n, 4, k + 3 + 3, rfl, hp2.same sL, by omega, by omega, by decide, by decide +kernel, fun r4 H4 u0 u1 hp4 kp4 => ?_⟩
    have eL4 := kp4.get eL ne1 ne2
    obtain ⟨y, hy, hy2⟩ : ∃ y : Int, atI [V.int 1, V.int 1, V.int 2, V.int 6] r4 = some (.int y) ∧ (y = 1 ∨ y = 2 ∨ y = 6) := by
      rcases (by omega : r4 = 0 ∨ r4 = 1 ∨ r4 = 2 ∨ r4 = 3) with rfl | rfl | rfl | rfl <;> exact ⟨_, rfl, by decide⟩
    walk_at "gr"
    rename_i L5 H5 nL5 sL5 eL5
    obtain ⟨ne1', ne2'⟩ := hp4.ne nL5
    refine ⟨p, n, 2, k + 3 + 3 + 1, rfl, hp4.same sL5, by omega, by omega, by decide, by decide +kernel, fun r6 H6 u0 u1 hp6 kp6 => ?_⟩
    have eL6 := kp6.get eL5 ne1' ne2'
    obtain ⟨x, hx, hx2⟩ : ∃ y : Int, atI [V.int 1, V.int (-1)] r6 = some (.int y) ∧ (y = 1 ∨ y = -1) := by
      rcases (by omega : r6 = 0 ∨ r6 = 1) with rfl | rfl
      · exact ⟨1, rfl, .inl rfl⟩
      · exact ⟨-1, rfl, .inr rfl⟩
    have e2 : (if r2 < 0 then -r2 else r2) = (r2.natAbs : Int) := by split <;> omega
    rw [e2]
    have cm : CMulW ((1 + (r2.natAbs : Int)) * y) x := mul29 (by rcases hy2 with rfl | rfl | rfl <;> omega) (by rcases hy2 with rfl | rfl | rfl <;> omega) hx2
    walk_at "gr"
    rename_i L7 H7 nL7 sL7 eL7
    refine q L7 _ _ _ ?_ ?_ ?_ eL7 ?_ (hp6.same sL7 |>.mono (by omega)) ?_
    · rcases hy2 with rfl | rfl | rfl <;> omega
    · rcases hy2 with rfl | rfl | rfl <;> rcases hx2 with rfl | rfl <;> omega
    · rcases hy2 with rfl | rfl | rfl <;> rcases hx2 with rfl | rfl <;> omega
    · exact keep_none (((((kp1.trans kp2).trans (Keep.same sL)).trans kp4).trans (Keep.same sL5)).trans kp6) hp6 nL7
    · exact (((((kp1.trans kp2).trans (Keep.same sL)).trans kp4).trans (Keep.same sL5)).trans kp6).trans (Keep.same sL7)
def spTri (C : Addr) : Sp := fun vs H Q _ => ∃ a b c t1 d1 t2 d2 t3 d3, vs = [.ref a, .ref b, .ref c] ∧ Np C H (.ref a) t1 d1 110 ∧ Np C H (.ref b) t2 d2 110 ∧ Np C H (.ref c) t3 d3 110 ∧ ∀ H', Same H H' → Q (.bl true) H'
theorem dv1 (t d u v : Int) : (t * v * u.sign * u) * d = t * (d * (u.natAbs : Int) * v) := by
  have h := sign_mul u
  rw [← h]
  grind
theorem dv2 (t d u v : Int) : (t * u * v * u.sign) * d = t * (d * v * (u.natAbs : Int)) := by
  have h := sign_mul u
  rw [← h]
  grind
theorem ab1 (t1 d1 t2 d2 : Int) : ((t1 * t2).natAbs : Int) * (d1 * d2) = (t1.natAbs : Int) * (t2.natAbs : Int) * (d1 * d2) := by
  rw [Int.natAbs_mul, Int.natCast_mul]
theorem c__law_ring (T : Tx K mg C) : Cal P w K mg base CX0 9 "_law_ring" (spTri C) := by
  have m_add : OwnM P w K mg base 5 C "__add__" (Ar C tAdd dBV) := c_add T.R
  have m_radd : OwnM P w K mg base 6 C "__radd__" (ArI C tAdd dBV) := c_radd T.R
  have m_sub : OwnM P w K mg base 6 C "__sub__" (Ar C tSub dBV) := c_sub T.R
  have m_rsub : OwnM P w K mg base 6 C "__rsub__" (ArI C rsT dBV) := c_rsub T.R
  have m_mult : OwnM P w K mg base 5 C "__mul__" (Ar C tMul dBV) := c_mul T.R
  have m_rmult : OwnM P w K mg base 6 C "__rmul__" (ArI C tMul dBV) := c_rmul T.R
  have m_neg : OwnM P w K mg base 4 C "__neg__" (Un1 C tNeg) := c_neg T.R
  have m_abs : OwnM P w K mg base 4 C "__abs__" (Un1 C tAbs) := c_abs T.R
  have m_bool : OwnM P w K mg base 1 C "__bool__" (spBool C) := c_bool T.R
  have m_divided : C8.Met P w K mg base 5 C "divided" (spDiv C) [] := c_divided T.R
  have m_middle : StatM P w K mg base 7 C "middle" (spMid C) := c_middle T.R
  have m_lt : OwnM P w K mg base 5 C "__lt__" (Rel4 fLt C) := c_lt T.R
  have m_lte : OwnM P w K mg base 5 C "__le__" (Rel4 fLe C) := c_le T.R
  have m_gt : OwnM P w K mg base 5 C "__gt__" (Rel4 fGt C) := c_gt T.R
  have m_gte : OwnM P w K mg base 5 C "__ge__" (Rel4 fGe C) := c_ge T.R
  have m_eq : OwnM P w K mg base 3 C "__eq__" (spEq C) := c_eq T.R
  have m_noteq : OwnM P w K mg base 4 C "__ne__" (spNe C) := c_ne T.R
  refine cal0 T.d_ring sc__law_ring (fun _ _ _ _ _ _ us hl => match us, hl with | [_, _, _], _ => rfl) (fun vs H Q E h => ?_) (fun f cdv A outer s H vs Q E hr h => ?_)
  · obtain ⟨a, b, c, t1, d1, t2, d2, t3, d3, rfl, _⟩ := h
    rfl
  · obtain ⟨a, b, c, t1, d1, t2, d2, t3, d3, rfl, h1, h2, h3, q⟩ := h
    refine ⟨_, (pss_cons (ps_if (pt_cmpR (op_noteqU T.R m_noteq m_noteq (by decide) (by decide) hr) (pe_op (op_addU T.R m_add m_radd (by decide) (by decide) hr) (pv 0) (pv 1)) (pe_op (op_addU T.R m_add m_radd (by decide) (by decide) hr) (pv 1) (pv 0)) (nomark _)) (pss_one (ps_ret pe_bl)) pss_nil)
      (pss_cons (ps_if (pt_cmpR (op_noteqU T.R m_noteq m_noteq (by decide) (by decide) hr) (pe_op (op_addU T.R m_add m_radd (by decide) (by decide) hr) (pe_op (op_addU T.R m_add m_radd (by decide) (by decide) hr) (pv 0) (pv 1)) (pv 2)) (pe_op (op_addU T.R m_add m_radd (by decide) (by decide) hr) (pv 0) (pe_op (op_addU T.R m_add m_radd (by decide) (by decide) hr) (pv 1) (pv 2))) (nomark _)) (pss_one (ps_ret pe_bl)) pss_nil)
      (pss_cons (ps_if (pt_cmpR (op_noteqU T.R m_noteq m_noteq (by decide) (by decide) hr) (pe_op (op_multU T.R m_mult m_rmult (by decide) (by decide) hr) (pv 0) (pv 1)) (pe_op (op_multU T.R m_mult m_rmult (by decide) (by decide) hr) (pv 1) (pv 0)) (nomark _)) (pss_one (ps_ret pe_bl)) pss_nil)
      (pss_cons (ps_if (pt_cmpR (op_noteqU T.R m_noteq m_noteq (by decide) (by decide) hr) (pe_op (op_multU T.R m_mult m_rmult (by decide) (by decide) hr) (pe_op (op_multU T.R m_mult m_rmult (by decide) (by decide) hr) (pv 0) (pv 1)) (pv 2)) (pe_op (op_multU T.R m_mult m_rmult (by decide) (by decide) hr) (pv 0) (pe_op (op_multU T.R m_mult m_rmult (by decide) (by decide) hr) (pv 1) (pv 2))) (nomark _)) (pss_one (ps_ret pe_bl)) pss_nil)
      (pss_cons (ps_if (pt_cmpR (op_noteqU T.R m_noteq m_noteq (by decide) (by decide) hr) (pe_op (op_multU T.R m_mult m_rmult (by decide) (by decide) hr) (pv 0) (pe_op (op_addU T.R m_add m_radd (by decide) (by decide) hr) (pv 1) (pv 2))) (pe_op (op_addU T.R m_add m_radd (by decide) (by decide) hr) (pe_op (op_multU T.R m_mult m_rmult (by decide) (by decide) hr) (pv 0) (pv 1)) (pe_op (op_multU T.R m_mult m_rmult (by decide) (by decide) hr) (pv 0) (pv 2))) (nomark _)) (pss_one (ps_ret pe_bl)) pss_nil)
      (pss_cons (ps_if (pt_cmpR (op_noteqU T.R m_noteq m_noteq (by decide) (by decide) hr) (pe_op (op_subU T.R m_sub m_rsub (by decide) (by decide) hr) (pv 0) (pv 1)) (pe_un (un_own m_neg (by decide) hr) (pe_op (op_subU T.R m_sub m_rsub (by decide) (by decide) hr) (pv 1) (pv 0))) (nomark _)) (pss_one (ps_ret pe_bl)) pss_nil)
      (pss_cons (ps_if (pt_cmpR (op_noteqU T.R m_noteq m_noteq (by decide) (by decide) hr) (pe_op (op_addU T.R m_add m_radd (by decide) (by decide) hr) (pe_op (op_subU T.R m_sub m_rsub (by decide) (by decide) hr) (pv 0) (pv 1)) (pv 1)) (pv 0) (nomark _)) (pss_one (ps_ret pe_bl)) pss_nil)
      (pss_cons (ps_if (pt_cmpR (op_noteqU T.R m_noteq m_noteq (by decide) (by decide) hr) (pe_op (op_addU T.R m_add m_radd (by decide) (by decide) hr) (pv 0) (pe_un (un_own m_neg (by decide) hr) (pv 0))) pe_int (nomark _)) (pss_one (ps_ret pe_bl)) pss_nil)
      (pss_cons (ps_if (PW.pt (pw_and (pt_truK (K := K) rfl (pe_callTy (call_boolO m_bool (by decide) hr) (by rfl) T.n_bool (by decide +kernel) (pa_cons (pv 2) pa_nil)) (by intro _; rfl)) (pw_and1 (PW.pt (pw_or (pt_cmpR (op_noteqU T.R m_noteq m_noteq (by decide) (by decide) hr) (pe_op (op_multU T.R m_mult m_rmult (by decide) (by decide) hr) (C8.pe_mt m_divided hr (by decide) (pv 0) (pa_cons (pv 2) pa_nil)) (pv 2)) (pv 0) (nomark _)) (pw_or1 (pt_cmpR (op_noteqU T.R m_noteq m_noteq (by decide) (by decide) hr) (C8.pe_mt m_divided hr (by decide) (pe_op (op_multU T.R m_mult m_rmult (by decide) (by decide) hr) (pv 0) (pv 2)) (pa_cons (pv 2) pa_nil)) (pv 0) (nomark _)))))))) (pss_one (ps_ret pe_bl)) pss_nil)
      (pss_one (ps_ret (pe_cmpR (op_eqU T.R m_eq m_eq (by decide) (by decide) hr) (pe_callB (call_absO m_abs (by decide) hr) (by rfl) T.n_abs (by decide +kernel) (pa_cons (pe_op (op_multU T.R m_mult m_rmult (by decide) (by decide) hr) (pv 0) (pv 1)) pa_nil)) (pe_op (op_multU T.R m_mult m_rmult (by decide) (by decide) hr) (pe_callB (call_absO m_abs (by decide) hr) (by rfl) T.n_abs (by decide +kernel) (pa_cons (pv 0) pa_nil)) (pe_callB (call_absO m_abs (by decide) hr) (by rfl) T.n_abs (by decide +kernel) (pa_cons (pv 1) pa_nil))) (nomark _))))))))))))), ?_⟩
    have n0 : Np C H (.int 0) 0 1 2 := ⟨0, 1, .int 0, ⟨by decide, by decide⟩, by decide, by decide, by decide, by decide⟩
    walk_at "gn"
    refine ifn (by dsimp only [tAdd, tSub, tMul, dBV, tNeg]; grind) ?_
    walk_at "gn"
    refine ifn (by dsimp only [tAdd, tSub, tMul, dBV, tNeg]; grind) ?_
    walk_at "gn"
    refine ifn (by dsimp only [tAdd, tSub, tMul, dBV, tNeg]; grind) ?_
    walk_at "gn"
    refine ifn (by dsimp only [tAdd, tSub, tMul, dBV, tNeg]; grind) ?_
    walk_at "gn"
    refine ifn (by dsimp only [tAdd, tSub, tMul, dBV, tNeg]; grind) ?_
    walk_at "gn"
    refine ifn (by dsimp only [tAdd, tSub, tMul, dBV, tNeg]; grind) ?_
    walk_at "gn"
    refine ifn (by dsimp only [tAdd, tSub, tMul, dBV, tNeg]; grind) ?_
    walk_at "gn"
    refine ifn (by dsimp only [tAdd, tSub, tMul, dBV, tNeg]; grind) ?_
    walk_at "gn"
    refine ift (fun hc => ?_) (fun hc => ?_)
    · have u0 : t3 ≠ 0 := of_bnot hc
      walk_at "gn"
      refine ifn (dv1 t1 d1 t3 d3) ?_
      walk_at "gn"
      refine ifn (dv2 t1 d1 t3 d3) ?_
      walk_at "gn"
      show Q (.bl (decide (((t1 * t2).natAbs : Int) * (d1 * d2) = (t1.natAbs : Int) * (t2.natAbs : Int) * (d1 * d2)))) _
      rw [decide_eq_true (ab1 t1 d1 t2 d2)]
      exact q _ (by walk_at "sm")
    · walk_at "gn"
      show Q (.bl (decide (((t1 * t2).natAbs : Int) * (d1 * d2) = (t1.natAbs : Int) * (t2.natAbs : Int) * (d1 * d2)))) _
      rw [decide_eq_true (ab1 t1 d1 t2 d2)]
      exact q _ (by walk_at "sm")
end
end Pk

namespace Pk
open PySem PySem.Spec PyProof.Rows L2
theorem i_bm {K : PySem.W.Frag} {T : String} {r : V → List V → Hp → VK → Prop} {to : TE} {t : TA} {σ : L2.St} {H : Hp} {Q : VK} (h : to σ H fun x H1 => tyV K T x H1 ∧ t σ H1 fun xs H2 => r x xs H2 Q) : tBM K T r to t σ H Q := h
theorem reads_bls {h : Heap} : ∀ {bs : List Bool} {us : List Value}, Vals (bs.map V.bl) us → ∃ as, ReadsAll h us (bs.map PyData.bool) as
  | [], _, .nil => ⟨_, .nil⟩
  | b :: bs, _, .cons r t => by
    cases (show _ = Value.bool b from r)
    obtain ⟨as, z⟩ := reads_bls (h := h) t
    exact ⟨_, .cons (.bool b) z⟩
def rCntB : V → List V → Hp → VK → Prop := fun x xs H Q => ∃ (l : Addr) (bs : List Bool) (k : Bool), x = .ref l ∧ xs = [.bl k] ∧ H l = some (.lst (bs.map V.bl)) ∧ Q (.int (countIn (.bool k) (bs.map PyData.bool))) H
theorem mt_countB {X : Cx} : MtM X "list.count" rCntB := by
  intro pins s σ H x xs v us Q I rx rv h
  obtain ⟨l, bs, k, rfl, rfl, e, q⟩ := h
  cases (show v = Value.ref l from rx)
  obtain ⟨u, rfl, ru⟩ := rv.one
  cases (show u = Value.bool k from ru)
  obtain ⟨_, us, n, rv, h1⟩ := (show ObjOk X.prog X.w H s.heap l (.lst (bs.map V.bl)) from I.hok l _ e)
  obtain ⟨as, z⟩ := reads_bls (h := s.heap) rv
  exact PyProof.Rows.count_list_bools ⟨_, h1, rfl, n, rfl⟩ z (by induction bs <;> simp_all [Shape.has]) ⟨.int _, H, I.tok _, ⟨_, rfl⟩, q⟩
theorem ifb {p q : Bool} {A B : Prop} (e : p = q) (h : B) : if (!decide (V.bl p = V.bl q)) = true then A else B := by
  rw [e, decide_eq_true rfl]
  exact h
theorem leg (X Y : Int) : decide (X ≤ Y) = !decide (X > Y) := by
  by_cases h : X ≤ Y
  · rw [decide_eq_true h, decide_eq_false (show ¬ X > Y by omega)]; rfl
  · rw [decide_eq_false h, decide_eq_true (show X > Y by omega)]; rfl
theorem mlt {X Y c p q : Int} (h : X < Y) (hc : 0 < c) (e1 : p = X * c) (e2 : q = Y * c) : decide (p < q) = true := decide_eq_true (by rw [e1, e2]; exact (Int.mul_lt_mul_right hc).mpr h)
theorem trans3 {t1 d1 t2 d2 t3 d3 : Int} (p1 : 0 < d1) (p2 : 0 < d2) (p3 : 0 < d3) (h : t1 * d2 < t2 * d1) (g : t2 * d3 < t3 * d2) : decide (t1 * d3 < t3 * d1) = true := by
  have a := (Int.mul_lt_mul_right p3).mpr h
  have b := (Int.mul_lt_mul_right p1).mpr g
  have e : t2 * d1 * d3 = t2 * d3 * d1 := by grind
  have c : (t1 * d3) * d2 < (t3 * d1) * d2 := by
    have e1 : (t1 * d3) * d2 = t1 * d2 * d3 := by grind
    have e2 : (t3 * d1) * d2 = t3 * d2 * d1 := by grind
    omega
  exact decide_eq_true ((Int.mul_lt_mul_right p2).mp c)
theorem finz (t d : Int) : decide (V.bl (decide ((t.natAbs : Int) * 1 = 0 * d)) = V.bl (!(!decide (t = 0)))) = true := by
  rw [Bool.not_not]
  refine decide_eq_true (congrArg V.bl (decide_eq_decide.mpr ?_))
  rw [Int.zero_mul, Int.mul_one]
  omega
theorem Np.pos {C : Addr} {H : Hp} {x : V} {t b : Int} {k : Nat} (h : Np C H x t b k) : 0 < b := h.elim fun _ z => z.elim fun _ z => z.2.pos
theorem tri (X Y : Int) : countIn (.bool true) [PyData.bool (decide (X < Y)), .bool (decide (X = Y)), .bool (decide (X > Y))] = 1 := by
  rcases Int.lt_trichotomy X Y with h | h | h
  · rw [decide_eq_true h, decide_eq_false (show ¬ X = Y by omega), decide_eq_false (show ¬ X > Y by omega)]; rfl
  · rw [decide_eq_false (show ¬ X < Y by omega), decide_eq_true h, decide_eq_false (show ¬ X > Y by omega)]; rfl
  · rw [decide_eq_false (show ¬ X < Y by omega), decide_eq_false (show ¬ X = Y by omega), decide_eq_true (show X > Y from h)]; rfl
local macro_rules | `(tactic| walk_at "sz") => `(tactic| first | assumption | decide +kernel | exact Nat.le_trans (Nat.le_of_ble_eq_true rfl) (show 100000 ≤ sizeLine by decide) | exact Nat.le_trans (by omega) (show 100000 ≤ sizeLine by decide) | (show _ ≤ sizeLine; exact Nat.le_trans (by (simp only [List.length_append, List.length_map, List.length_cons, List.length_nil]; omega)) (show 100000 ≤ sizeLine by decide)))
local macro_rules | `(tactic| walk_at "mul") => `(tactic| first | exact Or.inl (Or.inl ⟨by omega, by omega⟩) | exact Or.inl (Or.inr ⟨by omega, by omega⟩))
local macro_rules | `(tactic| walk_at "ci") => `(tactic| first | assumption | exact (by decide : (0 : Int) < _) | (show (0 : Int) < _; omega) | exact ⟨by assumption, by assumption⟩ | exact ⟨by decide, by decide⟩ | exact ⟨by decide, by decide, by omega⟩)
local macro_rules | `(tactic| walk_at "lk") => `(tactic| first | assumption | exact upd_same | ((refine Eq.trans (upd_ne (by first | assumption | exact Ne.symm (by assumption))) ?_); walk_at "lk") | exact Same.get (by assumption) (by walk_at "lk") | exact Keep.get (by assumption) (by walk_at "lk") (by assumption) (by assumption))
local macro_rules | `(tactic| walk_at "sq") => `(tactic| first | assumption | exact SqL.of (by walk_at "lk") | exact Same.seq (by assumption) (by walk_at "sq"))
local macro_rules | `(tactic| walk_at "stt") => `(tactic| exact SqT.of (by walk_at "lk"))
local macro_rules | `(tactic| walk_at "kd") => `(tactic| first | assumption | exact Kd.str _ (by first | assumption | omega | decide) | exact Kd.bl _ | exact Kd.int _ | exact Kd.non | exact Kd.lst (by walk_at "lk") | exact Kd.tup (by walk_at "lk") | exact Kd.dct (by walk_at "lk") | exact Kd.same (by assumption) (by walk_at "kd"))
local macro_rules | `(tactic| walk_at "sm") => `(tactic| first | assumption | exact Same.refl _ | (refine Same.trans ?_ (by assumption); walk_at "sm"))
local macro_rules | `(tactic| walk_at "st") => `(tactic| first
  | with_reducible refine i_seq ?_ | with_reducible refine i_asg ?_ | with_reducible refine i_ret ?_ | with_reducible refine i_op ?_
  | ((with_reducible show tVar _ _ _ _); refine i_var rfl ?_)
  | with_reducible refine i_c ?_ | with_reducible refine i_cb ?_ | with_reducible refine i_call ?_ | with_reducible refine i_cons ?_ | with_reducible refine i_nil ?_
  | with_reducible refine i_name ?_ | with_reducible refine i_sub ?_ | with_reducible refine i_drop ?_ | with_reducible refine i_ifs ?_ | with_reducible refine i_ife ?_
  | with_reducible refine i_test ?_ | with_reducible refine i_tru ?_ | with_reducible refine i_and ?_ | with_reducible refine i_or ?_ | with_reducible refine i_not ?_
  | with_reducible refine i_andV ?_ | with_reducible refine i_orV ?_ | with_reducible refine i_notV ?_ | with_reducible refine i_un ?_
  | with_reducible refine i_bl ?_ | with_reducible refine i_trB ?_ | with_reducible refine i_next ?_
  | with_reducible refine iteF ?_ | with_reducible refine iteT ?_
  | with_reducible refine i_lstF ?_ | with_reducible refine i_tupF ?_
  | with_reducible refine p_addI ?_ | with_reducible refine p_I0 ?_ | with_reducible refine p_U ?_
  | with_reducible refine p_ltI ?_ | with_reducible refine p_leI ?_ | with_reducible refine p_gtI ?_ | with_reducible refine p_geI ?_
  | with_reducible refine p_ltS ?_ | with_reducible refine p_leS ?_ | with_reducible refine p_gtS ?_
  | with_reducible refine p_eqI ?_ | with_reducible refine p_neI ?_ | with_reducible refine p_int ?_
  | ((with_reducible show rMuXX (V.int _) (V.int _) _ _); refine p_muI (by walk_at "mul") ?_)
  | ((with_reducible show rI _ _ (V.int _) (V.int _) _ _); refine p_I (by walk_at "ci") ?_)
  | ((with_reducible show rIx _ (V.ref _) (V.int _) _ _); (first | refine p_ixL (by walk_at "sq") (by first | exact rfl | assumption) ?_ | refine p_ixT (SqT.of (by walk_at "lk")) (by first | exact rfl | assumption) ?_))
  | ((with_reducible show rSetL (V.ref _) (V.int _) _ _ _); refine p_setL (by walk_at "lk") (by first | exact rfl | assumption) ?_)
  | ((with_reducible show rLenX _ [V.ref _] _ _); (first | refine p_lenL (by walk_at "sq") ?_ | refine p_lenT (SqT.of (by walk_at "lk")) ?_))
  | ((with_reducible show rLenX _ [V.str _] _ _); refine p_lenS (by walk_at "sz") ?_)
  | with_reducible refine i_lc ?_ | with_reducible refine i_for ?_ | with_reducible refine i_itl ?_ | with_reducible refine i_itt ?_ | with_reducible refine i_itr ?_ | with_reducible refine i_its ?_
  | ((with_reducible show ∃ _, V.ref _ = V.ref _ ∧ (∃ _, SqL _ _ _ _) ∧ _); refine p_itl (by walk_at "sq") ?_)
  | ((with_reducible show ∃ _, V.ref _ = V.ref _ ∧ (∃ _, SqT _ _ _ _) ∧ _); refine p_itt (by walk_at "stt") ?_) | with_reducible refine p_its ?_
  | ((with_reducible show ∃ _, [V.int _] = [V.int _] ∧ _); refine p_itr (by omega) (by omega) ?_)
  | with_reducible refine i_sl ?_ | with_reducible refine i_np ?_ | with_reducible refine i_pt ?_ | with_reducible refine i_in ?_
  | ((with_reducible show rSlXX _ (V.ref _) _ _ _ _); refine p_slL (by walk_at "sq") ?_; intro _ _ _ _ _)
  | ((with_reducible show rSlXX _ (V.str _) _ _ _ _); refine p_slS (by walk_at "sz") ?_)
  | ((with_reducible show rIsi _ [_, V.ty "str"] _ _); refine p_isStr (by walk_at "kd") ?_)
  | ((with_reducible show rIsi _ [_, V.ty "int"] _ _); refine p_isInt (by walk_at "kd") ?_)
  | ((with_reducible show rIsi _ [_, V.ty "bool"] _ _); refine p_isBool (by walk_at "kd") ?_)
  | ((with_reducible show rIsiT _ [_, V.ref _] _ _); refine p_isLT (by walk_at "lk") (by walk_at "kd") ?_)
  | with_reducible refine i_chain ?_ | with_reducible refine i_m1 ?_ | with_reducible refine i_m0 ?_ | with_reducible refine i_str ?_
  | ((with_reducible show LstK _ _ _); refine p_lstK (by walk_at "sz") ?_; intro _ _ _ _ _)
  | ((with_reducible show TupK _ _ _); refine p_tupK (by walk_at "sz") ?_; intro _ _ _ _ _)
  | ((with_reducible show (if _ = true then _ else _)); (first | refine ifT' (by first | assumption | exact rfl) ?_ | refine ifF' (by first | assumption | exact rfl) ?_))
  | ((with_reducible show rEqX _ (V.bl _) (V.bl _) _ _); refine p_eqS rfl ?_) | ((with_reducible show rNeX _ (V.bl _) (V.bl _) _ _); refine p_neS rfl ?_)
  | ((with_reducible show rEqX _ (V.ref _) (V.ref _) _ _); refine p_eqNil (by walk_at "lk") (by walk_at "lk") ?_) | ((with_reducible show rNeX _ (V.ref _) (V.ref _) _ _); refine p_neNil (by walk_at "lk") (by walk_at "lk") ?_)
  | ((with_reducible show rAddX _ (V.str _) (V.str _) _ _); refine p_addS (by walk_at "sz") ?_)
  | ((with_reducible show rMuXX (V.str _) (V.int _) _ _); refine p_muS ⟨by decide +kernel, by decide +kernel, by decide +kernel⟩ ?_)
  | ((with_reducible show tDNewK _ _ _); refine i_dnew ?_; intro _ _ _ _ _)
  | ((with_reducible show rTupX _ [V.ref _] _ _); refine p_tupL (by walk_at "sq") ?_; intro _ _ _ _ _)
  | ((with_reducible show rAddX _ (V.ref _) (V.ref _) _ _); refine p_addL (by walk_at "lk") (by walk_at "lk") (by walk_at "sz") ?_; intro _ _ _ _ _)
  | with_reducible refine p_notB ?_ | with_reducible refine p_isB ?_)
local macro_rules | `(tactic| walk_at "go") => `(tactic| (walk_at "st"; (repeat walk_at "st")))

local macro_rules | `(tactic| walk_at "rx") => `(tactic| first
  | with_reducible refine i_par ?_ | ((with_reducible show ∃ _ _, [_, _] = [_, _] ∧ _); refine ⟨_, _, rfl, ?_⟩) | ((with_reducible show ∃ _, [V.int _] = [V.int _] ∧ _); refine ⟨_, rfl, ?_⟩)
  | with_reducible refine i_sfl ?_ | with_reducible refine i_mk ?_ | with_reducible refine i_pr ?_ | with_reducible refine i_fl ?_
  | ((with_reducible show FlK _ _ _ (V.ref _) _); first | refine p_flT (by assumption) (by assumption) ?_ | refine p_flB (by assumption) (by assumption) ?_)
  | ((with_reducible show rIsi _ [V.ref _, V.ref _] _ _); refine p_isR (by assumption) (by assumption) ?_)
  | ((with_reducible show rIsi _ [V.ref _, V.ty "int"] _ _); refine p_isRi (by assumption) (by assumption) ?_)
  | ((with_reducible show rIsi _ [_, V.ref _] _ _); refine p_isRn (by assumption) (by walk_at "kd") ?_)
  | ((with_reducible show rMuXX (V.int _) (V.int _) _ _); refine p_muI (Or.inr (by assumption)) ?_)
  | ((with_reducible show rGcd [V.int _, V.int _] _ _); refine ⟨_, _, rfl, ?_⟩)
  | ((with_reducible show PrK _ _ _ (V.ref _) _); first | refine p_prT (by assumption) ?_ | refine p_prB (by assumption) ?_))
local macro_rules | `(tactic| walk_at "gr") => `(tactic| repeat (first | walk_at "st" | walk_at "rx"))

local macro_rules | `(tactic| walk_at "np") => `(tactic| first | assumption | exact Np.same (by assumption) (by walk_at "np"))
local macro_rules | `(tactic| walk_at "nx") => `(tactic| first
  | ((with_reducible show rBoolO _ (spBool _) [V.ref _] _ _); (apply np_zero; (walk_at "np")))
  | ((with_reducible show ∃ _ _ _, V.ref _ = V.ref _ ∧ _ ∧ _ ∧ _); (apply p_met (by decide +kernel) (by decide +kernel); (walk_at "np")))
  | ((with_reducible show spDiv _ _ _ _ _); (apply p_div; (walk_at "np"); (walk_at "np"); assumption; decide; decide); intro _ _ _ _)
  | ((with_reducible show spMid _ _ _ _ _); (apply p_mid; (walk_at "np"); (walk_at "np"); decide; decide); intro _ _ _ _)
  | with_reducible refine i_bm ?_ | ((with_reducible show V.ref _ = V.ref _ ∧ _); refine ⟨rfl, ?_⟩)
  | with_reducible refine i_mt ?_ | with_reducible refine i_stat ?_
  | ((with_reducible show rArU _ _ _ (V.ref _) (V.ref _) _ _); (apply p_arBB; (walk_at "np"); (walk_at "np"); decide; decide); intro _ _ _ _)
  | ((with_reducible show rArU _ _ _ (V.ref _) (V.int _) _ _); (apply p_arBI; (walk_at "np"); (walk_at "np"); decide; decide); intro _ _ _ _)
  | ((with_reducible show rArU _ (Ar _ tAdd _) _ (V.int _) (V.ref _) _ _); (apply p_addIB; (walk_at "np"); (walk_at "np"); decide; decide); intro _ _ _ _)
  | ((with_reducible show rArU _ (Ar _ tSub _) _ (V.int _) (V.ref _) _ _); (apply p_subIB; (walk_at "np"); (walk_at "np"); decide; decide); intro _ _ _ _)
  | ((with_reducible show rArU _ (Ar _ tMul _) _ (V.int _) (V.ref _) _ _); (apply p_mulIB; (walk_at "np"); (walk_at "np"); decide; decide); intro _ _ _ _)
  | ((with_reducible show rNegO _ (Un1 _ _) (V.ref _) _ _); (apply p_neg; (walk_at "np"); decide); intro _ _ _ _)
  | ((with_reducible show rAbsO _ (Un1 _ _) _ _ _); (apply p_absN; (walk_at "np"); decide); intro _ _ _ _)
  | ((with_reducible show rCmp _ (Rel4 fLt _) _ _ _ _ _); (apply p_ltN; (walk_at "np"); (walk_at "np"); (walk_at "one"); decide; decide); intro _ _)
  | ((with_reducible show rCmp _ (Rel4 fLe _) _ _ _ _ _); (apply p_leN; (walk_at "np"); (walk_at "np"); (walk_at "one"); decide; decide); intro _ _)
  | ((with_reducible show rCmp _ (Rel4 fGt _) _ _ _ _ _); (apply p_gtN; (walk_at "np"); (walk_at "np"); (walk_at "one"); decide; decide); intro _ _)
  | ((with_reducible show rCmp _ (Rel4 fGe _) _ _ _ _ _); (apply p_geN; (walk_at "np"); (walk_at "np"); (walk_at "one"); decide; decide); intro _ _)
  | ((with_reducible show rEU _ _ _ _ _ _ _ _); (first | (apply p_eqN; (walk_at "np"); (walk_at "np"); (walk_at "one")) | (refine .inr (p_eqI ?_)) | (refine .inr (p_eqS rfl ?_))))
  | ((with_reducible show rNU _ _ _ _ _ _ _ _); (first | (apply p_neN; (walk_at "np"); (walk_at "np"); (walk_at "one")) | (refine .inr (p_neI ?_)) | (refine .inr (p_neS rfl ?_)))))
local macro_rules | `(tactic| walk_at "one") => `(tactic| first | exact .inl ⟨_, rfl⟩ | exact .inr ⟨_, rfl⟩)
local macro_rules | `(tactic| walk_at "gn") => `(tactic| repeat (first | walk_at "st" | walk_at "rx" | walk_at "nx"))

section
variable {P : Program} {w : World} {K : PySem.W.Frag} {mg : Str → Option Value} {base : Heap} {C : Addr}
theorem c__law_order (T : Tx K mg C) : Cal P w K mg base CX0 9 "_law_order" (spTri C) := by
  have m_add : OwnM P w K mg base 5 C "__add__" (Ar C tAdd dBV) := c_add T.R
  have m_radd : OwnM P w K mg base 6 C "__radd__" (ArI C tAdd dBV) := c_radd T.R
  have m_sub : OwnM P w K mg base 6 C "__sub__" (Ar C tSub dBV) := c_sub T.R
  have m_rsub : OwnM P w K mg base 6 C "__rsub__" (ArI C rsT dBV) := c_rsub T.R
  have m_mult : OwnM P w K mg base 5 C "__mul__" (Ar C tMul dBV) := c_mul T.R
  have m_rmult : OwnM P w K mg base 6 C "__rmul__" (ArI C tMul dBV) := c_rmul T.R
  have m_neg : OwnM P w K mg base 4 C "__neg__" (Un1 C tNeg) := c_neg T.R
  have m_abs : OwnM P w K mg base 4 C "__abs__" (Un1 C tAbs) := c_abs T.R
  have m_bool : OwnM P w K mg base 1 C "__bool__" (spBool C) := c_bool T.R
  have m_divided : C8.Met P w K mg base 5 C "divided" (spDiv C) [] := c_divided T.R
  have m_middle : StatM P w K mg base 7 C "middle" (spMid C) := c_middle T.R
  have m_lt : OwnM P w K mg base 5 C "__lt__" (Rel4 fLt C) := c_lt T.R
  have m_lte : OwnM P w K mg base 5 C "__le__" (Rel4 fLe C) := c_le T.R
  have m_gt : OwnM P w K mg base 5 C "__gt__" (Rel4 fGt C) := c_gt T.R
  have m_gte : OwnM P w K mg base 5 C "__ge__" (Rel4 fGe C) := c_ge T.R
  have m_eq : OwnM P w K mg base 3 C "__eq__" (spEq C) := c_eq T.R
  have m_noteq : OwnM P w K mg base 4 C "__ne__" (spNe C) := c_ne T.R
  refine cal0 T.d_order sc__law_order (fun _ _ _ _ _ _ us hl => match us, hl with | [_, _, _], _ => rfl) (fun vs H Q E h => ?_) (fun f cdv A outer s H vs Q E hr h => ?_)
  · obtain ⟨a, b, c, t1, d1, t2, d2, t3, d3, rfl, _⟩ := h
    rfl
  · obtain ⟨a, b, c, t1, d1, t2, d2, t3, d3, rfl, h1, h2, h3, q⟩ := h
    refine ⟨_, (pss_cons (ps_if (pt_cmpR (op_noteqU T.R m_noteq m_noteq (by decide) (by decide) hr) (pe_bm PySem.F.plainAttrs_list PySem.F.slot_list_count PySem.F.type_list_count mt_countB (pe_lst (pa_cons (pe_cmpR (op_ltU T.R m_lt m_gt (by decide) (by decide) hr) (pv 0) (pv 1) (nomark _)) (pa_cons (pe_cmpR (op_eqU T.R m_eq m_eq (by decide) (by decide) hr) (pv 0) (pv 1) (nomark _)) (pa_cons (pe_cmpR (op_gtU T.R m_gt m_lt (by decide) (by decide) hr) (pv 0) (pv 1) (nomark _)) pa_nil)))) (pa_cons pe_bl pa_nil)) pe_int (nomark _)) (pss_one (ps_ret pe_bl)) pss_nil)
      (pss_cons (ps_if (pt_cmpR (op_noteqU T.R m_noteq m_noteq (by decide) (by decide) hr) (pe_cmpR (op_lteU T.R m_lte m_gte (by decide) (by decide) hr) (pv 0) (pv 1) (nomark _)) (pe_not (pe_cmpR (op_gtU T.R m_gt m_lt (by decide) (by decide) hr) (pv 0) (pv 1) (nomark _))) (nomark _)) (pss_one (ps_ret pe_bl)) pss_nil)
      (pss_cons (ps_if (pt_cmpR (op_noteqU T.R m_noteq m_noteq (by decide) (by decide) hr) (pe_cmpR (op_gteU T.R m_gte m_lte (by decide) (by decide) hr) (pv 0) (pv 1) (nomark _)) (pe_not (pe_cmpR (op_ltU T.R m_lt m_gt (by decide) (by decide) hr) (pv 0) (pv 1) (nomark _))) (nomark _)) (pss_one (ps_ret pe_bl)) pss_nil)
      (pss_cons (ps_if (pt_cmpR (op_ltU T.R m_lt m_gt (by decide) (by decide) hr) (pv 0) (pv 1) (nomark _)) (pss_cons (ps_set (i := 3) sc__law_order.nd rfl (by first | exact Or.inl rfl | exact Or.inr rfl) (pe_stat m_middle (by decide) hr (pe_gc (by rfl) T.v_Ratio) (pa_cons (pv 0) (pa_cons (pv 1) pa_nil))))
      (pss_cons (ps_if (PW.pt (pw_or (pt_not (pt_cmpR (op_ltU T.R m_lt m_gt (by decide) (by decide) hr) (pv 0) (pv 3) (nomark _))) (pw_or (pt_not (pt_cmpR (op_ltU T.R m_lt m_gt (by decide) (by decide) hr) (pv 3) (pv 1) (nomark _))) (pw_or1 (pt_cmpR (op_noteqU T.R m_noteq m_noteq (by decide) (by decide) hr) (pe_op (op_subU T.R m_sub m_rsub (by decide) (by decide) hr) (pv 3) (pv 0)) (pe_op (op_subU T.R m_sub m_rsub (by decide) (by decide) hr) (pv 1) (pv 3)) (nomark _)))))) (pss_one (ps_ret pe_bl)) pss_nil)
      (pss_one (ps_if (PW.pt (pw_or (pt_not (pt_cmpR (op_ltU T.R m_lt m_gt (by decide) (by decide) hr) (pe_op (op_addU T.R m_add m_radd (by decide) (by decide) hr) (pv 0) (pv 2)) (pe_op (op_addU T.R m_add m_radd (by decide) (by decide) hr) (pv 1) (pv 2)) (nomark _))) (pw_or (PW.pt (pw_and (pt_truK (K := K) rfl (pe_callTy (call_boolO m_bool (by decide) hr) (by rfl) T.n_bool (by decide +kernel) (pa_cons (pv 2) pa_nil)) (by intro _; rfl)) (pw_and1 (pt_not (pt_cmpR (op_ltU T.R m_lt m_gt (by decide) (by decide) hr) (pe_op (op_multU T.R m_mult m_rmult (by decide) (by decide) hr) (pv 0) (pe_callB (call_absO m_abs (by decide) hr) (by rfl) T.n_abs (by decide +kernel) (pa_cons (pv 2) pa_nil))) (pe_op (op_multU T.R m_mult m_rmult (by decide) (by decide) hr) (pv 1) (pe_callB (call_absO m_abs (by decide) hr) (by rfl) T.n_abs (by decide +kernel) (pa_cons (pv 2) pa_nil))) (nomark _)))))) (pw_or1 (pt_not (pt_cmpR (op_ltU T.R m_lt m_gt (by decide) (by decide) hr) (pe_un (un_own m_neg (by decide) hr) (pv 1)) (pe_un (un_own m_neg (by decide) hr) (pv 0)) (nomark _))))))) (pss_one (ps_ret pe_bl)) pss_nil)))) pss_nil)
      (pss_cons (ps_if (PW.pt (pw_and (pt_cmpR (op_ltU T.R m_lt m_gt (by decide) (by decide) hr) (pv 0) (pv 1) (nomark _)) (pw_and (pt_cmpR (op_ltU T.R m_lt m_gt (by decide) (by decide) hr) (pv 1) (pv 2) (nomark _)) (pw_and1 (pt_not (pt_cmpR (op_ltU T.R m_lt m_gt (by decide) (by decide) hr) (pv 0) (pv 2) (nomark _))))))) (pss_one (ps_ret pe_bl)) pss_nil)
      (pss_one (ps_ret (pe_and (pe_cmpR (op_gteU T.R m_gte m_lte (by decide) (by decide) hr) (pe_callB (call_absO m_abs (by decide) hr) (by rfl) T.n_abs (by decide +kernel) (pa_cons (pv 0) pa_nil)) pe_int (nomark _)) (pe_one (pe_cmpR (op_eqU T.R m_eq m_eq (by decide) (by decide) hr) (pe_cmpR (op_eqU T.R m_eq m_eq (by decide) (by decide) hr) (pe_callB (call_absO m_abs (by decide) hr) (by rfl) T.n_abs (by decide +kernel) (pa_cons (pv 0) pa_nil)) pe_int (nomark _)) (pe_not (pe_callTy (call_boolO m_bool (by decide) hr) (by rfl) T.n_bool (by decide +kernel) (pa_cons (pv 0) pa_nil))) (nomark _))))))))))), ?_⟩
    have n0 : Np C H (.int 0) 0 1 2 := ⟨0, 1, .int 0, ⟨by decide, by decide⟩, by decide, by decide, by decide, by decide⟩
    walk_at "gn"
    rename_i L HL nL sL eL
    refine ⟨.inl ⟨rfl, _, SqL.of eL⟩, ?_⟩
    walk_at "gn"
    refine ⟨L, [_, _, _], true, rfl, rfl, eL, ?_⟩
    walk_at "gn"
    refine ifn (tri (t1 * d2) (t2 * d1)) ?_
    walk_at "gn"
    refine ifb (leg (t1 * d2) (t2 * d1)) ?_
    walk_at "gn"
    refine ifb (leg (t2 * d1) (t1 * d2)) ?_
    walk_at "gn"
    have p1 := h1.pos
    have p2 := h2.pos
    have p3 := h3.pos
    have fa : decide ((t1.natAbs : Int) * 1 ≥ 0 * d1) = true := decide_eq_true (by omega)
    refine ift (fun hc => ?_) (fun hc => ?_)
    · have hl : t1 * d2 < t2 * d1 := of_decide_eq_true hc
      have f1 : decide (t1 * (d1 * d2 * 2) < (t1 * d2 + t2 * d1) * d1) = true := mlt (X := t1 * d2 + t1 * d2) (Y := t1 * d2 + t2 * d1) (c := d1) (by omega) p1 (by grind) (by grind)
      have nf1 : (!decide (t1 * (d1 * d2 * 2) < (t1 * d2 + t2 * d1) * d1)) = false := by rw [f1]; rfl
      have f2 : decide ((t1 * d2 + t2 * d1) * d2 < t2 * (d1 * d2 * 2)) = true := mlt (X := t1 * d2 + t2 * d1) (Y := t2 * d1 + t2 * d1) (c := d2) (by omega) p2 (by grind) (by grind)
      have nf2 : (!decide ((t1 * d2 + t2 * d1) * d2 < t2 * (d1 * d2 * 2))) = false := by rw [f2]; rfl
      have f3 : (!decide (((t1 * d2 + t2 * d1) * d1 + -t1 * (d1 * d2 * 2)) * (d2 * (d1 * d2 * 2)) = (t2 * (d1 * d2 * 2) + -(t1 * d2 + t2 * d1) * d2) * (d1 * d2 * 2 * d1))) = false := by rw [decide_eq_true (by grind)]; rfl
      have f4 : decide ((t1 * d3 + t3 * d1) * (d2 * d3) < (t2 * d3 + t3 * d2) * (d1 * d3)) = true := mlt (X := t1 * d2 * d3 + t3 * d1 * d2) (Y := t2 * d1 * d3 + t3 * d1 * d2) (c := d3) (by have := (Int.mul_lt_mul_right p3).mpr hl; omega) p3 (by grind) (by grind)
      have nf4 : (!decide ((t1 * d3 + t3 * d1) * (d2 * d3) < (t2 * d3 + t3 * d2) * (d1 * d3))) = false := by rw [f4]; rfl
      have f6 : decide (-t2 * d1 < -t1 * d2) = true := decide_eq_true (by rw [Int.neg_mul, Int.neg_mul]; omega)
      have nf6 : (!decide (-t2 * d1 < -t1 * d2)) = false := by rw [f6]; rfl
      have last : ∀ (H' : Hp), Same H H' → True := fun _ _ => True.intro
      walk_at "gn"
      refine ift (fun hz => ?_) (fun hz => ?_)
      · have u0 : t3 ≠ 0 := of_bnot hz
        have p4 : (0 : Int) < (t3.natAbs : Int) := by omega
        have f5 : decide (t1 * (t3.natAbs : Int) * (d2 * d3) < t2 * (t3.natAbs : Int) * (d1 * d3)) = true := mlt (X := t1 * d2) (Y := t2 * d1) (c := (t3.natAbs : Int) * d3) hl (Int.mul_pos p4 p3) (by generalize (t3.natAbs : Int) = n; grind) (by generalize (t3.natAbs : Int) = n; grind)
        have nf5 : (!decide (t1 * (t3.natAbs : Int) * (d2 * d3) < t2 * (t3.natAbs : Int) * (d1 * d3))) = false := by rw [f5]; rfl
        walk_at "gn"
        refine ift (fun hb => ?_) (fun hb => ?_)
        · have hl2 : t2 * d3 < t3 * d2 := of_decide_eq_true hb
          have nf7 : (!decide (t1 * d3 < t3 * d1)) = false := by rw [trans3 p1 p2 p3 hl hl2]; rfl
          walk_at "gn"
          rw [finz t1 d1]
          exact q _ (by walk_at "sm")
        · walk_at "gn"
          rw [finz t1 d1]
          exact q _ (by walk_at "sm")
      · walk_at "gn"
        refine ift (fun hb => ?_) (fun hb => ?_)
        · have hl2 : t2 * d3 < t3 * d2 := of_decide_eq_true hb
          have nf7 : (!decide (t1 * d3 < t3 * d1)) = false := by rw [trans3 p1 p2 p3 hl hl2]; rfl
          walk_at "gn"
          rw [finz t1 d1]
          exact q _ (by walk_at "sm")
        · walk_at "gn"
          rw [finz t1 d1]
          exact q _ (by walk_at "sm")
    · walk_at "gn"
      rw [finz t1 d1]
      exact q _ (by walk_at "sm")
end
end Pk

namespace Pk
open PySem PySem.Spec PyProof.Rows L2
local macro_rules | `(tactic| walk_at "sz") => `(tactic| first | assumption | decide +kernel | exact Nat.le_trans (Nat.le_of_ble_eq_true rfl) (show 100000 ≤ sizeLine by decide) | exact Nat.le_trans (by omega) (show 100000 ≤ sizeLine by decide) | (show _ ≤ sizeLine; exact Nat.le_trans (by (simp only [List.length_append, List.length_map, List.length_cons, List.length_nil]; omega)) (show 100000 ≤ sizeLine by decide)))
local macro_rules | `(tactic| walk_at "mul") => `(tactic| first | exact Or.inl (Or.inl ⟨by omega, by omega⟩) | exact Or.inl (Or.inr ⟨by omega, by omega⟩))
local macro_rules | `(tactic| walk_at "ci") => `(tactic| first | assumption | exact (by decide : (0 : Int) < _) | (show (0 : Int) < _; omega) | exact ⟨by assumption, by assumption⟩ | exact ⟨by decide, by decide⟩ | exact ⟨by decide, by decide, by omega⟩)
local macro_rules | `(tactic| walk_at "lk") => `(tactic| first | assumption | exact upd_same | ((refine Eq.trans (upd_ne (by first | assumption | exact Ne.symm (by assumption))) ?_); walk_at "lk") | exact Same.get (by assumption) (by walk_at "lk") | exact Keep.get (by assumption) (by walk_at "lk") (by assumption) (by assumption))
local macro_rules | `(tactic| walk_at "sq") => `(tactic| first | assumption | exact SqL.of (by walk_at "lk") | exact Same.seq (by assumption) (by walk_at "sq"))
local macro_rules | `(tactic| walk_at "stt") => `(tactic| exact SqT.of (by walk_at "lk"))
local macro_rules | `(tactic| walk_at "kd") => `(tactic| first | assumption | exact Kd.str _ (by first | assumption | omega | decide) | exact Kd.bl _ | exact Kd.int _ | exact Kd.non | exact Kd.lst (by walk_at "lk") | exact Kd.tup (by walk_at "lk") | exact Kd.dct (by walk_at "lk") | exact Kd.same (by assumption) (by walk_at "kd"))
local macro_rules | `(tactic| walk_at "sm") => `(tactic| first | assumption | exact Same.refl _ | (refine Same.trans ?_ (by assumption); walk_at "sm"))
local macro_rules | `(tactic| walk_at "st") => `(tactic| first
  | with_reducible refine i_seq ?_ | with_reducible refine i_asg ?_ | with_reducible refine i_ret ?_ | with_reducible refine i_op ?_
  | ((with_reducible show tVar _ _ _ _); refine i_var rfl ?_)
  | with_reducible refine i_c ?_ | with_reducible refine i_cb ?_ | with_reducible refine i_call ?_ | with_reducible refine i_cons ?_ | with_reducible refine i_nil ?_
  | with_reducible refine i_name ?_ | with_reducible refine i_sub ?_ | with_reducible refine i_drop ?_ | with_reducible refine i_ifs ?_ | with_reducible refine i_ife ?_
  | with_reducible refine i_test ?_ | with_reducible refine i_tru ?_ | with_reducible refine i_and ?_ | with_reducible refine i_or ?_ | with_reducible refine i_not ?_
  | with_reducible refine i_andV ?_ | with_reducible refine i_orV ?_ | with_reducible refine i_notV ?_ | with_reducible refine i_un ?_
  | with_reducible refine i_bl ?_ | with_reducible refine i_trB ?_ | with_reducible refine i_next ?_
  | with_reducible refine iteF ?_ | with_reducible refine iteT ?_
  | with_reducible refine i_lstF ?_ | with_reducible refine i_tupF ?_
  | with_reducible refine p_addI ?_ | with_reducible refine p_I0 ?_ | with_reducible refine p_U ?_
  | with_reducible refine p_ltI ?_ | with_reducible refine p_leI ?_ | with_reducible refine p_gtI ?_ | with_reducible refine p_geI ?_
  | with_reducible refine p_ltS ?_ | with_reducible refine p_leS ?_ | with_reducible refine p_gtS ?_
  | with_reducible refine p_eqI ?_ | with_reducible refine p_neI ?_ | with_reducible refine p_int ?_
  | ((with_reducible show rMuXX (V.int _) (V.int _) _ _); refine p_muI (by walk_at "mul") ?_)
  | ((with_reducible show rI _ _ (V.int _) (V.int _) _ _); refine p_I (by walk_at "ci") ?_)
  | ((with_reducible show rIx _ (V.ref _) (V.int _) _ _); (first | refine p_ixL (by walk_at "sq") (by first | exact rfl | assumption) ?_ | refine p_ixT (SqT.of (by walk_at "lk")) (by first | exact rfl | assumption) ?_))
  | ((with_reducible show rSetL (V.ref _) (V.int _) _ _ _); refine p_setL (by walk_at "lk") (by first | exact rfl | assumption) ?_)
  | ((with_reducible show rLenX _ [V.ref _] _ _); (first | refine p_lenL (by walk_at "sq") ?_ | refine p_lenT (SqT.of (by walk_at "lk")) ?_))
  | ((with_reducible show rLenX _ [V.str _] _ _); refine p_lenS (by walk_at "sz") ?_)
  | with_reducible refine i_lc ?_ | with_reducible refine i_for ?_ | with_reducible refine i_itl ?_ | with_reducible refine i_itt ?_ | with_reducible refine i_itr ?_ | with_reducible refine i_its ?_
  | ((with_reducible show ∃ _, V.ref _ = V.ref _ ∧ (∃ _, SqL _ _ _ _) ∧ _); refine p_itl (by walk_at "sq") ?_)
  | ((with_reducible show ∃ _, V.ref _ = V.ref _ ∧ (∃ _, SqT _ _ _ _) ∧ _); refine p_itt (by walk_at "stt") ?_) | with_reducible refine p_its ?_
  | ((with_reducible show ∃ _, [V.int _] = [V.int _] ∧ _); refine p_itr (by omega) (by omega) ?_)
  | with_reducible refine i_sl ?_ | with_reducible refine i_np ?_ | with_reducible refine i_pt ?_ | with_reducible refine i_in ?_
  | ((with_reducible show rSlXX _ (V.ref _) _ _ _ _); refine p_slL (by walk_at "sq") ?_; intro _ _ _ _ _)
  | ((with_reducible show rSlXX _ (V.str _) _ _ _ _); refine p_slS (by walk_at "sz") ?_)
  | ((with_reducible show rIsi _ [_, V.ty "str"] _ _); refine p_isStr (by walk_at "kd") ?_)
  | ((with_reducible show rIsi _ [_, V.ty "int"] _ _); refine p_isInt (by walk_at "kd") ?_)
  | ((with_reducible show rIsi _ [_, V.ty "bool"] _ _); refine p_isBool (by walk_at "kd") ?_)
  | ((with_reducible show rIsiT _ [_, V.ref _] _ _); refine p_isLT (by walk_at "lk") (by walk_at "kd") ?_)
  | with_reducible refine i_chain ?_ | with_reducible refine i_m1 ?_ | with_reducible refine i_m0 ?_ | with_reducible refine i_str ?_
  | ((with_reducible show LstK _ _ _); refine p_lstK (by walk_at "sz") ?_; intro _ _ _ _ _)
  | ((with_reducible show TupK _ _ _); refine p_tupK (by walk_at "sz") ?_; intro _ _ _ _ _)
  | ((with_reducible show (if _ = true then _ else _)); (first | refine ifT' (by first | assumption | exact rfl) ?_ | refine ifF' (by first | assumption | exact rfl) ?_))
  | ((with_reducible show rEqX _ (V.bl _) (V.bl _) _ _); refine p_eqS rfl ?_) | ((with_reducible show rNeX _ (V.bl _) (V.bl _) _ _); refine p_neS rfl ?_)
  | ((with_reducible show rEqX _ (V.ref _) (V.ref _) _ _); refine p_eqNil (by walk_at "lk") (by walk_at "lk") ?_) | ((with_reducible show rNeX _ (V.ref _) (V.ref _) _ _); refine p_neNil (by walk_at "lk") (by walk_at "lk") ?_)
  | ((with_reducible show rAddX _ (V.str _) (V.str _) _ _); refine p_addS (by walk_at "sz") ?_)
  | ((with_reducible show rMuXX (V.str _) (V.int _) _ _); refine p_muS ⟨by decide +kernel, by decide +kernel, by decide +kernel⟩ ?_)
  | ((with_reducible show tDNewK _ _ _); refine i_dnew ?_; intro _ _ _ _ _)
  | ((with_reducible show rTupX _ [V.ref _] _ _); refine p_tupL (by walk_at "sq") ?_; intro _ _ _ _ _)
  | ((with_reducible show rAddX _ (V.ref _) (V.ref _) _ _); refine p_addL (by walk_at "lk") (by walk_at "lk") (by walk_at "sz") ?_; intro _ _ _ _ _)
  | with_reducible refine p_notB ?_ | with_reducible refine p_isB ?_)
local macro_rules | `(tactic| walk_at "go") => `(tactic| (walk_at "st"; (repeat walk_at "st")))

local macro_rules | `(tactic| walk_at "rx") => `(tactic| first
  | with_reducible refine i_par ?_ | ((with_reducible show ∃ _ _, [_, _] = [_, _] ∧ _); refine ⟨_, _, rfl, ?_⟩) | ((with_reducible show ∃ _, [V.int _] = [V.int _] ∧ _); refine ⟨_, rfl, ?_⟩)
  | with_reducible refine i_sfl ?_ | with_reducible refine i_mk ?_ | with_reducible refine i_pr ?_ | with_reducible refine i_fl ?_
  | ((with_reducible show FlK _ _ _ (V.ref _) _); first | refine p_flT (by assumption) (by assumption) ?_ | refine p_flB (by assumption) (by assumption) ?_)
  | ((with_reducible show rIsi _ [V.ref _, V.ref _] _ _); refine p_isR (by assumption) (by assumption) ?_)
  | ((with_reducible show rIsi _ [V.ref _, V.ty "int"] _ _); refine p_isRi (by assumption) (by assumption) ?_)
  | ((with_reducible show rIsi _ [_, V.ref _] _ _); refine p_isRn (by assumption) (by walk_at "kd") ?_)
  | ((with_reducible show rMuXX (V.int _) (V.int _) _ _); refine p_muI (Or.inr (by assumption)) ?_)
  | ((with_reducible show rGcd [V.int _, V.int _] _ _); refine ⟨_, _, rfl, ?_⟩)
  | ((with_reducible show PrK _ _ _ (V.ref _) _); first | refine p_prT (by assumption) ?_ | refine p_prB (by assumption) ?_))
local macro_rules | `(tactic| walk_at "gr") => `(tactic| repeat (first | walk_at "st" | walk_at "rx"))

local macro_rules | `(tactic| walk_at "np") => `(tactic| first | assumption | exact Np.same (by assumption) (by walk_at "np"))
local macro_rules | `(tactic| walk_at "nx") => `(tactic| first
  | ((with_reducible show rBoolO _ (spBool _) [V.ref _] _ _); (apply np_zero; (walk_at "np")))
  | ((with_reducible show ∃ _ _ _, V.ref _ = V.ref _ ∧ _ ∧ _ ∧ _); (apply p_met (by decide +kernel) (by decide +kernel); (walk_at "np")))
  | ((with_reducible show spDiv _ _ _ _ _); (apply p_div; (walk_at "np"); (walk_at "np"); assumption; decide; decide); intro _ _ _ _)
  | ((with_reducible show spMid _ _ _ _ _); (apply p_mid; (walk_at "np"); (walk_at "np"); decide; decide); intro _ _ _ _)
  | with_reducible refine i_bm ?_ | ((with_reducible show V.ref _ = V.ref _ ∧ _); refine ⟨rfl, ?_⟩)
  | with_reducible refine i_mt ?_ | with_reducible refine i_stat ?_
  | ((with_reducible show rArU _ _ _ (V.ref _) (V.ref _) _ _); (apply p_arBB; (walk_at "np"); (walk_at "np"); decide; decide); intro _ _ _ _)
  | ((with_reducible show rArU _ _ _ (V.ref _) (V.int _) _ _); (apply p_arBI; (walk_at "np"); (walk_at "np"); decide; decide); intro _ _ _ _)
  | ((with_reducible show rArU _ (Ar _ tAdd _) _ (V.int _) (V.ref _) _ _); (apply p_addIB; (walk_at "np"); (walk_at "np"); decide; decide); intro _ _ _ _)
  | ((with_reducible show rArU _ (Ar _ tSub _) _ (V.int _) (V.ref _) _ _); (apply p_subIB; (walk_at "np"); (walk_at "np"); decide; decide); intro _ _ _ _)
  | ((with_reducible show rArU _ (Ar _ tMul _) _ (V.int _) (V.ref _) _ _); (apply p_mulIB; (walk_at "np"); (walk_at "np"); decide; decide); intro _ _ _ _)
  | ((with_reducible show rNegO _ (Un1 _ _) (V.ref _) _ _); (apply p_neg; (walk_at "np"); decide); intro _ _ _ _)
  | ((with_reducible show rAbsO _ (Un1 _ _) _ _ _); (apply p_absN; (walk_at "np"); decide); intro _ _ _ _)
  | ((with_reducible show rCmp _ (Rel4 fLt _) _ _ _ _ _); (apply p_ltN; (walk_at "np"); (walk_at "np"); (walk_at "one"); decide; decide); intro _ _)
  | ((with_reducible show rCmp _ (Rel4 fLe _) _ _ _ _ _); (apply p_leN; (walk_at "np"); (walk_at "np"); (walk_at "one"); decide; decide); intro _ _)
  | ((with_reducible show rCmp _ (Rel4 fGt _) _ _ _ _ _); (apply p_gtN; (walk_at "np"); (walk_at "np"); (walk_at "one"); decide; decide); intro _ _)
  | ((with_reducible show rCmp _ (Rel4 fGe _) _ _ _ _ _); (apply p_geN; (walk_at "np"); (walk_at "np"); (walk_at "one"); decide; decide); intro _ _)
  | ((with_reducible show rEU _ _ _ _ _ _ _ _); (first | (apply p_eqN; (walk_at "np"); (walk_at "np"); (walk_at "one")) | (refine .inr (p_eqI ?_)) | (refine .inr (p_eqS rfl ?_))))
  | ((with_reducible show rNU _ _ _ _ _ _ _ _); (first | (apply p_neN; (walk_at "np"); (walk_at "np"); (walk_at "one")) | (refine .inr (p_neI ?_)) | (refine .inr (p_neS rfl ?_)))))
local macro_rules | `(tactic| walk_at "one") => `(tactic| first | exact .inl ⟨_, rfl⟩ | exact .inr ⟨_, rfl⟩)
local macro_rules | `(tactic| walk_at "gn") => `(tactic| repeat (first | walk_at "st" | walk_at "rx" | walk_at "nx"))

section
variable {P : Program} {w : World} {K : PySem.W.Frag} {mg : Str → Option Value} {base : Heap} {C : Addr}
theorem lcw_obj {te : TE} {vs : List Nat} {σ : L2.St} {H1 : Hp} {xs : List V} {J : It} {G : Hp → Prop} {Q : VK} {j : Nat} (w : WalkX J xs G) (Ob : V → HO → Prop) (hG : ∀ H', Same H1 H' → G H') (hz : xs.length < 100000) (hw : ∀ x, wipe ((wipe σ vs).set j (some x)) vs = wipe σ vs)
    (he : ∀ x, x ∈ xs → ∀ (H' : Hp) (R : VK), Same H1 H' → (∀ q o H'', Same H' H'' → H' q = none → H'' q = some o → Ob x o → R (.ref q) H'') → te ((wipe σ vs).set j (some x)) H' R)
    (q : ∀ D H' acc, H1 D = none → Same H1 H' → H' D = some (.lst acc) → acc.length = xs.length → (∀ (i : Nat) x, xs[i]? = some x → ∃ q o, acc[i]? = some (.ref q) ∧ q ≠ D ∧ H1 q = none ∧ H' q = some o ∧ Ob x o) → Q (.ref D) H') : LcBody (gName j) tYes te vs σ Q J H1 := by
  refine lcw w fun D hD => ⟨fun i H => Same H1 H ∧ ∃ acc, H D = some (.lst acc) ∧ acc.length = i ∧ ∀ (k : Nat) x, xs[k]? = some x → k < i → ∃ q o, acc[k]? = some (.ref q) ∧ q ≠ D ∧ H1 q = none ∧ H q = some o ∧ Ob x o, fun _ _ => True,
    ⟨same_upd hD, [], upd_same, rfl, fun k x _ h => absurd h (Nat.not_lt_zero _)⟩, True.intro, fun _ H s => hG H s.1, fun i x hx acc H s _ e hl => ?_, fun acc H s _ e hl => ?_⟩
  · have hi : i < 100000 := Nat.lt_trans (List.getElem?_eq_some_iff.mp hx).1 hz
    obtain ⟨s, acc', e', l', all⟩ := s
    rw [e] at e'
    cases e'
    refine ⟨hw x, ?_⟩
    have goal : te ((wipe σ vs).set j (some x)) H (LcEnd D (fun i H => Same H1 H ∧ ∃ acc, H D = some (.lst acc) ∧ acc.length = i ∧ ∀ (k : Nat) x, xs[k]? = some x → k < i → ∃ q o, acc[k]? = some (.ref q) ∧ q ≠ D ∧ H1 q = none ∧ H q = some o ∧ Ob x o) (fun _ _ => True) (i + 1)) := by
      refine he x (List.mem_of_getElem? hx) H _ s fun q o H4 s4 n4 e4 ob => ?_
      have qD : q ≠ D := (ne_of_none e n4).symm
      refine lc_end (s4 _ _ e) hl hi ⟨Same.upd (s.trans s4) hD, _, upd_same, by rw [List.length_append, l', List.length_singleton], fun k y hy hk => ?_⟩ True.intro
      by_cases hki : k < i
      · obtain ⟨q', o', a1, a2, a0, a3, a4⟩ := all k y hy hki
        exact ⟨q', o', by rw [List.getElem?_append_left (by omega)]; exact a1, a2, a0, by rw [upd_ne a2]; exact s4 _ _ a3, a4⟩
      · obtain rfl : k = i := by omega
        obtain rfl : x = y := Option.some.inj (hx.symm.trans hy)
        exact ⟨q, o, by rw [List.getElem?_append_right (by omega), show k - acc.length = 0 by omega]; rfl, qD, s.free n4, by rw [upd_ne qD]; exact e4, ob⟩
    exact goal
  · obtain ⟨s, acc', e', l', all⟩ := s
    rw [e] at e'
    cases e'
    exact q D H acc hD s e l' fun i x hx => all i x hx (List.getElem?_eq_some_iff.mp hx).1
theorem lcw_pobj {te : TE} {vs : List Nat} {σ : L2.St} {H1 : Hp} {xs : List V} {J : It} {G : Hp → Prop} {Q : VK} {j : Nat} {p n : Addr} {k d : Int} (w : WalkX J xs G) (Ob : HO → Prop) (hP : PoolAt H1 p n k) (hG : ∀ H', Keep p n H1 H' → G H') (hz : xs.length < 100000) (hw : ∀ x, wipe ((wipe σ vs).set j (some x)) vs = wipe σ vs)
    (he : ∀ (i : Nat) x, xs[i]? = some x → ∀ (H' : Hp) (R : VK), Keep p n H1 H' → PoolAt H' p n (k + i * d) → (∀ q o H'', Keep p n H' H'' → PoolAt H'' p n (k + (i + 1 : Nat) * d) → H' q = none → H'' q = some o → Ob o → R (.ref q) H'') → te ((wipe σ vs).set j (some x)) H' R)
    (q : ∀ D H' acc, H1 D = none → Keep p n H1 H' → PoolAt H' p n (k + xs.length * d) → H' D = some (.lst acc) → acc.length = xs.length → (∀ (i : Nat), i < xs.length → ∃ q o, acc[i]? = some (.ref q) ∧ H' q = some o ∧ Ob o) → Q (.ref D) H') : LcBody (gName j) tYes te vs σ Q J H1 := by
  refine lcw w fun D hD => ⟨fun i H => Keep p n H1 H ∧ PoolAt H p n (k + i * d) ∧ ∃ acc, H D = some (.lst acc) ∧ acc.length = i ∧ ∀ (m : Nat), m < i → ∃ q o, acc[m]? = some (.ref q) ∧ q ≠ D ∧ q ≠ p ∧ q ≠ n ∧ H q = some o ∧ Ob o, fun _ _ => True,
    ⟨(Keep.refl p n H1).upd hD, ?_, [], upd_same, rfl, fun m h => absurd h (Nat.not_lt_zero _)⟩, True.intro, fun _ H s => hG H s.1, fun i x hx acc H s _ e hl => ?_, fun acc H s _ e hl => ?_⟩
  · have z : PoolAt (L2.upd H1 D (.lst [])) p n k := hP.upd (hP.ne hD).1 (hP.ne hD).2
    exact z.mono (by simp)
  · have hi : i < 100000 := Nat.lt_trans (List.getElem?_eq_some_iff.mp hx).1 hz
    obtain ⟨s, sp, acc', e', l', all⟩ := s
    rw [e] at e'
    cases e'
    obtain ⟨dp, dn⟩ := hP.ne hD
    refine ⟨hw x, ?_⟩
    have goal : te ((wipe σ vs).set j (some x)) H (LcEnd D (fun i H => Keep p n H1 H ∧ PoolAt H p n (k + i * d) ∧ ∃ acc, H D = some (.lst acc) ∧ acc.length = i ∧ ∀ (m : Nat), m < i → ∃ q o, acc[m]? = some (.ref q) ∧ q ≠ D ∧ q ≠ p ∧ q ≠ n ∧ H q = some o ∧ Ob o) (fun _ _ => True) (i + 1)) := by
      refine he i x hx H _ s sp fun q o H4 s4 p4 n4 e4 ob => ?_
      have qD : q ≠ D := (ne_of_none e n4).symm
      obtain ⟨qp, qn⟩ := sp.ne n4
      refine lc_end (s4 _ _ e dp dn) hl hi ⟨(s.trans s4).upd hD, p4.upd dp dn, _, upd_same, by rw [List.length_append, l', List.length_singleton], fun m hm => ?_⟩ True.intro
      by_cases hki : m < i
      · obtain ⟨q', o', a1, a2, a3, a4, a5, a6⟩ := all m hki
        exact ⟨q', o', by rw [List.getElem?_append_left (by omega)]; exact a1, a2, a3, a4, by rw [upd_ne a2]; exact s4 _ _ a5 a3 a4, a6⟩
      · obtain rfl : m = i := by omega
        exact ⟨q, o, by rw [List.getElem?_append_right (by omega), show m - acc.length = 0 by omega]; rfl, qD, qp, qn, by rw [upd_ne qD]; exact e4, ob⟩
    exact goal
  · obtain ⟨s, sp, acc', e', l', all⟩ := s
    rw [e] at e'
    cases e'
    exact q D H acc hD s sp e l' fun i hi => by
      obtain ⟨q', o', a1, _, _, _, a5, a6⟩ := all i hi
      exact ⟨q', o', a1, a5, a6⟩
theorem np_pair {t b : Int} (h0 : b ≠ 0) (h1 : t.natAbs < 10 ^ 30) (h2 : b.natAbs < 10 ^ 31) : Eqv (rN t b) (rD t b) (t * b.sign) (b.natAbs : Int) 110 := by
  have a1 : t.natAbs < 2 ^ 110 := Nat.lt_trans h1 (by decide)
  have a2 : b.natAbs < 2 ^ 110 := Nat.lt_trans h2 (by decide)
  refine rv_of h0 (by omega) ?_ ?_ (by rw [Int.natAbs_natCast]; exact a2)
  · rw [← sign_mul b]
    grind
  · rw [Int.natAbs_mul, Int.natAbs_sign_of_ne_zero h0, Nat.mul_one]
    exact a1
theorem np_int {z : Int} (h : z.natAbs < 10 ^ 29) : Eqv z 1 z 1 110 := ⟨⟨by decide, Nat.gcd_one_right _⟩, rfl, by decide, Nat.lt_trans h (by decide), by decide⟩
theorem Np.keep {H H' : Hp} {x : Addr} {t b : Int} {k : Nat} {p n : Addr} (e : Keep p n H H') (h : Np C H (.ref x) t b k) (h1 : x ≠ p) (h2 : x ≠ n) : Np C H' (.ref x) t b k := by
  obtain ⟨N, D, ⟨dx, g⟩, v⟩ := h.ref
  exact ⟨N, D, .rat ⟨dx, e _ _ g h1 h2⟩, v⟩
-- ["script", "pool", "k", "pairs", "number", "whole", "a", "b", "c", "one", "other", "third", "pair"]
def spLaw (K : PySem.W.Frag) : Sp := fun vs H Q _ => ∃ (a : Addr) (ns : List Int), vs = [.ref a] ∧ SqL K H a (ns.map V.int) ∧ ns.length ≤ 63 ∧ ∀ H', Q (.bl true) H'
theorem ok_law (T : Tx K mg C) {f : Addr} {fd : FuncData} (F : Fun K "law" "law" s_law f fd) : FnOk P w K mg base CX0 11 f fd ["script"] (spLaw K) := by
  have c__law_pool : Cal P w K mg base CX0 1 "_law_pool" (spPool K) := c__law_pool T
  have c__law_integer : Cal P w K mg base CX0 3 "_law_integer" spInteger := c__law_integer T
  have c__law_pair : Cal P w K mg base CX0 4 "_law_pair" spPair := c__law_pair T
  have c__law_ring : Cal P w K mg base CX0 9 "_law_ring" (spTri C) := c__law_ring T
  have c__law_order : Cal P w K mg base CX0 9 "_law_order" (spTri C) := c__law_order T
  have c_Ratio2 : C8.Mak P w K mg base 2 "Ratio" C (spIni C) [] := c_Ratio2 T.R
  have c_Ratio1 : C8.Mak P w K mg base 2 "Ratio" C (spIni C) [.int 1] := c_Ratio1 T.R
  have m_add : OwnM P w K mg base 5 C "__add__" (Ar C tAdd dBV) := c_add T.R
  have m_radd : OwnM P w K mg base 6 C "__radd__" (ArI C tAdd dBV) := c_radd T.R
  have m_sub : OwnM P w K mg base 6 C "__sub__" (Ar C tSub dBV) := c_sub T.R
  have m_rsub : OwnM P w K mg base 6 C "__rsub__" (ArI C rsT dBV) := c_rsub T.R
  have m_mult : OwnM P w K mg base 5 C "__mul__" (Ar C tMul dBV) := c_mul T.R
  have m_rmult : OwnM P w K mg base 6 C "__rmul__" (ArI C tMul dBV) := c_rmul T.R
  have m_neg : OwnM P w K mg base 4 C "__neg__" (Un1 C tNeg) := c_neg T.R
  have m_abs : OwnM P w K mg base 4 C "__abs__" (Un1 C tAbs) := c_abs T.R
  have m_bool : OwnM P w K mg base 1 C "__bool__" (spBool C) := c_bool T.R
  have m_divided : C8.Met P w K mg base 5 C "divided" (spDiv C) [] := c_divided T.R
  have m_middle : StatM P w K mg base 7 C "middle" (spMid C) := c_middle T.R
  have m_lt : OwnM P w K mg base 5 C "__lt__" (Rel4 fLt C) := c_lt T.R
  have m_lte : OwnM P w K mg base 5 C "__le__" (Rel4 fLe C) := c_le T.R
  have m_gt : OwnM P w K mg base 5 C "__gt__" (Rel4 fGt C) := c_gt T.R
  have m_gte : OwnM P w K mg base 5 C "__ge__" (Rel4 fGe C) := c_ge T.R
  have m_eq : OwnM P w K mg base 3 C "__eq__" (spEq C) := c_eq T.R
  have m_noteq : OwnM P w K mg base 4 C "__ne__" (spNe C) := c_ne T.R
  refine F.ok sc_law (fun vs H Q E h => ?_) (fun cdv A outer s H vs Q E hr h => ?_)
  · obtain ⟨a, ns, rfl, _⟩ := h
    rfl
  · obtain ⟨a, ns, rfl, hS, hl, q⟩ := h
    have hr : Room 10 _ := hr
    refine ⟨_, (pss_cons (ps_set (i := 1) sc_law.nd rfl (by first | exact Or.inl rfl | exact Or.inr rfl) (pe_c c__law_pool hr (by decide) (by rfl) pass0 (pa_cons (pv 0) pa_nil)))
      (pss_cons (ps_for PassesOwn.never rfl (pi_range1 (by rfl) T.n_range (pa_cons pe_int pa_nil)) (pg_name (i := 2) sc_law.nd rfl (by first | exact Or.inl rfl | exact Or.inr rfl)) (pss_cons (ps_setLc (i := 3) (own := [("one", 9)]) (g := gName 9) (tt := tYes) rfl sc_law.nd rfl rfl (sw_true rfl rfl rfl (by decide +kernel)) (pi_range1 (by rfl) T.n_range (pa_cons pe_int pa_nil)) (blkOk_by (N := N_law) (sc := defScope s_law) (by decide +kernel)) (fun _ _ _ _ _ => (pg_name (i := 9) sc_law.nd rfl (by first | exact Or.inl rfl | exact Or.inr rfl))) (fun _ _ _ _ _ => pts_nil) (fun _ _ _ _ _ => (pe_c c__law_pair hr (by decide) (by rfl) pass0 (pa_cons (pv 1) pa_nil))))
      (pss_cons (ps_asg (pe_lc (own := [("pair", 12)]) (g := gName 12) (tt := tYes) rfl sc_law.nd (pi_listK (K := K) rfl (pv 3)) (blkOk_by (N := N_law) (sc := defScope s_law) (by decide +kernel)) (fun _ _ _ _ _ => (pg_name (i := 12) sc_law.nd rfl (by first | exact Or.inl rfl | exact Or.inr rfl))) (fun _ _ _ _ _ => pts_nil) (fun _ _ _ _ _ => (C8.pe_mk c_Ratio2 hr (by decide) (by rfl) (pa_cons (pe_ix (r := rIx K) ix_seq (pv 12) pe_int (fun _ _ => rfl)) (pa_cons (pe_ix (r := rIx K) ix_seq (pv 12) pe_int (fun _ _ => rfl)) pa_nil))))) (pg_unl rfl (pgs_cons (pg_name (i := 6) sc_law.nd rfl (by first | exact Or.inl rfl | exact Or.inr rfl)) (pgs_cons (pg_name (i := 7) sc_law.nd rfl (by first | exact Or.inl rfl | exact Or.inr rfl)) (pgs_cons (pg_name (i := 8) sc_law.nd rfl (by first | exact Or.inl rfl | exact Or.inr rfl)) pgs_nil)))))
      (pss_cons (ps_set (i := 4) sc_law.nd rfl (by first | exact Or.inl rfl | exact Or.inr rfl) (pe_c c__law_integer hr (by decide) (by rfl) pass0 (pa_cons (pv 1) pa_nil)))
      (pss_cons (ps_set (i := 5) sc_law.nd rfl (by first | exact Or.inl rfl | exact Or.inr rfl) (C8.pe_mk c_Ratio1 hr (by decide) (by rfl) (pa_cons (pv 4) pa_nil)))
      (pss_cons (ps_for PassesOwn.never rfl (pi_listK (K := K) rfl (pe_lst (pa_cons (pe_tup (pa_cons (pv 6) (pa_cons (pv 7) (pa_cons (pv 8) pa_nil)))) (pa_cons (pe_tup (pa_cons (pv 7) (pa_cons (pv 8) (pa_cons (pv 6) pa_nil)))) (pa_cons (pe_tup (pa_cons (pv 8) (pa_cons (pv 6) (pa_cons (pv 7) pa_nil)))) (pa_cons (pe_tup (pa_cons (pv 6) (pa_cons (pv 6) (pa_cons (pv 7) pa_nil)))) (pa_cons (pe_tup (pa_cons (pv 6) (pa_cons (pv 5) (pa_cons (pv 8) pa_nil)))) pa_nil))))))) (pg_tup rfl (pgs_cons (pg_name (i := 9) sc_law.nd rfl (by first | exact Or.inl rfl | exact Or.inr rfl)) (pgs_cons (pg_name (i := 10) sc_law.nd rfl (by first | exact Or.inl rfl | exact Or.inr rfl)) (pgs_cons (pg_name (i := 11) sc_law.nd rfl (by first | exact Or.inl rfl | exact Or.inr rfl)) pgs_nil)))) (pss_one (ps_if (PW.pt (pw_or (pt_not (pt_truK (K := K) rfl (pe_c c__law_ring hr (by decide) (by rfl) pass0 (pa_cons (pv 9) (pa_cons (pv 10) (pa_cons (pv 11) pa_nil)))) (by intro _; rfl))) (pw_or1 (pt_not (pt_truK (K := K) rfl (pe_c c__law_order hr (by decide) (by rfl) pass0 (pa_cons (pv 9) (pa_cons (pv 10) (pa_cons (pv 11) pa_nil)))) (by intro _; rfl)))))) (pss_one (ps_ret pe_bl)) pss_nil)))
      (pss_cons (ps_if (PW.pt (pw_or (pt_cmpR (op_noteqU T.R m_noteq m_noteq (by decide) (by decide) hr) (pe_op (op_addU T.R m_add m_radd (by decide) (by decide) hr) (pv 6) (pv 4)) (pe_op (op_addU T.R m_add m_radd (by decide) (by decide) hr) (pv 6) (pv 5)) (nomark _)) (pw_or (pt_cmpR (op_noteqU T.R m_noteq m_noteq (by decide) (by decide) hr) (pe_op (op_addU T.R m_add m_radd (by decide) (by decide) hr) (pv 4) (pv 6)) (pe_op (op_addU T.R m_add m_radd (by decide) (by decide) hr) (pv 5) (pv 6)) (nomark _)) (pw_or1 (pt_cmpR (op_noteqU T.R m_noteq m_noteq (by decide) (by decide) hr) (pe_op (op_subU T.R m_sub m_rsub (by decide) (by decide) hr) (pv 6) (pv 4)) (pe_op (op_subU T.R m_sub m_rsub (by decide) (by decide) hr) (pv 6) (pv 5)) (nomark _)))))) (pss_one (ps_ret pe_bl)) pss_nil)
      (pss_cons (ps_if (PW.pt (pw_or (pt_cmpR (op_noteqU T.R m_noteq m_noteq (by decide) (by decide) hr) (pe_op (op_multU T.R m_mult m_rmult (by decide) (by decide) hr) (pv 4) (pv 7)) (pe_op (op_multU T.R m_mult m_rmult (by decide) (by decide) hr) (pv 5) (pv 7)) (nomark _)) (pw_or (pt_cmpR (op_noteqU T.R m_noteq m_noteq (by decide) (by decide) hr) (pe_op (op_multU T.R m_mult m_rmult (by decide) (by decide) hr) (pv 7) (pv 4)) (pe_op (op_multU T.R m_mult m_rmult (by decide) (by decide) hr) (pv 7) (pv 5)) (nomark _)) (pw_or1 (pt_cmpR (op_noteqU T.R m_noteq m_noteq (by decide) (by decide) hr) (pe_op (op_subU T.R m_sub m_rsub (by decide) (by decide) hr) (pv 4) (pv 6)) (pe_op (op_subU T.R m_sub m_rsub (by decide) (by decide) hr) (pv 5) (pv 6)) (nomark _)))))) (pss_one (ps_ret pe_bl)) pss_nil)
      (pss_cons (ps_if (PW.pt (pw_or (pt_cmpR (op_noteqU T.R m_noteq m_noteq (by decide) (by decide) hr) (pe_cmpR (op_ltU T.R m_lt m_gt (by decide) (by decide) hr) (pv 6) (pv 4) (nomark _)) (pe_cmpR (op_ltU T.R m_lt m_gt (by decide) (by decide) hr) (pv 6) (pv 5) (nomark _)) (nomark _)) (pw_or (pt_cmpR (op_noteqU T.R m_noteq m_noteq (by decide) (by decide) hr) (pe_cmpR (op_gtU T.R m_gt m_lt (by decide) (by decide) hr) (pv 6) (pv 4) (nomark _)) (pe_cmpR (op_gtU T.R m_gt m_lt (by decide) (by decide) hr) (pv 6) (pv 5) (nomark _)) (nomark _)) (pw_or1 (pt_cmpR (op_noteqU T.R m_noteq m_noteq (by decide) (by decide) hr) (pe_cmpR (op_eqU T.R m_eq m_eq (by decide) (by decide) hr) (pv 6) (pv 4) (nomark _)) (pe_cmpR (op_eqU T.R m_eq m_eq (by decide) (by decide) hr) (pv 6) (pv 5) (nomark _)) (nomark _)))))) (pss_one (ps_ret pe_bl)) pss_nil)
      (pss_one (ps_if (PW.pt (pw_or (pt_cmpR (op_noteqU T.R m_noteq m_noteq (by decide) (by decide) hr) (pe_cmpR (op_lteU T.R m_lte m_gte (by decide) (by decide) hr) (pv 4) (pv 8) (nomark _)) (pe_cmpR (op_lteU T.R m_lte m_gte (by decide) (by decide) hr) (pv 5) (pv 8) (nomark _)) (nomark _)) (pw_or (pt_cmpR (op_noteqU T.R m_noteq m_noteq (by decide) (by decide) hr) (pe_cmpR (op_gteU T.R m_gte m_lte (by decide) (by decide) hr) (pv 4) (pv 8) (nomark _)) (pe_cmpR (op_gteU T.R m_gte m_lte (by decide) (by decide) hr) (pv 5) (pv 8) (nomark _)) (nomark _)) (pw_or1 (pt_cmpR (op_noteqU T.R m_noteq m_noteq (by decide) (by decide) hr) (pe_cmpR (op_ltU T.R m_lt m_gt (by decide) (by decide) hr) (pv 4) (pv 8) (nomark _)) (pe_cmpR (op_ltU T.R m_lt m_gt (by decide) (by decide) hr) (pv 5) (pv 8) (nomark _)) (nomark _)))))) (pss_one (ps_ret pe_bl)) pss_nil)))))))))))
      (pss_one (ps_ret pe_bl)))), ?_⟩
    walk_at "gn"
    refine ⟨a, ns, rfl, hS, hl, fun p n H1 hP s1 np nn => ?_⟩
    walk_at "gn"
    refine fow (xs := intsV 6) wx_range (fun i σ' H' => ∃ v2 v3 v4 v5 v6 v7 v8 v9 v10 v11 v12 : Option V, σ' = [some (.ref a), some (.ref p), v2, v3, v4, v5, v6, v7, v8, v9, v10, v11, v12] ∧ PoolAt H' p n (1000 * i))
      ⟨none, none, none, none, none, none, none, none, none, none, none, rfl, hP.mono (by omega)⟩ (fun _ _ _ _ => trivial) (fun i x σ' H' hx ⟨v2, v3, v4, v5, v6, v7, v8, v9, v10, v11, v12, es, hP⟩ => ?_) (fun σ' H' ⟨v2, v3, v4, v5, v6, v7, v8, v9, v10, v11, v12, es, hP⟩ => ?_)
    · obtain ⟨hi, rfl⟩ := intsV_at hx
      subst es
      walk_at "gn"
      refine lcw_pobj (xs := intsV 3) (j := 9) (k := 1000 * i) (d := 8) wx_range (fun o => ∃ t b : Int, o = .tup [.int t, .int b] ∧ b ≠ 0 ∧ t.natAbs < 10 ^ 30 ∧ b.natAbs < 10 ^ 31) hP (fun _ _ => trivial) (by decide) (fun _ => rfl) (fun m x hx H' R kp hp' k => ?_) (fun D H2 acc nD kp2 hP2 eD la all => ?_)
      · obtain ⟨hm, rfl⟩ := intsV_at hx
        walk_at "gn"
        refine ⟨p, n, 1000 * i + m * 8, rfl, hp', by omega, by omega, fun q0 t b H3 l z l' e3 n3 hP3 kp3 => ?_⟩
        exact k q0 _ H3 kp3 (hP3.mono (by push_cast; omega)) n3 e3 ⟨t, b, rfl, z, l, l'⟩
      · obtain ⟨x1, _, a1, f1, t1, b1, rfl, z1, l1, m1⟩ := all 0 (by decide)
        obtain ⟨x2, _, a2, f2, t2, b2, rfl, z2, l2, m2⟩ := all 1 (by decide)
        obtain ⟨x3, _, a3, f3, t3, b3, rfl, z3, l3, m3⟩ := all 2 (by decide)
        obtain rfl : acc = [.ref x1, .ref x2, .ref x3] := by
          match acc, la, a1, a2, a3 with
          | [y1, y2, y3], _, a1, a2, a3 => rw [Option.some.inj a1, Option.some.inj a2, Option.some.inj a3]
        have hP2 : PoolAt H2 p n (1000 * i + 24) := hP2.mono (by simp [intsV])
        walk_at "gn"
        refine lcw_obj (xs := [.ref x1, .ref x2, .ref x3]) (j := 12) wx_list (fun _ o => ∃ dx t b N D, o = .ins C dx (rf N D) ∧ Eqv N D t b 110) (fun H' s => SqL.of (s _ _ eD)) (by show 3 < 100000; decide) (fun _ => rfl) (fun x hx H' R sR k => ?_) (fun D2 H3 acc2 nD2 s3 eD2 la2 all2 => ?_)
        · obtain ⟨q0, t0, b0, rfl, e0, z0, l0, m0⟩ : ∃ q t b, x = .ref q ∧ H' q = some (.tup [.int t, .int b]) ∧ b ≠ 0 ∧ t.natAbs < 10 ^ 30 ∧ b.natAbs < 10 ^ 31 := by
            simp only [List.mem_cons, List.not_mem_nil, or_false] at hx
            rcases hx with rfl | rfl | rfl
            · exact ⟨_, _, _, rfl, sR _ _ f1, z1, l1, m1⟩
            · exact ⟨_, _, _, rfl, sR _ _ f2, z2, l2, m2⟩
            · exact ⟨_, _, _, rfl, sR _ _ f3, z3, l3, m3⟩
          have g0 : atI [V.int t0, V.int b0] 0 = some (.int t0) := rfl
          have g1 : atI [V.int t0, V.int b0] 1 = some (.int b0) := rfl
          walk_at "gn"
          refine p_mk (vs := [.int t0, .int b0]) (dvs := []) rfl z0 (Nat.lt_of_lt_of_le (Nat.lt_trans m0 (by decide : 10 ^ 31 < 2 ^ 110)) (Nat.pow_le_pow_right (by decide) (by decide))) fun pr H4 rr s4 n4 => ?_
          obtain ⟨dx, er⟩ := rr
          exact k pr _ H4 s4 n4 er ⟨dx, _, _, _, _, rfl, np_pair z0 l0 m0⟩
        · obtain ⟨y1, _, c1, _, w1, g1, dx1, u1, d1, N1, D1, rfl, v1⟩ := all2 0 _ rfl
          obtain ⟨y2, _, c2, _, w2, g2, dx2, u2, d2, N2, D2', rfl, v2'⟩ := all2 1 _ rfl
          obtain ⟨y3, _, c3, _, w3, g3, dx3, u3, d3, N3, D3, rfl, v3'⟩ := all2 2 _ rfl
          obtain rfl : acc2 = [.ref y1, .ref y2, .ref y3] := by
            match acc2, la2, c1, c2, c3 with
            | [o1, o2, o3], _, c1, c2, c3 => rw [Option.some.inj c1, Option.some.inj c2, Option.some.inj c3]
          have na : Np C H3 (.ref y1) u1 d1 110 := ⟨N1, D1, .rat ⟨dx1, g1⟩, v1⟩
          have nb : Np C H3 (.ref y2) u2 d2 110 := ⟨N2, D2', .rat ⟨dx2, g2⟩, v2'⟩
          have nc : Np C H3 (.ref y3) u3 d3 110 := ⟨N3, D3, .rat ⟨dx3, g3⟩, v3'⟩
          have hP3 := hP2.same s3
          walk_at "gn"
          refine ⟨D2, _, rfl, SqL.of eD2, rfl, ?_⟩
          refine ⟨.ref y1, [.ref y2, .ref y3], rfl, ?_⟩
          refine i_name ?_
          refine ⟨.ref y2, [.ref y3], rfl, ?_⟩
          refine i_name ?_
          refine ⟨.ref y3, [], rfl, ?_⟩
          refine i_name ?_
          refine ⟨rfl, ?_⟩
          walk_at "gn"
          refine ⟨p, n, 1000 * i + 24, rfl, hP3, by omega, by omega, fun z H5 lz hP5 kp5 => ?_⟩
          have na := na.keep kp5 (hP2.ne w1).1 (hP2.ne w1).2
          have nb := nb.keep kp5 (hP2.ne w2).1 (hP2.ne w2).2
          have nc := nc.keep kp5 (hP2.ne w3).1 (hP2.ne w3).2
          walk_at "gn"
          refine p_mk (vs := [.int z]) (dvs := [.int 1]) rfl (by decide) (Nat.one_lt_two_pow (by decide)) fun pw H6 rw' s6 _ => ?_
          rw [rN_one, rD_one] at rw'
          have na := na.same s6
          have nb := nb.same s6
          have nc := nc.same s6
          have nw : Np C H6 (.ref pw) z 1 110 := ⟨z, 1, .rat rw', np_int lz⟩
          have nz : Np C H6 (.int z) z 1 110 := ⟨z, 1, .int z, np_int lz⟩
          have hP6 := hP5.same s6
          walk_at "gn"
          rename_i M1 G1 nM1 sM1 eM1 M2 G2 nM2 sM2 eM2 M3 G3 nM3 sM3 eM3 M4 G4 nM4 sM4 eM4 M5 G5 nM5 sM5 eM5 M6 G6 nM6 sM6 eM6
          have na := ((((((na.same sM1).same sM2).same sM3).same sM4).same sM5).same sM6)
          have nb := ((((((nb.same sM1).same sM2).same sM3).same sM4).same sM5).same sM6)
          have nc := ((((((nc.same sM1).same sM2).same sM3).same sM4).same sM5).same sM6)
          have nw := ((((((nw.same sM1).same sM2).same sM3).same sM4).same sM5).same sM6)
          have nz := ((((((nz.same sM1).same sM2).same sM3).same sM4).same sM5).same sM6)
          have hP7 := ((((((hP6.same sM1).same sM2).same sM3).same sM4).same sM5).same sM6)
          have eM5 := sM6 _ _ eM5
          have eM4 := sM6 _ _ (sM5 _ _ eM4)
          have eM3 := sM6 _ _ (sM5 _ _ (sM4 _ _ eM3))
          have eM2 := sM6 _ _ (sM5 _ _ (sM4 _ _ (sM3 _ _ eM2)))
          have eM1 := sM6 _ _ (sM5 _ _ (sM4 _ _ (sM3 _ _ (sM2 _ _ eM1))))
          have tris : ∀ x ∈ [V.ref M1, V.ref M2, V.ref M3, V.ref M4, V.ref M5], ∃ r u v w, x = .ref r ∧ G6 r = some (.tup [.ref u, .ref v, .ref w]) ∧ (∃ t b, Np C G6 (.ref u) t b 110) ∧ (∃ t b, Np C G6 (.ref v) t b 110) ∧ ∃ t b, Np C G6 (.ref w) t b 110 := fun x hx => by
            simp only [List.mem_cons, List.not_mem_nil, or_false] at hx
            rcases hx with rfl | rfl | rfl | rfl | rfl
            · exact ⟨_, _, _, _, rfl, eM1, ⟨_, _, na⟩, ⟨_, _, nb⟩, _, _, nc⟩
            · exact ⟨_, _, _, _, rfl, eM2, ⟨_, _, nb⟩, ⟨_, _, nc⟩, _, _, na⟩
            · exact ⟨_, _, _, _, rfl, eM3, ⟨_, _, nc⟩, ⟨_, _, na⟩, _, _, nb⟩
            · exact ⟨_, _, _, _, rfl, eM4, ⟨_, _, na⟩, ⟨_, _, na⟩, _, _, nb⟩
            · exact ⟨_, _, _, _, rfl, eM5, ⟨_, _, na⟩, ⟨_, _, nw⟩, _, _, nc⟩
          refine fow (xs := [.ref M1, .ref M2, .ref M3, .ref M4, .ref M5]) wx_list (fun _ σ' H' => ∃ o9 o10 o11 : Option V, σ' = [some (.ref a), some (.ref p), some (.int i), some (.ref D), some (.int z), some (.ref pw), some (.ref y1), some (.ref y2), some (.ref y3), o9, o10, o11, v12] ∧ Same G6 H') ⟨v9, v10, v11, rfl, Same.refl _⟩ (fun _ _ _ ⟨_, _, _, _, e⟩ => SqL.of (e _ _ eM6)) (fun j x σ' H' hx ⟨o9, o10, o11, es, sH⟩ => ?_) (fun σ' H' ⟨o9, o10, o11, es, sH⟩ => ?_)
          · subst es
            obtain ⟨r, u, v, w', rfl, er, ⟨ta, ba, ka⟩, ⟨tb, bb, kb⟩, tc, bc, kc⟩ := tris x (List.mem_of_getElem? hx)
            refine ⟨r, _, rfl, SqT.of (sH _ _ er), rfl, ?_⟩
            refine ⟨.ref u, [.ref v, .ref w'], rfl, ?_⟩
            refine i_name ?_
            refine ⟨.ref v, [.ref w'], rfl, ?_⟩
            refine i_name ?_
            refine ⟨.ref w', [], rfl, ?_⟩
            refine i_name ?_
            refine ⟨rfl, ?_⟩
            have ka := ka.same sH
            have kb := kb.same sH
            have kc := kc.same sH
            walk_at "gn"
            refine ⟨u, v, w', _, _, _, _, _, _, rfl, ka, kb, kc, fun H8 s8 => ?_⟩
            walk_at "gn"
            refine ⟨u, v, w', _, _, _, _, _, _, rfl, ka.same s8, kb.same s8, kc.same s8, fun H9 s9 => ?_⟩
            walk_at "gn"
            exact ⟨_, _, _, rfl, (sH.trans s8).trans s9⟩
          · subst es
            have na := na.same sH
            have nb := nb.same sH
            have nc := nc.same sH
            have nw := nw.same sH
            have nz := nz.same sH
            have hP8 := hP7.same sH
            walk_at "gn"
            refine ifn rfl ?_
            walk_at "gn"
            refine ifn rfl ?_
            walk_at "gn"
            refine ifn rfl ?_
            walk_at "gn"
            refine ifn rfl ?_
            walk_at "gn"
            refine ifn rfl ?_
            walk_at "gn"
            refine ifn rfl ?_
            walk_at "gn"
            refine ifb rfl ?_
            walk_at "gn"
            refine ifb rfl ?_
            walk_at "gn"
            refine ifb rfl ?_
            walk_at "gn"
            refine ifb rfl ?_
            walk_at "gn"
            refine ifb rfl ?_
            walk_at "gn"
            refine ifb rfl ?_
            walk_at "gn"
            exact ⟨_, _, _, _, _, _, _, _, _, _, _, rfl, (hP8.same (by walk_at "sm")).mono (by push_cast; omega)⟩
    · subst es
      walk_at "gn"
      exact q _
end
end Pk

namespace Pk
open PySem PySem.Spec PyProof.Rows L2
/-! ### what the top has written; the law's own head -/
theorem all_mk {l : PySem.W.OpenLaw} {w : World} {K : PySem.W.Frag} {h : Heap} {mg : Str → Option Value} {fa : Addr} (X : K.In h) (G : h.Ns mainGlobals mg) (hfa : mg "law" = some (.ref fa))
    {C : Addr}
    {foadd roadd : Option Value}
    {fosub rosub : Option Value}
    {fomul romul : Option Value}
    {f0 : Addr} {od0 an0 : Option Addr} {sl0 : Array (Option Value)} {oc0 kV0 dc0 pm0 cd0 ct0 : Value}
    {f1 : Addr} {od1 an1 : Option Addr} {sl1 : Array (Option Value)} {oc1 kV1 dc1 pm1 cd1 ct1 : Value}
    {f2 : Addr} {od2 an2 : Option Addr} {sl2 : Array (Option Value)} {oc2 kV2 dc2 pm2 cd2 ct2 : Value}
    {f3 : Addr} {od3 an3 : Option Addr} {sl3 : Array (Option Value)} {oc3 kV3 dc3 pm3 cd3 ct3 : Value}
    {f4 : Addr} {od4 an4 : Option Addr} {sl4 : Array (Option Value)} {oc4 kV4 dc4 pm4 cd4 ct4 : Value}
    {f5 : Addr} {od5 an5 : Option Addr} {sl5 : Array (Option Value)} {oc5 kV5 dc5 pm5 cd5 ct5 : Value}
    {f6 : Addr} {od6 an6 : Option Addr} {sl6 : Array (Option Value)} {oc6 kV6 dc6 pm6 cd6 ct6 : Value}
    {f7 : Addr} {od7 an7 : Option Addr} {sl7 : Array (Option Value)} {oc7 kV7 dc7 pm7 cd7 ct7 : Value}
    {f8 : Addr} {od8 an8 : Option Addr} {sl8 : Array (Option Value)} {oc8 kV8 dc8 pm8 cd8 ct8 : Value}
    {f9 : Addr} {od9 an9 : Option Addr} {sl9 : Array (Option Value)} {oc9 kV9 dc9 pm9 cd9 ct9 : Value}
    {f10 : Addr} {od10 an10 : Option Addr} {sl10 : Array (Option Value)} {oc10 kV10 dc10 pm10 cd10 ct10 : Value}
    {f11 : Addr} {od11 an11 : Option Addr} {sl11 : Array (Option Value)} {oc11 kV11 dc11 pm11 cd11 ct11 : Value}
    {f12 : Addr} {od12 an12 : Option Addr} {sl12 : Array (Option Value)} {oc12 kV12 dc12 pm12 cd12 ct12 : Value}
    {f13 : Addr} {od13 an13 : Option Addr} {sl13 : Array (Option Value)} {oc13 kV13 dc13 pm13 cd13 ct13 : Value}
    {f14 : Addr} {od14 an14 : Option Addr} {sl14 : Array (Option Value)} {oc14 kV14 dc14 pm14 cd14 ct14 : Value}
    {f15 : Addr} {od15 an15 : Option Addr} {sl15 : Array (Option Value)} {oc15 kV15 dc15 pm15 cd15 ct15 : Value}
    {f16 : Addr} {od16 an16 : Option Addr} {sl16 : Array (Option Value)} {oc16 kV16 dc16 pm16 cd16 ct16 : Value}
    {f17 : Addr} {od17 an17 : Option Addr} {sl17 : Array (Option Value)} {oc17 kV17 dc17 pm17 cd17 ct17 : Value}
    {f18 : Addr} {od18 an18 : Option Addr} {sl18 : Array (Option Value)} {oc18 kV18 dc18 pm18 cd18 ct18 : Value}
    {f19 : Addr} {od19 an19 : Option Addr} {sl19 : Array (Option Value)} {oc19 kV19 dc19 pm19 cd19 ct19 : Value}
    {f20 : Addr} {od20 an20 : Option Addr} {sl20 : Array (Option Value)} {oc20 kV20 dc20 pm20 cd20 ct20 : Value}
    {f21 : Addr} {od21 an21 : Option Addr} {sl21 : Array (Option Value)} {oc21 kV21 dc21 pm21 cd21 ct21 : Value}
    {f22 : Addr} {od22 an22 : Option Addr} {sl22 : Array (Option Value)} {oc22 kV22 dc22 pm22 cd22 ct22 : Value}
    {f23 : Addr} {od23 an23 : Option Addr} {sl23 : Array (Option Value)} {oc23 kV23 dc23 pm23 cd23 ct23 : Value}
    {f24 : Addr} {od24 an24 : Option Addr} {sl24 : Array (Option Value)} {oc24 kV24 dc24 pm24 cd24 ct24 : Value}
    {f25 : Addr} {od25 an25 : Option Addr} {sl25 : Array (Option Value)} {oc25 kV25 dc25 pm25 cd25 ct25 : Value}
    {f26 : Addr} {od26 an26 : Option Addr} {sl26 : Array (Option Value)} {oc26 kV26 dc26 pm26 cd26 ct26 : Value}
    {f27 : Addr} {od27 an27 : Option Addr} {sl27 : Array (Option Value)} {oc27 kV27 dc27 pm27 cd27 ct27 : Value}
    {p27 : Addr} {r27 : List Value}
    {f28 : Addr} {od28 an28 : Option Addr} {sl28 : Array (Option Value)} {oc28 kV28 dc28 pm28 cd28 ct28 : Value}
    {p28 : Addr} {r28 : List Value}
    {f29 : Addr} {od29 an29 : Option Addr} {sl29 : Array (Option Value)} {oc29 kV29 dc29 pm29 cd29 ct29 : Value}
    {p29 : Addr} {r29 : List Value} {mcC : Value}
    {dT : Addr} {odT : Option Addr} {slT : Array (Option Value)} {ocT : Value} {nT' : Nat} {tk : Tok}
    {f30 : Addr} {od30 an30 : Option Addr} {sl30 : Array (Option Value)} {oc30 kV30 dc30 pm30 cd30 ct30 : Value}
    (aC : PySem.W.nsIn K mainGlobals "Ratio" = some (some (.ref C)))
    (pg : PySem.W.plainGet K C Str.empty = true)
    (hd : PySem.W.hasDictIn K C = true)
    (po : PySem.W.plainOver K C = true)
    (sa : PySem.W.findIn K (.ref C) "__setattr__" = some (some (.builtin "object.__setattr__")))
    (mk : PySem.W.makesIn K C = true)
    (kc : PySem.W.keepIn K (.ref C) = true)
    (ca : PySem.W.findIn K (.ref C) "__class__" = some (some (.builtin "object.__class__")))
    (cn : PySem.W.specialIn K (.builtin "object.__class__") "__get__" = some (some (.builtin "getset_descriptor.__get__")))
    (ctk : PySem.W.takesIn K (.builtin "object.__class__") = some true)
    (cm : PySem.W.mroIn K C (.type "object") = some true)
    (sf : PySem.W.kitOne K (.ref C) (.ref C) = some true)
    (si : PySem.W.kitOne K (.ref C) (.type "int") = some false)
    (sk0 : PySem.W.kitOne K (.type "NoneType") (.ref C) = some false)
    (sk1 : PySem.W.kitOne K (.type "bool") (.ref C) = some false)
    (sk2 : PySem.W.kitOne K (.type "int") (.ref C) = some false)
    (sk3 : PySem.W.kitOne K (.type "str") (.ref C) = some false)
    (sk4 : PySem.W.kitOne K (.type "list") (.ref C) = some false)
    (sk5 : PySem.W.kitOne K (.type "tuple") (.ref C) = some false)
    (sk6 : PySem.W.kitOne K (.type "dict") (.ref C) = some false)
    (ap0 : PySem.W.subIn K (.type "NoneType") (.ref C) = some false)
    (ap1 : PySem.W.subIn K (.type "bool") (.ref C) = some false)
    (ap2 : PySem.W.subIn K (.type "int") (.ref C) = some false)
    (ap3 : PySem.W.subIn K (.type "str") (.ref C) = some false)
    (ap4 : PySem.W.subIn K (.type "list") (.ref C) = some false)
    (ap5 : PySem.W.subIn K (.type "tuple") (.ref C) = some false)
    (ap6 : PySem.W.subIn K (.type "dict") (.ref C) = some false)
    (sI : PySem.W.subIn K (.ref C) (.type "int") = some false)
    (nT : PySem.W.findIn K (.ref C) "_top" = some none)
    (nB : PySem.W.findIn K (.ref C) "_bottom" = some none)
    (sF : PySem.W.selfFirst K C = true)
    (sB : PySem.W.subIn K (.type "int") (.ref C) = some false)
    (ioadd : PySem.W.findIn K (.type "int") "__add__" = some foadd)
    (iradd : PySem.W.findIn K (.type "int") "__radd__" = some roadd)
    (iosub : PySem.W.findIn K (.type "int") "__sub__" = some fosub)
    (irsub : PySem.W.findIn K (.type "int") "__rsub__" = some rosub)
    (iomul : PySem.W.findIn K (.type "int") "__mul__" = some fomul)
    (irmul : PySem.W.findIn K (.type "int") "__rmul__" = some romul)
    (gc : PySem.W.nsIn K mainGlobals "gcd" = some (some (.builtin "math.gcd")))
    (z_int : PySem.W.nsIn K mainGlobals "int" = some none)
    (z_len : PySem.W.nsIn K mainGlobals "len" = some none)
    (z_abs : PySem.W.nsIn K mainGlobals "abs" = some none)
    (z_bool : PySem.W.nsIn K mainGlobals "bool" = some none)
    (z_range : PySem.W.nsIn K mainGlobals "range" = some none)
    (z_isinstance : PySem.W.nsIn K mainGlobals "isinstance" = some none)
    (a0 : PySem.W.nsIn K mainGlobals "_law_pool" = some (some (.ref f0)))
    (l0 : K.lookup f0 = some ⟨oc0, od0, .func (PySem.W.fnOf "_law_pool" "_law_pool" (defArgs s__law_pool) (defBody s__law_pool) (defScope s__law_pool) .none kV0 dc0 pm0 an0 cd0 ct0), sl0⟩)
    (c0 : PySem.W.codeIn K cd0 "_law_pool" = true)
    (k0 : PySem.W.keepIn K (.ref f0) = true)
    (a1 : PySem.W.nsIn K mainGlobals "_law_mixed" = some (some (.ref f1)))
    (l1 : K.lookup f1 = some ⟨oc1, od1, .func (PySem.W.fnOf "_law_mixed" "_law_mixed" (defArgs s__law_mixed) (defBody s__law_mixed) (defScope s__law_mixed) .none kV1 dc1 pm1 an1 cd1 ct1), sl1⟩)
    (c1 : PySem.W.codeIn K cd1 "_law_mixed" = true)
    (k1 : PySem.W.keepIn K (.ref f1) = true)
    (a2 : PySem.W.nsIn K mainGlobals "_law_draw" = some (some (.ref f2)))
    (l2 : K.lookup f2 = some ⟨oc2, od2, .func (PySem.W.fnOf "_law_draw" "_law_draw" (defArgs s__law_draw) (defBody s__law_draw) (defScope s__law_draw) .none kV2 dc2 pm2 an2 cd2 ct2), sl2⟩)
    (c2 : PySem.W.codeIn K cd2 "_law_draw" = true)
    (k2 : PySem.W.keepIn K (.ref f2) = true)
    (a3 : PySem.W.nsIn K mainGlobals "_law_integer" = some (some (.ref f3)))
    (l3 : K.lookup f3 = some ⟨oc3, od3, .func (PySem.W.fnOf "_law_integer" "_law_integer" (defArgs s__law_integer) (defBody s__law_integer) (defScope s__law_integer) .none kV3 dc3 pm3 an3 cd3 ct3), sl3⟩)
    (c3 : PySem.W.codeIn K cd3 "_law_integer" = true)
    (k3 : PySem.W.keepIn K (.ref f3) = true)
    (a4 : PySem.W.nsIn K mainGlobals "_law_pair" = some (some (.ref f4)))
    (l4 : K.lookup f4 = some ⟨oc4, od4, .func (PySem.W.fnOf "_law_pair" "_law_pair" (defArgs s__law_pair) (defBody s__law_pair) (defScope s__law_pair) .none kV4 dc4 pm4 an4 cd4 ct4), sl4⟩)
    (c4 : PySem.W.codeIn K cd4 "_law_pair" = true)
    (k4 : PySem.W.keepIn K (.ref f4) = true)
    (a5 : PySem.W.nsIn K mainGlobals "_law_ring" = some (some (.ref f5)))
    (l5 : K.lookup f5 = some ⟨oc5, od5, .func (PySem.W.fnOf "_law_ring" "_law_ring" (defArgs s__law_ring) (defBody s__law_ring) (defScope s__law_ring) .none kV5 dc5 pm5 an5 cd5 ct5), sl5⟩)
    (c5 : PySem.W.codeIn K cd5 "_law_ring" = true)
    (k5 : PySem.W.keepIn K (.ref f5) = true)
    (a6 : PySem.W.nsIn K mainGlobals "_law_order" = some (some (.ref f6)))
    (l6 : K.lookup f6 = some ⟨oc6, od6, .func (PySem.W.fnOf "_law_order" "_law_order" (defArgs s__law_order) (defBody s__law_order) (defScope s__law_order) .none kV6 dc6 pm6 an6 cd6 ct6), sl6⟩)
    (c6 : PySem.W.codeIn K cd6 "_law_order" = true)
    (k6 : PySem.W.keepIn K (.ref f6) = true)
    (a7 : PySem.W.nsIn K mainGlobals "law" = some (some (.ref f7)))
    (l7 : K.lookup f7 = some ⟨oc7, od7, .func (PySem.W.fnOf "law" "law" (defArgs s_law) (defBody s_law) (defScope s_law) .none kV7 dc7 pm7 an7 cd7 ct7), sl7⟩)
    (c7 : PySem.W.codeIn K cd7 "law" = true)
    (k7 : PySem.W.keepIn K (.ref f7) = true)
    (a8 : PySem.W.nsIn K mainGlobals "is_whole" = some (some (.ref f8)))
    (l8 : K.lookup f8 = some ⟨oc8, od8, .func (PySem.W.fnOf "is_whole" "is_whole" (defArgs s_is_whole) (defBody s_is_whole) (defScope s_is_whole) .none kV8 dc8 pm8 an8 cd8 ct8), sl8⟩)
    (c8 : PySem.W.codeIn K cd8 "is_whole" = true)
    (k8 : PySem.W.keepIn K (.ref f8) = true)
    (a9 : PySem.W.nsIn K mainGlobals "is_number" = some (some (.ref f9)))
    (l9 : K.lookup f9 = some ⟨oc9, od9, .func (PySem.W.fnOf "is_number" "is_number" (defArgs s_is_number) (defBody s_is_number) (defScope s_is_number) .none kV9 dc9 pm9 an9 cd9 ct9), sl9⟩)
    (c9 : PySem.W.codeIn K cd9 "is_number" = true)
    (k9 : PySem.W.keepIn K (.ref f9) = true)
    (a10 : PySem.W.nsIn K mainGlobals "as_ratio" = some (some (.ref f10)))
    (l10 : K.lookup f10 = some ⟨oc10, od10, .func (PySem.W.fnOf "as_ratio" "as_ratio" (defArgs s_as_ratio) (defBody s_as_ratio) (defScope s_as_ratio) .none kV10 dc10 pm10 an10 cd10 ct10), sl10⟩)
    (c10 : PySem.W.codeIn K cd10 "as_ratio" = true)
    (k10 : PySem.W.keepIn K (.ref f10) = true)
    (a11 : PySem.W.findIn K (.ref C) "__add__" = some (some (.ref f11)))
    (i11 : PySem.W.isFn K (.ref f11) = true)
    (l11 : K.lookup f11 = some ⟨oc11, od11, .func (PySem.W.fnOf "__add__" "Ratio.__add__" (defArgs s_Ratio___add__) (defBody s_Ratio___add__) (defScope s_Ratio___add__) .none kV11 dc11 pm11 an11 cd11 ct11), sl11⟩)
    (c11 : PySem.W.codeIn K cd11 "Ratio.__add__" = true)
    (k11 : PySem.W.keepIn K (.ref f11) = true)
    (a12 : PySem.W.findIn K (.ref C) "__radd__" = some (some (.ref f12)))
    (i12 : PySem.W.isFn K (.ref f12) = true)
    (l12 : K.lookup f12 = some ⟨oc12, od12, .func (PySem.W.fnOf "__radd__" "Ratio.__radd__" (defArgs s_Ratio___radd__) (defBody s_Ratio___radd__) (defScope s_Ratio___radd__) .none kV12 dc12 pm12 an12 cd12 ct12), sl12⟩)
    (c12 : PySem.W.codeIn K cd12 "Ratio.__radd__" = true)
    (k12 : PySem.W.keepIn K (.ref f12) = true)
    (a13 : PySem.W.findIn K (.ref C) "__sub__" = some (some (.ref f13)))
    (i13 : PySem.W.isFn K (.ref f13) = true)
    (l13 : K.lookup f13 = some ⟨oc13, od13, .func (PySem.W.fnOf "__sub__" "Ratio.__sub__" (defArgs s_Ratio___sub__) (defBody s_Ratio___sub__) (defScope s_Ratio___sub__) .none kV13 dc13 pm13 an13 cd13 ct13), sl13⟩)
    (c13 : PySem.W.codeIn K cd13 "Ratio.__sub__" = true)
    (k13 : PySem.W.keepIn K (.ref f13) = true)
    (a14 : PySem.W.findIn K (.ref C) "__rsub__" = some (some (.ref f14)))
    (i14 : PySem.W.isFn K (.ref f14) = true)
    (l14 : K.lookup f14 = some ⟨oc14, od14, .func (PySem.W.fnOf "__rsub__" "Ratio.__rsub__" (defArgs s_Ratio___rsub__) (defBody s_Ratio___rsub__) (defScope s_Ratio___rsub__) .none kV14 dc14 pm14 an14 cd14 ct14), sl14⟩)
    (c14 : PySem.W.codeIn K cd14 "Ratio.__rsub__" = true)
    (k14 : PySem.W.keepIn K (.ref f14) = true)
    (a15 : PySem.W.findIn K (.ref C) "__mul__" = some (some (.ref f15)))
    (i15 : PySem.W.isFn K (.ref f15) = true)
    (l15 : K.lookup f15 = some ⟨oc15, od15, .func (PySem.W.fnOf "__mul__" "Ratio.__mul__" (defArgs s_Ratio___mul__) (defBody s_Ratio___mul__) (defScope s_Ratio___mul__) .none kV15 dc15 pm15 an15 cd15 ct15), sl15⟩)
    (c15 : PySem.W.codeIn K cd15 "Ratio.__mul__" = true)
    (k15 : PySem.W.keepIn K (.ref f15) = true)
    (a16 : PySem.W.findIn K (.ref C) "__rmul__" = some (some (.ref f16)))
    (i16 : PySem.W.isFn K (.ref f16) = true)
    (l16 : K.lookup f16 = some ⟨oc16, od16, .func (PySem.W.fnOf "__rmul__" "Ratio.__rmul__" (defArgs s_Ratio___rmul__) (defBody s_Ratio___rmul__) (defScope s_Ratio___rmul__) .none kV16 dc16 pm16 an16 cd16 ct16), sl16⟩)
    (c16 : PySem.W.codeIn K cd16 "Ratio.__rmul__" = true)
    (k16 : PySem.W.keepIn K (.ref f16) = true)
    (a17 : PySem.W.findIn K (.ref C) "__neg__" = some (some (.ref f17)))
    (i17 : PySem.W.isFn K (.ref f17) = true)
    (l17 : K.lookup f17 = some ⟨oc17, od17, .func (PySem.W.fnOf "__neg__" "Ratio.__neg__" (defArgs s_Ratio___neg__) (defBody s_Ratio___neg__) (defScope s_Ratio___neg__) .none kV17 dc17 pm17 an17 cd17 ct17), sl17⟩)
    (c17 : PySem.W.codeIn K cd17 "Ratio.__neg__" = true)
    (k17 : PySem.W.keepIn K (.ref f17) = true)
    (a18 : PySem.W.findIn K (.ref C) "__abs__" = some (some (.ref f18)))
    (i18 : PySem.W.isFn K (.ref f18) = true)
    (l18 : K.lookup f18 = some ⟨oc18, od18, .func (PySem.W.fnOf "__abs__" "Ratio.__abs__" (defArgs s_Ratio___abs__) (defBody s_Ratio___abs__) (defScope s_Ratio___abs__) .none kV18 dc18 pm18 an18 cd18 ct18), sl18⟩)
    (c18 : PySem.W.codeIn K cd18 "Ratio.__abs__" = true)
    (k18 : PySem.W.keepIn K (.ref f18) = true)
    (a19 : PySem.W.findIn K (.ref C) "divided" = some (some (.ref f19)))
    (i19 : PySem.W.isFn K (.ref f19) = true)
    (l19 : K.lookup f19 = some ⟨oc19, od19, .func (PySem.W.fnOf "divided" "Ratio.divided" (defArgs s_Ratio_divided) (defBody s_Ratio_divided) (defScope s_Ratio_divided) .none kV19 dc19 pm19 an19 cd19 ct19), sl19⟩)
    (c19 : PySem.W.codeIn K cd19 "Ratio.divided" = true)
    (k19 : PySem.W.keepIn K (.ref f19) = true)
    (a20 : PySem.W.findIn K (.ref C) "__bool__" = some (some (.ref f20)))
    (i20 : PySem.W.isFn K (.ref f20) = true)
    (l20 : K.lookup f20 = some ⟨oc20, od20, .func (PySem.W.fnOf "__bool__" "Ratio.__bool__" (defArgs s_Ratio___bool__) (defBody s_Ratio___bool__) (defScope s_Ratio___bool__) .none kV20 dc20 pm20 an20 cd20 ct20), sl20⟩)
    (c20 : PySem.W.codeIn K cd20 "Ratio.__bool__" = true)
    (k20 : PySem.W.keepIn K (.ref f20) = true)
    (a21 : PySem.W.findIn K (.ref C) "__eq__" = some (some (.ref f21)))
    (i21 : PySem.W.isFn K (.ref f21) = true)
    (l21 : K.lookup f21 = some ⟨oc21, od21, .func (PySem.W.fnOf "__eq__" "Ratio.__eq__" (defArgs s_Ratio___eq__) (defBody s_Ratio___eq__) (defScope s_Ratio___eq__) .none kV21 dc21 pm21 an21 cd21 ct21), sl21⟩)
    (c21 : PySem.W.codeIn K cd21 "Ratio.__eq__" = true)
    (k21 : PySem.W.keepIn K (.ref f21) = true)
    (a22 : PySem.W.findIn K (.ref C) "__ne__" = some (some (.ref f22)))
    (i22 : PySem.W.isFn K (.ref f22) = true)
    (l22 : K.lookup f22 = some ⟨oc22, od22, .func (PySem.W.fnOf "__ne__" "Ratio.__ne__" (defArgs s_Ratio___ne__) (defBody s_Ratio___ne__) (defScope s_Ratio___ne__) .none kV22 dc22 pm22 an22 cd22 ct22), sl22⟩)
    (c22 : PySem.W.codeIn K cd22 "Ratio.__ne__" = true)
    (k22 : PySem.W.keepIn K (.ref f22) = true)
    (a23 : PySem.W.findIn K (.ref C) "__lt__" = some (some (.ref f23)))
    (i23 : PySem.W.isFn K (.ref f23) = true)
    (l23 : K.lookup f23 = some ⟨oc23, od23, .func (PySem.W.fnOf "__lt__" "Ratio.__lt__" (defArgs s_Ratio___lt__) (defBody s_Ratio___lt__) (defScope s_Ratio___lt__) .none kV23 dc23 pm23 an23 cd23 ct23), sl23⟩)
    (c23 : PySem.W.codeIn K cd23 "Ratio.__lt__" = true)
    (k23 : PySem.W.keepIn K (.ref f23) = true)
    (a24 : PySem.W.findIn K (.ref C) "__le__" = some (some (.ref f24)))
    (i24 : PySem.W.isFn K (.ref f24) = true)
    (l24 : K.lookup f24 = some ⟨oc24, od24, .func (PySem.W.fnOf "__le__" "Ratio.__le__" (defArgs s_Ratio___le__) (defBody s_Ratio___le__) (defScope s_Ratio___le__) .none kV24 dc24 pm24 an24 cd24 ct24), sl24⟩)
    (c24 : PySem.W.codeIn K cd24 "Ratio.__le__" = true)
    (k24 : PySem.W.keepIn K (.ref f24) = true)
    (a25 : PySem.W.findIn K (.ref C) "__gt__" = some (some (.ref f25)))
    (i25 : PySem.W.isFn K (.ref f25) = true)
    (l25 : K.lookup f25 = some ⟨oc25, od25, .func (PySem.W.fnOf "__gt__" "Ratio.__gt__" (defArgs s_Ratio___gt__) (defBody s_Ratio___gt__) (defScope s_Ratio___gt__) .none kV25 dc25 pm25 an25 cd25 ct25), sl25⟩)
    (c25 : PySem.W.codeIn K cd25 "Ratio.__gt__" = true)
    (k25 : PySem.W.keepIn K (.ref f25) = true)
    (a26 : PySem.W.findIn K (.ref C) "__ge__" = some (some (.ref f26)))
    (i26 : PySem.W.isFn K (.ref f26) = true)
    (l26 : K.lookup f26 = some ⟨oc26, od26, .func (PySem.W.fnOf "__ge__" "Ratio.__ge__" (defArgs s_Ratio___ge__) (defBody s_Ratio___ge__) (defScope s_Ratio___ge__) .none kV26 dc26 pm26 an26 cd26 ct26), sl26⟩)
    (c26 : PySem.W.codeIn K cd26 "Ratio.__ge__" = true)
    (k26 : PySem.W.keepIn K (.ref f26) = true)
    (a27 : PySem.W.findIn K (.ref C) "top" = some (some (.ref p27)))
    (g27 : PySem.W.specialIn K (.ref p27) "__get__" = some (some (.builtin "property.__get__")))
    (t27 : PySem.W.takesIn K (.ref p27) = some true)
    (q27 : PySem.W.recIn K p27 "property" = some (.ref f27 :: r27))
    (l27 : K.lookup f27 = some ⟨oc27, od27, .func (PySem.W.fnOf "top" "Ratio.top" (defArgs s_Ratio_top) (defBody s_Ratio_top) (defScope s_Ratio_top) .none kV27 dc27 pm27 an27 cd27 ct27), sl27⟩)
    (c27 : PySem.W.codeIn K cd27 "Ratio.top" = true)
    (k27 : PySem.W.keepIn K (.ref f27) = true)
    (a28 : PySem.W.findIn K (.ref C) "bottom" = some (some (.ref p28)))
    (g28 : PySem.W.specialIn K (.ref p28) "__get__" = some (some (.builtin "property.__get__")))
    (t28 : PySem.W.takesIn K (.ref p28) = some true)
    (q28 : PySem.W.recIn K p28 "property" = some (.ref f28 :: r28))
    (l28 : K.lookup f28 = some ⟨oc28, od28, .func (PySem.W.fnOf "bottom" "Ratio.bottom" (defArgs s_Ratio_bottom) (defBody s_Ratio_bottom) (defScope s_Ratio_bottom) .none kV28 dc28 pm28 an28 cd28 ct28), sl28⟩)
    (c28 : PySem.W.codeIn K cd28 "Ratio.bottom" = true)
    (k28 : PySem.W.keepIn K (.ref f28) = true)
    (a29 : PySem.W.typeIn K (.ref C) = some mcC)
    (g29 : PySem.W.findCls K (.ref C) mcC "middle" = some (.get (.builtin "staticmethod.__get__") (.ref p29) .none (.ref C)))
    (t29 : PySem.W.readsIn K C mcC = true)
    (h29 : PySem.W.specialIn K (.ref C) "__getattribute__" = some (some (.builtin "type.__getattribute__")))
    (q29 : PySem.W.recIn K p29 "staticmethod" = some (.ref f29 :: r29))
    (w29 : PySem.W.handedIn (.ref f29) = true)
    (l29 : K.lookup f29 = some ⟨oc29, od29, .func (PySem.W.fnOf "middle" "Ratio.middle" (defArgs s_Ratio_middle) (defBody s_Ratio_middle) (defScope s_Ratio_middle) .none kV29 dc29 pm29 an29 cd29 ct29), sl29⟩)
    (c29 : PySem.W.codeIn K cd29 "Ratio.middle" = true)
    (k29 : PySem.W.keepIn K (.ref f29) = true)
    (a30 : PySem.W.findIn K (.ref C) "__init__" = some (some (.ref f30)))
    (i30 : PySem.W.isFn K (.ref f30) = true)
    (l30 : K.lookup f30 = some ⟨oc30, od30, .func (PySem.W.fnOf "__init__" "Ratio.__init__" (defArgs s_Ratio___init__) (defBody s_Ratio___init__) (defScope s_Ratio___init__) (.ref dT) kV30 dc30 pm30 an30 cd30 ct30), sl30⟩)
    (c30 : PySem.W.codeIn K cd30 "Ratio.__init__" = true)
    (k30 : PySem.W.keepIn K (.ref f30) = true)
    (lT : K.lookup dT = some ⟨ocT, odT, .seq #[.int 1 tk] nT', slT⟩) :
    ∃ fd : FuncData, (∀ (s : Shared) (v : Value), BindsTo s fd ⟨[v], []⟩ [("script", v)]) ∧ ∀ base : Heap, K.In base → base.Ns mainGlobals mg → FnOk l.prog w K mg base CX0 11 fa fd ["script"] (spLaw K) := by
  have e := hfa.symm.trans (PySem.W.mg_of X G a7)
  cases e
  have T : Tx K mg C := ⟨⟨⟨⟨pg, hd, po, sa⟩, ca, cn, ctk, cm, sf, si, fun kn => by cases kn <;> assumption⟩,
    ⟨_, PySem.W.mg_of X G aC, rfl⟩,
    nT,
    nB,
    (fun kn => by cases kn <;> assumption),
    sI,
    ⟨⟨f30, _, ⟨mk, a30, i30, kc⟩, ⟨⟨oc30, od30, .ref dT, kV30, dc30, pm30, an30, cd30, ct30, sl30, rfl, l30, c30, .inr ⟨by simp, dT, _, [.int 1 tk], nT', rfl, lT, rfl, .cons ⟨tk, rfl⟩ .nil⟩, .inl rfl⟩, k30⟩⟩⟩,
    ⟨⟨_, _, _, fun_mk (st := s_Ratio_top) l27 c27 k27, ⟨a27, g27, t27, _, q27⟩⟩⟩,
    ⟨⟨_, _, _, fun_mk (st := s_Ratio_bottom) l28 c28 k28, ⟨a28, g28, t28, _, q28⟩⟩⟩,
    ⟨⟨_, _, fun_mk (st := s_Ratio___bool__) l20 c20 k20, ⟨a20, i20, k20⟩⟩⟩,
    ⟨⟨_, _, fun_mk (st := s_Ratio___eq__) l21 c21 k21, ⟨a21, i21, k21⟩⟩⟩,
    ⟨⟨_, _, fun_mk (st := s_Ratio___ne__) l22 c22 k22, ⟨a22, i22, k22⟩⟩⟩,
    ⟨⟨_, _, fun_mk (st := s_Ratio___lt__) l23 c23 k23, ⟨a23, i23, k23⟩⟩⟩,
    ⟨⟨_, _, fun_mk (st := s_Ratio___le__) l24 c24 k24, ⟨a24, i24, k24⟩⟩⟩,
    ⟨⟨_, _, fun_mk (st := s_Ratio___gt__) l25 c25 k25, ⟨a25, i25, k25⟩⟩⟩,
    ⟨⟨_, _, fun_mk (st := s_Ratio___ge__) l26 c26 k26, ⟨a26, i26, k26⟩⟩⟩,
    ⟨⟨_, _, fun_mk (st := s_Ratio___add__) l11 c11 k11, ⟨a11, i11, k11⟩⟩⟩,
    ⟨⟨_, _, fun_mk (st := s_Ratio___radd__) l12 c12 k12, ⟨a12, i12, k12⟩⟩⟩,
    ⟨⟨_, _, fun_mk (st := s_Ratio___sub__) l13 c13 k13, ⟨a13, i13, k13⟩⟩⟩,
    ⟨⟨_, _, fun_mk (st := s_Ratio___rsub__) l14 c14 k14, ⟨a14, i14, k14⟩⟩⟩,
    ⟨⟨_, _, fun_mk (st := s_Ratio___mul__) l15 c15 k15, ⟨a15, i15, k15⟩⟩⟩,
    ⟨⟨_, _, fun_mk (st := s_Ratio___rmul__) l16 c16 k16, ⟨a16, i16, k16⟩⟩⟩,
    ⟨⟨_, _, fun_mk (st := s_Ratio___neg__) l17 c17 k17, ⟨a17, i17, k17⟩⟩⟩,
    ⟨⟨_, _, fun_mk (st := s_Ratio___abs__) l18 c18 k18, ⟨a18, i18, k18⟩⟩⟩,
    ⟨⟨_, _, fun_mk (st := s_Ratio_divided) l19 c19 k19, ⟨a19, i19, k19⟩⟩⟩,
    ⟨mcC, p29, f29, _, ⟨t29, h29⟩, g29, ⟨_, q29⟩, w29, fun_mk (st := s_Ratio_middle) l29 c29 k29⟩,
    ⟨sF, ⟨_, a12⟩, ⟨_, ioadd⟩, ⟨_, iradd⟩, sB, sI⟩,
    ⟨sF, ⟨_, a14⟩, ⟨_, iosub⟩, ⟨_, irsub⟩, sB, sI⟩,
    ⟨sF, ⟨_, a16⟩, ⟨_, iomul⟩, ⟨_, irmul⟩, sB, sI⟩,
    PySem.W.mg_none_of X G z_abs,
    PySem.W.mg_none_of X G z_int,
    PySem.W.mg_none_of X G z_bool,
    PySem.W.mg_none_of X G z_isinstance,
    PySem.W.mg_of X G gc,
    ⟨⟨_, _, fun_mk (st := s_is_whole) l8 c8 k8, PySem.W.mg_of X G a8⟩⟩,
    ⟨⟨_, _, fun_mk (st := s_is_number) l9 c9 k9, PySem.W.mg_of X G a9⟩⟩,
    ⟨⟨_, _, fun_mk (st := s_as_ratio) l10 c10 k10, PySem.W.mg_of X G a10⟩⟩⟩,
    PySem.W.mg_none_of X G z_int,
    PySem.W.mg_none_of X G z_len,
    PySem.W.mg_none_of X G z_abs,
    PySem.W.mg_none_of X G z_bool,
    PySem.W.mg_none_of X G z_range,
    ⟨⟨_, _, fun_mk (st := s__law_pool) l0 c0 k0, PySem.W.mg_of X G a0⟩⟩,
    ⟨⟨_, _, fun_mk (st := s__law_mixed) l1 c1 k1, PySem.W.mg_of X G a1⟩⟩,
    ⟨⟨_, _, fun_mk (st := s__law_draw) l2 c2 k2, PySem.W.mg_of X G a2⟩⟩,
    ⟨⟨_, _, fun_mk (st := s__law_integer) l3 c3 k3, PySem.W.mg_of X G a3⟩⟩,
    ⟨⟨_, _, fun_mk (st := s__law_pair) l4 c4 k4, PySem.W.mg_of X G a4⟩⟩,
    ⟨⟨_, _, fun_mk (st := s__law_ring) l5 c5 k5, PySem.W.mg_of X G a5⟩⟩,
    ⟨⟨_, _, fun_mk (st := s__law_order) l6 c6 k6, PySem.W.mg_of X G a6⟩⟩,
    ⟨⟨_, _, fun_mk (st := s_law) l7 c7 k7, PySem.W.mg_of X G a7⟩⟩⟩
  exact ⟨PySem.W.fnOf "law" "law" (defArgs s_law) (defBody s_law) (defScope s_law) .none kV7 dc7 pm7 an7 cd7 ct7, fun s v => .of_eq rfl, fun base _ _ => ok_law T (fun_mk (st := s_law) l7 c7 k7)⟩
end Pk
open PySem PySem.W PyProof.Rows
set_option maxRecDepth 100000 in
set_option maxHeartbeats 0 in
theorem PySem.Challenge.cw_lineorigins_k05_whole_ratios_are_in_orde_holds : PySem.Challenge.rw_lineorigins_k05_whole_ratios_are_in_orde.Holds := by
  w_on; o_law; k_head; (case hw => w_witness2)
  k_fill
  refine L2.walk_of (l := PySem.Challenge.rw_lineorigins_k05_whole_ratios_are_in_orde) (n := 63) (k := 11) (x := "script") (CX := fun _ => L2.CX0) (sp := fun w => Pk.spLaw _) rfl (by decide) rfl ⟨rfl, by decide, by decide⟩ (fun w h Y => PySem.W.kIn_of Y) ?F (fun _ _ a ns hl _ hS => ⟨a, ns, rfl, hS, hl, fun _ => rfl⟩) (fun _ _ _ _ _ h => h)
  case F =>
    intro w mg fa h KX G hmg
    refine' Pk.all_mk KX G hmg ?aC ?pg ?hd ?po ?sa ?mk ?kc ?ca ?cn ?ctk ?cm ?sf ?si ?sk0 ?sk1 ?sk2 ?sk3 ?sk4 ?sk5 ?sk6 ?ap0 ?ap1 ?ap2 ?ap3 ?ap4 ?ap5 ?ap6 ?sI ?nT ?nB ?sF ?sB ?ioadd ?iradd ?iosub ?irsub ?iomul ?irmul ?gc ?z_int ?z_len ?z_abs ?z_bool ?z_range ?z_isinstance ?a0 ?l0 ?c0 ?k0 ?a1 ?l1 ?c1 ?k1 ?a2 ?l2 ?c2 ?k2 ?a3 ?l3 ?c3 ?k3 ?a4 ?l4 ?c4 ?k4 ?a5 ?l5 ?c5 ?k5 ?a6 ?l6 ?c6 ?k6 ?a7 ?l7 ?c7 ?k7 ?a8 ?l8 ?c8 ?k8 ?a9 ?l9 ?c9 ?k9 ?a10 ?l10 ?c10 ?k10 ?a11 ?i11 ?l11 ?c11 ?k11 ?a12 ?i12 ?l12 ?c12 ?k12 ?a13 ?i13 ?l13 ?c13 ?k13 ?a14 ?i14 ?l14 ?c14 ?k14 ?a15 ?i15 ?l15 ?c15 ?k15 ?a16 ?i16 ?l16 ?c16 ?k16 ?a17 ?i17 ?l17 ?c17 ?k17 ?a18 ?i18 ?l18 ?c18 ?k18 ?a19 ?i19 ?l19 ?c19 ?k19 ?a20 ?i20 ?l20 ?c20 ?k20 ?a21 ?i21 ?l21 ?c21 ?k21 ?a22 ?i22 ?l22 ?c22 ?k22 ?a23 ?i23 ?l23 ?c23 ?k23 ?a24 ?i24 ?l24 ?c24 ?k24 ?a25 ?i25 ?l25 ?c25 ?k25 ?a26 ?i26 ?l26 ?c26 ?k26 ?a27 ?g27 ?t27 ?q27 ?l27 ?c27 ?k27 ?a28 ?g28 ?t28 ?q28 ?l28 ?c28 ?k28 ?a29 ?g29 ?t29 ?h29 ?q29 ?w29 ?l29 ?c29 ?k29 ?a30 ?i30 ?l30 ?c30 ?k30 ?lT
    (case aC => k_is)
    (case pg => k_is)
    (case hd => k_is)
    (case po => k_is)
    (case sa => k_is)
    (case mk => k_is)
    (case kc => k_is)
    (case ca => k_is)
    (case cn => k_is)
    (case ctk => k_is)
    (case cm => k_is)
    (case sf => kit_is)
    (case si => kit_is)
    (case sk0 => kit_is)
    (case sk1 => kit_is)
    (case sk2 => kit_is)
    (case sk3 => kit_is)
    (case sk4 => kit_is)
    (case sk5 => kit_is)
    (case sk6 => kit_is)
    (case ap0 => k_is)
    (case ap1 => k_is)
    (case ap2 => k_is)
    (case ap3 => k_is)
    (case ap4 => k_is)
    (case ap5 => k_is)
    (case ap6 => k_is)
    (case sI => k_is)
    (case nT => k_is)
    (case nB => k_is)
    (case sF => k_is)
    (case sB => k_is)
    (case ioadd => k_is)
    (case iradd => k_is)
    (case iosub => k_is)
    (case irsub => k_is)
    (case iomul => k_is)
    (case irmul => k_is)
    (case gc => k_is)
    (case z_int => k_is)
    (case z_len => k_is)
    (case z_abs => k_is)
    (case z_bool => k_is)
    (case z_range => k_is)
    (case z_isinstance => k_is)
    (case a0 => k_is)
    (case l0 => k_is)
    (case c0 => k_is)
    (case k0 => k_is)
    (case a1 => k_is)
    (case l1 => k_is)
    (case c1 => k_is)
    (case k1 => k_is)
    (case a2 => k_is)
    (case l2 => k_is)
    (case c2 => k_is)
    (case k2 => k_is)
    (case a3 => k_is)
    (case l3 => k_is)
    (case c3 => k_is)
    (case k3 => k_is)
    (case a4 => k_is)
    (case l4 => k_is)
    (case c4 => k_is)
    (case k4 => k_is)
    (case a5 => k_is)
    (case l5 => k_is)
    (case c5 => k_is)
    (case k5 => k_is)
    (case a6 => k_is)
    (case l6 => k_is)
    (case c6 => k_is)
    (case k6 => k_is)
    (case a7 => k_is)
    (case l7 => k_is)
    (case c7 => k_is)
    (case k7 => k_is)
    (case a8 => k_is)
    (case l8 => k_is)
    (case c8 => k_is)
    (case k8 => k_is)
    (case a9 => k_is)
    (case l9 => k_is)
    (case c9 => k_is)
    (case k9 => k_is)
    (case a10 => k_is)
    (case l10 => k_is)
    (case c10 => k_is)
    (case k10 => k_is)
    (case a11 => k_is)
    (case i11 => k_is)
    (case l11 => k_is)
    (case c11 => k_is)
    (case k11 => k_is)
    (case a12 => k_is)
    (case i12 => k_is)
    (case l12 => k_is)
    (case c12 => k_is)
    (case k12 => k_is)
    (case a13 => k_is)
    (case i13 => k_is)
    (case l13 => k_is)
    (case c13 => k_is)
    (case k13 => k_is)
    (case a14 => k_is)
    (case i14 => k_is)
    (case l14 => k_is)
    (case c14 => k_is)
    (case k14 => k_is)
    (case a15 => k_is)
    (case i15 => k_is)
    (case l15 => k_is)
    (case c15 => k_is)
    (case k15 => k_is)
    (case a16 => k_is)
    (case i16 => k_is)
    (case l16 => k_is)
    (case c16 => k_is)
    (case k16 => k_is)
    (case a17 => k_is)
    (case i17 => k_is)
    (case l17 => k_is)
    (case c17 => k_is)
    (case k17 => k_is)
    (case a18 => k_is)
    (case i18 => k_is)
    (case l18 => k_is)
    (case c18 => k_is)
    (case k18 => k_is)
    (case a19 => k_is)
    (case i19 => k_is)
    (case l19 => k_is)
    (case c19 => k_is)
    (case k19 => k_is)
    (case a20 => k_is)
    (case i20 => k_is)
    (case l20 => k_is)
    (case c20 => k_is)
    (case k20 => k_is)
    (case a21 => k_is)
    (case i21 => k_is)
    (case l21 => k_is)
    (case c21 => k_is)
    (case k21 => k_is)
    (case a22 => k_is)
    (case i22 => k_is)
    (case l22 => k_is)
    (case c22 => k_is)
    (case k22 => k_is)
    (case a23 => k_is)
    (case i23 => k_is)
    (case l23 => k_is)
    (case c23 => k_is)
    (case k23 => k_is)
    (case a24 => k_is)
    (case i24 => k_is)
    (case l24 => k_is)
    (case c24 => k_is)
    (case k24 => k_is)
    (case a25 => k_is)
    (case i25 => k_is)
    (case l25 => k_is)
    (case c25 => k_is)
    (case k25 => k_is)
    (case a26 => k_is)
    (case i26 => k_is)
    (case l26 => k_is)
    (case c26 => k_is)
    (case k26 => k_is)
    (case a27 => k_is)
    (case g27 => k_is)
    (case t27 => k_is)
    (case q27 => k_is)
    (case l27 => k_is)
    (case c27 => k_is)
    (case k27 => k_is)
    (case a28 => k_is)
    (case g28 => k_is)
    (case t28 => k_is)
    (case q28 => k_is)
    (case l28 => k_is)
    (case c28 => k_is)
    (case k28 => k_is)
    (case a29 => k_is)
    (case g29 => k_is)
    (case t29 => k_is)
    (case h29 => k_is)
    (case q29 => k_is)
    (case w29 => exact rfl)
    (case l29 => k_is)
    (case c29 => k_is)
    (case k29 => k_is)
    (case a30 => k_is)
    (case i30 => k_is)
    (case l30 => k_is)
    (case c30 => k_is)
    (case k30 => k_is)
    (case lT => k_is)
