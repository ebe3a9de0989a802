import PyProof.Rows.All
import Wide.All
import OpenK.AllK
import Wide.FinOn
import HandS.ForMost
import HandS.IsInst
import HandS.Wide
import HandS.Style
import HandS.Walk
import HandS.StrMore
import PyProof.StrBlock2
import PyProof.EqAt
import PyProof.NeKinds
import HandS.Property
import HandS.Gcd
import HandS.OwnEq
import HandS.Defaults
import HandS.Codes
import HandS.Ends
import PyProof.ReprRoads
import HandS.NoneIn
import PySem.Challenge.RW_lineorigins_k03_ratios_compared
set_option Elab.async false
set_option linter.all false
set_option maxRecDepth 100000
set_option maxHeartbeats 4000000
namespace Pk
open PySem PySem.Spec PyProof.Rows L2

theorem same_upd {H : Hp} {p : Addr} {o : HO} (h : H p = none) : Same H (upd H p o) := fun b x e => by
  rw [upd_ne (ne_of_none e h)]
  exact e
theorem Same.get {H H' : Hp} {a : Addr} {o : HO} (e : Same H H') (h : H a = some o) : H' a = some o := e a o h
/-- a new object, the heap behind it forgotten but for what stands -/
theorem al {H : Hp} {o : HO} {Q : VK} (h : ∀ p H', H p = none → Same H H' → H' p = some o → Q (.ref p) H') : ∀ p, H p = none → Q (.ref p) (upd H p o) :=
  fun p hp => h p _ hp (same_upd hp) upd_same

/-! ### the written part by its name -/
section
variable {X : Cx} {K : PySem.W.Frag}
theorem pi_listK (hK : X.K = K) {tg l : Expr} {tl : TE} (hl : PE X l tl) : PI X tg l (iList K tl) := hK ▸ pi_list hl
theorem pi_tupK (hK : X.K = K) {tg l : Expr} {tl : TE} (hl : PE X l tl) : PI X tg l (iTup K tl) := hK ▸ pi_tup hl
end
/-! ### a thing walked in one of two ways -/
theorem pi_or {X : Cx} {tg l : Expr} {w1 w2 : TI} (a : PI X tg l w1) (b : PI X tg l w2) : PI X tg l (fun σ H R => w1 σ H R ∨ w2 σ H R) :=
  ⟨fun pins s σ H R I h => h.elim (a.run pins s σ H R I) (b.run pins s σ H R I)⟩
theorem pe_alt {X : Cx} {e : Expr} {t1 t2 : TE} (a : PE X e t1) (b : PE X e t2) : PE X e (fun σ H Q => t1 σ H Q ∨ t2 σ H Q) :=
  ⟨fun pins s σ H Q I h => h.elim (a.run pins s σ H Q I) (b.run pins s σ H Q I)⟩

/-! ### operators of more than one kind -/
def rAddX (K : PySem.W.Frag) : R2 := fun x y H Q => rI0 (fun i j => .int (i + j)) x y H Q ∨ ((∃ i j, x = .str i ∧ y = .str j ∧ i.length + j.length ≤ sizeLine ∧ Q (.str (i ++ j)) H) ∨ (rCat x y H Q ∨ rCatT K x y H Q))
theorem op_addX {X : Cx} : OpR X (binaryOp .Add) (rAddX X.K) := op_add.or (op_add_str.or (op_cat.or op_catT))
def rEqN : R2 := fun x y H Q => ∃ a b xs ys, x = .ref a ∧ y = .ref b ∧ H a = some (.lst xs) ∧ H b = some (.lst ys) ∧ xs.length ≠ ys.length ∧ Q (.bl false) H
theorem op_eqN {X : Cx} (hu : X.A.units < cLine) : OpR X (compareOp .Eq) rEqN := by
  intro pins s σ H x y v u Q I rx ry h
  obtain ⟨a, b, xs, ys, rfl, rfl, ha, hb, hn, q⟩ := h
  cases (show v = Value.ref a from rx)
  cases (show u = Value.ref b from ry)
  obtain ⟨is, r1, p1, _⟩ := I.list (SqL.of ha)
  obtain ⟨js, r2, p2, _⟩ := I.list (SqL.of hb)
  obtain ⟨o1, n1, e1, c1, _, d1⟩ := p1
  obtain ⟨o2, n2, e2, c2, _, d2⟩ := p2
  refine SeqAt.eq_list_lengthsAt ⟨o1, e1, c1, n1, d1⟩ ⟨o2, e2, c2, n2, d2⟩ ?_ hu ⟨.bl false, H, I, rfl, q⟩
  have l1 := r1.length
  have l2 := r2.length
  simp only [bne_iff_ne, List.size_toArray]
  omega
def rNeN : R2 := fun x y H Q => ∃ a b xs ys, x = .ref a ∧ y = .ref b ∧ H a = some (.lst xs) ∧ H b = some (.lst ys) ∧ xs.length ≠ ys.length ∧ Q (.bl true) H
theorem op_neN {X : Cx} (hu : X.A.units < cLine) : OpR X (compareOp .NotEq) rNeN := by
  intro pins s σ H x y v u Q I rx ry h
  obtain ⟨a, b, xs, ys, rfl, rfl, ha, hb, hn, q⟩ := h
  cases (show v = Value.ref a from rx)
  cases (show u = Value.ref b from ry)
  obtain ⟨is, r1, p1, _⟩ := I.list (SqL.of ha)
  obtain ⟨js, r2, p2, _⟩ := I.list (SqL.of hb)
  obtain ⟨o1, n1, e1, c1, _, d1⟩ := p1
  obtain ⟨o2, n2, e2, c2, _, d2⟩ := p2
  refine SeqAt.RcNeAt.lists_lengths ⟨o1, e1, c1, n1, d1⟩ ⟨o2, e2, c2, n2, d2⟩ ?_ hu X.prog X.w X.xe (EP X pins σ Q) ⟨.bl true, H, I, rfl, q⟩
  have l1 := r1.length
  have l2 := r2.length
  simp only [bne_iff_ne, List.size_toArray]
  omega
def rEqX (K : PySem.W.Frag) : R2 := fun x y H Q => rEq x y H Q ∨ (rEqD K x y H Q ∨ rEqN x y H Q)
theorem op_eqX {X : Cx} (hu : X.A.units + 64 < cLine) : OpR X (compareOp .Eq) (rEqX X.K) := op_eq.or ((op_eqD hu).or (op_eqN (by omega)))
def rNeX (K : PySem.W.Frag) : R2 := fun x y H Q => rNe x y H Q ∨ (rNeD K x y H Q ∨ rNeN x y H Q)
theorem op_neX {X : Cx} (hu : X.A.units + 64 < cLine) : OpR X (compareOp .NotEq) (rNeX X.K) := op_ne.or ((op_neD hu).or (op_neN (by omega)))

def rMuX : R2 := fun x y H Q => rI CMul (fun i j => .int (i * j)) x y H Q ∨ rI CMulW (fun i j => .int (i * j)) x y H Q
theorem op_muI {X : Cx} : OpR X (binaryOp .Mult) rMuX := op_mul.or op_mulW
/-- a text, several times -/
def rRepS : R2 := fun x y H Q => ∃ z k, x = .str z ∧ y = .int k ∧ MulOk z k ∧ Q (.str (Txt.mul z k)) H
theorem op_repS {X : Cx} : OpR X (binaryOp .Mult) rRepS := by
  intro pins s σ H x y v u Q I rx ry h
  obtain ⟨z, k, rfl, rfl, ok, q⟩ := h
  obtain ⟨t, rfl⟩ := rx
  obtain ⟨t2, rfl⟩ := ry
  exact PySem.SB.mul ok fun t' k' => ⟨.str (Txt.mul z k), H, I.tok _, ⟨_, rfl⟩, q⟩
def rMuXX : R2 := fun x y H Q => rMuX x y H Q ∨ (rRepS x y H Q ∨ rRep x y H Q)
theorem op_muX {X : Cx} : OpR X (binaryOp .Mult) rMuXX := op_muI.or (op_repS.or op_rep)
def rLtX : R2 := fun x y H Q => rI0 (fun i j => .bl (decide (i < j))) x y H Q ∨ (∃ i j, x = .str i ∧ y = .str j ∧ Q (.bl (decide (i.cps.toList < j.cps.toList))) H)
theorem op_ltX {X : Cx} : OpR X (compareOp .Lt) rLtX := op_lt.or op_lt_str
def rLeX : R2 := fun x y H Q => rI0 (fun i j => .bl (decide (i ≤ j))) x y H Q ∨ (∃ i j, x = .str i ∧ y = .str j ∧ Q (.bl (!decide (j.cps.toList < i.cps.toList))) H)
theorem op_leX {X : Cx} : OpR X (compareOp .LtE) rLeX := op_le.or op_le_str
def rGtX : R2 := fun x y H Q => rI0 (fun i j => .bl (decide (j < i))) x y H Q ∨ (∃ i j, x = .str i ∧ y = .str j ∧ Q (.bl (decide (j.cps.toList < i.cps.toList))) H)
theorem op_gtX {X : Cx} : OpR X (compareOp .Gt) rGtX := op_gt.or op_gt_str
def rGeX : R2 := fun x y H Q => rI0 (fun i j => .bl (decide (j ≤ i))) x y H Q ∨ (∃ i j, x = .str i ∧ y = .str j ∧ Q (.bl (!decide (i.cps.toList < j.cps.toList))) H)
theorem op_geX {X : Cx} : OpR X (compareOp .GtE) rGeX := op_ge.or op_ge_str
theorem op_fdX {X : Cx} : OpR X (binaryOp .FloorDiv) (rI CDivW fun i j => .int (i / j)) := op_fdivW
def rSlXX (K : PySem.W.Frag) : V → Option Int → Option Int → Hp → VK → Prop := fun x lo hi H Q => rSlL K x lo hi H Q ∨ rSlS x lo hi H Q
theorem sl_X {X : Cx} : SlR X (rSlXX X.K) := sl_list.or sl_str
def rIntX : List V → Hp → VK → Prop := fun xs H Q => ((∃ i, xs = [.int i] ∧ Q (.int i) H) ∨ ∃ k, xs = [.bl k] ∧ Q (.int (if k then 1 else 0)) H) ∨ (∃ a n, xs = [.str a] ∧ PySem.intText? a = some n ∧ a.length ≤ 640 ∧ Q (.int n) H)
theorem call_intX {X : Cx} : CallR X (.type "int") rIntX := call_int1.or call_int_str
def rLenX (K : PySem.W.Frag) : List V → Hp → VK → Prop := fun xs H Q => ∃ x n, xs = [x] ∧ LenV K x H n ∧ Q (.int n) H
theorem call_lenX {X : Cx} : CallR X (.builtin "len") (rLenX X.K) := call_len
def rTupX (K : PySem.W.Frag) : List V → Hp → VK → Prop := fun xs H Q => ∃ p ys, xs = [.ref p] ∧ ((SqL K H p ys ∧ ∀ l, H l = none → Q (.ref l) (upd H l (.tup ys))) ∨ (SqT K H p ys ∧ Q (.ref p) H))
theorem call_tupX {X : Cx} : CallR X (.type "tuple") (rTupX X.K) := call_tuple_of
def tTruX (K : PySem.W.Frag) (ta : TE) : TT := fun σ H Q => ta σ H fun x H' => ∃ k, TruV K x H' k ∧ Q k H'
theorem pt_truK {X : Cx} {K : PySem.W.Frag} (hK : X.K = K) {a : Expr} {ta : TE} (ha : PE X a ta) (he : ∀ whole, isTrue a X.env whole = (do let v ← whole; standAt a.pos; holding [v] (truthy v))) : PT X a (tTruX K ta) := hK ▸ pt_truth ha he
theorem pt_tru {X : Cx} {a : Expr} {ta : TE} (ha : PE X a ta) (he : ∀ whole, isTrue a X.env whole = (do let v ← whole; standAt a.pos; holding [v] (truthy v))) : PT X a (tTruX X.K ta) := pt_truth ha he
theorem pe_gc {X : Cx} {x : Str} {v : V} {pos : Pos} (hg : Gl X x) (h : ∃ u, X.mg x = some u ∧ RelV v u) (hd : (x == ("__debug__" : Str)) = false := by decide) : PE X (.Name x pos) (tC v) := by
  obtain ⟨u, h1, h2⟩ := h
  exact pe_glob hg h1 h2 hd

/-! ### a def of the text, at its name -/
structure DefAt (K : PySem.W.Frag) (mg : Str → Option Value) (x : Str) (st : Stmt) : Prop where
  ex : ∃ f fd, Fun K x x st f fd ∧ mg x = some (.ref f)
/-- how arguments bind: no defaults -/
def Bnd (x : Str) (st : Stmt) (ps : List Str) : Prop := ∀ (kV doc pm : Value) (an : Option Addr) (cdv ct : Value) (us : List Value), us.length = ps.length → bindArgs (PySem.W.fnOf x x (defArgs st) (defBody st) (defScope st) .none kV doc pm an cdv ct) ⟨us, []⟩ = pure (ps.zip us)
section
variable {P : Program} {w : World} {K : PySem.W.Frag} {mg : Str → Option Value} {base : Heap}
/-- a def that may be called by its name -/
structure Cal (P : Program) (w : World) (K : PySem.W.Frag) (mg : Str → Option Value) (base : Heap) (CX : CXT) (k : Nat) (x : Str) (sp : Sp) : Prop where
  ex : ∃ (f : Addr) (fd : FuncData) (ps : List Str), FnOk P w K mg base CX k f fd ps sp ∧ mg x = some (.ref f) ∧ PySem.W.keepIn K (.ref f) = true ∧ Binds K fd ps []
theorem cal0 {x : Str} {st : Stmt} {N ps : List Str} {k : Nat} {sp : Sp} (D : DefAt K mg x st) (S : FnScope N ps (defScope st)) (hb : Bnd x st ps) (len : ∀ vs H Q E, sp vs H Q E → vs.length = ps.length)
    (hbody : ∀ (f : Addr) (cdv : Value) (A : Around) (outer : List Env) (s : Shared) (H : Hp) (vs : List V) (Q : VK) (E : XK), Room k (A.deeper (envOfC x (defScope st) s.heap.objs.size f cdv)) → sp vs H Q E →
      ∃ t, PSs (cxOf CX0 P w K mg base N x (defScope st) f cdv A outer s H E).nox (defBody st) t ∧ t { nx := fun _ H' => Q .non H', rt := Q } (start N vs) H) : Cal P w K mg base CX0 (k + 1) x sp := by
  obtain ⟨f, fd, F, m⟩ := D.ex
  exact ⟨f, fd, ps, F.ok S len (hbody f), m, F.kp, F.binds hb⟩
end
section
variable {X : Cx} {k j : Nat} {x : Str} {sp : Sp} {p pos : Pos} {e : Expr} {es : List Expr} {t : TA}
theorem pe_c {CX : CXT} {E : XK} (c : Cal X.prog X.w X.K X.mg X.base CX k x sp) (hr : Room j X.A) (hk : k ≤ j) (hg : Gl X x) (hx : Passes CX X E) (ha : PA X (e :: es) t)
    (hdb : (x == ("__debug__" : Str)) = false := by decide) (he : starEach (e :: es) X.env = (false, eval e X.env) :: starEach es X.env := by rfl) (hpl : (backTo pos (starEach es X.env)).any (·.1) = false := by rfl) :
    PE X (.Call (.Name x p) (e :: es) [] pos) (tCall sp [] E t) := by
  obtain ⟨f, fd, ps, F, hm, kp, b⟩ := c.ex
  exact pe_call F (hr.mono hk) hg hm kp b .nil hx ha hdb he hpl
end
/-! ### readings, a step at a time -/
def LstK (Q : VK) : List V → Hp → Prop := fun xs H1 => xs.length ≤ sizeLine ∧ ∀ p, H1 p = none → Q (.ref p) (upd H1 p (.lst xs))
def TupK (Q : VK) : List V → Hp → Prop := fun xs H1 => xs.length ≤ sizeLine ∧ ∀ p, H1 p = none → Q (.ref p) (upd H1 p (.tup xs))
section
variable {K : PySem.W.Frag} {σ : L2.St} {H : Hp} {Q : VK} {D : Ends} {ta tb te tc : TE} {t tr : TA} {tt tu : TT} {ts tz tw : TS} {r : R2} {rm : V → List V → Hp → VK → Prop} {v x y : V} {i j : Int}
theorem i_ret (h : te σ H D.rt) : tRet te D σ H := h
theorem i_op (h : ta σ H fun x H1 => tb σ H1 fun y H2 => r x y H2 Q) : tOp r ta tb σ H Q := h
theorem i_un {r : V → Hp → VK → Prop} (h : ta σ H fun x H1 => r x H1 Q) : tUn r ta σ H Q := h
theorem i_var {n : Nat} (h : σ[n]? = some (some v)) (q : Q v H) : tVar n σ H Q := ⟨v, h, q⟩
theorem i_c (q : Q v H) : tC v σ H Q := q
theorem i_cb {r : List V → Hp → VK → Prop} (h : t σ H fun vs H1 => r vs H1 Q) : tCB r t σ H Q := h
theorem i_call {sp : Sp} {dvs : List V} {E : XK} (h : t σ H fun vs H1 => sp (vs ++ dvs) H1 Q E) : tCall sp dvs E t σ H Q := h
theorem i_cons {R : List V → Hp → Prop} (h : te σ H fun x H1 => tr σ H1 fun xs H2 => R (x :: xs) H2) : tCons te tr σ H R := h
theorem i_nil {R : List V → Hp → Prop} (h : R [] H) : tNil σ H R := h
theorem i_seq (h : ts { D with nx := tz D } σ H) : tSeq ts tz D σ H := h
theorem i_next (h : D.nx σ H) : tNext D σ H := h
theorem i_asg {g : TG} (h : te σ H fun x H1 => g x σ H1 D.nx) : tAsg te g D σ H := h
theorem i_name {n : Nat} {R : L2.St → Hp → Prop} (h : R (σ.set n (some v)) H) : gName n v σ H R := h
theorem i_sub {ts : TSet} {R : L2.St → Hp → Prop} (h : ta σ H fun o H1 => tb σ H1 fun i H2 => ts o i v H2 fun H3 => R σ H3) : gSub ta tb ts v σ H R := h
theorem i_drop (h : te σ H fun _ H1 => D.nx σ H1) : tDrop te D σ H := h
theorem i_ifs (h : tt σ H fun b H1 => if b = true then ts D σ H1 else tz D σ H1) : tIfS tt ts tz D σ H := h
theorem i_ife (h : tt σ H fun c H1 => if c = true then ta σ H1 Q else tb σ H1 Q) : tIf tt ta tb σ H Q := h
theorem i_test {R : Bool → Hp → Prop} (h : te σ H fun x H' => ∃ k, x = .bl k ∧ R k H') : tTest te σ H R := h
theorem i_tru {R : Bool → Hp → Prop} (h : te σ H fun x H' => ∃ k, TruV K x H' k ∧ R k H') : tTruX K te σ H R := h
theorem i_and {R : Bool → Hp → Prop} (h : tt σ H fun c H1 => if c = true then tu σ H1 R else R false H1) : tAnd tt tu σ H R := h
theorem i_or {R : Bool → Hp → Prop} (h : tt σ H fun c H1 => if c = true then R true H1 else tu σ H1 R) : tOr tt tu σ H R := h
theorem i_not {R : Bool → Hp → Prop} (h : tt σ H fun c H1 => R (!c) H1) : tNot tt σ H R := h
theorem i_andV (h : ta σ H fun x H1 => ∃ c, x = .bl c ∧ if c = true then tb σ H1 Q else Q (.bl false) H1) : tAndV ta tb σ H Q := h
theorem i_orV (h : ta σ H fun x H1 => ∃ c, x = .bl c ∧ if c = true then Q (.bl true) H1 else tb σ H1 Q) : tOrV ta tb σ H Q := h
theorem i_notV (h : ta σ H fun x H1 => ∃ c, x = .bl c ∧ Q (.bl (!c)) H1) : tNotV ta σ H Q := h
theorem i_bl {b : Bool} {R : Bool → Prop} (h : R b) : ∃ k, V.bl b = .bl k ∧ R k := ⟨b, rfl, h⟩
theorem i_blH {b : Bool} {R : Bool → Hp → Prop} (h : R b H) : ∃ k, V.bl b = .bl k ∧ R k H := ⟨b, rfl, h⟩
theorem i_trB {b : Bool} {R : Bool → Prop} (h : R b) : ∃ k, TruV K (.bl b) H k ∧ R k := ⟨b, rfl, h⟩
theorem i_lstF (h : t σ H (LstK Q)) : tLst t σ H Q := h
theorem i_tupF (h : t σ H (TupK Q)) : tTup t σ H Q := h
theorem p_lstK {xs : List V} (hl : xs.length ≤ sizeLine) (h : ∀ p H', H p = none → Same H H' → H' p = some (.lst xs) → Q (.ref p) H') : LstK Q xs H := ⟨hl, al h⟩
theorem p_tupK {xs : List V} (hl : xs.length ≤ sizeLine) (h : ∀ p H', H p = none → Same H H' → H' p = some (.tup xs) → Q (.ref p) H') : TupK Q xs H := ⟨hl, al h⟩
/-- operators -/
theorem p_addI (q : Q (.int (i + j)) H) : rAddX K (.int i) (.int j) H Q := .inl ⟨i, j, rfl, rfl, q⟩
theorem p_addS {a b : Str} (hl : a.length + b.length ≤ sizeLine) (q : Q (.str (a ++ b)) H) : rAddX K (.str a) (.str b) H Q := .inr (.inl ⟨a, b, rfl, rfl, hl, q⟩)
theorem p_addL {a b : Addr} {xs ys : List V} (h1 : H a = some (.lst xs)) (h2 : H b = some (.lst ys)) (hl : xs.length + ys.length ≤ sizeLine) (q : ∀ p H', H p = none → Same H H' → H' p = some (.lst (xs ++ ys)) → Q (.ref p) H') : rAddX K (.ref a) (.ref b) H Q :=
  .inr (.inr (.inl ⟨a, b, xs, ys, rfl, rfl, h1, h2, hl, al q⟩))
theorem p_I0 {g : Int → Int → V} (q : Q (g i j) H) : rI0 g (.int i) (.int j) H Q := ⟨i, j, rfl, rfl, q⟩
theorem p_I {C : Int → Int → Prop} {g : Int → Int → V} (c : C i j) (q : Q (g i j) H) : rI C g (.int i) (.int j) H Q := ⟨i, j, rfl, rfl, c, q⟩
theorem p_U {g : Int → V} (q : Q (g i) H) : rU g (.int i) H Q := ⟨i, rfl, q⟩
theorem p_muI (c : CMul i j ∨ CMulW i j) (q : Q (.int (i * j)) H) : rMuXX (.int i) (.int j) H Q := c.elim (fun c => .inl (.inl ⟨i, j, rfl, rfl, c, q⟩)) fun c => .inl (.inr ⟨i, j, rfl, rfl, c, q⟩)
theorem p_muS {z : Str} (c : MulOk z j) (q : Q (.str (Txt.mul z j)) H) : rMuXX (.str z) (.int j) H Q := .inr (.inl ⟨z, j, rfl, rfl, c, q⟩)
theorem p_ltI (q : Q (.bl (decide (i < j))) H) : rLtX (.int i) (.int j) H Q := .inl ⟨i, j, rfl, rfl, q⟩
theorem p_leI (q : Q (.bl (decide (i ≤ j))) H) : rLeX (.int i) (.int j) H Q := .inl ⟨i, j, rfl, rfl, q⟩
theorem p_gtI (q : Q (.bl (decide (j < i))) H) : rGtX (.int i) (.int j) H Q := .inl ⟨i, j, rfl, rfl, q⟩
theorem p_geI (q : Q (.bl (decide (j ≤ i))) H) : rGeX (.int i) (.int j) H Q := .inl ⟨i, j, rfl, rfl, q⟩
theorem p_ltS {a b : Str} (q : Q (.bl (decide (a.cps.toList < b.cps.toList))) H) : rLtX (.str a) (.str b) H Q := .inr ⟨a, b, rfl, rfl, q⟩
theorem p_leS {a b : Str} (q : Q (.bl (!decide (b.cps.toList < a.cps.toList))) H) : rLeX (.str a) (.str b) H Q := .inr ⟨a, b, rfl, rfl, q⟩
theorem p_gtS {a b : Str} (q : Q (.bl (decide (b.cps.toList < a.cps.toList))) H) : rGtX (.str a) (.str b) H Q := .inr ⟨a, b, rfl, rfl, q⟩
theorem p_eqI (q : Q (.bl (decide (i = j))) H) : rEqX K (.int i) (.int j) H Q := .inl ⟨rfl, by
  have e : decide (V.int i = V.int j) = decide (i = j) := decide_eq_decide.mpr ⟨fun h => V.int.inj h, fun h => h ▸ rfl⟩
  rw [e]
  exact q⟩
theorem p_neI (q : Q (.bl (!decide (i = j))) H) : rNeX K (.int i) (.int j) H Q := .inl ⟨rfl, by
  have e : decide (V.int i = V.int j) = decide (i = j) := decide_eq_decide.mpr ⟨fun h => V.int.inj h, fun h => h ▸ rfl⟩
  rw [e]
  exact q⟩
theorem p_eqS (s : scal x y = true) (q : Q (.bl (decide (x = y))) H) : rEqX K x y H Q := .inl ⟨s, q⟩
theorem p_neS (s : scal x y = true) (q : Q (.bl (!decide (x = y))) H) : rNeX K x y H Q := .inl ⟨s, q⟩
theorem p_int (q : Q (.int i) H) : rIntX [.int i] H Q := .inl (.inl ⟨i, rfl, q⟩)
theorem p_lenS {z : Str} (hl : z.length ≤ sizeLine) (q : Q (.int z.length) H) : rLenX K [.str z] H Q := ⟨.str z, z.length, rfl, ⟨hl, rfl⟩, q⟩
theorem p_lenL {a : Addr} {xs : List V} (h : SqL K H a xs) (q : Q (.int xs.length) H) : rLenX K [.ref a] H Q := ⟨.ref a, xs.length, rfl, .inl ⟨xs, h, rfl⟩, q⟩
theorem p_lenT {a : Addr} {xs : List V} (h : SqT K H a xs) (q : Q (.int xs.length) H) : rLenX K [.ref a] H Q := ⟨.ref a, xs.length, rfl, .inr ⟨xs, h, rfl⟩, q⟩
theorem p_ixL {a : Addr} {xs : List V} (h : SqL K H a xs) (ha : atI xs i = some v) (q : Q v H) : rIx K (.ref a) (.int i) H Q := .inl ⟨a, xs, i, v, rfl, rfl, h, ha, q⟩
theorem p_ixT {a : Addr} {xs : List V} (h : SqT K H a xs) (ha : atI xs i = some v) (q : Q v H) : rIx K (.ref a) (.int i) H Q := .inr (.inl ⟨a, xs, i, v, rfl, rfl, h, ha, q⟩)
theorem p_ixS {z : Str} {c : Nat} (hl : z.length ≤ sizeLine) (ha : atI z.cps.toList i = some c) (q : Q (.str ⟨#[c]⟩) H) : rIx K (.str z) (.int i) H Q := .inr (.inr ⟨z, i, c, rfl, rfl, hl, ha, q⟩)
theorem p_setL {a : Addr} {xs : List V} {n : Nat} {R : Hp → Prop} (h : H a = some (.lst xs)) (hi : ixN xs.length i = some n) (q : R (upd H a (.lst (xs.set n v)))) : rSetL (.ref a) (.int i) v H R := ⟨a, xs, i, n, rfl, rfl, h, hi, q⟩
theorem i_m1 (h : ta σ H fun x H1 => (∃ a, x = .str a) ∧ tb σ H1 fun y H2 => rm x [y] H2 Q) : tM1 rm ta tb σ H Q := h
theorem i_m0 (h : ta σ H fun x H1 => (∃ a, x = .str a) ∧ rm x [] H1 Q) : tM0 rm ta σ H Q := h
theorem i_str {z : Str} {B : Prop} (h : B) : (∃ a, V.str z = .str a) ∧ B := ⟨⟨z, rfl⟩, h⟩
theorem p_join {z : Str} {a : Addr} {ys : List Str} (h : SqL K H a (ys.map V.str)) (hl : (ys.map (·.length)).sum + ys.length * z.length ≤ 16777216) (q : Q (.str (Txt.join z ys)) H) :
    ∃ a' p, ∃ ys : List Str, V.str z = .str a' ∧ [V.ref a] = [.ref p] ∧ (SqL K H p (ys.map V.str) ∨ SqT K H p (ys.map V.str)) ∧ (ys.map (·.length)).sum + ys.length * a'.length ≤ 16777216 ∧ Q (.str (Txt.join a' ys)) H := ⟨z, a, ys, rfl, rfl, .inl h, hl, q⟩
theorem ift {A B : Prop} {c : Bool} (h1 : c = true → A) (h2 : c = false → B) : if c = true then A else B := by
  cases c with
  | true => exact h1 rfl
  | false => exact h2 rfl
end

/-! ### the pool -/
/-- the pool at p, its numbers at n, at most k draws so far -/
def PoolAt (H : Hp) (p n : Addr) (k : Int) : Prop := ∃ (ns : List Int) (a c z st : Int), H p = some (.lst [.ref n, .int a, .int c, .int z, .int st]) ∧ H n = some (.lst (ns.map V.int)) ∧ 0 ≤ a ∧ 0 ≤ c ∧ c ≤ k ∧ 0 ≤ z ∧ z < 2147483647
/-- what was tracked stands, but for the pool -/
def Keep (p n : Addr) (H H' : Hp) : Prop := ∀ a o, H a = some o → a ≠ p → a ≠ n → H' a = some o
theorem Keep.get {p n a : Addr} {H H' : Hp} {o : HO} (e : Keep p n H H') (h : H a = some o) (h1 : a ≠ p) (h2 : a ≠ n) : H' a = some o := e a o h h1 h2
theorem Keep.refl (p n : Addr) (H : Hp) : Keep p n H H := fun _ _ h _ _ => h
theorem Keep.trans {p n : Addr} {H H1 H2 : Hp} (a : Keep p n H H1) (b : Keep p n H1 H2) : Keep p n H H2 := fun x o h h1 h2 => b x o (a x o h h1 h2) h1 h2
theorem Keep.same {p n : Addr} {H H1 : Hp} (a : Same H H1) : Keep p n H H1 := fun x o h _ _ => a x o h
theorem Keep.upd {p n d : Addr} {H H1 : Hp} {o : HO} (k : Keep p n H H1) (h : H d = none) : Keep p n H (L2.upd H1 d o) := fun x u e h1 h2 => by
  rw [upd_ne (ne_of_none e h)]
  exact k x u e h1 h2
theorem PoolAt.ne {p n a : Addr} {H : Hp} {k : Int} (h : PoolAt H p n k) (e : H a = none) : a ≠ p ∧ a ≠ n := by
  obtain ⟨ns, b, c, z, st, h1, h2, _⟩ := h
  exact ⟨(ne_of_none h1 e).symm, (ne_of_none h2 e).symm⟩
theorem PoolAt.same {p n : Addr} {H H' : Hp} {k : Int} (h : PoolAt H p n k) (e : Same H H') : PoolAt H' p n k := by
  obtain ⟨ns, b, c, z, st, h1, h2, h3⟩ := h
  exact ⟨ns, b, c, z, st, e _ _ h1, e _ _ h2, h3⟩
theorem PoolAt.mono {p n : Addr} {H : Hp} {k j : Int} (h : PoolAt H p n k) (e : k ≤ j) : PoolAt H p n j := by
  obtain ⟨ns, b, c, z, st, h1, h2, h3, h4, h5, h6⟩ := h
  exact ⟨ns, b, c, z, st, h1, h2, h3, h4, by omega, h6⟩
theorem PoolAt.upd {p n d : Addr} {H : Hp} {k : Int} {o : HO} (h : PoolAt H p n k) (h1 : d ≠ p) (h2 : d ≠ n) : PoolAt (L2.upd H d o) p n k := by
  obtain ⟨ns, b, c, z, st, e1, e2, h3⟩ := h
  exact ⟨ns, b, c, z, st, by rw [upd_ne (Ne.symm h1)]; exact e1, by rw [upd_ne (Ne.symm h2)]; exact e2, h3⟩
theorem Same.upd {d : Addr} {H H1 : Hp} {o : HO} (k : Same H H1) (h : H d = none) : Same H (L2.upd H1 d o) := fun x u e => by
  rw [upd_ne (ne_of_none e h)]
  exact k x u e

theorem log_lt {m : Int} (h0 : 0 ≤ m) (h : m < 1000000000000) : m.natAbs.log2 < 9000 := Nat.lt_of_lt_of_le (PySem.Flt.log2_lt_of (k := 64) (by decide) (by
  have e : (2 : Nat) ^ 64 = 18446744073709551616 := by decide
  rw [e]
  omega)) (by decide)
/-! ### slices -/
section
variable {K : PySem.W.Frag} {σ : L2.St} {H : Hp} {Q : VK} {te : TE} {tl th : TO} {lo hi : Option Int}
theorem i_sl {r : V → Option Int → Option Int → Hp → VK → Prop} (h : te σ H fun x H1 => tl σ H1 fun a H2 => th σ H2 fun b H3 => r x a b H3 Q) : tSl r te tl th σ H Q := h
theorem i_np {R : Option Int → Hp → Prop} (h : R none H) : tNoPart σ H R := h
theorem i_pt {R : Option Int → Hp → Prop} (h : te σ H fun x H1 => ∃ i, x = .int i ∧ R (some i) H1) : tPart te σ H R := h
theorem i_in {i : Int} {R : Int → Prop} (h : R i) : ∃ k, V.int i = .int k ∧ R k := ⟨i, rfl, h⟩
theorem p_slL {a : Addr} {xs : List V} (h : SqL K H a xs) (q : ∀ p H', H p = none → Same H H' → H' p = some (.lst (cutV xs lo hi)) → Q (.ref p) H') : rSlXX K (.ref a) lo hi H Q := .inl ⟨a, xs, rfl, h, al q⟩
theorem p_slS {z : Str} (h : z.length ≤ sizeLine) (q : Q (.str (cutS z lo hi)) H) : rSlXX K (.str z) lo hi H Q := .inr ⟨z, rfl, h, q⟩
theorem cutV_to (xs : List V) (k : Nat) : cutV xs none (some (k : Int)) = xs.take k := by
  unfold cutV
  rw [show HT.sIx xs.length 0 none = 0 from HT.sIx_none _ _, HT.sIx_nat]
  rw [List.drop_zero, Nat.sub_zero]
  by_cases h : k ≤ xs.length
  · rw [Nat.min_eq_left h]
  · rw [Nat.min_eq_right (by omega), List.take_length, List.take_of_length_le (by omega)]
theorem cutV_from (xs : List V) (k : Nat) : cutV xs (some (k : Int)) none = xs.drop k := by
  unfold cutV
  rw [HT.sIx_nat, HT.sIx_none]
  by_cases h : k ≤ xs.length
  · rw [Nat.min_eq_left h]
    exact List.take_of_length_le (by rw [List.length_drop]; exact Nat.le_refl _)
  · rw [Nat.min_eq_right (by omega), List.drop_length, List.drop_of_length_le (by omega), List.take_nil]
end

/-! ### comprehensions -/
section
variable {K : PySem.W.Frag} {a D : Addr} {xs : List V} {g : TG} {tt : TT} {te : TE} {vs : List Nat} {σ : L2.St} {H1 : Hp} {Qd : Hp → Prop}
/-- behind i turns: R of the heap, J of the list made so far -/
def LcNx (D : Addr) (R : Nat → Hp → Prop) (J : Nat → List V → Prop) (i : Nat) (H : Hp) : Prop := ∃ acc, H D = some (.lst acc) ∧ R i H ∧ J i acc ∧ acc.length ≤ i
def LcEnd (D : Addr) (R : Nat → Hp → Prop) (J : Nat → List V → Prop) (i : Nat) : VK := fun y H4 => ∃ acc, H4 D = some (.lst acc) ∧ acc.length < sizeLine ∧ LcNx D R J i (upd H4 D (.lst (acc ++ [y])))
def LcTurn (D : Addr) (R : Nat → Hp → Prop) (J : Nat → List V → Prop) (g : TG) (tt : TT) (te : TE) (vs : List Nat) (σ : L2.St) (i : Nat) (x : V) : Prop := ∀ acc H, R i H → J i acc → H D = some (.lst acc) → acc.length ≤ i →
  g x (wipe σ vs) H fun σ2 H2 => wipe σ2 vs = wipe σ vs ∧ tt σ2 H2 fun b H3 => if b = true then te σ2 H3 (LcEnd D R J (i + 1)) else LcNx D R J (i + 1) H3
theorem lc_end {R : Nat → Hp → Prop} {J : Nat → List V → Prop} {i : Nat} {y : V} {H4 : Hp} {acc : List V} (h : H4 D = some (.lst acc)) (hl : acc.length ≤ i) (hi : i < 100000) (r : R (i + 1) (upd H4 D (.lst (acc ++ [y])))) (j : J (i + 1) (acc ++ [y])) : LcEnd D R J (i + 1) y H4 :=
  ⟨acc, h, Nat.lt_of_lt_of_le (by omega) (show 100000 ≤ sizeLine by decide), acc ++ [y], upd_same, r, j, by rw [List.length_append, List.length_singleton]; omega⟩
theorem lc_skip {R : Nat → Hp → Prop} {J : Nat → List V → Prop} {i : Nat} {H4 : Hp} {acc : List V} (h : H4 D = some (.lst acc)) (hl : acc.length ≤ i) (r : R (i + 1) H4) (j : J (i + 1) acc) : LcNx D R J (i + 1) H4 :=
  ⟨acc, h, r, j, by omega⟩
/-- what is asked of the walked thing -/
def LcBody (g : TG) (tt : TT) (te : TE) (vs : List Nat) (σ : L2.St) (Q : VK) : It → Hp → Prop := fun J H1 => tLc (fun _ H R => R J H) g tt te vs σ H1 Q
theorem i_lc {wi : TI} {Q : VK} (h : wi σ H1 (LcBody g tt te vs σ Q)) : tLc wi g tt te vs σ H1 Q := h
/-- a walked thing that gives the items of xs, the heap as it was -/
abbrev WalkX (J : It) (xs : List V) (G : Hp → Prop) : Prop := Walk J xs.length G (YAt xs)
theorem lcw {J : It} {G : Hp → Prop} {Q : VK} (w : WalkX J xs G) (h : ∀ D, H1 D = none → ∃ (R : Nat → Hp → Prop) (Jx : Nat → List V → Prop), R 0 (upd H1 D (.lst [])) ∧ Jx 0 [] ∧ (∀ i H, R i H → G H) ∧ (∀ i x, xs[i]? = some x → LcTurn D R Jx g tt te vs σ i x) ∧
      ∀ acc H, R xs.length H → Jx xs.length acc → H D = some (.lst acc) → acc.length ≤ xs.length → Q (.ref D) H) : LcBody g tt te vs σ Q J H1 := by
  intro D hD
  obtain ⟨R, Jx, r0, j0, hG, ht, hd⟩ := h D hD
  refine lc_it w (LcNx D R Jx) ⟨[], upd_same, r0, j0, Nat.le_refl _⟩ (fun i H _ p => ?_) (fun i x H H' hi p y => ?_) (fun H p => ?_)
  · obtain ⟨acc, _, r, _⟩ := p
    exact hG i H r
  · obtain ⟨acc, e, r, j, l⟩ := p
    obtain ⟨rfl, hx⟩ := y
    exact ht i x hx acc H' r j e l
  · obtain ⟨acc, e, r, j, l⟩ := p
    exact hd acc H r j e l
theorem list_take_more {α : Type} {l : List α} {i : Nat} {x : α} (h : l[i]? = some x) : l.take (i + 1) = l.take i ++ [x] := by
  rw [List.take_add_one, h]
  rfl
/-- pure: the items that p lets through, by f -/
theorem lcw_fm {J : It} {G : Hp → Prop} {Q : VK} {j : Nat} (w : WalkX J xs G) (p : V → Bool) (f : V → V) (hG : ∀ H', Same H1 H' → G H') (hz : xs.length < 100000) (hw : ∀ x, wipe ((wipe σ vs).set j (some x)) vs = wipe σ vs)
    (ht : ∀ x, x ∈ xs → ∀ (H' : Hp) (R : Bool → Hp → Prop), Same H1 H' → (∀ H'', Same H' H'' → R (p x) H'') → tt ((wipe σ vs).set j (some x)) H' R)
    (he : ∀ x, x ∈ xs → p x = true → ∀ (H' : Hp) (R : VK), Same H1 H' → (∀ H'', Same H' H'' → R (f x) H'') → te ((wipe σ vs).set j (some x)) H' R)
    (q : ∀ D H', H1 D = none → Same H1 H' → H' D = some (.lst ((xs.filter p).map f)) → Q (.ref D) H') : LcBody (gName j) tt te vs σ Q J H1 := by
  refine lcw w fun D hD => ⟨fun _ H => Same H1 H, fun i acc => acc = ((xs.take i).filter p).map f, same_upd hD, rfl, fun _ H s => hG H s, fun i x hx acc H s ej e hl => ?_, fun acc H s ej e _ => ?_⟩
  · have hm : x ∈ xs := List.mem_of_getElem? hx
    have hi : i < 100000 := Nat.lt_trans (List.getElem?_eq_some_iff.mp hx).1 hz
    refine ⟨hw x, ht x hm H _ s fun H3 s3 => ?_⟩
    cases hp : p x with
    | true =>
      refine iteT (he x hm hp H3 _ (s.trans s3) fun H4 s4 => ?_)
      have s14 := (s.trans s3).trans s4
      refine lc_end (s4 _ _ (s3 _ _ e)) hl hi (Same.upd s14 hD) ?_
      have ej : acc = ((xs.take i).filter p).map f := ej
      show acc ++ [f x] = ((xs.take (i + 1)).filter p).map f
      rw [list_take_more hx, List.filter_append, List.map_append, ← ej]
      simp [hp]
    | false =>
      refine iteF (lc_skip (s3 _ _ e) hl (s.trans s3) ?_)
      have ej : acc = ((xs.take i).filter p).map f := ej
      show acc = ((xs.take (i + 1)).filter p).map f
      rw [list_take_more hx, List.filter_append, List.map_append, ← ej]
      simp [hp]
  · have ej : acc = ((xs.take xs.length).filter p).map f := ej
    rw [List.take_length] at ej
    exact q D H hD s (by rw [← ej]; exact e)
/-- with draws: R tells the pool's state, J the list -/
theorem lcw_pool {J : It} {G : Hp → Prop} {Q : VK} {j : Nat} {p n : Addr} {k d : Int} (w : WalkX J xs G) (Jx : Nat → List V → Prop) (hP : PoolAt H1 p n k) (hG : ∀ H', Keep p n H1 H' → G H') (hz : xs.length < 100000) (hw : ∀ x, wipe ((wipe σ vs).set j (some x)) vs = wipe σ vs) (j0 : Jx 0 [])
    (he : ∀ i x acc, xs[i]? = some x → Jx i acc → ∀ (H' : Hp) (R : VK), Keep p n H1 H' → PoolAt H' p n (k + i * d) → (∀ y H'', Keep p n H' H'' → PoolAt H'' p n (k + (i + 1 : Nat) * d) → Jx (i + 1) (acc ++ [y]) → R y H'') → te ((wipe σ vs).set j (some x)) H' R)
    (q : ∀ D H' acc, H1 D = none → Keep p n H1 H' → PoolAt H' p n (k + xs.length * d) → Jx xs.length acc → acc.length ≤ xs.length → H' D = some (.lst acc) → Q (.ref D) H') : LcBody (gName j) tYes te vs σ Q J H1 := by
  refine lcw w fun D hD => ⟨fun i H => Keep p n H1 H ∧ PoolAt H p n (k + i * d), Jx, ⟨(Keep.refl p n H1).upd hD, ?_⟩, j0, fun _ H s => hG H s.1, fun i x hx acc H s ej e hl => ?_, fun acc H s ej e hl => q D H acc hD s.1 s.2 ej hl e⟩
  · have z : PoolAt (L2.upd H1 D (.lst [])) p n k := hP.upd (hP.ne hD).1 (hP.ne hD).2
    exact z.mono (by simp)
  · have hi : i < 100000 := Nat.lt_trans (List.getElem?_eq_some_iff.mp hx).1 hz
    refine ⟨hw x, ?_⟩
    have goal : te ((wipe σ vs).set j (some x)) H (LcEnd D (fun i H => Keep p n H1 H ∧ PoolAt H p n (k + i * d)) Jx (i + 1)) := he i x acc hx ej H _ s.1 s.2 fun y H4 s4 p4 j4 => by
      have e4 := s4 _ _ e (hP.ne hD).1 (hP.ne hD).2
      exact lc_end e4 hl hi ⟨(s.1.trans s4).upd hD, p4.upd (hP.ne hD).1 (hP.ne hD).2⟩ j4
    exact goal
theorem p_lcL {Q : VK} {xs : List V} (h : SqL K H1 a xs) (q : LcBody g tt te vs σ Q (Itl K a) H1) : ∃ a', V.ref a = .ref a' ∧ (∃ xs, SqL K H1 a' xs) ∧ LcBody g tt te vs σ Q (Itl K a') H1 := ⟨a, rfl, ⟨xs, h⟩, q⟩
theorem p_lcT {Q : VK} {xs : List V} (h : SqT K H1 a xs) (q : LcBody g tt te vs σ Q (Itt K a) H1) : ∃ a', V.ref a = .ref a' ∧ (∃ xs, SqT K H1 a' xs) ∧ LcBody g tt te vs σ Q (Itt K a') H1 := ⟨a, rfl, ⟨xs, h⟩, q⟩
end
/-! ### walked things -/
section
variable {K : PySem.W.Frag} {a : Addr} {xs : List V} {σ : L2.St} {H : Hp} {R : It → Hp → Prop} {te : TE} {ta : TA}
theorem i_itl (h : te σ H fun x H1 => ∃ a, x = .ref a ∧ (∃ xs, SqL K H1 a xs) ∧ R (Itl K a) H1) : iList K te σ H R := h
theorem i_itt (h : te σ H fun x H1 => ∃ a, x = .ref a ∧ (∃ xs, SqT K H1 a xs) ∧ R (Itt K a) H1) : iTup K te σ H R := h
theorem i_itr (h : ta σ H fun vs H1 => ∃ j : Int, vs = [.int j] ∧ -(2 ^ 62) ≤ j ∧ j < 2 ^ 62 ∧ R (Itr 0 j.toNat) H1) : iRng1 ta σ H R := h
theorem i_its (h : te σ H fun v H1 => ∃ x, v = .str x ∧ R (Its x) H1) : iStr te σ H R := h
theorem p_itl {R : Addr → Prop} (h : SqL K H a xs) (q : R a) : ∃ a', V.ref a = .ref a' ∧ (∃ xs, SqL K H a' xs) ∧ R a' := ⟨a, rfl, ⟨xs, h⟩, q⟩
theorem p_itt {R : Addr → Prop} (h : SqT K H a xs) (q : R a) : ∃ a', V.ref a = .ref a' ∧ (∃ xs, SqT K H a' xs) ∧ R a' := ⟨a, rfl, ⟨xs, h⟩, q⟩
theorem p_itr {R : Int → Prop} {i : Int} (h1 : -(2 ^ 62) ≤ i) (h2 : i < 2 ^ 62) (q : R i) : ∃ j, [V.int i] = [.int j] ∧ -(2 ^ 62) ≤ j ∧ j < 2 ^ 62 ∧ R j := ⟨i, rfl, h1, h2, q⟩
theorem p_its {R : Str → Prop} {z : Str} (q : R z) : ∃ x, V.str z = .str x ∧ R x := ⟨z, rfl, q⟩
/-- the signs of a text, each a text -/
def chars (z : Str) : List V := z.cps.toList.map fun c => V.str ⟨#[c]⟩
def intsV (n : Nat) : List V := (List.range n).map fun i : Nat => V.int i
theorem intsV_len (n : Nat) : (intsV n).length = n := by simp [intsV]
theorem chars_len (z : Str) : (chars z).length = z.length := by simp [chars, Str.length]
theorem wx_list : WalkX (Itl K a) xs (fun H => SqL K H a xs) := walk_list
theorem wx_tup : WalkX (Itt K a) xs (fun H => SqT K H a xs) := walk_tup
theorem wx_range {n : Nat} : WalkX (Itr 0 n) (intsV n) (fun _ => True) := by
  unfold WalkX
  rw [intsV_len]
  refine walk_range.mono (fun _ h => h) fun i H x H' hi _ y => ⟨y.1, ?_⟩
  rw [y.2, intsV, List.getElem?_map, List.getElem?_range hi]
  simp
theorem wx_str {z : Str} : WalkX (Its z) (chars z) (fun _ => True) := by
  have e : (chars z).length = z.cps.size := by simp [chars]
  unfold WalkX
  rw [e]
  refine walk_str.mono (fun _ h => h) fun i H x H' hi _ y => ⟨y.1, ?_⟩
  obtain ⟨c, hc, rfl⟩ := y.2
  rw [chars, List.getElem?_map, Array.getElem?_toList, hc]
  rfl
/-! ### for -/
def FoBody (g : TG) (tb : TS) (D : Ends) (σ : L2.St) : It → Hp → Prop := fun J H1 => tFor (fun _ H R => R J H) g tb D σ H1
theorem i_for {wi : TI} {g : TG} {tb : TS} {D : Ends} (h : wi σ H (FoBody g tb D σ)) : tFor wi g tb D σ H := h
theorem fow {J : It} {G : Hp → Prop} {g : TG} {tb : TS} {D : Ends} (w : WalkX J xs G) (Pv : Nat → L2.St → Hp → Prop) (h0 : Pv 0 σ H) (hG : ∀ i σ H, Pv i σ H → G H)
    (hs : ∀ i x σ H, xs[i]? = some x → Pv i σ H → g x σ H fun σ2 H2 => tb { D with nx := Pv (i + 1), ct := Pv (i + 1), bk := D.nx } σ2 H2) (hd : ∀ σ H, Pv xs.length σ H → D.nx σ H) : FoBody g tb D σ J H :=
  for_it w Pv h0 (fun i σ H _ p => hG i σ H p) (fun i x σ H H' _ p y => by
    obtain ⟨rfl, hx⟩ := y
    exact hs i x σ H' hx p) hd
end
end Pk

namespace Pk
open PySem PySem.Spec PyProof.Rows L2
/-! ### kinds of plain values -/
inductive Kn where | non | bl | int | str | lst | tup | dct
  deriving DecidableEq
def Kn.is : Kn → Kn → Bool
  | .bl, .int => true
  | a, b => a == b
inductive Kd (H : Hp) : V → Kn → Prop where
  | non : Kd H .non .non
  | bl (b : Bool) : Kd H (.bl b) .bl
  | int (i : Int) : Kd H (.int i) .int
  | str (z : Str) (h : z.length ≤ 10000) : Kd H (.str z) .str
  | lst {a : Addr} {xs : List V} (e : H a = some (.lst xs)) : Kd H (.ref a) .lst
  | tup {a : Addr} {xs : List V} (e : H a = some (.tup xs)) : Kd H (.ref a) .tup
  | dct {a : Addr} {kvs : List (Key × V)} (e : H a = some (.dK kvs)) : Kd H (.ref a) .dct
theorem Kd.same {H H' : Hp} {x : V} {k : Kn} (s : Same H H') (h : Kd H x k) : Kd H' x k := by
  cases h with
  | non => exact .non
  | bl b => exact .bl b
  | int i => exact .int i
  | str z h => exact .str z h
  | lst e => exact .lst (s _ _ e)
  | tup e => exact .tup (s _ _ e)
  | dct e => exact .dct (s _ _ e)
def Kn.nm : Kn → String
  | .non => "NoneType" | .bl => "bool" | .int => "int" | .str => "str" | .lst => "list" | .tup => "tuple" | .dct => "dict"
theorem kit_nm (a c : Kn) (hc : c ≠ .non) : kitB a.nm c.nm = some (a.is c) := by
  cases a <;> cases c <;> first | exact absurd rfl hc | decide +kernel
theorem Kd.tyx {K : PySem.W.Frag} {H : Hp} {x : V} {k : Kn} (h : Kd H x k) : TyX K H x (.type k.nm) := by
  cases h with
  | non => exact .base .non
  | bl b => exact .base (.bl b)
  | int i => exact .base (.int i)
  | str z _ => exact .base (.str z)
  | lst e => exact .base (.lst e)
  | tup e => exact .base (.tup e)
  | dct e => exact .base (.dK e)
section
variable {K : PySem.W.Frag} {σ : L2.St} {H : Hp} {Q : VK} {x : V} {a : Kn}
theorem p_isi (c : Kn) (hc : c ≠ .non) (h : Kd H x a) (q : Q (.bl (a.is c)) H) : rIsi K [x, .ty c.nm] H Q := ⟨x, .ty c.nm, .type a.nm, .type c.nm, a.is c, rfl, .ty _, h.tyx, kit_ty (kit_nm a c hc), q⟩
theorem p_isStr (h : Kd H x a) (q : Q (.bl (a.is .str)) H) : rIsi K [x, .ty "str"] H Q := p_isi .str (by decide) h q
theorem p_isInt (h : Kd H x a) (q : Q (.bl (a.is .int)) H) : rIsi K [x, .ty "int"] H Q := p_isi .int (by decide) h q
theorem p_isBool (h : Kd H x a) (q : Q (.bl (a.is .bl)) H) : rIsi K [x, .ty "bool"] H Q := p_isi .bl (by decide) h q
theorem p_isi2 (c d : Kn) (hc : c ≠ .non) (hd : d ≠ .non) {t : Addr} (ht : H t = some (.tup [.ty c.nm, .ty d.nm])) (h : Kd H x a) (q : Q (.bl (a.is c || a.is d)) H) : rIsiT K [x, .ref t] H Q := by
  refine ⟨x, t, _, .type a.nm, [.type c.nm, .type d.nm], a.is c || a.is d, rfl, ht, .cons (.ty _) (.cons (.ty _) .nil), h.tyx, ?_, q⟩
  refine kitAny_cons (kit_ty (kit_nm a c hc)) (fun h1 => ?_) (fun h1 => by rw [h1]; rfl)
  refine kitAny_cons (kit_ty (kit_nm a d hd)) (fun h2 => ?_) (fun h2 => by rw [h2, Bool.or_true])
  rw [h1, h2]
  exact kitAny_nil
theorem p_isLT {t : Addr} (ht : H t = some (.tup [.ty "list", .ty "tuple"])) (h : Kd H x a) (q : Q (.bl (a.is .lst || a.is .tup)) H) : rIsiT K [x, .ref t] H Q := p_isi2 .lst .tup (by decide) (by decide) ht h q
/-! ### all, chains, truth -/
theorem p_all {p : Addr} {bs : List Bool} (h : SqL K H p (bs.map V.bl)) (q : Q (.bl (bs.all id)) H) : rAll K [.ref p] H Q := ⟨p, bs, rfl, h, q⟩
theorem i_chain {r r' : R2} {ta tb tc : TE} (h : ta σ H fun x H1 => tb σ H1 fun y H2 => r x y H2 fun z H3 => ∃ k, z = .bl k ∧ (if k = true then tc σ H3 fun w' H4 => r' y w' H4 Q else Q (.bl false) H3)) : tChain r r' ta tb tc σ H Q := h
theorem sign_lt (c d : Nat) : decide ((#[c] : Array Nat).toList < (#[d] : Array Nat).toList) = decide (c < d) := by
  apply decide_eq_decide.mpr
  constructor
  · intro h
    rcases h with h | h | ⟨h, h2⟩
    · exact h
  · intro h
    exact .rel h
/-! ### == [] over texts -/
theorem dp_strs {ys : List Str} : DpAll K H (ys.map V.str) (ys.map PyData.str) := by
  induction ys with
  | nil => exact .nil
  | cons y r ih => exact .cons (.str y) ih
theorem lay_strs : ∀ ys : List Str, (∀ y ∈ ys, PyData.strOk y = true) → PyData.canLayAll0 (ys.map PyData.str) = true
  | [], _ => by simp [PyData.canLayAll0]
  | y :: r, h => by
    have ih := lay_strs r fun z hz => h z (List.mem_cons_of_mem _ hz)
    simp [PyData.canLayAll0, PyData.canLay0, ih, h y List.mem_cons_self]
theorem dep_strs : ∀ ys : List Str, PyData.depthAll (ys.map PyData.str) = 0
  | [] => by simp [PyData.depthAll]
  | y :: r => by
    have ih := dep_strs r
    simp [PyData.depthAll, PyData.depth, ih]
theorem sh_strs {ys : List Str} (h : ∀ y ∈ ys, PyData.strOk y = true) : SeqAt.shaped (.list (ys.map PyData.str)) = true := by
  unfold SeqAt.shaped
  simp [PyData.canLay0, lay_strs ys h, PyData.depth, dep_strs]
theorem eqv_nil (ys : List Str) : PyData.eqv (.list (ys.map PyData.str)) (.list []) = ys.isEmpty := by
  cases ys <;> simp [PyData.eqv, PyData.eqvAll]
theorem p_eqNil {p r : Addr} {xs : List V} (h1 : H p = some (.lst xs)) (h2 : H r = some (.lst [])) (q : Q (.bl xs.isEmpty) H) : rEqX K (.ref p) (.ref r) H Q := by
  cases xs with
  | nil => exact .inr (.inl ⟨.list [], .list [], .lst (SqL.of h1) .nil, .lst (SqL.of h2) .nil, by decide +kernel, by decide +kernel, by
      have e : PyData.eqv (.list []) (.list []) = true := by decide +kernel
      rw [e]
      exact q⟩)
  | cons x r' => exact .inr (.inr ⟨p, r, _, _, rfl, rfl, h1, h2, by simp, q⟩)
theorem p_neNil {p r : Addr} {xs : List V} (h1 : H p = some (.lst xs)) (h2 : H r = some (.lst [])) (q : Q (.bl (!xs.isEmpty)) H) : rNeX K (.ref p) (.ref r) H Q := by
  cases xs with
  | nil => exact .inr (.inl ⟨.list [], .list [], .lst (SqL.of h1) .nil, .lst (SqL.of h2) .nil, by decide +kernel, by decide +kernel, by
      have e : PyData.eqv (.list []) (.list []) = true := by decide +kernel
      rw [e]
      exact q⟩)
  | cons x r' => exact .inr (.inr ⟨p, r, _, _, rfl, rfl, h1, h2, by simp, q⟩)
/-! ### texts -/
theorem foldl_app (cs : List Nat) : ∀ acc : Array Nat, (cs.map fun c => (⟨#[c]⟩ : Str)).foldl (fun acc p => acc ++ (⟨#[]⟩ : Str).cps ++ p.cps) acc = acc ++ cs.toArray := by
  induction cs with
  | nil => intro acc; simp
  | cons c r ih =>
    intro acc
    rw [List.map_cons, List.foldl_cons, ih]
    simp
theorem join_chars (cs : List Nat) : Txt.join Str.empty (cs.map fun c => (⟨#[c]⟩ : Str)) = ⟨cs.toArray⟩ := by
  cases cs with
  | nil => rfl
  | cons c r =>
    show Builtin.Str.glued _ _ = _
    unfold Builtin.Str.glued
    have e := foldl_app r #[c]
    refine congrArg Str.mk ?_
    rw [List.map_cons, List.drop_one, List.tail_cons]
    refine Eq.trans e ?_
    simp
theorem ifT' {c : Bool} {A B : Prop} (h : c = true) (a : A) : if c = true then A else B := by rw [if_pos h]; exact a
theorem ifF' {c : Bool} {A B : Prop} (h : c = false) (b : B) : if c = true then A else B := by rw [h]; exact iteF b
def plainB (z : Str) : Bool := z.cps.toList.all fun c => decide (32 ≤ c) && decide (c ≤ 126)
def lineB : V → Bool
  | .str z => decide (z.length ≤ 40) && plainB z
  | _ => false
theorem cut_to (z : Str) (k : Nat) : cutS z none (some (k : Int)) = ⟨(z.cps.toList.take k).toArray⟩ := by
  unfold cutS
  rw [show HT.sIx z.length 0 none = 0 from HT.sIx_none _ _, HT.sIx_nat, List.drop_zero, Nat.sub_zero]
  have e : z.length = z.cps.toList.length := by simp [Str.length]
  by_cases h : k ≤ z.length
  · rw [Nat.min_eq_left h]
  · rw [Nat.min_eq_right (by omega), List.take_of_length_le (by omega), List.take_of_length_le (by omega)]
theorem cut_from (z : Str) (k : Nat) : cutS z (some (k : Int)) none = ⟨(z.cps.toList.drop k).toArray⟩ := by
  unfold cutS
  have e : z.length = z.cps.toList.length := by simp [Str.length]
  rw [HT.sIx_nat, HT.sIx_none]
  by_cases h : k ≤ z.length
  · rw [Nat.min_eq_left h, List.take_of_length_le (by rw [List.length_drop]; omega)]
  · rw [Nat.min_eq_right (by omega), List.drop_of_length_le (by omega), List.drop_of_length_le (by omega), List.take_nil]
theorem app_cps (a b : Str) : (a ++ b).cps.toList = a.cps.toList ++ b.cps.toList := by
  show (a.cps ++ b.cps).toList = _
  simp
theorem app_len (a b : Str) : (a ++ b).length = a.length + b.length := by
  show (a.cps ++ b.cps).size = _
  simp [Str.length]
theorem sum_ones (cs : List Nat) : ((cs.map fun c => (⟨#[c]⟩ : Str)).map (·.length)).sum = cs.length := by
  induction cs with
  | nil => rfl
  | cons c r ih =>
    rw [List.map_cons, List.map_cons, List.sum_cons, ih, List.length_cons]
    show 1 + r.length = r.length + 1
    omega
/-! ### kinds beside the pool -/
def KdP (p n : Addr) (H : Hp) (x : V) (k : Kn) : Prop := Kd H x k ∧ ∀ b, x = .ref b → b ≠ p ∧ b ≠ n
theorem KdP.keep {p n : Addr} {H H' : Hp} {x : V} {k : Kn} (e : Keep p n H H') (h : KdP p n H x k) : KdP p n H' x k := by
  obtain ⟨h, hb⟩ := h
  refine ⟨?_, hb⟩
  cases h with
  | non => exact .non
  | bl b => exact .bl b
  | int i => exact .int i
  | str z h => exact .str z h
  | lst q => exact .lst (e _ _ q (hb _ rfl).1 (hb _ rfl).2)
  | tup q => exact .tup (e _ _ q (hb _ rfl).1 (hb _ rfl).2)
  | dct q => exact .dct (e _ _ q (hb _ rfl).1 (hb _ rfl).2)
theorem KdP.same {p n : Addr} {H H' : Hp} {x : V} {k : Kn} (e : Same H H') (h : KdP p n H x k) : KdP p n H' x k := ⟨h.1.same e, h.2⟩
theorem KdP.flat {p n : Addr} {H : Hp} {x : V} {k : Kn} (h : Kd H x k) (hx : ∀ b, x ≠ .ref b) : KdP p n H x k := ⟨h, fun b e => absurd e (hx b)⟩
theorem two_at {x y : V} {r : Int} (h0 : 0 ≤ r) (h1 : r < 2) : ∃ v, (v = x ∨ v = y) ∧ atI [x, y] r = some v := by
  have h : r = 0 ∨ r = 1 := by omega
  rcases h with rfl | rfl
  · exact ⟨x, .inl rfl, rfl⟩
  · exact ⟨y, .inr rfl, rfl⟩
theorem at_lt {xs : List V} {r : Int} (h0 : 0 ≤ r) (h1 : r < xs.length) : ∃ v, v ∈ xs ∧ atI xs r = some v := by
  have h : r.toNat < xs.length := by omega
  exact ⟨xs[r.toNat], List.getElem_mem h, at_of (j := r.toNat) (by omega) (List.getElem?_eq_getElem h)⟩
theorem intsV_at {n i : Nat} {x : V} (h : (intsV n)[i]? = some x) : i < n ∧ x = .int i := by
  have hi : i < n := by
    have := (List.getElem?_eq_some_iff.mp h).1
    rwa [intsV_len] at this
  rw [intsV, List.getElem?_map, List.getElem?_range hi] at h
  exact ⟨hi, (Option.some.inj h).symm⟩
theorem cutS_len (z : Str) (lo hi : Option Int) : (cutS z lo hi).length ≤ z.length := cutS_length z lo hi
/-- the empty dict -/
theorem p_dnew {R : VK} (q : ∀ d H', H d = none → Same H H' → H' d = some (.dK []) → R (.ref d) H') : ∀ d, H d = none → R (.ref d) (upd H d (.dK [])) := fun d hd => q d _ hd (same_upd hd) upd_same
theorem p_tupL {p : Addr} {xs : List V} (h : SqL K H p xs) (q : ∀ d H', H d = none → Same H H' → H' d = some (.tup xs) → Q (.ref d) H') : rTupX K [.ref p] H Q := ⟨p, xs, rfl, .inl ⟨h, al q⟩⟩
theorem i_dnew (q : ∀ d H', H d = none → Same H H' → H' d = some (.dK []) → Q (.ref d) H') : tDNewK σ H Q := p_dnew q
theorem mem_cutV {xs : List V} {lo hi : Option Int} {x : V} (h : x ∈ cutV xs lo hi) : x ∈ xs := List.mem_of_mem_drop (List.mem_of_mem_take h)
theorem all_filter {α : Type} (p : α → Bool) (xs : List α) : xs.all p = (xs.filter fun x => !p x).isEmpty := by
  induction xs with
  | nil => rfl
  | cons x r ih =>
    rw [List.all_cons, List.filter_cons, ih]
    cases p x <;> simp
theorem p_notB {a b : Bool} (q : Q (.bl (!decide (a = b))) H) : rNotB (.bl a) (.bl b) H Q := ⟨a, b, rfl, rfl, q⟩
theorem p_isB {a b : Bool} (q : Q (.bl (decide (a = b))) H) : rIsB (.bl a) (.bl b) H Q := ⟨a, b, rfl, rfl, q⟩
end
end Pk

/-! own operators -/
namespace Pk
open PySem PySem.Spec PyProof.Rows L2
/-! ### an int asked first declines -/
theorem int_lt_ref (a : Int) (t : Tok) (x C dx : Addr) : Meets (Builtin.«int.__lt__» ⟨[.int a t, .ref x], []⟩) (fun _ R s => s.heap.get? x = some (PySem.W.instObj C dx) ∧ R (.ok (.ret .notImplemented)) s) :=
  .of_wp fun prog w A R s h => by
    obtain ⟨hp, g, d, tk, os⟩ := s
    obtain ⟨hl, h⟩ := h
    unfold PySem.W.instObj at hl
    wp_walk using PySem.AutoSeq1.wpAny_loadPart' hl
    exact ⟨_, rfl, h⟩
theorem int_le_ref (a : Int) (t : Tok) (x C dx : Addr) : Meets (Builtin.«int.__le__» ⟨[.int a t, .ref x], []⟩) (fun _ R s => s.heap.get? x = some (PySem.W.instObj C dx) ∧ R (.ok (.ret .notImplemented)) s) :=
  .of_wp fun prog w A R s h => by
    obtain ⟨hp, g, d, tk, os⟩ := s
    obtain ⟨hl, h⟩ := h
    unfold PySem.W.instObj at hl
    wp_walk using PySem.AutoSeq1.wpAny_loadPart' hl
    exact ⟨_, rfl, h⟩
theorem int_gt_ref (a : Int) (t : Tok) (x C dx : Addr) : Meets (Builtin.«int.__gt__» ⟨[.int a t, .ref x], []⟩) (fun _ R s => s.heap.get? x = some (PySem.W.instObj C dx) ∧ R (.ok (.ret .notImplemented)) s) :=
  .of_wp fun prog w A R s h => by
    obtain ⟨hp, g, d, tk, os⟩ := s
    obtain ⟨hl, h⟩ := h
    unfold PySem.W.instObj at hl
    wp_walk using PySem.AutoSeq1.wpAny_loadPart' hl
    exact ⟨_, rfl, h⟩
theorem int_ge_ref (a : Int) (t : Tok) (x C dx : Addr) : Meets (Builtin.«int.__ge__» ⟨[.int a t, .ref x], []⟩) (fun _ R s => s.heap.get? x = some (PySem.W.instObj C dx) ∧ R (.ok (.ret .notImplemented)) s) :=
  .of_wp fun prog w A R s h => by
    obtain ⟨hp, g, d, tk, os⟩ := s
    obtain ⟨hl, h⟩ := h
    unfold PySem.W.instObj at hl
    wp_walk using PySem.AutoSeq1.wpAny_loadPart' hl
    exact ⟨_, rfl, h⟩
theorem int_eq_ref (a : Int) (t : Tok) (x C dx : Addr) : Meets (Builtin.«int.__eq__» ⟨[.int a t, .ref x], []⟩) (fun _ R s => s.heap.get? x = some (PySem.W.instObj C dx) ∧ R (.ok (.ret .notImplemented)) s) :=
  .of_wp fun prog w A R s h => by
    obtain ⟨hp, g, d, tk, os⟩ := s
    obtain ⟨hl, h⟩ := h
    unfold PySem.W.instObj at hl
    wp_walk using PySem.AutoSeq1.wpAny_loadPart' hl
    exact ⟨_, rfl, h⟩
theorem int_ne_ref (a : Int) (t : Tok) (x C dx : Addr) : Meets (Builtin.«int.__ne__» ⟨[.int a t, .ref x], []⟩) (fun _ R s => s.heap.get? x = some (PySem.W.instObj C dx) ∧ R (.ok (.ret .notImplemented)) s) :=
  .of_wp fun prog w A R s h => by
    obtain ⟨hp, g, d, tk, os⟩ := s
    obtain ⟨hl, h⟩ := h
    unfold PySem.W.instObj at hl
    wp_walk using PySem.AutoSeq1.wpAny_loadPart' hl
    exact ⟨_, rfl, h⟩
section
variable {prog : Program} {w : World} {A : Around} {E : Value → Shared → Prop} {s : Shared} {K : PySem.W.Frag} {x C dx f : Addr} {od : Option Obj} {i : Int} {t : Tok}
/-- int op instance: the int declines, the class's own reflected method answers -/
theorem cmp_refl {op : CmpOp} {ida : String} {B : Builtin} {Q : Value → Shared → Prop} (hu : A.units < cLine) (X : K.In s.heap) (I : PySem.W.InstAt s.heap x (PySem.W.instObj C dx) C od) (hsub : PySem.W.subIn K (.ref C) (.type "int") = some false)
    (h1 : Slot "int" (cmpInfo op).2.1 ida) (he : entryFor table ida = some B) (ha : argsOk ida ⟨[.int i t, .ref x], []⟩)
    (hm : Meets (B ⟨[.int i t, .ref x], []⟩) (fun _ R s => s.heap.get? x = some (PySem.W.instObj C dx) ∧ R (.ok (.ret .notImplemented)) s))
    (hs : PySem.W.findIn K (.ref C) (cmpInfo op).2.2 = some (some (.ref f))) (hf : PySem.W.isFn K (.ref f) = true)
    (h : wpAny (model prog w) A (call (.ref f) [.ref x, .int i t]) (PySem.W.CmpBack Q) E s) : wpAny (model prog w) A (richCompare op (.int i t) (.ref x)) Q E s := by
  have two : wpAny (model prog w) A (tryCompare (.ref x) (cmpInfo op).2.2 (.int i t)) (fun r s' => ∃ v, r = some v ∧ Q v s') E s := by
    unfold tryCompare
    refine wpAny_bind (PySem.W.ifBound_K X I hs hf (wpAny_mono h (fun v s' hv => ?_) fun _ _ e => e))
    cases v <;> first | exact hv.elim | exact wpAny_pure ⟨_, rfl, hv⟩
  have ti : s.TypeIs (.int i t) "int" := typeIs_int s i t
  rcases hi : cmpInfo op with ⟨sym, g, r⟩
  rw [hi] at h1 two
  simp only [richCompare, hi, ti.oneThing_none]
  refine wpAny_holding ?_
  refine wpAny_bind (wpAny_cRoomFor hu ?_)
  refine wpAny_bind (wpAny_typeOf ti (wpAny_bind (I.type.here ?_)))
  have hne : (Value.type "int" != Value.ref C) = true := by simp
  simp only [hne, if_true]
  refine wpAny_bind ((PySem.W.looks_subIn X hsub).here ?_)
  simp only [Bool.false_eq_true, if_false, Bool.not_false, if_true]
  refine wpAny_bind (m := tryCompare (.int i t) _ (.ref x)) (wpAny_tryCompare_declines ti h1 (call_meets h1 ti he ha hm ⟨I.at_, rfl, ?_⟩))
  refine wpAny_bind (m := tryCompare (.ref x) _ (.int i t)) (wpAny_mono two (fun r s' z => ?_) fun _ _ e => e)
  obtain ⟨v, rfl, hq⟩ := z
  exact wpAny_pure hq
end

/-! ### the same as rules -/
section
variable {X : Cx} {k : Nat} {C f : Addr} {fd : FuncData} {ps : List Str} {sp : Sp}
theorem run_own {pins : List (Addr × Obj)} {σ : L2.St} {H : Hp} {s : Shared} {Q : VK} {us : List Value} {vs : List V} (F : FnOk X.prog X.w X.K X.mg X.base CX0 k f fd ps sp) (hb : Binds X.K fd ps []) (hr : Room k X.A) (I : Inv X pins σ H s) (r : Vals vs us) (h : sp vs H Q E0) :
    wpAny (model X.prog X.w) X.A (call (.ref f) us) (EP X pins σ Q) X.xe s := by
  have hl : us.length = ps.length := by rw [← F.len _ _ _ _ h, r.length]
  have hb' := hb s us I.kIn (by simpa using hl)
  rw [List.append_nil] at hb'
  refine wpAny_call (codeAny_mono (F.run X.A X.stack s H ⟨us, []⟩ us vs Q E0 hr I.env0 hb' r h) fun r s' hq => ?_)
  cases r with
  | error e => exact False.elim hq
  | ok fl =>
    cases fl with
    | ret u => exact I.after hq
    | next => exact False.elim hq
    | brk => exact False.elim hq
    | cont => exact False.elim hq
theorem ep_back {pins : List (Addr × Obj)} {σ : L2.St} {Q : VK} {u : Value} {s' : Shared} (h : EP X pins σ Q u s') : PySem.W.CmpBack (EP X pins σ Q) u s' := by
  obtain ⟨v, H', I, r, q⟩ := id h
  cases v with
  | non => cases (show u = Value.none from r); exact h
  | bl b => cases (show u = Value.bool b from r); exact h
  | int i => obtain ⟨t, e⟩ := (show ∃ t, u = Value.int i t from r); cases e; exact h
  | str z => obtain ⟨t, e⟩ := (show ∃ t, u = Value.str z t from r); cases e; exact h
  | byt z => obtain ⟨t, e⟩ := (show ∃ t, u = Value.bytes z t from r); cases e; exact h
  | flt z => obtain ⟨t, e⟩ := (show ∃ t, u = Value.float z t from r); cases e; exact h
  | ref a => cases (show u = Value.ref a from r); exact h
  | ty n => cases (show u = Value.type n from r); exact h
theorem looks_kd {M : Model} {pins : List (Addr × Obj)} {σ : L2.St} {H : Hp} {s : Shared} {y : V} {u : Value} {kn : Kn} (I : Inv X pins σ H s) (h : Kd H y kn) (r : RelV y u) : PySem.W.Looks M s.heap (typeOf u) (.type kn.nm) := by
  cases h with
  | non => cases (show u = Value.none from r); exact PySem.W.Looks.of_pure rfl
  | bl b => cases (show u = Value.bool b from r); exact PySem.W.Looks.of_pure rfl
  | int i => obtain ⟨t, e⟩ := (show ∃ t, u = Value.int i t from r); cases e; exact PySem.W.Looks.of_pure rfl
  | str z _ => obtain ⟨t, e⟩ := (show ∃ t, u = Value.str z t from r); cases e; exact PySem.W.Looks.of_pure rfl
  | @lst a xs e =>
    cases (show u = Value.ref a from r)
    obtain ⟨_, _, n, _, h1⟩ := (show ObjOk X.prog X.w H s.heap a (.lst xs) from I.hok a _ e)
    exact (PySem.W.Looks.ld (part := Option.none) h1).andThen .now
  | @tup a xs e =>
    cases (show u = Value.ref a from r)
    obtain ⟨_, _, _, o, h1, h2, _⟩ := (show ObjOk X.prog X.w H s.heap a (.tup xs) from I.hok a _ e)
    have L := (PySem.W.Looks.ld (M := M) (part := Option.none) h1).andThen (f := fun o => pure o.cls) .now
    rw [h2] at L
    exact L
  | @dct a kvs e =>
    cases (show u = Value.ref a from r)
    obtain ⟨_, _, vs, _, o, es, ep, h1, h2, _⟩ := (show ObjOk X.prog X.w H s.heap a (.dK kvs) from I.hok a _ e)
    have L := (PySem.W.Looks.ld (M := M) (part := Option.none) h1).andThen (f := fun o => pure o.cls) .now
    rw [h2.1] at L
    exact L
end
/-- an own method (an operator's), its promise -/
structure OwnM (P : Program) (w : World) (K : PySem.W.Frag) (mg : Str → Option Value) (base : Heap) (k : Nat) (C : Addr) (m : Str) (sp : Sp) : Prop where
  ex : ∃ (f : Addr) (fd : FuncData) (ps : List Str), FnOk P w K mg base CX0 k f fd ps sp ∧ PySem.W.findIn K (.ref C) m = some (some (.ref f)) ∧ PySem.W.isFn K (.ref f) = true ∧ PySem.W.keepIn K (.ref f) = true ∧ Binds K fd ps []
/-- a property, its getter's promise -/
structure PropM (P : Program) (w : World) (K : PySem.W.Frag) (mg : Str → Option Value) (base : Heap) (k : Nat) (C : Addr) (m : Str) (sp : Sp) : Prop where
  ex : ∃ (p g : Addr) (fd : FuncData) (ps : List Str), PropOf K C m p g ∧ FnOk P w K mg base CX0 k g fd ps sp ∧ Binds K fd ps []
/-- no built-in kind is a kind of C -/
def Apart (K : PySem.W.Frag) (C : Addr) : Prop := ∀ kn : Kn, PySem.W.subIn K (.type kn.nm) (.ref C) = some false
def rOwn (C : Addr) (sp : Sp) : R2 := fun x y H Q => ∃ a dx fs, x = .ref a ∧ H a = some (.ins C dx fs) ∧ ((∃ kn, Kd H y kn) ∨ (∃ b dy gs, y = .ref b ∧ H b = some (.ins C dy gs))) ∧ sp [x, y] H Q E0
def rRef (C : Addr) (sp : Sp) : R2 := fun x y H Q => ∃ i b dy gs, x = .int i ∧ y = .ref b ∧ H b = some (.ins C dy gs) ∧ sp [y, x] H Q E0
section
variable {X : Cx} {k j : Nat} {C : Addr} {sp : Sp}
theorem op_own {op : CmpOp} {m : Str} (hop : ∀ v u, compareOp op v u = richCompare op v u) (c : OwnM X.prog X.w X.K X.mg X.base k C m sp) (hm : (cmpInfo op).2.1 = m) (hk : k ≤ j) (hr : Room j X.A) (hn : Apart X.K C) : OpR X (compareOp op) (rOwn C sp) := by
  intro pins s σ H x y v u Q I rx ry h
  obtain ⟨a, dx, fs, rfl, ha, hy, h⟩ := h
  obtain ⟨f, fd, ps, F, hs, hf, _, hb⟩ := c.ex
  subst hm
  cases (show v = Value.ref a from rx)
  obtain ⟨mA, J, _⟩ := ins_get I.hok ha
  obtain ⟨od, J, _⟩ := J.look
  obtain ⟨m, hF⟩ := I.fr
  rw [hop]
  have go : wpAny (model X.prog X.w) X.A (call (.ref f) [.ref a, u]) (PySem.W.CmpBack (EP X pins σ Q)) X.xe s :=
    wpAny_mono (run_own (vs := [.ref a, y]) F hb (hr.mono hk) I (.cons rfl (.cons ry .nil)) h) (fun _ _ q => ep_back q) fun _ _ q => q
  rcases hy with ⟨kn, hy⟩ | ⟨b, dy, gs, rfl, hb'⟩
  · exact PySem.W.cmp_K (op := op) (tb := .type kn.nm) hr.units0 hF I.ok.mod.kin J (looks_kd I hy ry) (by simp [PySem.W.notFirst, hn kn]) hs hf go
  · cases (show u = Value.ref b from ry)
    obtain ⟨mB, J', _⟩ := ins_get I.hok hb'
    obtain ⟨od', J', _⟩ := J'.look
    exact PySem.W.cmp_K (op := op) (tb := .ref C) hr.units0 hF I.ok.mod.kin J J'.type (by simp [PySem.W.notFirst]) hs hf go
theorem op_ownR {op : CmpOp} {m : Str} {ida : String} {B : Builtin} (hop : ∀ v u, compareOp op v u = richCompare op v u) (c : OwnM X.prog X.w X.K X.mg X.base k C m sp) (hm : (cmpInfo op).2.2 = m) (hk : k ≤ j) (hr : Room j X.A) (hsub : PySem.W.subIn X.K (.ref C) (.type "int") = some false)
    (h1 : Slot "int" (cmpInfo op).2.1 ida) (he : entryFor table ida = some B) (ha : ∀ a b, argsOk ida ⟨[a, b], []⟩)
    (hi : ∀ (a : Int) (t : Tok) (x C dx : Addr), Meets (B ⟨[.int a t, .ref x], []⟩) (fun _ R s => s.heap.get? x = some (PySem.W.instObj C dx) ∧ R (.ok (.ret .notImplemented)) s)) : OpR X (compareOp op) (rRef C sp) := by
  intro pins s σ H x y v u Q I rx ry h
  obtain ⟨i, b, dy, gs, rfl, rfl, hb', h⟩ := h
  obtain ⟨f, fd, ps, F, hs, hf, _, hb⟩ := c.ex
  subst hm
  obtain ⟨t, rfl⟩ := rx
  cases (show u = Value.ref b from ry)
  obtain ⟨mB, J, _⟩ := ins_get I.hok hb'
  obtain ⟨od, J, _⟩ := J.look
  rw [hop]
  have go : wpAny (model X.prog X.w) X.A (call (.ref f) [.ref b, .int i t]) (PySem.W.CmpBack (EP X pins σ Q)) X.xe s :=
    wpAny_mono (run_own (vs := [.ref b, .int i]) F hb (hr.mono hk) I (.cons rfl (.cons ⟨t, rfl⟩ .nil)) h) (fun _ _ q => ep_back q) fun _ _ q => q
  exact cmp_refl hr.units0 I.kIn J hsub h1 he (ha _ _) (hi i t b C dy) hs hf go
theorem pe_pr {e : Expr} {f : Str} {pos : Pos} {ta : TE} (he : PE X e ta) (c : Cls X.K C) (m : PropM X.prog X.w X.K X.mg X.base k C f sp) (hk : k + 1 ≤ j) (hr : Room j X.A) (hab : attributeBase e f X.env (eval e X.env) = eval e X.env := by rfl) : PE X (.Attribute e f pos) (tProp C sp [] E0 ta) := by
  obtain ⟨p, g, fd, ps, hp, F, hb⟩ := m.ex
  exact pe_prop he c hp F (hr.mono hk) hb .nil (fun _ _ _ _ _ _ _ h => h.elim) hab
end
/-! ### bool(x) by an own __bool__ -/
section
variable {prog : Program} {w : World}
theorem meets_bool_ref (x : Addr) : MeetsIn prog w (Builtin.«bool.__new__» ⟨[.type "bool", .ref x], []⟩) (fun A R s => wpAny (model prog w) A.in1 (truthy (.ref x)) (fun b s' => R (.ok (.ret (.bool b))) s') (fun e s' => R (.error e) s') s) :=
  MeetsIn.of_wp fun A R s hs => by
    obtain ⟨hp, g, d, tk, os⟩ := s
    have f1 := F.conv_sub_bool
    repeat (any_goals (first | assumption | (refine wpAny_mono hs (fun b s' hb => ?_) fun _ _ e => e) | wp_step))
    all_goals first | exact ⟨_, rfl, hb⟩ | skip
end
section
variable {X : Cx} {k j : Nat} {C : Addr} {sp : Sp}
def rBoolO (C : Addr) (sp : Sp) : List V → Hp → VK → Prop := fun xs H Q => ∃ a dx fs, xs = [.ref a] ∧ H a = some (.ins C dx fs) ∧ sp [.ref a] H (fun v H' => ∃ b, v = .bl b ∧ Q (.bl b) H') E0
theorem call_boolO (c : OwnM X.prog X.w X.K X.mg X.base k C "__bool__" sp) (hk : k + 2 ≤ j) (hr : Room j X.A) : CallR X (.type "bool") (rBoolO C sp) := by
  intro pins s σ H xs us Q I r h
  obtain ⟨a, dx, fs, rfl, ha, h⟩ := h
  obtain ⟨f, fd, ps, Fn, hs, hf, _, hb⟩ := c.ex
  cases r with
  | cons rx rn =>
    cases rn
    rename_i u
    cases (show u = Value.ref a from rx)
    obtain ⟨mA, J, _⟩ := ins_get I.hok ha
    obtain ⟨od, J, _⟩ := J.look
    obtain ⟨m, hF⟩ := I.fr
    refine callType_newIn F.called_bool F.newNe_bool (F.typeCall_bool_1 _) (F.newCall_bool_1 _) (fun obj => F.args_object_init_2 obj _) F.entry_bool_new (meets_bool_ref a) ?_
    show wpAny (model X.prog X.w) X.A.in1.in1 (truthy (.ref a)) _ _ s
    have hr2 : Room k X.A.in1.in1 := (Room.in1 (Room.in1 (hr.mono hk)))
    have hl : ([Value.ref a] : List Value).length = ps.length := by rw [← Fn.len _ _ _ _ h]; rfl
    have hb' := hb s [.ref a] I.kIn (by simpa using hl)
    rw [List.append_nil] at hb'
    refine PySem.W.truthy_K hF I.ok.mod.kin J hs hf (wpAny_call (codeAny_mono (Fn.run X.A.in1.in1 X.stack s H ⟨[.ref a], []⟩ [.ref a] [.ref a] _ E0 hr2 I.env0.in1.in1 hb' (.cons rfl .nil) h) fun r s' hq => ?_))
    cases r with
    | error e => exact False.elim hq
    | ok fl =>
      cases fl with
      | ret u =>
        obtain ⟨v, H', I', rv, b, rfl, q⟩ := I.after hq
        cases (show u = Value.bool b from rv)
        exact ⟨rfl, .bl b, H', I', rfl, q⟩
      | next => exact False.elim hq
      | brk => exact False.elim hq
      | cont => exact False.elim hq
end
end Pk

/-! own classes: packages by name -/
namespace Pk
open PySem PySem.Spec PyProof.Rows L2
def BndM (m q : Str) (st : Stmt) (ps : List Str) : Prop := ∀ (kV doc pm : Value) (an : Option Addr) (cdv ct : Value) (us : List Value), us.length = ps.length → bindArgs (PySem.W.fnOf m q (defArgs st) (defBody st) (defScope st) .none kV doc pm an cdv ct) ⟨us, []⟩ = pure (ps.zip us)
structure MethAt (K : PySem.W.Frag) (C : Addr) (m q : Str) (st : Stmt) : Prop where
  ex : ∃ f fd, Fun K m q st f fd ∧ Meth K C m f
structure PropAt (K : PySem.W.Frag) (C : Addr) (m q : Str) (st : Stmt) : Prop where
  ex : ∃ p g fd, Fun K m q st g fd ∧ PropOf K C m p g
structure InitAt (K : PySem.W.Frag) (C : Addr) (q : Str) (st : Stmt) (dvs : List V) : Prop where
  ex : ∃ f fd, Mk K C f ∧ FunD K "__init__" q (defArgs st) (defBody st) (defScope st) dvs [] f fd
structure IniOk (P : Program) (w : World) (K : PySem.W.Frag) (mg : Str → Option Value) (base : Heap) (k : Nat) (C : Addr) (q : Str) (st : Stmt) (ps : List Str) (dvs : List V) (sp : Sp) : Prop where
  ex : ∃ f fd, Mk K C f ∧ FunD K "__init__" q (defArgs st) (defBody st) (defScope st) dvs [] f fd ∧ FnOk P w K mg base CX0 k f fd ps sp
section
variable {P : Program} {w : World} {K : PySem.W.Frag} {mg : Str → Option Value} {base : Heap} {C : Addr} {m q x : Str} {st : Stmt} {N ps : List Str} {k : Nat} {sp : Sp} {dvs : List V}
theorem own0 (D : MethAt K C m q st) (S : FnScope N ps (defScope st)) (hb : BndM m q st ps) (len : ∀ vs H Q E, sp vs H Q E → vs.length = ps.length)
    (hbody : ∀ (f : Addr) (cdv : Value) (A : Around) (outer : List Env) (s : Shared) (H : Hp) (vs : List V) (Q : VK) (E : XK), Room k (A.deeper (envOfC q (defScope st) s.heap.objs.size f cdv)) → sp vs H Q E →
      ∃ t, PSs (cxOf CX0 P w K mg base N q (defScope st) f cdv A outer s H E).nox (defBody st) t ∧ t { nx := fun _ H' => Q .non H', rt := Q } (start N vs) H) : OwnM P w K mg base (k + 1) C m sp := by
  obtain ⟨f, fd, F, e⟩ := D.ex
  exact ⟨f, fd, ps, F.ok S len (hbody f), e.at_, e.fn, e.kp, F.binds hb⟩
theorem prop0 (D : PropAt K C m q st) (S : FnScope N ps (defScope st)) (hb : BndM m q st ps) (len : ∀ vs H Q E, sp vs H Q E → vs.length = ps.length)
    (hbody : ∀ (f : Addr) (cdv : Value) (A : Around) (outer : List Env) (s : Shared) (H : Hp) (vs : List V) (Q : VK) (E : XK), Room k (A.deeper (envOfC q (defScope st) s.heap.objs.size f cdv)) → sp vs H Q E →
      ∃ t, PSs (cxOf CX0 P w K mg base N q (defScope st) f cdv A outer s H E).nox (defBody st) t ∧ t { nx := fun _ H' => Q .non H', rt := Q } (start N vs) H) : PropM P w K mg base (k + 1) C m sp := by
  obtain ⟨p, g, fd, F, e⟩ := D.ex
  exact ⟨p, g, fd, ps, e, F.ok S len (hbody g), F.binds hb⟩
theorem ini0 (D : InitAt K C q st dvs) (S : FnScope N ps (defScope st)) (len : ∀ vs H Q E, sp vs H Q E → vs.length = ps.length)
    (hbody : ∀ (f : Addr) (cdv : Value) (A : Around) (outer : List Env) (s : Shared) (H : Hp) (vs : List V) (Q : VK) (E : XK), Room k (A.deeper (envOfC q (defScope st) s.heap.objs.size f cdv)) → sp vs H Q E →
      ∃ t, PSs (cxOf CX0 P w K mg base N q (defScope st) f cdv A outer s H E).nox (defBody st) t ∧ t { nx := fun _ H' => Q .non H', rt := Q } (start N vs) H) : IniOk P w K mg base (k + 1) C q st ps dvs sp := by
  obtain ⟨f, fd, M, F⟩ := D.ex
  exact ⟨f, fd, M, F, F.ok S len fun cdv A outer s H vs Q E hr h => by
    obtain ⟨t, h1, h2⟩ := hbody f cdv A outer s H vs Q E hr h
    exact ⟨t, h1.nox, h2⟩⟩
theorem mkr_d (I : IniOk P w K mg base k C q st ps dvs sp) (hm : mg x = some (.ref C)) (n j : Nat) (hd : dvs ≠ []) (hn : n + (dvs.length - j) = ps.length)
    (h : ∀ (T : Addr) (kV doc pm : Value) (an : Option Addr) (cdv ct : Value) (us its : List Value), us.length = n → its.length = dvs.length →
      ∃ k, bindArgs (PySem.W.fnOf "__init__" q (defArgs st) (defBody st) (defScope st) (.ref T) kV doc pm an cdv ct) ⟨us, []⟩ = seqItems? (.ref T) >>= k ∧ k (some its.toArray) = pure (ps.zip (us ++ its.drop j))) : C8.Mak P w K mg base k x C sp (dvs.drop j) := by
  obtain ⟨f, fd, M, F, G⟩ := I.ex
  obtain ⟨ds, r, b⟩ := F.binds1 n j hd hn h
  exact ⟨f, fd, ps, ds, M, G, hm, b, r⟩
end
section
variable {X : Cx}
def CDivZ (_ j : Int) : Prop := j ≠ 0 ∧ j.natAbs.log2 < 9000
theorem op_fdZ : OpR X (binaryOp .FloorDiv) (rI CDivZ fun i j => .int (i.fdiv j)) := opI fun _ _ _ _ _ _ _ hc q => floordiv_int hc.1 q (.inl (PyProof.noPylong_of_log2 hc.2))
end
/-- what isinstance asks of an own class -/
structure InsF (K : PySem.W.Frag) (C : Addr) : Prop where
  cl : Cls K C
  ha : PySem.W.findIn K (.ref C) "__class__" = some (some (.builtin "object.__class__"))
  hn : PySem.W.specialIn K (.builtin "object.__class__") "__get__" = some (some (.builtin "getset_descriptor.__get__"))
  ht : PySem.W.takesIn K (.builtin "object.__class__") = some true
  hm : PySem.W.mroIn K C (.type "object") = some true
  sf : PySem.W.kitOne K (.ref C) (.ref C) = some true
  si : PySem.W.kitOne K (.ref C) (.type "int") = some false
  sk : ∀ kn : Kn, PySem.W.kitOne K (.type kn.nm) (.ref C) = some false
section
variable {K : PySem.W.Frag} {C : Addr} {H : Hp} {Q : VK} {a dx : Addr} {fs : List (Str × V)} {x : V} {kn : Kn}
theorem p_isC (F : InsF K C) (h : H a = some (.ins C dx fs)) (q : Q (.bl true) H) : rIsi K [.ref a, .ref C] H Q := ⟨.ref a, .ref C, .ref C, .ref C, true, rfl, .own C, .base (.ins h F.cl F.ha F.hn F.ht F.hm), F.sf, q⟩
theorem p_isCint (F : InsF K C) (h : H a = some (.ins C dx fs)) (q : Q (.bl false) H) : rIsi K [.ref a, .ty "int"] H Q := ⟨.ref a, .ty "int", .ref C, .type "int", false, rfl, .ty _, .base (.ins h F.cl F.ha F.hn F.ht F.hm), F.si, q⟩
theorem p_isCn (F : InsF K C) (h : Kd H x kn) (q : Q (.bl false) H) : rIsi K [x, .ref C] H Q := ⟨x, .ref C, .type kn.nm, .ref C, false, rfl, .own C, h.tyx, F.sk kn, q⟩
end
end Pk

namespace Pk
open PySem PySem.Spec PyProof.Rows L2
local macro_rules | `(tactic| walk_at "sz") => `(tactic| first | assumption | decide +kernel | exact Nat.le_trans (Nat.le_of_ble_eq_true rfl) (show 100000 ≤ sizeLine by decide) | exact Nat.le_trans (by omega) (show 100000 ≤ sizeLine by decide) | (show _ ≤ sizeLine; exact Nat.le_trans (by (simp only [List.length_append, List.length_map, List.length_cons, List.length_nil]; omega)) (show 100000 ≤ sizeLine by decide)))
local macro_rules | `(tactic| walk_at "mul") => `(tactic| first | exact Or.inl (Or.inl ⟨by omega, by omega⟩) | exact Or.inl (Or.inr ⟨by omega, by omega⟩))
local macro_rules | `(tactic| walk_at "ci") => `(tactic| first | assumption | exact (by decide : (0 : Int) < _) | (show (0 : Int) < _; omega) | exact ⟨by assumption, by assumption⟩ | exact ⟨by decide, by decide⟩ | exact ⟨by decide, by decide, by omega⟩)
local macro_rules | `(tactic| walk_at "lk") => `(tactic| first | assumption | exact upd_same | ((refine Eq.trans (upd_ne (by first | assumption | exact Ne.symm (by assumption))) ?_); walk_at "lk") | exact Same.get (by assumption) (by walk_at "lk") | exact Keep.get (by assumption) (by walk_at "lk") (by assumption) (by assumption))
local macro_rules | `(tactic| walk_at "sq") => `(tactic| first | assumption | exact SqL.of (by walk_at "lk") | exact Same.seq (by assumption) (by walk_at "sq"))
local macro_rules | `(tactic| walk_at "stt") => `(tactic| exact SqT.of (by walk_at "lk"))
local macro_rules | `(tactic| walk_at "kd") => `(tactic| first | assumption | exact Kd.str _ (by first | assumption | omega | decide) | exact Kd.bl _ | exact Kd.int _ | exact Kd.non | exact Kd.lst (by walk_at "lk") | exact Kd.tup (by walk_at "lk") | exact Kd.dct (by walk_at "lk") | exact Kd.same (by assumption) (by walk_at "kd"))
local macro_rules | `(tactic| walk_at "sm") => `(tactic| first | assumption | exact Same.refl _ | (refine Same.trans ?_ (by assumption); walk_at "sm"))
local macro_rules | `(tactic| walk_at "st") => `(tactic| first
  | with_reducible refine i_seq ?_ | with_reducible refine i_asg ?_ | with_reducible refine i_ret ?_ | with_reducible refine i_op ?_
  | ((with_reducible show tVar _ _ _ _); refine i_var rfl ?_)
  | with_reducible refine i_c ?_ | with_reducible refine i_cb ?_ | with_reducible refine i_call ?_ | with_reducible refine i_cons ?_ | with_reducible refine i_nil ?_
  | with_reducible refine i_name ?_ | with_reducible refine i_sub ?_ | with_reducible refine i_drop ?_ | with_reducible refine i_ifs ?_ | with_reducible refine i_ife ?_
  | with_reducible refine i_test ?_ | with_reducible refine i_tru ?_ | with_reducible refine i_and ?_ | with_reducible refine i_or ?_ | with_reducible refine i_not ?_
  | with_reducible refine i_andV ?_ | with_reducible refine i_orV ?_ | with_reducible refine i_notV ?_ | with_reducible refine i_un ?_
  | with_reducible refine i_bl ?_ | with_reducible refine i_trB ?_ | with_reducible refine i_next ?_
  | with_reducible refine iteF ?_ | with_reducible refine iteT ?_
  | with_reducible refine i_lstF ?_ | with_reducible refine i_tupF ?_
  | with_reducible refine p_addI ?_ | with_reducible refine p_I0 ?_ | with_reducible refine p_U ?_
  | with_reducible refine p_ltI ?_ | with_reducible refine p_leI ?_ | with_reducible refine p_gtI ?_ | with_reducible refine p_geI ?_
  | with_reducible refine p_ltS ?_ | with_reducible refine p_leS ?_ | with_reducible refine p_gtS ?_
  | with_reducible refine p_eqI ?_ | with_reducible refine p_neI ?_ | with_reducible refine p_int ?_
  | ((with_reducible show rMuXX (V.int _) (V.int _) _ _); refine p_muI (by walk_at "mul") ?_)
  | ((with_reducible show rI _ _ (V.int _) (V.int _) _ _); refine p_I (by walk_at "ci") ?_)
  | ((with_reducible show rIx _ (V.ref _) (V.int _) _ _); (first | refine p_ixL (by walk_at "sq") (by first | exact rfl | assumption) ?_ | refine p_ixT (SqT.of (by walk_at "lk")) (by first | exact rfl | assumption) ?_))
  | ((with_reducible show rSetL (V.ref _) (V.int _) _ _ _); refine p_setL (by walk_at "lk") (by first | exact rfl | assumption) ?_)
  | ((with_reducible show rLenX _ [V.ref _] _ _); (first | refine p_lenL (by walk_at "sq") ?_ | refine p_lenT (SqT.of (by walk_at "lk")) ?_))
  | ((with_reducible show rLenX _ [V.str _] _ _); refine p_lenS (by walk_at "sz") ?_)
  | with_reducible refine i_lc ?_ | with_reducible refine i_for ?_ | with_reducible refine i_itl ?_ | with_reducible refine i_itt ?_ | with_reducible refine i_itr ?_ | with_reducible refine i_its ?_
  | ((with_reducible show ∃ _, V.ref _ = V.ref _ ∧ (∃ _, SqL _ _ _ _) ∧ _); refine p_itl (by walk_at "sq") ?_)
  | ((with_reducible show ∃ _, V.ref _ = V.ref _ ∧ (∃ _, SqT _ _ _ _) ∧ _); refine p_itt (by walk_at "stt") ?_) | with_reducible refine p_its ?_
  | ((with_reducible show ∃ _, [V.int _] = [V.int _] ∧ _); refine p_itr (by omega) (by omega) ?_)
  | with_reducible refine i_sl ?_ | with_reducible refine i_np ?_ | with_reducible refine i_pt ?_ | with_reducible refine i_in ?_
  | ((with_reducible show rSlXX _ (V.ref _) _ _ _ _); refine p_slL (by walk_at "sq") ?_; intro _ _ _ _ _)
  | ((with_reducible show rSlXX _ (V.str _) _ _ _ _); refine p_slS (by walk_at "sz") ?_)
  | ((with_reducible show rIsi _ [_, V.ty "str"] _ _); refine p_isStr (by walk_at "kd") ?_)
  | ((with_reducible show rIsi _ [_, V.ty "int"] _ _); refine p_isInt (by walk_at "kd") ?_)
  | ((with_reducible show rIsi _ [_, V.ty "bool"] _ _); refine p_isBool (by walk_at "kd") ?_)
  | ((with_reducible show rIsiT _ [_, V.ref _] _ _); refine p_isLT (by walk_at "lk") (by walk_at "kd") ?_)
  | with_reducible refine i_chain ?_ | with_reducible refine i_m1 ?_ | with_reducible refine i_m0 ?_ | with_reducible refine i_str ?_
  | ((with_reducible show LstK _ _ _); refine p_lstK (by walk_at "sz") ?_; intro _ _ _ _ _)
  | ((with_reducible show TupK _ _ _); refine p_tupK (by walk_at "sz") ?_; intro _ _ _ _ _)
  | ((with_reducible show (if _ = true then _ else _)); (first | refine ifT' (by first | assumption | exact rfl) ?_ | refine ifF' (by first | assumption | exact rfl) ?_))
  | ((with_reducible show rEqX _ (V.bl _) (V.bl _) _ _); refine p_eqS rfl ?_) | ((with_reducible show rNeX _ (V.bl _) (V.bl _) _ _); refine p_neS rfl ?_)
  | ((with_reducible show rEqX _ (V.ref _) (V.ref _) _ _); refine p_eqNil (by walk_at "lk") (by walk_at "lk") ?_) | ((with_reducible show rNeX _ (V.ref _) (V.ref _) _ _); refine p_neNil (by walk_at "lk") (by walk_at "lk") ?_)
  | ((with_reducible show rAddX _ (V.str _) (V.str _) _ _); refine p_addS (by walk_at "sz") ?_)
  | ((with_reducible show rMuXX (V.str _) (V.int _) _ _); refine p_muS ⟨by decide +kernel, by decide +kernel, by decide +kernel⟩ ?_)
  | ((with_reducible show tDNewK _ _ _); refine i_dnew ?_; intro _ _ _ _ _)
  | ((with_reducible show rTupX _ [V.ref _] _ _); refine p_tupL (by walk_at "sq") ?_; intro _ _ _ _ _)
  | ((with_reducible show rAddX _ (V.ref _) (V.ref _) _ _); refine p_addL (by walk_at "lk") (by walk_at "lk") (by walk_at "sz") ?_; intro _ _ _ _ _)
  | with_reducible refine p_notB ?_ | with_reducible refine p_isB ?_)
local macro_rules | `(tactic| walk_at "go") => `(tactic| (walk_at "st"; (repeat walk_at "st")))

def top (i : Nat) : Stmt := PySem.Challenge.pw_lineorigins_k03_ratios_compared.main.body.getD i (.Pass ⟨0, 0, 0, 0⟩)
abbrev s_is_whole : Stmt := top 6
abbrev N_is_whole : List Str := ["value"]
theorem sc_is_whole : FnScope ["value"] ["value"] (defScope s_is_whole) := ⟨rfl, rfl, rfl, by decide +kernel, rfl, by decide +kernel, by decide +kernel⟩
abbrev s_Ratio___init__ : Stmt := inClass (top 8) 0
abbrev N_Ratio___init__ : List Str := ["self", "top", "bottom", "shared"]
theorem sc_Ratio___init__ : FnScope ["self", "top", "bottom", "shared"] ["self", "top", "bottom"] (defScope s_Ratio___init__) := ⟨rfl, rfl, rfl, by decide +kernel, rfl, by decide +kernel, by decide +kernel⟩
abbrev s_Ratio_top : Stmt := inClass (top 8) 1
abbrev N_Ratio_top : List Str := ["self"]
theorem sc_Ratio_top : FnScope ["self"] ["self"] (defScope s_Ratio_top) := ⟨rfl, rfl, rfl, by decide +kernel, rfl, by decide +kernel, by decide +kernel⟩
abbrev s_Ratio_bottom : Stmt := inClass (top 8) 2
abbrev N_Ratio_bottom : List Str := ["self"]
theorem sc_Ratio_bottom : FnScope ["self"] ["self"] (defScope s_Ratio_bottom) := ⟨rfl, rfl, rfl, by decide +kernel, rfl, by decide +kernel, by decide +kernel⟩
abbrev s_Ratio___bool__ : Stmt := inClass (top 8) 15
abbrev N_Ratio___bool__ : List Str := ["self"]
theorem sc_Ratio___bool__ : FnScope ["self"] ["self"] (defScope s_Ratio___bool__) := ⟨rfl, rfl, rfl, by decide +kernel, rfl, by decide +kernel, by decide +kernel⟩
abbrev s_Ratio___eq__ : Stmt := inClass (top 8) 16
abbrev N_Ratio___eq__ : List Str := ["self", "other"]
theorem sc_Ratio___eq__ : FnScope ["self", "other"] ["self", "other"] (defScope s_Ratio___eq__) := ⟨rfl, rfl, rfl, by decide +kernel, rfl, by decide +kernel, by decide +kernel⟩
abbrev s_Ratio___ne__ : Stmt := inClass (top 8) 17
abbrev N_Ratio___ne__ : List Str := ["self", "other"]
theorem sc_Ratio___ne__ : FnScope ["self", "other"] ["self", "other"] (defScope s_Ratio___ne__) := ⟨rfl, rfl, rfl, by decide +kernel, rfl, by decide +kernel, by decide +kernel⟩
abbrev s_Ratio___lt__ : Stmt := inClass (top 8) 18
abbrev N_Ratio___lt__ : List Str := ["self", "other", "number"]
theorem sc_Ratio___lt__ : FnScope ["self", "other", "number"] ["self", "other"] (defScope s_Ratio___lt__) := ⟨rfl, rfl, rfl, by decide +kernel, rfl, by decide +kernel, by decide +kernel⟩
abbrev s_Ratio___le__ : Stmt := inClass (top 8) 19
abbrev N_Ratio___le__ : List Str := ["self", "other", "number"]
theorem sc_Ratio___le__ : FnScope ["self", "other", "number"] ["self", "other"] (defScope s_Ratio___le__) := ⟨rfl, rfl, rfl, by decide +kernel, rfl, by decide +kernel, by decide +kernel⟩
abbrev s_Ratio___gt__ : Stmt := inClass (top 8) 20
abbrev N_Ratio___gt__ : List Str := ["self", "other", "number"]
theorem sc_Ratio___gt__ : FnScope ["self", "other", "number"] ["self", "other"] (defScope s_Ratio___gt__) := ⟨rfl, rfl, rfl, by decide +kernel, rfl, by decide +kernel, by decide +kernel⟩
abbrev s_Ratio___ge__ : Stmt := inClass (top 8) 21
abbrev N_Ratio___ge__ : List Str := ["self", "other", "number"]
theorem sc_Ratio___ge__ : FnScope ["self", "other", "number"] ["self", "other"] (defScope s_Ratio___ge__) := ⟨rfl, rfl, rfl, by decide +kernel, rfl, by decide +kernel, by decide +kernel⟩
abbrev s_is_number : Stmt := top 9
abbrev N_is_number : List Str := ["value"]
theorem sc_is_number : FnScope ["value"] ["value"] (defScope s_is_number) := ⟨rfl, rfl, rfl, by decide +kernel, rfl, by decide +kernel, by decide +kernel⟩
abbrev s_as_ratio : Stmt := top 10
abbrev N_as_ratio : List Str := ["number"]
theorem sc_as_ratio : FnScope ["number"] ["number"] (defScope s_as_ratio) := ⟨rfl, rfl, rfl, by decide +kernel, rfl, by decide +kernel, by decide +kernel⟩
def rf (t b : Int) : List (Str × V) := putF "_bottom" (.int b) (putF "_top" (.int t) [])
theorem rf_t (t b : Int) : (rf t b).lookup ("_top" : Str) = some (.int t) := by
  unfold rf
  rw [lookup_putF, if_neg (by decide +kernel), lookup_putF, if_pos rfl]
theorem rf_b (t b : Int) : (rf t b).lookup ("_bottom" : Str) = some (.int b) := by
  unfold rf
  rw [lookup_putF, if_pos rfl]
/-- a ratio t/b stands at a -/
def RAt (C : Addr) (H : Hp) (a : Addr) (t b : Int) : Prop := ∃ dx, H a = some (.ins C dx (rf t b))
theorem RAt.same {C : Addr} {H H' : Hp} {a : Addr} {t b : Int} (s : Same H H') (h : RAt C H a t b) : RAt C H' a t b := h.elim fun dx e => ⟨dx, s _ _ e⟩
def sg (t b : Int) : Int := if b < 0 then -((Nat.gcd t.natAbs b.natAbs : Nat) : Int) else ((Nat.gcd t.natAbs b.natAbs : Nat) : Int)
def rN (t b : Int) : Int := t.fdiv (sg t b)
def rD (t b : Int) : Int := b.fdiv (sg t b)
/-- an integer or a ratio -/
inductive Nb (C : Addr) (H : Hp) : V → Int → Int → Prop where
  | int (i : Int) : Nb C H (.int i) i 1
  | rat {a : Addr} {t b : Int} (h : RAt C H a t b) : Nb C H (.ref a) t b
/-- what is_whole and is_number look at -/
inductive Kr (C : Addr) (H : Hp) : V → Bool → Bool → Prop where
  | kd {x : V} {k : Kn} (h : Kd H x k) : Kr C H x (k.is .int && !k.is .bl) false
  | rat {a : Addr} {t b : Int} (h : RAt C H a t b) : Kr C H (.ref a) false true
structure RatF (K : PySem.W.Frag) (mg : Str → Option Value) (C : Addr) : Prop where
  I : InsF K C
  v_Ratio : ∃ u, mg "Ratio" = some u ∧ RelV (.ref C) u
  nT : NoAttr K C "_top"
  nB : NoAttr K C "_bottom"
  ap : Apart K C
  sI : PySem.W.subIn K (.ref C) (.type "int") = some false
  ini : InitAt K C "Ratio.__init__" s_Ratio___init__ [.int 1]
  pT : PropAt K C "top" "Ratio.top" s_Ratio_top
  pB : PropAt K C "bottom" "Ratio.bottom" s_Ratio_bottom
  m_bool : MethAt K C "__bool__" "Ratio.__bool__" s_Ratio___bool__
  m_eq : MethAt K C "__eq__" "Ratio.__eq__" s_Ratio___eq__
  m_ne : MethAt K C "__ne__" "Ratio.__ne__" s_Ratio___ne__
  m_lt : MethAt K C "__lt__" "Ratio.__lt__" s_Ratio___lt__
  m_le : MethAt K C "__le__" "Ratio.__le__" s_Ratio___le__
  m_gt : MethAt K C "__gt__" "Ratio.__gt__" s_Ratio___gt__
  m_ge : MethAt K C "__ge__" "Ratio.__ge__" s_Ratio___ge__
  n_int : mg "int" = none
  n_bool : mg "bool" = none
  n_isinstance : mg "isinstance" = none
  m_gcd : mg "gcd" = some (.builtin "math.gcd")
  d_whole : DefAt K mg "is_whole" s_is_whole
  d_number : DefAt K mg "is_number" s_is_number
  d_as : DefAt K mg "as_ratio" s_as_ratio
theorem RatF.cl {K : PySem.W.Frag} {mg : Str → Option Value} {C : Addr} (T : RatF K mg C) : Cls K C := T.I.cl
/-! ### steps -/
def MkK (C : Addr) (sp : Sp) (dvs : List V) (E : XK) (Q : VK) : List V → Hp → Prop := fun vs H1 => ∀ x dx, H1 x = none → H1 dx = none → dx ≠ x → sp (.ref x :: (vs ++ dvs)) (upd (upd H1 dx (.own x)) x (.ins C dx [])) (fun v H3 => v = .non ∧ Q (.ref x) H3) E
def PrK (C : Addr) (sp : Sp) (Q : VK) : V → Hp → Prop := fun x H1 => ∃ a dx fs, x = .ref a ∧ H1 a = some (.ins C dx fs) ∧ sp [.ref a] H1 Q E0
def FlK (K : PySem.W.Frag) (f : Str) (Q : VK) : V → Hp → Prop := fun x H1 => ∃ a C dx fs v, x = .ref a ∧ H1 a = some (.ins C dx fs) ∧ Cls K C ∧ NoAttr K C f ∧ fs.lookup f = some v ∧ Q v H1
section
variable {K : PySem.W.Frag} {mg : Str → Option Value} {C : Addr} {σ : L2.St} {H : Hp} {Q : VK} {D : Ends} {t : TA} {ta tv : TE} {sp : Sp} {dvs : List V} {f : Str} {a : Addr} {n b : Int}
theorem i_par {i j : Nat} {D : Ends} (h : t σ H fun vs H1 => ∃ v w, vs = [v, w] ∧ D.nx ((σ.set i (some v)).set j (some w)) H1) : tPar i j t D σ H := h
theorem i_sfl {D : Ends} (h : tv σ H fun y H1 => ta σ H1 fun x H2 => ∃ a C dx fs, x = .ref a ∧ H2 a = some (.ins C dx fs) ∧ Cls K C ∧ NoAttr K C f ∧ fs.length < 1000 ∧ D.nx σ (upd H2 a (.ins C dx (putF f y fs)))) : sFld K ta tv f D σ H := h
theorem i_mk {E : XK} (h : t σ H (MkK C sp dvs E Q)) : tMake C sp dvs E t σ H Q := h
theorem i_pr (h : ta σ H (PrK C sp Q)) : tProp C sp [] E0 ta σ H Q := h
theorem i_fl (h : ta σ H (FlK K f Q)) : tFld K ta f σ H Q := h
theorem p_flT (T : RatF K mg C) (h : RAt C H a n b) (q : Q (.int n) H) : FlK K "_top" Q (.ref a) H := h.elim fun dx e => ⟨a, C, dx, _, _, rfl, e, T.cl, T.nT, rf_t _ _, q⟩
theorem p_flB (T : RatF K mg C) (h : RAt C H a n b) (q : Q (.int b) H) : FlK K "_bottom" Q (.ref a) H := h.elim fun dx e => ⟨a, C, dx, _, _, rfl, e, T.cl, T.nB, rf_b _ _, q⟩
def spTop (C : Addr) : Sp := fun vs H Q _ => ∃ a t b, vs = [.ref a] ∧ RAt C H a t b ∧ Q (.int t) H
def spBot (C : Addr) : Sp := fun vs H Q _ => ∃ a t b, vs = [.ref a] ∧ RAt C H a t b ∧ Q (.int b) H
theorem p_prT (h : RAt C H a n b) (q : Q (.int n) H) : PrK C (spTop C) Q (.ref a) H := h.elim fun dx e => ⟨a, dx, _, rfl, e, a, n, b, rfl, h, q⟩
theorem p_prB (h : RAt C H a n b) (q : Q (.int b) H) : PrK C (spBot C) Q (.ref a) H := h.elim fun dx e => ⟨a, dx, _, rfl, e, a, n, b, rfl, h, q⟩
def spIni (C : Addr) : Sp := fun vs H Q _ => ∃ p dx t b, vs = [.ref p, .int t, .int b] ∧ H p = some (.ins C dx []) ∧ b ≠ 0 ∧ b.natAbs < 2 ^ 4000 ∧ ∀ H', H' p = some (.ins C dx (rf (rN t b) (rD t b))) → (∀ a, a ≠ p → H' a = H a) → Q .non H'
theorem p_isR (T : RatF K mg C) (h : RAt C H a n b) (q : Q (.bl true) H) : rIsi K [.ref a, .ref C] H Q := h.elim fun dx e => p_isC T.I e q
theorem p_isRi (T : RatF K mg C) (h : RAt C H a n b) (q : Q (.bl false) H) : rIsi K [.ref a, .ty "int"] H Q := h.elim fun dx e => p_isCint T.I e q
theorem p_isRn {x : V} {kn : Kn} (T : RatF K mg C) (h : Kd H x kn) (q : Q (.bl false) H) : rIsi K [x, .ref C] H Q := p_isCn T.I h q
theorem p_mk {vs : List V} {E : XK} (e : vs ++ dvs = [.int n, .int b]) (h : b ≠ 0) (hb : b.natAbs < 2 ^ 4000) (q : ∀ p H', RAt C H' p (rN n b) (rD n b) → Same H H' → H p = none → Q (.ref p) H') : MkK C (spIni C) dvs E Q vs H := by
  intro x dx n1 n2 ne
  rw [e]
  refine ⟨x, dx, n, b, rfl, upd_same, h, hb, fun H' e1 e2 => ⟨rfl, q x H' ⟨dx, e1⟩ (fun c o ec => ?_) n1⟩⟩
  rw [e2 c (ne_of_none ec n1), upd_ne (ne_of_none ec n1), upd_ne (ne_of_none ec n2)]
  exact ec
end
local macro_rules | `(tactic| walk_at "rx") => `(tactic| first
  | with_reducible refine i_par ?_ | ((with_reducible show ∃ _ _, [_, _] = [_, _] ∧ _); refine ⟨_, _, rfl, ?_⟩) | ((with_reducible show ∃ _, [V.int _] = [V.int _] ∧ _); refine ⟨_, rfl, ?_⟩)
  | with_reducible refine i_sfl ?_ | with_reducible refine i_mk ?_ | with_reducible refine i_pr ?_ | with_reducible refine i_fl ?_
  | ((with_reducible show FlK _ _ _ (V.ref _) _); first | refine p_flT (by assumption) (by assumption) ?_ | refine p_flB (by assumption) (by assumption) ?_)
  | ((with_reducible show rIsi _ [V.ref _, V.ref _] _ _); refine p_isR (by assumption) (by assumption) ?_)
  | ((with_reducible show rIsi _ [V.ref _, V.ty "int"] _ _); refine p_isRi (by assumption) (by assumption) ?_)
  | ((with_reducible show rIsi _ [_, V.ref _] _ _); refine p_isRn (by assumption) (by walk_at "kd") ?_)
  | ((with_reducible show rMuXX (V.int _) (V.int _) _ _); refine p_muI (Or.inr (by assumption)) ?_)
  | ((with_reducible show rGcd [V.int _, V.int _] _ _); refine ⟨_, _, rfl, ?_⟩)
  | ((with_reducible show PrK _ _ _ (V.ref _) _); first | refine p_prT (by assumption) ?_ | refine p_prB (by assumption) ?_))
local macro_rules | `(tactic| walk_at "gr") => `(tactic| repeat (first | walk_at "st" | walk_at "rx"))

section
variable {P : Program} {w : World} {K : PySem.W.Frag} {mg : Str → Option Value} {base : Heap} {C : Addr}
theorem c_top (T : RatF K mg C) : PropM P w K mg base 1 C "top" (spTop C) := by
  refine prop0 T.pT sc_Ratio_top (fun _ _ _ _ _ _ us hl => match us, hl with | [_], _ => rfl) (fun vs H Q E h => ?_) (fun f cdv A outer s H vs Q E hr h => ?_)
  · obtain ⟨a, t, b, rfl, _⟩ := h
    rfl
  · obtain ⟨a, t, b, rfl, h, q⟩ := h
    refine ⟨_, (pss_one (ps_ret (pe_fld (pv 0) rfl))), ?_⟩
    walk_at "gr"
    exact q
theorem c_bot (T : RatF K mg C) : PropM P w K mg base 1 C "bottom" (spBot C) := by
  refine prop0 T.pB sc_Ratio_bottom (fun _ _ _ _ _ _ us hl => match us, hl with | [_], _ => rfl) (fun vs H Q E h => ?_) (fun f cdv A outer s H vs Q E hr h => ?_)
  · obtain ⟨a, t, b, rfl, _⟩ := h
    rfl
  · obtain ⟨a, t, b, rfl, h, q⟩ := h
    refine ⟨_, (pss_one (ps_ret (pe_fld (pv 0) rfl))), ?_⟩
    walk_at "gr"
    exact q
def spWhole (C : Addr) : Sp := fun vs H Q _ => ∃ x i r, vs = [x] ∧ Kr C H x i r ∧ Q (.bl i) H
theorem c_is_whole (T : RatF K mg C) : Cal P w K mg base CX0 1 "is_whole" (spWhole C) := by
  refine cal0 T.d_whole sc_is_whole (fun _ _ _ _ _ _ us hl => match us, hl with | [_], _ => rfl) (fun vs H Q E h => ?_) (fun f cdv A outer s H vs Q E hr h => ?_)
  · obtain ⟨x, i, r, rfl, _⟩ := h
    rfl
  · obtain ⟨x, i, r, rfl, h, q⟩ := h
    refine ⟨_, (pss_one (ps_ret (pe_and (pe_callB (r := rIsi K) call_isi (by rfl) T.n_isinstance (by decide +kernel) (pa_cons (pv 0) (pa_cons (pe_bltn (v := .ty "int") (by rfl) T.n_int (by decide +kernel) rfl) pa_nil))) (pe_one (pe_not (pe_callB (r := rIsi K) call_isi (by rfl) T.n_isinstance (by decide +kernel) (pa_cons (pv 0) (pa_cons (pe_bltn (v := .ty "bool") (by rfl) T.n_bool (by decide +kernel) rfl) pa_nil)))))))), ?_⟩
    cases h with
    | kd h =>
      walk_at "gr"
      refine ift (fun hc => ?_) (fun hc => ?_)
      · walk_at "gr"
        rw [hc, Bool.true_and] at q
        exact q
      · rw [hc, Bool.false_and] at q
        exact q
    | rat h =>
      walk_at "gr"
      exact q
def spNumber (C : Addr) : Sp := fun vs H Q _ => ∃ x i r, vs = [x] ∧ Kr C H x i r ∧ Q (.bl (i || r)) H
theorem c_is_number (T : RatF K mg C) : Cal P w K mg base CX0 2 "is_number" (spNumber C) := by
  have c_is_whole : Cal P w K mg base CX0 1 "is_whole" (spWhole C) := c_is_whole T
  refine cal0 T.d_number sc_is_number (fun _ _ _ _ _ _ us hl => match us, hl with | [_], _ => rfl) (fun vs H Q E h => ?_) (fun f cdv A outer s H vs Q E hr h => ?_)
  · obtain ⟨x, i, r, rfl, _⟩ := h
    rfl
  · obtain ⟨x, i, r, rfl, h, q⟩ := h
    refine ⟨_, (pss_one (ps_ret (pe_or (pe_c c_is_whole hr (by decide) (by rfl) pass0 (pa_cons (pv 0) pa_nil)) (pe_one (pe_callB (r := rIsi K) call_isi (by rfl) T.n_isinstance (by decide +kernel) (pa_cons (pv 0) (pa_cons (pe_gc (by rfl) T.v_Ratio) pa_nil))))))), ?_⟩
    walk_at "gr"
    refine ⟨x, i, r, rfl, h, ?_⟩
    walk_at "gr"
    cases h with
    | kd h =>
      refine ift (fun hc => ?_) (fun hc => ?_)
      · rw [hc] at q
        walk_at "gr"
        exact q
      · rw [hc] at q
        walk_at "gr"
        exact q
    | rat h =>
      walk_at "gr"
      exact q
theorem i_gcd {σ : L2.St} {H : Hp} {Q : VK} {a b : Int} (q : Q (.int ((Nat.gcd a.natAbs b.natAbs : Nat) : Int)) H) : rGcd [.int a, .int b] H Q := ⟨a, b, rfl, q⟩
theorem c_init (T : RatF K mg C) : IniOk P w K mg base 2 C "Ratio.__init__" s_Ratio___init__ ["self", "top", "bottom"] [.int 1] (spIni C) := by
  have c_is_whole : Cal P w K mg base CX0 1 "is_whole" (spWhole C) := c_is_whole T
  refine ini0 T.ini sc_Ratio___init__ (fun vs H Q E h => ?_) (fun f cdv A outer s H vs Q E hr h => ?_)
  · obtain ⟨p, dx, t, b, rfl, _⟩ := h
    rfl
  · obtain ⟨p, dx, t, b, rfl, hp, b0, hb, q⟩ := h
    refine ⟨_, (pss_cons (ps_if (pt_not (pt_truK (K := K) rfl (pe_c c_is_whole hr (by decide) (by rfl) pass0 (pa_cons (pv 1) pa_nil)) (by intro _; rfl))) (pss_one ps_never) pss_nil)
      (pss_cons (ps_if (PW.pt (pw_or (pt_not (pt_truK (K := K) rfl (pe_c c_is_whole hr (by decide) (by rfl) pass0 (pa_cons (pv 2) pa_nil)) (by intro _; rfl))) (pw_or1 (pt_cmpR (r := rEqX K) (op_eqX hr.units) (pv 2) pe_int (nomark _))))) (pss_one ps_never) pss_nil)
      (pss_cons (ps_set (i := 3) sc_Ratio___init__.nd rfl (by first | exact Or.inl rfl | exact Or.inr rfl) (pe_callBfun cr_gcd (by rfl) T.m_gcd (pa_cons (pv 1) (pa_cons (pv 2) pa_nil))))
      (pss_cons (ps_if (pt_cmpR op_ltX (pv 2) pe_int (nomark _)) (pss_one (ps_set (i := 3) sc_Ratio___init__.nd rfl (by first | exact Or.inl rfl | exact Or.inr rfl) (pe_un un_neg (pv 3)))) pss_nil)
      (pss_cons (ps_fld (pv 0) (pe_op op_fdZ (pv 1) (pv 3)) rfl)
      (pss_one (ps_fld (pv 0) (pe_op op_fdZ (pv 2) (pv 3)) rfl))))))), ?_⟩
    walk_at "gr"
    refine ⟨_, _, _, rfl, .kd (.int t), ?_⟩
    walk_at "gr"
    refine ⟨_, _, _, rfl, .kd (.int b), ?_⟩
    walk_at "gr"
    refine ift (fun hc => absurd (of_decide_eq_true hc) b0) (fun _ => ?_)
    walk_at "gr"
    have g0 : Nat.gcd t.natAbs b.natAbs ≠ 0 := fun e => b0 (Int.natAbs_eq_zero.mp (Nat.gcd_eq_zero_iff.mp e).2)
    have g1 : Nat.gcd t.natAbs b.natAbs < 2 ^ 4000 := Nat.lt_of_le_of_lt (Nat.gcd_le_right _ (Int.natAbs_pos.mpr b0)) hb
    have go : ∀ (s' : Int), s' = sg t b → ∀ (v3 : Int) , CDivZ t s' ∧ CDivZ b s' := fun s' e _ => by
      have e2 : s'.natAbs = Nat.gcd t.natAbs b.natAbs := by
        rw [e]; unfold sg; split <;> simp
      have z : s' ≠ 0 := fun q => g0 (by rw [← e2, q]; rfl)
      have l : s'.natAbs.log2 < 9000 := Nat.lt_of_lt_of_le (PySem.Flt.log2_lt_of (k := 4000) (by decide) (by rw [e2]; exact g1)) (by decide)
      exact ⟨⟨z, l⟩, ⟨z, l⟩⟩
    refine ift (fun hc => ?_) (fun hc => ?_)
    · have e : sg t b = -((Nat.gcd t.natAbs b.natAbs : Nat) : Int) := by unfold sg; rw [if_pos (of_decide_eq_true hc)]
      obtain ⟨d1, d2⟩ := go _ e.symm 0
      walk_at "gr"
      refine ⟨p, C, dx, [], rfl, hp, T.cl, T.nT, by decide, ?_⟩
      walk_at "gr"
      refine ⟨p, C, dx, _, rfl, upd_same, T.cl, T.nB, (by show 1 < 1000; decide), ?_⟩
      walk_at "gr"
      refine q _ ?_ fun c hc => by rw [upd_ne hc, upd_ne hc]
      rw [upd_same, ← e]
      rfl
    · have e : sg t b = ((Nat.gcd t.natAbs b.natAbs : Nat) : Int) := by unfold sg; rw [if_neg (of_decide_eq_false hc)]
      obtain ⟨d1, d2⟩ := go _ e.symm 0
      walk_at "gr"
      refine ⟨p, C, dx, [], rfl, hp, T.cl, T.nT, by decide, ?_⟩
      walk_at "gr"
      refine ⟨p, C, dx, _, rfl, upd_same, T.cl, T.nB, (by show 1 < 1000; decide), ?_⟩
      walk_at "gr"
      refine q _ ?_ fun c hc => by rw [upd_ne hc, upd_ne hc]
      rw [upd_same, ← e]
      rfl
theorem c_Ratio2 (T : RatF K mg C) : C8.Mak P w K mg base 2 "Ratio" C (spIni C) [] := mkr_d (c_init T) (T.v_Ratio.elim fun u h => h.1.trans (congrArg some h.2)) 3 1 (by simp) rfl (fun _ _ _ _ _ _ _ us its h1 h2 => match us, its, h1, h2 with | [_, _, _], [_], _, _ => ⟨_, rfl, rfl⟩)
theorem c_Ratio1 (T : RatF K mg C) : C8.Mak P w K mg base 2 "Ratio" C (spIni C) [.int 1] := mkr_d (c_init T) (T.v_Ratio.elim fun u h => h.1.trans (congrArg some h.2)) 2 0 (by simp) rfl (fun _ _ _ _ _ _ _ us its h1 h2 => match us, its, h1, h2 with | [_, _], [_], _, _ => ⟨_, rfl, rfl⟩)
theorem rN_one (i : Int) : rN i 1 = i := by
  unfold rN sg
  simp
theorem rD_one (i : Int) : rD i 1 = 1 := by
  unfold rD sg
  simp
def spAs (C : Addr) : Sp := fun vs H Q _ => ∃ x t b, vs = [x] ∧ Nb C H x t b ∧ ∀ a H', RAt C H' a t b → Same H H' → Q (.ref a) H'
theorem c_as_ratio (T : RatF K mg C) : Cal P w K mg base CX0 4 "as_ratio" (spAs C) := by
  have c_Ratio1 : C8.Mak P w K mg base 2 "Ratio" C (spIni C) [.int 1] := c_Ratio1 T
  refine cal0 T.d_as sc_as_ratio (fun _ _ _ _ _ _ us hl => match us, hl with | [_], _ => rfl) (fun vs H Q E h => ?_) (fun f cdv A outer s H vs Q E hr h => ?_)
  · obtain ⟨x, t, b, rfl, _⟩ := h
    rfl
  · obtain ⟨x, t, b, rfl, h, q⟩ := h
    refine ⟨_, (pss_cons (ps_if (pt_truK (K := K) rfl (pe_callB (r := rIsi K) call_isi (by rfl) T.n_isinstance (by decide +kernel) (pa_cons (pv 0) (pa_cons (pe_gc (by rfl) T.v_Ratio) pa_nil))) (by intro _; rfl)) (pss_one (ps_ret (pv 0))) pss_nil)
      (pss_one (ps_ret (C8.pe_mk c_Ratio1 hr (by decide) (by rfl) (pa_cons (pv 0) pa_nil))))), ?_⟩
    cases h with
    | int =>
      walk_at "gr"
      refine p_mk (vs := [.int t]) (dvs := [.int 1]) (n := t) (b := 1) rfl (by decide) (Nat.one_lt_two_pow (by decide)) fun p H' r s _ => ?_
      rw [rN_one, rD_one] at r
      exact q p H' r s
    | rat h =>
      walk_at "gr"
      exact q _ _ h (Same.refl _)
def Rel4 (f : Int → Int → Int → Int → Bool) (C : Addr) : Sp := fun vs H Q _ => ∃ a t b y u v, vs = [.ref a, y] ∧ RAt C H a t b ∧ Nb C H y u v ∧ (t.natAbs < 2 ^ 4000 ∧ b.natAbs < 2 ^ 4000) ∧ (u.natAbs < 2 ^ 4000 ∧ v.natAbs < 2 ^ 4000) ∧ ∀ H', Same H H' → Q (.bl (f t b u v)) H'
theorem Nb.kr {H : Hp} {y : V} {u v : Int} (h : Nb C H y u v) : ∃ i r, Kr C H y i r ∧ (i || r) = true := by
  cases h with
  | int => exact ⟨_, _, .kd (.int u), rfl⟩
  | rat h => exact ⟨_, _, .rat h, rfl⟩
theorem c_lt (T : RatF K mg C) : OwnM P w K mg base 5 C "__lt__" (Rel4 (fun t b u v => decide (t * v < u * b)) C) := by
  have c_is_number : Cal P w K mg base CX0 2 "is_number" (spNumber C) := c_is_number T
  have c_as_ratio : Cal P w K mg base CX0 4 "as_ratio" (spAs C) := c_as_ratio T
  have m_top : PropM P w K mg base 1 C "top" (spTop C) := c_top T
  have m_bottom : PropM P w K mg base 1 C "bottom" (spBot C) := c_bot T
  refine own0 T.m_lt sc_Ratio___lt__ (fun _ _ _ _ _ _ us hl => match us, hl with | [_, _], _ => rfl) (fun vs H Q E h => ?_) (fun f cdv A outer s H vs Q E hr h => ?_)
  · obtain ⟨a, t, b, y, u, v, rfl, _⟩ := h
    rfl
  · obtain ⟨a, t, b, y, u, v, rfl, h, hy, ⟨t1, b1⟩, ⟨u1, v1⟩, q⟩ := h
    refine ⟨_, (pss_cons (ps_if (pt_not (pt_truK (K := K) rfl (pe_c c_is_number hr (by decide) (by rfl) pass0 (pa_cons (pv 1) pa_nil)) (by intro _; rfl))) (pss_one ps_never) pss_nil)
      (pss_cons (ps_set (i := 2) sc_Ratio___lt__.nd rfl (by first | exact Or.inl rfl | exact Or.inr rfl) (pe_c c_as_ratio hr (by decide) (by rfl) pass0 (pa_cons (pv 1) pa_nil)))
      (pss_one (ps_ret (pe_cmpR op_ltX (pe_op op_muX (pe_fld (pv 0) rfl) (pe_pr (pv 2) T.cl m_bottom (by decide) hr)) (pe_op op_muX (pe_pr (pv 2) T.cl m_top (by decide) hr) (pe_fld (pv 0) rfl)) (nomark _)))))), ?_⟩
    obtain ⟨i, r, hk, ht⟩ := hy.kr
    walk_at "gr"
    refine ⟨y, i, r, rfl, hk, ?_⟩
    walk_at "gr"
    rw [ht]
    walk_at "gr"
    refine ⟨y, u, v, rfl, hy, fun n H1 hn s1 => ?_⟩
    have h := h.same s1
    have w1 : CMulW t v := wide_mul t1 v1 (by decide) (by decide) (by decide)
    have w2 : CMulW u b := wide_mul u1 b1 (by decide) (by decide) (by decide)
    walk_at "gr"
    exact q _ s1
theorem c_le (T : RatF K mg C) : OwnM P w K mg base 5 C "__le__" (Rel4 (fun t b u v => decide (t * v ≤ u * b)) C) := by
  have c_is_number : Cal P w K mg base CX0 2 "is_number" (spNumber C) := c_is_number T
  have c_as_ratio : Cal P w K mg base CX0 4 "as_ratio" (spAs C) := c_as_ratio T
  have m_top : PropM P w K mg base 1 C "top" (spTop C) := c_top T
  have m_bottom : PropM P w K mg base 1 C "bottom" (spBot C) := c_bot T
  refine own0 T.m_le sc_Ratio___le__ (fun _ _ _ _ _ _ us hl => match us, hl with | [_, _], _ => rfl) (fun vs H Q E h => ?_) (fun f cdv A outer s H vs Q E hr h => ?_)
  · obtain ⟨a, t, b, y, u, v, rfl, _⟩ := h
    rfl
  · obtain ⟨a, t, b, y, u, v, rfl, h, hy, ⟨t1, b1⟩, ⟨u1, v1⟩, q⟩ := h
    refine ⟨_, (pss_cons (ps_if (pt_not (pt_truK (K := K) rfl (pe_c c_is_number hr (by decide) (by rfl) pass0 (pa_cons (pv 1) pa_nil)) (by intro _; rfl))) (pss_one ps_never) pss_nil)
      (pss_cons (ps_set (i := 2) sc_Ratio___le__.nd rfl (by first | exact Or.inl rfl | exact Or.inr rfl) (pe_c c_as_ratio hr (by decide) (by rfl) pass0 (pa_cons (pv 1) pa_nil)))
      (pss_one (ps_ret (pe_cmpR op_leX (pe_op op_muX (pe_fld (pv 0) rfl) (pe_pr (pv 2) T.cl m_bottom (by decide) hr)) (pe_op op_muX (pe_pr (pv 2) T.cl m_top (by decide) hr) (pe_fld (pv 0) rfl)) (nomark _)))))), ?_⟩
    obtain ⟨i, r, hk, ht⟩ := hy.kr
    walk_at "gr"
    refine ⟨y, i, r, rfl, hk, ?_⟩
    walk_at "gr"
    rw [ht]
    walk_at "gr"
    refine ⟨y, u, v, rfl, hy, fun n H1 hn s1 => ?_⟩
    have h := h.same s1
    have w1 : CMulW t v := wide_mul t1 v1 (by decide) (by decide) (by decide)
    have w2 : CMulW u b := wide_mul u1 b1 (by decide) (by decide) (by decide)
    walk_at "gr"
    exact q _ s1
theorem c_gt (T : RatF K mg C) : OwnM P w K mg base 5 C "__gt__" (Rel4 (fun t b u v => decide (t * v > u * b)) C) := by
  have c_is_number : Cal P w K mg base CX0 2 "is_number" (spNumber C) := c_is_number T
  have c_as_ratio : Cal P w K mg base CX0 4 "as_ratio" (spAs C) := c_as_ratio T
  have m_top : PropM P w K mg base 1 C "top" (spTop C) := c_top T
  have m_bottom : PropM P w K mg base 1 C "bottom" (spBot C) := c_bot T
  refine own0 T.m_gt sc_Ratio___gt__ (fun _ _ _ _ _ _ us hl => match us, hl with | [_, _], _ => rfl) (fun vs H Q E h => ?_) (fun f cdv A outer s H vs Q E hr h => ?_)
  · obtain ⟨a, t, b, y, u, v, rfl, _⟩ := h
    rfl
  · obtain ⟨a, t, b, y, u, v, rfl, h, hy, ⟨t1, b1⟩, ⟨u1, v1⟩, q⟩ := h
    refine ⟨_, (pss_cons (ps_if (pt_not (pt_truK (K := K) rfl (pe_c c_is_number hr (by decide) (by rfl) pass0 (pa_cons (pv 1) pa_nil)) (by intro _; rfl))) (pss_one ps_never) pss_nil)
      (pss_cons (ps_set (i := 2) sc_Ratio___gt__.nd rfl (by first | exact Or.inl rfl | exact Or.inr rfl) (pe_c c_as_ratio hr (by decide) (by rfl) pass0 (pa_cons (pv 1) pa_nil)))
      (pss_one (ps_ret (pe_cmpR op_gtX (pe_op op_muX (pe_fld (pv 0) rfl) (pe_pr (pv 2) T.cl m_bottom (by decide) hr)) (pe_op op_muX (pe_pr (pv 2) T.cl m_top (by decide) hr) (pe_fld (pv 0) rfl)) (nomark _)))))), ?_⟩
    obtain ⟨i, r, hk, ht⟩ := hy.kr
    walk_at "gr"
    refine ⟨y, i, r, rfl, hk, ?_⟩
    walk_at "gr"
    rw [ht]
    walk_at "gr"
    refine ⟨y, u, v, rfl, hy, fun n H1 hn s1 => ?_⟩
    have h := h.same s1
    have w1 : CMulW t v := wide_mul t1 v1 (by decide) (by decide) (by decide)
    have w2 : CMulW u b := wide_mul u1 b1 (by decide) (by decide) (by decide)
    walk_at "gr"
    exact q _ s1
theorem c_ge (T : RatF K mg C) : OwnM P w K mg base 5 C "__ge__" (Rel4 (fun t b u v => decide (t * v ≥ u * b)) C) := by
  have c_is_number : Cal P w K mg base CX0 2 "is_number" (spNumber C) := c_is_number T
  have c_as_ratio : Cal P w K mg base CX0 4 "as_ratio" (spAs C) := c_as_ratio T
  have m_top : PropM P w K mg base 1 C "top" (spTop C) := c_top T
  have m_bottom : PropM P w K mg base 1 C "bottom" (spBot C) := c_bot T
  refine own0 T.m_ge sc_Ratio___ge__ (fun _ _ _ _ _ _ us hl => match us, hl with | [_, _], _ => rfl) (fun vs H Q E h => ?_) (fun f cdv A outer s H vs Q E hr h => ?_)
  · obtain ⟨a, t, b, y, u, v, rfl, _⟩ := h
    rfl
  · obtain ⟨a, t, b, y, u, v, rfl, h, hy, ⟨t1, b1⟩, ⟨u1, v1⟩, q⟩ := h
    refine ⟨_, (pss_cons (ps_if (pt_not (pt_truK (K := K) rfl (pe_c c_is_number hr (by decide) (by rfl) pass0 (pa_cons (pv 1) pa_nil)) (by intro _; rfl))) (pss_one ps_never) pss_nil)
      (pss_cons (ps_set (i := 2) sc_Ratio___ge__.nd rfl (by first | exact Or.inl rfl | exact Or.inr rfl) (pe_c c_as_ratio hr (by decide) (by rfl) pass0 (pa_cons (pv 1) pa_nil)))
      (pss_one (ps_ret (pe_cmpR op_geX (pe_op op_muX (pe_fld (pv 0) rfl) (pe_pr (pv 2) T.cl m_bottom (by decide) hr)) (pe_op op_muX (pe_pr (pv 2) T.cl m_top (by decide) hr) (pe_fld (pv 0) rfl)) (nomark _)))))), ?_⟩
    obtain ⟨i, r, hk, ht⟩ := hy.kr
    walk_at "gr"
    refine ⟨y, i, r, rfl, hk, ?_⟩
    walk_at "gr"
    rw [ht]
    walk_at "gr"
    refine ⟨y, u, v, rfl, hy, fun n H1 hn s1 => ?_⟩
    have h := h.same s1
    have w1 : CMulW t v := wide_mul t1 v1 (by decide) (by decide) (by decide)
    have w2 : CMulW u b := wide_mul u1 b1 (by decide) (by decide) (by decide)
    walk_at "gr"
    exact q _ s1
def spBool (C : Addr) : Sp := fun vs H Q _ => ∃ a t b, vs = [.ref a] ∧ RAt C H a t b ∧ Q (.bl (!decide (t = 0))) H
theorem c_bool (T : RatF K mg C) : OwnM P w K mg base 1 C "__bool__" (spBool C) := by
  refine own0 T.m_bool sc_Ratio___bool__ (fun _ _ _ _ _ _ us hl => match us, hl with | [_], _ => rfl) (fun vs H Q E h => ?_) (fun f cdv A outer s H vs Q E hr h => ?_)
  · obtain ⟨a, t, b, rfl, _⟩ := h
    rfl
  · obtain ⟨a, t, b, rfl, h, q⟩ := h
    refine ⟨_, (pss_one (ps_ret (pe_callTy call_bool1 (by rfl) T.n_bool (by decide +kernel) (pa_cons (pe_cmpR (r := rNeX K) (op_neX hr.units) (pe_fld (pv 0) rfl) pe_int (nomark _)) pa_nil)))), ?_⟩
    walk_at "gr"
    exact .inr ⟨_, rfl, q⟩
inductive Er (C : Addr) (H : Hp) (t b : Int) : V → Bool → Prop where
  | rat {a : Addr} {u v : Int} (h : RAt C H a u v) : Er C H t b (.ref a) (decide (t = u) && decide (b = v))
  | kd {x : V} {k : Kn} (h : Kd H x k) (hk : k ≠ .int) : Er C H t b x false
  | int {i : Int} : Er C H t b (.int i) (decide (b = 1) && decide (t = i))
def spEq (C : Addr) : Sp := fun vs H Q _ => ∃ a t b y r, vs = [.ref a, y] ∧ RAt C H a t b ∧ Er C H t b y r ∧ Q (.bl r) H
theorem c_eq (T : RatF K mg C) : OwnM P w K mg base 3 C "__eq__" (spEq C) := by
  have c_is_whole : Cal P w K mg base CX0 1 "is_whole" (spWhole C) := c_is_whole T
  have m_top : PropM P w K mg base 1 C "top" (spTop C) := c_top T
  have m_bottom : PropM P w K mg base 1 C "bottom" (spBot C) := c_bot T
  refine own0 T.m_eq sc_Ratio___eq__ (fun _ _ _ _ _ _ us hl => match us, hl with | [_, _], _ => rfl) (fun vs H Q E h => ?_) (fun f cdv A outer s H vs Q E hr h => ?_)
  · obtain ⟨a, t, b, y, r, rfl, _⟩ := h
    rfl
  · obtain ⟨a, t, b, y, r, rfl, h, hy, q⟩ := h
    refine ⟨_, (pss_cons (ps_if (pt_truK (K := K) rfl (pe_callB (r := rIsi K) call_isi (by rfl) T.n_isinstance (by decide +kernel) (pa_cons (pv 1) (pa_cons (pe_gc (by rfl) T.v_Ratio) pa_nil))) (by intro _; rfl)) (pss_one (ps_ret (pe_and (pe_cmpR (r := rEqX K) (op_eqX hr.units) (pe_fld (pv 0) rfl) (pe_pr (pv 1) T.cl m_top (by decide) hr) (nomark _)) (pe_one (pe_cmpR (r := rEqX K) (op_eqX hr.units) (pe_fld (pv 0) rfl) (pe_pr (pv 1) T.cl m_bottom (by decide) hr) (nomark _)))))) pss_nil)
      (pss_one (ps_ret (pe_and (pe_c c_is_whole hr (by decide) (by rfl) pass0 (pa_cons (pv 1) pa_nil)) (pe_and (pe_cmpR (r := rEqX K) (op_eqX hr.units) (pe_fld (pv 0) rfl) pe_int (nomark _)) (pe_one (pe_cmpR (r := rEqX K) (op_eqX hr.units) (pe_fld (pv 0) rfl) (pv 1) (nomark _)))))))), ?_⟩
    cases hy with
    | rat h' =>
      walk_at "gr"
      refine ift (fun hc => ?_) (fun hc => ?_)
      · walk_at "gr"
        rw [hc, Bool.true_and] at q
        exact q
      · rw [hc, Bool.false_and] at q
        exact q
    | @kd x k h' hk =>
      walk_at "gr"
      have e : (k.is .int && !k.is .bl) = false := by revert hk; cases k <;> decide
      refine ⟨_, _, _, rfl, .kd h', ?_⟩
      rw [e]
      walk_at "gr"
      exact q
    | int =>
      walk_at "gr"
      refine ⟨_, _, _, rfl, .kd (.int _), ?_⟩
      walk_at "gr"
      refine ift (fun hc => ?_) (fun hc => ?_)
      · walk_at "gr"
        rw [hc, Bool.true_and] at q
        exact q
      · rw [hc, Bool.false_and] at q
        exact q
def spNe (C : Addr) : Sp := fun vs H Q _ => ∃ a t b y r, vs = [.ref a, y] ∧ RAt C H a t b ∧ Er C H t b y r ∧ Q (.bl (!r)) H
theorem p_own {H : Hp} {Q : VK} {a : Addr} {t b : Int} {y : V} {r : Bool} (h : RAt C H a t b) (e : Er C H t b y r) (q : Q (.bl r) H) : rOwn C (spEq C) (.ref a) y H Q := by
  obtain ⟨dx, h1⟩ := id h
  refine ⟨a, dx, _, rfl, h1, ?_, a, t, b, y, r, rfl, h, e, q⟩
  cases e with
  | rat h' => exact h'.elim fun dy h2 => .inr ⟨_, dy, _, rfl, h2⟩
  | kd h' _ => exact .inl ⟨_, h'⟩
  | int => exact .inl ⟨_, .int _⟩
theorem c_ne (T : RatF K mg C) : OwnM P w K mg base 4 C "__ne__" (spNe C) := by
  have m___eq__ : OwnM P w K mg base 3 C "__eq__" (spEq C) := c_eq T
  refine own0 T.m_ne sc_Ratio___ne__ (fun _ _ _ _ _ _ us hl => match us, hl with | [_, _], _ => rfl) (fun vs H Q E h => ?_) (fun f cdv A outer s H vs Q E hr h => ?_)
  · obtain ⟨a, t, b, y, r, rfl, _⟩ := h
    rfl
  · obtain ⟨a, t, b, y, r, rfl, h, hy, q⟩ := h
    refine ⟨_, (pss_one (ps_ret (pe_not (pe_cmpR (r := rOwn C (spEq C)) (op_own (m := "__eq__") (fun _ _ => rfl) m___eq__ rfl (by decide) hr T.ap) (pv 0) (pv 1) (nomark _))))), ?_⟩
    walk_at "gr"
    refine p_own h hy ?_
    walk_at "gr"
    exact q
end
end Pk

/-! defs that print lists: the guards are known to be empty -/
namespace Pk
open PySem PySem.Spec PyProof.Rows L2
structure GOk (P : Program) (w : World) (K : PySem.W.Frag) (mg : Str → Option Value) (base : Heap) (CX : CXT) (k : Nat) (f : Addr) (fd : FuncData) (ps : List Str) (sp : Sp) : Prop where
  size : ∀ vs H Q E, sp vs H Q E → vs.length = ps.length
  go : ∀ (A : Around) (outer : List Env) (s : Shared) (H : Hp) (args : Args) (us : List Value) (vs : List V) (Q : VK) (E : XK), A.guards = some [] → Room k A → Env0 P w K mg base A outer s H → BindsTo s fd args (ps.zip us) → Vals vs us → sp vs H Q E → codeAny (model P w) A (.call (.ref f) args) (CR CX outer P w H s Q E) s
section
variable {P : Program} {w : World} {K : PySem.W.Frag} {mg : Str → Option Value} {base : Heap} {CX : CXT} {k : Nat} {f : Addr} {fd : FuncData} {ps N : List Str} {sp : Sp}
theorem ok_g (F : FnOk P w K mg base CX k f fd ps sp) : GOk P w K mg base CX k f fd ps sp := ⟨F.len, fun A outer s H args us vs Q E _ hr => F.run A outer s H args us vs Q E hr⟩
theorem g_of {x q : Str} {st : Stmt} (F : Fun K x q st f fd) (S : FnScope N ps (defScope st)) (size : ∀ vs H Q E, sp vs H Q E → vs.length = ps.length)
    (hbody : ∀ (cdv : Value) (A : Around) (outer : List Env) (s : Shared) (H : Hp) (vs : List V) (Q : VK) (E : XK), A.guards = some [] → Room k (A.deeper (envOfC q (defScope st) s.heap.objs.size f cdv)) → sp vs H Q E →
      ∃ t, PSs (cxOf CX P w K mg base N q (defScope st) f cdv A outer s H E) (defBody st) t ∧ t { nx := fun _ H' => Q .non H', rt := Q } (start N vs) H) : GOk P w K mg base CX (k + 1) f fd ps sp := by
  obtain ⟨oc, od, kV, doc, pm, an, cdv, ct, osl, rfl, look, code⟩ := F.ex
  refine ⟨size, fun A outer s H args us vs Q E hg room e0 binds rel want => ?_⟩
  have same := size _ _ _ _ want
  have inK : K.In s.heap := e0.mod.kin.keeps fun b o e => (e0.bs b o e).1
  have free : s.heap.NoLimit := e0.mod.nolimit.keeps fun b o e => (e0.bs b o e).1
  refine codeAny_call_function room.depth (inK _ _ look) rfl S.co S.gen rfl (PySem.W.codeRec_of inK code) (binds _ _ _ _ ?_)
  refine wpAny_newFunctionEnv_cells S.kind (fun y hy => ?_) fun env he s1 x => ?_
  · obtain ⟨n, v⟩ := y
    exact (S.par n (List.of_mem_zip hy).1).imp id fun c => ⟨c, PySem.W.cellsFrom_some _ _ _ (.inl c)⟩
  · subst he
    refine ⟨free.keeps x.toInCall.keep, codeAny_func ?_⟩
    obtain ⟨t, ht, hq⟩ := hbody cdv A outer s H vs Q E hg (room.deeper _) want
    have J := inv_start (CX := CX) (E := E) S room.hd e0 same rel x
    refine wpAny_mono (ht.run [] s1 (start N vs) H _ J hq) (fun fl s' hs => ?_) fun e s' hs => hs
    have last : ∀ {σ' : L2.St} {H' : Hp} {v : V} {u : Value}, Inv (cxOf CX P w K mg base N q (defScope st) f cdv A outer s H E) [] σ' H' s' → RelV v u → Q v H' → CE outer P w H s Q u s' := fun I r k => ⟨_, _, I.os, I.bare, I.base, I.hok, r, k⟩
    cases fl with
    | next => exact hs.elim fun _ z => z.elim fun _ z => last (v := V.non) (u := Value.none) z.1 rfl z.2
    | ret u =>
      obtain ⟨v, σ', H', I, r, k⟩ := hs
      exact last I r k
    | brk => exact hs.elim fun _ z => z.elim fun _ z => z.2.elim
    | cont => exact hs.elim fun _ z => z.elim fun _ z => z.2.elim
/-- called by its name -/
structure CalG (P : Program) (w : World) (K : PySem.W.Frag) (mg : Str → Option Value) (base : Heap) (CX : CXT) (k : Nat) (x : Str) (sp : Sp) : Prop where
  ex : ∃ (f : Addr) (fd : FuncData) (ps : List Str), GOk P w K mg base CX k f fd ps sp ∧ mg x = some (.ref f) ∧ PySem.W.keepIn K (.ref f) = true ∧ Binds K fd ps []
theorem calg {x : Str} {st : Stmt} (D : DefAt K mg x st) (S : FnScope N ps (defScope st)) (hb : Bnd x st ps) (size : ∀ vs H Q E, sp vs H Q E → vs.length = ps.length)
    (hbody : ∀ (f : Addr) (cdv : Value) (A : Around) (outer : List Env) (s : Shared) (H : Hp) (vs : List V) (Q : VK) (E : XK), A.guards = some [] → Room k (A.deeper (envOfC x (defScope st) s.heap.objs.size f cdv)) → sp vs H Q E →
      ∃ t, PSs (cxOf CX0 P w K mg base N x (defScope st) f cdv A outer s H E).nox (defBody st) t ∧ t { nx := fun _ H' => Q .non H', rt := Q } (start N vs) H) : CalG P w K mg base CX0 (k + 1) x sp := by
  obtain ⟨f, fd, F, m⟩ := D.ex
  refine ⟨f, fd, ps, g_of F S size (fun cdv A outer s H vs Q E hg hr h => ?_), m, F.kp, F.binds hb⟩
  obtain ⟨t, a, b⟩ := hbody f cdv A outer s H vs Q E hg hr h
  exact ⟨t, a.nox, b⟩
end
section
variable {X : Cx} {k j : Nat} {x : Str} {sp : Sp} {p pos : Pos} {e : Expr} {es : List Expr} {t : TA}
theorem pe_cG {CX : CXT} {E : XK} (c : CalG X.prog X.w X.K X.mg X.base CX k x sp) (hr : Room j X.A) (gd : X.A.guards = some []) (hk : k ≤ j) (hg : Gl X x) (hx : Passes CX X E) (ha : PA X (e :: es) t) (hdb : (x == ("__debug__" : Str)) = false := by decide)
    (one : starEach (e :: es) X.env = (false, eval e X.env) :: starEach es X.env := by rfl) (plain : (backTo pos (starEach es X.env)).any (·.1) = false := by rfl) : PE X (.Call (.Name x p) (e :: es) [] pos) (tCall sp [] E t) := by
  obtain ⟨f, fd, ps, F, hm, kp, b⟩ := c.ex
  refine ⟨fun pins s σ H Q I h => wpAny_Call_Name_kw (ld_glob I hg hm (PySem.W.callWith_K (h₀ := X.base) I.ok.mod.kin kp (thn (ha.run pos pins s σ H _ I h) fun us s1 ⟨vs, H1, J, r, q⟩ => ⟨J.kIn, ?_⟩) one plain) hdb)⟩
  have q : sp vs H1 Q E := by rw [show sp vs H1 Q E = sp (vs ++ []) H1 Q E by rw [List.append_nil]]; exact q
  have n : (us ++ []).length = ps.length := by rw [List.append_nil, ← r.length, F.size _ _ _ _ q]
  have bd := b s1 us J.kIn n
  rw [List.append_nil] at bd
  refine wpAny_call (codeAny_mono (F.go X.A X.stack s1 H1 ⟨us, []⟩ us vs Q E gd (hr.mono hk) J.env0 bd r q) fun z s' hz => ?_)
  cases z with
  | error e => exact hx pins σ H1 s1 e s' J hz
  | ok fl => cases fl with
    | ret u => exact J.after hz
    | next => exact hz.elim
    | brk => exact hz.elim
    | cont => exact hz.elim
end
/-! ### repr of lists and tuples of plain values -/
mutual
inductive Rd (H : Hp) : V → PyData → Prop where
  | non : Rd H .non .none
  | bl (b : Bool) : Rd H (.bl b) (.bool b)
  | int (i : Int) : Rd H (.int i) (.int i)
  | str (z : Str) : Rd H (.str z) (.str z)
  | lst {a : Addr} {xs : List V} {ds : List PyData} (e : H a = some (.lst xs)) (r : RdA H xs ds) : Rd H (.ref a) (.list ds)
  | tup {a : Addr} {xs : List V} {ds : List PyData} (e : H a = some (.tup xs)) (r : RdA H xs ds) : Rd H (.ref a) (.tuple ds)
inductive RdA (H : Hp) : List V → List PyData → Prop where
  | nil : RdA H [] []
  | cons {x : V} {xs : List V} {d : PyData} {ds : List PyData} (h : Rd H x d) (t : RdA H xs ds) : RdA H (x :: xs) (d :: ds)
end
theorem rd_reads {X : Cx} {pins : List (Addr × Obj)} {σ : L2.St} {H : Hp} {s : Shared} {v : V} {d : PyData} (I : Inv X pins σ H s) (h : Rd H v d) : ∀ u, RelV v u → ∃ as, Reads s.heap u d as := by
  refine Rd.rec (motive_1 := fun v d _ => ∀ u, RelV v u → ∃ as, Reads s.heap u d as) (motive_2 := fun xs ds _ => ∀ us, Vals xs us → ∃ as, ReadsAll s.heap us ds as) ?_ ?_ ?_ ?_ ?_ ?_ ?_ ?_ h
  · intro u r; cases (show u = Value.none from r); exact ⟨_, .none⟩
  · intro b u r; cases (show u = Value.bool b from r); exact ⟨_, .bool b⟩
  · intro i u r; obtain ⟨t, e⟩ := (show ∃ t, u = Value.int i t from r); cases e; exact ⟨_, .int i t⟩
  · intro z u r; obtain ⟨t, e⟩ := (show ∃ t, u = Value.str z t from r); cases e; exact ⟨_, .str z t⟩
  · intro a xs ds e r ih u ru
    cases (show u = Value.ref a from ru)
    obtain ⟨_, us, n, rv, h1⟩ := (show ObjOk X.prog X.w H s.heap a (.lst xs) from I.hok a _ e)
    obtain ⟨as, z⟩ := ih us rv
    exact ⟨_, .list h1 rfl rfl (by simpa using z)⟩
  · intro a xs ds e r ih u ru
    cases (show u = Value.ref a from ru)
    obtain ⟨_, us, rv, o, h1, h2, n, h3⟩ := (show ObjOk X.prog X.w H s.heap a (.tup xs) from I.hok a _ e)
    obtain ⟨as, z⟩ := ih us rv
    exact ⟨_, .tuple h1 h2 h3 (by simpa using z)⟩
  · intro us r; cases r; exact ⟨_, .nil⟩
  · intro x xs d ds h t ih1 ih2 us r
    cases r with
    | cons r1 r2 =>
      obtain ⟨_, z1⟩ := ih1 _ r1
      obtain ⟨_, z2⟩ := ih2 _ r2
      exact ⟨_, .cons z1 z2⟩
def rRepr : List V → Hp → VK → Prop := fun xs H Q => ∃ a d, xs = [.ref a] ∧ Rd H (.ref a) d ∧ d.showable = true ∧ d.hasDict = false ∧ d.depth ≤ 50 ∧ d.shown.length ≤ sizeLine ∧ Q (.str d.shown) H
theorem call_repr {X : Cx} {j : Nat} (hr : Room j X.A) (hg : X.A.guards = some []) : CallR X (.builtin "repr") rRepr := by
  intro pins s σ H xs us Q I r h
  obtain ⟨a, d, rfl, hd, h1, h2, h3, h4, q⟩ := h
  obtain ⟨u, rfl, ru⟩ := vals1 r
  cases (show u = Value.ref a from ru)
  obtain ⟨as, z⟩ := rd_reads I hd _ rfl
  refine repr_of_reads' z h1 (fun e => by rw [h2] at e; cases e) hg (by have := hr.units; omega) (fun _ _ e => e) (fun h' t tk keep => ⟨.str _, H, I.kept keep, ⟨t, rfl⟩, q⟩) h4
/-! ### the law's head: its call starts with no guards -/
theorem start_env {P : Program} {w : World} {K : PySem.W.Frag} {mg mb : Str → Option Value} {a : Addr} {H : Hp} {s₁ : Shared} {vs : Array Value} {n : Nat} (KX : K.In s₁.heap) (hns : s₁.heap.Ns mainGlobals mg) (hb : s₁.heap.Ns builtinsNs mb)
    (hbb : ∀ x : Str, x ≠ "__name__" → mb x = bootBuiltins x) (free : s₁.heap.NoLimit) (hg : s₁.gens = #[]) (ha : s₁.heap.get? a = some { cls := .type "list", data := .seq vs n }) (ok : HOk P w H s₁.heap) (only : ∀ b, b ≠ a → H b = none) (out : H a ≠ none → K.lookup a = none) :
    K.In (hidT s₁.heap H) ∧ (hidT s₁.heap H).Ns mainGlobals mg ∧ Env0 P w K mg (hidT s₁.heap H) callerA [] s₁ H := by
  have stays : ∀ {b : Addr} {m : Str → Option Value}, s₁.heap.Ns b m → (hidT s₁.heap H).Ns b m := fun {b m} z => by
    obtain ⟨o, es, ep, e, d, r⟩ := z
    have ne : b ≠ a := fun q => by
      subst q
      rw [ha] at e
      cases e
      cases d
    exact ⟨o, es, ep, hidT_get e (only b ne), d, r⟩
  have kin : K.In (hidT s₁.heap H) := fun b o e => by
    refine hidT_get (KX b o e) ?_
    by_cases q : b = a
    · subst q
      by_cases z : H b = none
      · exact z
      · rw [out z] at e
        cases e
    · exact only b q
  exact ⟨kin, stays hns, rfl, ⟨kin, stays hns, ⟨mb, stays hb, hbb⟩, free.elim fun mc z => ⟨mc, stays z.1, z.2⟩⟩, fun b o e => of_hidT e, Nat.le_of_eq (hidT_size _ _), trivial, fun b z => absurd (show b ∈ ([] : List Addr) from z) (by simp), ok, .of_eq hg⟩
theorem law_callG {P : Program} {w : World} {K : PySem.W.Frag} {mg mb : Str → Option Value} {CX : CXT} {k : Nat} {fa a : Addr} {fd : FuncData} {x : Str} {sp : Sp} {s₁ : Shared} {vs : List Value} {ns : List Int} (KX : K.In s₁.heap) (hns : s₁.heap.Ns mainGlobals mg) (hb : s₁.heap.Ns builtinsNs mb)
    (hbb : ∀ x : Str, x ≠ "__name__" → mb x = bootBuiltins x) (free : s₁.heap.NoLimit) (hg : s₁.gens = #[]) (ha : s₁.heap.get? a = some { cls := .type "list", data := .seq vs.toArray }) (zs : IntsAre vs ns) (hl : ns.length ≤ sizeLine) (room : Room k callerA)
    (F : ∀ base : Heap, K.In base → base.Ns mainGlobals mg → GOk P w K mg base CX k fa fd [x] sp) (binds : ∀ (s : Shared) (u : Value), BindsTo s fd ⟨[u], []⟩ [(x, u)]) (hsp : ∀ H : Hp, Only H → SqL K H a (ns.map V.int) → sp [.ref a] H (fun v _ => v = .bl true) fun _ _ _ => False)
    (calm : ∀ H e s', CX [] H s₁ (fun _ _ _ => False) e s' → False) : codeAny (model P w) callerA (.call (.ref fa) ⟨[.ref a], []⟩) (fun r s' => r = .ok (.ret (.bool true)) ∧ OldK s₁.heap s'.heap ∧ s'.os = s₁.os ∧ AllBare s'.gens) s₁ := by
  have rel := vals_ints zs
  have main : ∀ H : Hp, Only H → SqL K H a (ns.map V.int) → HOk P w H s₁.heap → (∀ b, b ≠ a → H b = none) → (H a ≠ none → K.lookup a = none) →
      codeAny (model P w) callerA (.call (.ref fa) ⟨[.ref a], []⟩) (fun r s' => r = .ok (.ret (.bool true)) ∧ OldK s₁.heap s'.heap ∧ s'.os = s₁.os ∧ AllBare s'.gens) s₁ := by
    intro H hO hS ok only out
    obtain ⟨kin, nsm, e0⟩ := start_env KX hns hb hbb free hg ha ok only out
    refine codeAny_mono ((F _ kin nsm).go callerA [] s₁ H ⟨[.ref a], []⟩ [.ref a] [.ref a] _ _ rfl room e0 (binds s₁ (.ref a)) (.cons rfl .nil) (hsp H hO hS)) fun r s' h => ?_
    match r, h with
    | .error e, h => exact (calm H e s' h).elim
    | .ok (.ret u), h =>
      obtain ⟨v, H', os, bare, un, ok', ru, rfl⟩ := h
      obtain rfl : u = Value.bool true := ru
      refine ⟨rfl, OldK.of_keep fun b o e => ?_, os, bare⟩
      rcases hO b with q | ⟨ob, xs, q⟩
      · exact un.keep b o e q (by intro z; exact absurd (show b ∈ ([] : List Addr) from z) (by simp)) (by simp)
      · have e1 := (ok b _ q).1
        have e2 := (ok' b _ (un.frzs b ob _ q)).1
        rw [e] at e1
        cases e1
        exact e2
    | .ok .next, h => exact h.elim
    | .ok .brk, h => exact h.elim
    | .ok .cont, h => exact h.elim
  cases hk : K.lookup a with
  | some o =>
    have e := KX a o hk
    rw [ha] at e
    cases e
    exact main (fun _ => none) (fun _ => .inl rfl) (.inr ⟨_, vs.toArray, _, hk, rfl, rfl, rfl, by rw [List.size_toArray, zs.length]; exact hl, by simpa using rel⟩) (fun b u z => nomatch z) (fun _ _ => rfl) fun z => absurd rfl z
  | none =>
    have at_ : (fun b => if b = a then some (HO.frz { cls := .type "list", data := .seq vs.toArray } (.lst (ns.map V.int))) else none) a = some (HO.frz { cls := .type "list", data := .seq vs.toArray } (.lst (ns.map V.int))) := if_pos rfl
    refine main (fun b => if b = a then some (.frz { cls := .type "list", data := .seq vs.toArray } (.lst (ns.map V.int))) else none) (fun b => ?_) (.inl (.inr ⟨_, at_⟩)) (fun b u z => ?_) (fun b q => if_neg q) fun _ => hk
    · by_cases q : b = a
      · exact .inr ⟨_, _, if_pos q⟩
      · exact .inl (if_neg q)
    · by_cases q : b = a
      · subst q
        have z' := at_.symm.trans z
        cases z'
        exact ⟨ha, by rw [List.length_map]; exact hl, vs, _, rel, ha⟩
      · have z' := (if_neg q).symm.trans z
        cases z'
theorem walk_G {l : PySem.W.OpenLaw} {n k : Nat} {q : Program} {loose : List Str} {XP : (Str → Option Value) → Heap → Prop} {YP : World → Heap → Prop} {d : DefRec} {K : Params → PySem.W.Frag} {CX : World → CXT} {sp : World → Sp} {x : Str} (hn : l.most = some n) (hn2 : n ≤ sizeLine) (hdf : d.params.defaults = []) (room : Room k callerA)
    (hY : ∀ (w : World) (h : Heap), YP w h → (K w.params).In h) (F : ∀ (w : World) (mg : Str → Option Value) (fa : Addr) (h : Heap), (K w.params).In h → h.Ns mainGlobals mg → mg d.name = some (.ref fa) → ∃ fd : FuncData, (∀ (s : Shared) (u : Value), BindsTo s fd ⟨[u], []⟩ [(x, u)]) ∧ ∀ base : Heap, (K w.params).In base → base.Ns mainGlobals mg → GOk l.prog w (K w.params) mg base (CX w) k fa fd [x] (sp w))
    (hsp : ∀ (w : World) (H : Hp) (a : Addr) (ns : List Int), ns.length ≤ n → Only H → SqL (K w.params) H a (ns.map V.int) → sp w [.ref a] H (fun v _ => v = .bl true) fun _ _ _ => False) (calm : ∀ (w : World) (H : Hp) (s : Shared) (e : Value) (s' : Shared), CX w [] H s (fun _ _ _ => False) e s' → False) :
    PySem.W.WalkO q loose XP YP l.row.toRowW d [] (fun f vs => PySem.call f vs) := by
  refine Att.attach_call hn hdf fun w s₀ s₁ mg mb fa o pm cd doc a vs ns G Y ho hd hcd hmg hobj zs size bare => ?_
  have KX := hY w _ Y
  obtain ⟨fd, hb, hF⟩ := F w mg fa _ KX G.T.g hmg
  exact law_callG KX G.T.g G.T.b G.T.builtins G.T.nolimit bare hobj zs (Nat.le_trans size hn2) room hF hb (fun H hO hS => hsp w H a ns size hO hS) fun H e s' => calm w H s₁ e s'
end Pk

namespace Pk
open PySem PySem.Spec PyProof.Rows L2
local macro_rules | `(tactic| walk_at "sz") => `(tactic| first | assumption | decide +kernel | exact Nat.le_trans (Nat.le_of_ble_eq_true rfl) (show 100000 ≤ sizeLine by decide) | exact Nat.le_trans (by omega) (show 100000 ≤ sizeLine by decide) | (show _ ≤ sizeLine; exact Nat.le_trans (by (simp only [List.length_append, List.length_map, List.length_cons, List.length_nil]; omega)) (show 100000 ≤ sizeLine by decide)))
local macro_rules | `(tactic| walk_at "mul") => `(tactic| first | exact Or.inl (Or.inl ⟨by omega, by omega⟩) | exact Or.inl (Or.inr ⟨by omega, by omega⟩))
local macro_rules | `(tactic| walk_at "ci") => `(tactic| first | assumption | exact (by decide : (0 : Int) < _) | (show (0 : Int) < _; omega) | exact ⟨by assumption, by assumption⟩ | exact ⟨by decide, by decide⟩ | exact ⟨by decide, by decide, by omega⟩)
local macro_rules | `(tactic| walk_at "lk") => `(tactic| first | assumption | exact upd_same | ((refine Eq.trans (upd_ne (by first | assumption | exact Ne.symm (by assumption))) ?_); walk_at "lk") | exact Same.get (by assumption) (by walk_at "lk") | exact Keep.get (by assumption) (by walk_at "lk") (by assumption) (by assumption))
local macro_rules | `(tactic| walk_at "sq") => `(tactic| first | assumption | exact SqL.of (by walk_at "lk") | exact Same.seq (by assumption) (by walk_at "sq"))
local macro_rules | `(tactic| walk_at "stt") => `(tactic| exact SqT.of (by walk_at "lk"))
local macro_rules | `(tactic| walk_at "kd") => `(tactic| first | assumption | exact Kd.str _ (by first | assumption | omega | decide) | exact Kd.bl _ | exact Kd.int _ | exact Kd.non | exact Kd.lst (by walk_at "lk") | exact Kd.tup (by walk_at "lk") | exact Kd.dct (by walk_at "lk") | exact Kd.same (by assumption) (by walk_at "kd"))
local macro_rules | `(tactic| walk_at "sm") => `(tactic| first | assumption | exact Same.refl _ | (refine Same.trans ?_ (by assumption); walk_at "sm"))
local macro_rules | `(tactic| walk_at "st") => `(tactic| first
  | with_reducible refine i_seq ?_ | with_reducible refine i_asg ?_ | with_reducible refine i_ret ?_ | with_reducible refine i_op ?_
  | ((with_reducible show tVar _ _ _ _); refine i_var rfl ?_)
  | with_reducible refine i_c ?_ | with_reducible refine i_cb ?_ | with_reducible refine i_call ?_ | with_reducible refine i_cons ?_ | with_reducible refine i_nil ?_
  | with_reducible refine i_name ?_ | with_reducible refine i_sub ?_ | with_reducible refine i_drop ?_ | with_reducible refine i_ifs ?_ | with_reducible refine i_ife ?_
  | with_reducible refine i_test ?_ | with_reducible refine i_tru ?_ | with_reducible refine i_and ?_ | with_reducible refine i_or ?_ | with_reducible refine i_not ?_
  | with_reducible refine i_andV ?_ | with_reducible refine i_orV ?_ | with_reducible refine i_notV ?_ | with_reducible refine i_un ?_
  | with_reducible refine i_bl ?_ | with_reducible refine i_trB ?_ | with_reducible refine i_next ?_
  | with_reducible refine iteF ?_ | with_reducible refine iteT ?_
  | with_reducible refine i_lstF ?_ | with_reducible refine i_tupF ?_
  | with_reducible refine p_addI ?_ | with_reducible refine p_I0 ?_ | with_reducible refine p_U ?_
  | with_reducible refine p_ltI ?_ | with_reducible refine p_leI ?_ | with_reducible refine p_gtI ?_ | with_reducible refine p_geI ?_
  | with_reducible refine p_ltS ?_ | with_reducible refine p_leS ?_ | with_reducible refine p_gtS ?_
  | with_reducible refine p_eqI ?_ | with_reducible refine p_neI ?_ | with_reducible refine p_int ?_
  | ((with_reducible show rMuXX (V.int _) (V.int _) _ _); refine p_muI (by walk_at "mul") ?_)
  | ((with_reducible show rI _ _ (V.int _) (V.int _) _ _); refine p_I (by walk_at "ci") ?_)
  | ((with_reducible show rIx _ (V.ref _) (V.int _) _ _); (first | refine p_ixL (by walk_at "sq") (by first | exact rfl | assumption) ?_ | refine p_ixT (SqT.of (by walk_at "lk")) (by first | exact rfl | assumption) ?_))
  | ((with_reducible show rSetL (V.ref _) (V.int _) _ _ _); refine p_setL (by walk_at "lk") (by first | exact rfl | assumption) ?_)
  | ((with_reducible show rLenX _ [V.ref _] _ _); (first | refine p_lenL (by walk_at "sq") ?_ | refine p_lenT (SqT.of (by walk_at "lk")) ?_))
  | ((with_reducible show rLenX _ [V.str _] _ _); refine p_lenS (by walk_at "sz") ?_)
  | with_reducible refine i_lc ?_ | with_reducible refine i_for ?_ | with_reducible refine i_itl ?_ | with_reducible refine i_itt ?_ | with_reducible refine i_itr ?_ | with_reducible refine i_its ?_
  | ((with_reducible show ∃ _, V.ref _ = V.ref _ ∧ (∃ _, SqL _ _ _ _) ∧ _); refine p_itl (by walk_at "sq") ?_)
  | ((with_reducible show ∃ _, V.ref _ = V.ref _ ∧ (∃ _, SqT _ _ _ _) ∧ _); refine p_itt (by walk_at "stt") ?_) | with_reducible refine p_its ?_
  | ((with_reducible show ∃ _, [V.int _] = [V.int _] ∧ _); refine p_itr (by omega) (by omega) ?_)
  | with_reducible refine i_sl ?_ | with_reducible refine i_np ?_ | with_reducible refine i_pt ?_ | with_reducible refine i_in ?_
  | ((with_reducible show rSlXX _ (V.ref _) _ _ _ _); refine p_slL (by walk_at "sq") ?_; intro _ _ _ _ _)
  | ((with_reducible show rSlXX _ (V.str _) _ _ _ _); refine p_slS (by walk_at "sz") ?_)
  | ((with_reducible show rIsi _ [_, V.ty "str"] _ _); refine p_isStr (by walk_at "kd") ?_)
  | ((with_reducible show rIsi _ [_, V.ty "int"] _ _); refine p_isInt (by walk_at "kd") ?_)
  | ((with_reducible show rIsi _ [_, V.ty "bool"] _ _); refine p_isBool (by walk_at "kd") ?_)
  | ((with_reducible show rIsiT _ [_, V.ref _] _ _); refine p_isLT (by walk_at "lk") (by walk_at "kd") ?_)
  | with_reducible refine i_chain ?_ | with_reducible refine i_m1 ?_ | with_reducible refine i_m0 ?_ | with_reducible refine i_str ?_
  | ((with_reducible show LstK _ _ _); refine p_lstK (by walk_at "sz") ?_; intro _ _ _ _ _)
  | ((with_reducible show TupK _ _ _); refine p_tupK (by walk_at "sz") ?_; intro _ _ _ _ _)
  | ((with_reducible show (if _ = true then _ else _)); (first | refine ifT' (by first | assumption | exact rfl) ?_ | refine ifF' (by first | assumption | exact rfl) ?_))
  | ((with_reducible show rEqX _ (V.bl _) (V.bl _) _ _); refine p_eqS rfl ?_) | ((with_reducible show rNeX _ (V.bl _) (V.bl _) _ _); refine p_neS rfl ?_)
  | ((with_reducible show rEqX _ (V.ref _) (V.ref _) _ _); refine p_eqNil (by walk_at "lk") (by walk_at "lk") ?_) | ((with_reducible show rNeX _ (V.ref _) (V.ref _) _ _); refine p_neNil (by walk_at "lk") (by walk_at "lk") ?_)
  | ((with_reducible show rAddX _ (V.str _) (V.str _) _ _); refine p_addS (by walk_at "sz") ?_)
  | ((with_reducible show rMuXX (V.str _) (V.int _) _ _); refine p_muS ⟨by decide +kernel, by decide +kernel, by decide +kernel⟩ ?_)
  | ((with_reducible show tDNewK _ _ _); refine i_dnew ?_; intro _ _ _ _ _)
  | ((with_reducible show rTupX _ [V.ref _] _ _); refine p_tupL (by walk_at "sq") ?_; intro _ _ _ _ _)
  | ((with_reducible show rAddX _ (V.ref _) (V.ref _) _ _); refine p_addL (by walk_at "lk") (by walk_at "lk") (by walk_at "sz") ?_; intro _ _ _ _ _)
  | with_reducible refine p_notB ?_ | with_reducible refine p_isB ?_)
local macro_rules | `(tactic| walk_at "go") => `(tactic| (walk_at "st"; (repeat walk_at "st")))

local macro_rules | `(tactic| walk_at "rx") => `(tactic| first
  | with_reducible refine i_par ?_ | ((with_reducible show ∃ _ _, [_, _] = [_, _] ∧ _); refine ⟨_, _, rfl, ?_⟩) | ((with_reducible show ∃ _, [V.int _] = [V.int _] ∧ _); refine ⟨_, rfl, ?_⟩)
  | with_reducible refine i_sfl ?_ | with_reducible refine i_mk ?_ | with_reducible refine i_pr ?_ | with_reducible refine i_fl ?_
  | ((with_reducible show FlK _ _ _ (V.ref _) _); first | refine p_flT (by assumption) (by assumption) ?_ | refine p_flB (by assumption) (by assumption) ?_)
  | ((with_reducible show rIsi _ [V.ref _, V.ref _] _ _); refine p_isR (by assumption) (by assumption) ?_)
  | ((with_reducible show rIsi _ [V.ref _, V.ty "int"] _ _); refine p_isRi (by assumption) (by assumption) ?_)
  | ((with_reducible show rIsi _ [_, V.ref _] _ _); refine p_isRn (by assumption) (by walk_at "kd") ?_)
  | ((with_reducible show rMuXX (V.int _) (V.int _) _ _); refine p_muI (Or.inr (by assumption)) ?_)
  | ((with_reducible show rGcd [V.int _, V.int _] _ _); refine ⟨_, _, rfl, ?_⟩)
  | ((with_reducible show PrK _ _ _ (V.ref _) _); first | refine p_prT (by assumption) ?_ | refine p_prB (by assumption) ?_))
local macro_rules | `(tactic| walk_at "gr") => `(tactic| repeat (first | walk_at "st" | walk_at "rx"))

abbrev s__law_pool : Stmt := top 12
abbrev N__law_pool : List Str := ["script", "numbers", "seed", "cell"]
theorem sc__law_pool : FnScope ["script", "numbers", "seed", "cell"] ["script"] (defScope s__law_pool) := ⟨rfl, rfl, rfl, by decide +kernel, rfl, by decide +kernel, by decide +kernel⟩
abbrev s__law_mixed : Stmt := top 13
abbrev N__law_mixed : List Str := ["number", "count", "many"]
theorem sc__law_mixed : FnScope ["number", "count", "many"] ["number", "count", "many"] (defScope s__law_mixed) := ⟨rfl, rfl, rfl, by decide +kernel, rfl, by decide +kernel, by decide +kernel⟩
abbrev s__law_draw : Stmt := top 14
abbrev N__law_draw : List Str := ["pool", "many", "at", "numbers", "cell"]
theorem sc__law_draw : FnScope ["pool", "many", "at", "numbers", "cell"] ["pool", "many"] (defScope s__law_draw) := ⟨rfl, rfl, rfl, by decide +kernel, rfl, by decide +kernel, by decide +kernel⟩
abbrev s__law_lowest : Stmt := top 15
abbrev N__law_lowest : List Str := ["upper", "lower", "one", "other"]
theorem sc__law_lowest : FnScope ["upper", "lower", "one", "other"] ["upper", "lower"] (defScope s__law_lowest) := ⟨rfl, rfl, rfl, by decide +kernel, rfl, by decide +kernel, by decide +kernel⟩
abbrev s__law_integer : Stmt := top 16
abbrev N__law_integer : List Str := ["pool", "size"]
theorem sc__law_integer : FnScope ["pool", "size"] ["pool"] (defScope s__law_integer) := ⟨rfl, rfl, rfl, by decide +kernel, rfl, by decide +kernel, by decide +kernel⟩
abbrev s__law_pair : Stmt := top 17
abbrev N__law_pair : List Str := ["pool", "times", "upper", "lower"]
theorem sc__law_pair : FnScope ["pool", "times", "upper", "lower"] ["pool"] (defScope s__law_pair) := ⟨rfl, rfl, rfl, by decide +kernel, rfl, by decide +kernel, by decide +kernel⟩
abbrev s__law_signs : Stmt := top 18
abbrev N__law_signs : List Str := ["one", "other"]
theorem sc__law_signs : FnScope ["one", "other"] ["one", "other"] (defScope s__law_signs) := ⟨rfl, rfl, rfl, by decide +kernel, rfl, by decide +kernel, by decide +kernel⟩
abbrev s__law_due : Stmt := top 19
abbrev N__law_due : List Str := ["first", "second", "left", "right"]
theorem sc__law_due : FnScope ["first", "second", "left", "right"] ["first", "second"] (defScope s__law_due) := ⟨rfl, rfl, rfl, by decide +kernel, rfl, by decide +kernel, by decide +kernel⟩
abbrev s__law_right : Stmt := top 20
abbrev N__law_right : List Str := ["first", "second", "number", "whole", "some", "one", "other", "row"]
theorem sc__law_right : FnScope ["first", "second", "number", "whole", "some", "one", "other", "row"] ["first", "second", "number"] (defScope s__law_right) := ⟨rfl, rfl, rfl, by decide +kernel, rfl, by decide +kernel, by decide +kernel⟩
abbrev s_law : Stmt := top 21
abbrev N_law : List Str := ["script", "pool", "k", "some", "number", "ratio", "odd", "first", "second", "one"]
theorem sc_law : FnScope ["script", "pool", "k", "some", "number", "ratio", "odd", "first", "second", "one"] ["script"] (defScope s_law) := ⟨rfl, rfl, rfl, by decide +kernel, rfl, by decide +kernel, by decide +kernel⟩
structure Tx (K : PySem.W.Frag) (mg : Str → Option Value) (C : Addr) : Prop where
  R : RatF K mg C
  n_int : mg "int" = none
  n_len : mg "len" = none
  n_abs : mg "abs" = none
  n_bool : mg "bool" = none
  n_repr : mg "repr" = none
  n_str : mg "str" = none
  n_range : mg "range" = none
  d_pool : DefAt K mg "_law_pool" s__law_pool
  d_mixed : DefAt K mg "_law_mixed" s__law_mixed
  d_draw : DefAt K mg "_law_draw" s__law_draw
  d_lowest : DefAt K mg "_law_lowest" s__law_lowest
  d_integer : DefAt K mg "_law_integer" s__law_integer
  d_pair : DefAt K mg "_law_pair" s__law_pair
  d_signs : DefAt K mg "_law_signs" s__law_signs
  d_due : DefAt K mg "_law_due" s__law_due
  d_right : DefAt K mg "_law_right" s__law_right
  d_law : DefAt K mg "law" s_law
section
variable {P : Program} {w : World} {K : PySem.W.Frag} {mg : Str → Option Value} {base : Heap} {C : Addr}
def spMixed : Sp := fun vs H Q _ => ∃ (a c m : Int), vs = [.int a, .int c, .int m] ∧ 0 ≤ a ∧ a < 2147483647 ∧ 0 ≤ c ∧ c < 2 ^ 50 ∧ 0 < m ∧ ∀ r : Int, 0 ≤ r → r < m → Q (.int r) H
theorem c__law_mixed (T : Tx K mg C) : Cal P w K mg base CX0 1 "_law_mixed" spMixed := by
  refine cal0 T.d_mixed sc__law_mixed (fun _ _ _ _ _ _ us hl => match us, hl with | [_, _, _], _ => rfl) (fun vs H Q E h => ?_) (fun f cdv A outer s H vs Q E hr h => ?_)
  · obtain ⟨a, c, m, rfl, _⟩ := h
    rfl
  · obtain ⟨a, c, m, rfl, h1, h2, h3, h4, h5, k⟩ := h
    refine ⟨_, (pss_one (ps_ret (pe_op op_mod (pe_op op_fdX (pe_callTy call_intX (by rfl) T.n_int (by decide +kernel) (pa_cons (pe_op op_mod (pe_op op_pow (pe_callTy call_intX (by rfl) T.n_int (by decide +kernel) (pa_cons (pe_op (r := rAddX K) op_addX (pv 0) (pe_op op_muX pe_int (pv 1))) pa_nil)) pe_int) pe_int) pa_nil)) pe_int) (pv 2)))), ?_⟩
    walk_at "go"
    exact k _ (Int.emod_nonneg _ (by omega)) (Int.emod_lt_of_pos _ h5)
def spDraw : Sp := fun vs H Q _ => ∃ (p n : Addr) (m k : Int), vs = [.ref p, .int m] ∧ PoolAt H p n k ∧ 0 ≤ k ∧ k < 1000000000 ∧ 0 < m ∧ m.natAbs.log2 < 9000 ∧ ∀ (r : Int) (H' : Hp), 0 ≤ r → r < m → PoolAt H' p n (k + 1) → Keep p n H H' → Q (.int r) H'
theorem c__law_draw (T : Tx K mg C) : Cal P w K mg base CX0 2 "_law_draw" spDraw := by
  have c__law_mixed : Cal P w K mg base CX0 1 "_law_mixed" spMixed := c__law_mixed T
  refine cal0 T.d_draw sc__law_draw (fun _ _ _ _ _ _ us hl => match us, hl with | [_, _], _ => rfl) (fun vs H Q E h => ?_) (fun f cdv A outer s H vs Q E hr h => ?_)
  · obtain ⟨p, n, m, k, rfl, _⟩ := h
    rfl
  · obtain ⟨p, n, m, k, rfl, ⟨ns, a, c, z, st, hp, hn, h1, h2, h3, h4, h5⟩, h6, h7, h8, h9, q⟩ := h
    have npn : p ≠ n := ne_of hp hn (fun e => by cases ns <;> simp at e)
    refine ⟨_, (pss_cons (ps_asg (pe_op (r := rAddX K) op_addX (pe_ix (r := rIx K) ix_seq (pv 0) pe_int (fun _ _ => rfl)) pe_int) (pg_sub (pv 0) pe_int set_list))
      (pss_cons (ps_if (pt_cmpR op_geX (pe_ix (r := rIx K) ix_seq (pv 0) pe_int (fun _ _ => rfl)) (pe_callB (r := rLenX K) call_lenX (by rfl) T.n_len (by decide +kernel) (pa_cons (pe_ix (r := rIx K) ix_seq (pv 0) pe_int (fun _ _ => rfl)) pa_nil)) (nomark _)) (pss_one (ps_ret (pe_c c__law_mixed hr (by decide) (by rfl) pass0 (pa_cons (pe_ix (r := rIx K) ix_seq (pv 0) pe_int (fun _ _ => rfl)) (pa_cons (pe_ix (r := rIx K) ix_seq (pv 0) pe_int (fun _ _ => rfl)) (pa_cons (pv 1) pa_nil)))))) pss_nil)
      (pss_cons (ps_set (i := 2) sc__law_draw.nd rfl (by first | exact Or.inl rfl | exact Or.inr rfl) (pe_ix (r := rIx K) ix_seq (pv 0) pe_int (fun _ _ => rfl)))
      (pss_cons (ps_set (i := 3) sc__law_draw.nd rfl (by first | exact Or.inl rfl | exact Or.inr rfl) (pe_ix (r := rIx K) ix_seq (pv 0) pe_int (fun _ _ => rfl)))
      (pss_cons (ps_set (i := 4) sc__law_draw.nd rfl (by first | exact Or.inl rfl | exact Or.inr rfl) (pe_ix (r := rIx K) ix_seq (pv 3) (pv 2) (fun _ _ => rfl)))
      (pss_cons (ps_if (PW.pt (pw_and (pt_cmpR (r := rNeX K) (op_neX hr.units) (pe_ix (r := rIx K) ix_seq (pv 0) pe_int (fun _ _ => rfl)) pe_int (nomark _)) (pw_and1 (pt_cmpR op_ltX (pv 4) (pe_op op_pow pe_int pe_int) (nomark _))))) (pss_cons (ps_asg (pe_op (r := rAddX K) op_addX (pe_ix (r := rIx K) ix_seq (pv 0) pe_int (fun _ _ => rfl)) pe_int) (pg_sub (pv 0) pe_int set_list))
      (pss_cons (ps_if (pt_cmpR (r := rEqX K) (op_eqX hr.units) (pe_ix (r := rIx K) ix_seq (pv 0) pe_int (fun _ _ => rfl)) pe_int (nomark _)) (pss_cons (ps_asg (pe_op (r := rAddX K) op_addX (pv 2) pe_int) (pg_sub (pv 0) pe_int set_list))
      (pss_one (ps_asg pe_int (pg_sub (pv 0) pe_int set_list)))) pss_nil)
      (pss_one (ps_ret (pe_c c__law_mixed hr (by decide) (by rfl) pass0 (pa_cons (pe_op op_mod (pe_callTy call_intX (by rfl) T.n_int (by decide +kernel) (pa_cons (pv 4) pa_nil)) pe_int) (pa_cons (pe_ix (r := rIx K) ix_seq (pv 0) pe_int (fun _ _ => rfl)) (pa_cons (pv 1) pa_nil)))))))) pss_nil)
      (pss_cons (ps_asg pe_int (pg_sub (pv 0) pe_int set_list))
      (pss_cons (ps_asg (pe_op op_fdX (pe_callTy call_intX (by rfl) T.n_int (by decide +kernel) (pa_cons (pv 4) pa_nil)) (pv 1)) (pg_sub (pv 3) (pv 2) set_list))
      (pss_cons (ps_if (pt_cmpR (r := rEqX K) (op_eqX hr.units) (pe_ix (r := rIx K) ix_seq (pv 3) (pv 2) (fun _ _ => rfl)) pe_int (nomark _)) (pss_cons (ps_asg (pe_op (r := rAddX K) op_addX (pv 2) pe_int) (pg_sub (pv 0) pe_int set_list))
      (pss_one (ps_asg pe_int (pg_sub (pv 0) pe_int set_list)))) pss_nil)
      (pss_one (ps_ret (pe_op op_mod (pe_callTy call_intX (by rfl) T.n_int (by decide +kernel) (pa_cons (pv 4) pa_nil)) (pv 1))))))))))))), ?_⟩
    walk_at "go"
    have kp : ∀ {H' : Hp}, (∀ b : Addr, b ≠ p → b ≠ n → H' b = H b) → Keep p n H H' := fun {H'} h b o e x y => (h b x y).trans e
    refine ift (fun hc => ?_) (fun hc => ?_)
    · walk_at "go"
      refine ⟨z, c + 1, m, rfl, h4, h5, by omega, by omega, h8, fun r r0 r1 => q r _ r0 r1 ⟨ns, a, c + 1, z, st, by walk_at "lk", by walk_at "lk", h1, by omega, by omega, h4, h5⟩ (kp fun b x y => ?_)⟩
      simp only [upd_ne x]
    · have ha : a.toNat < ns.length := by
        have e := of_decide_eq_false hc
        rw [List.length_map] at e
        omega
      have hx : atI (ns.map V.int) a = some (V.int ns[a.toNat]) := at_of (j := a.toNat) (by omega) (by rw [List.getElem?_map, List.getElem?_eq_getElem ha]; rfl)
      generalize ns[a.toNat] = y at hx
      have hj : ixN (ns.map V.int).length a = some a.toNat := by
        unfold ixN
        rw [List.length_map, if_pos h1, if_pos (by omega)]
      have hx2 : atI ((ns.map V.int).set a.toNat (V.int (y / m))) a = some (V.int (y / m)) := at_of (j := a.toNat) (by omega) (List.getElem?_set_self (by rw [List.length_map]; exact ha))
      have es : (ns.map V.int).set a.toNat (V.int (y / m)) = (ns.set a.toNat (y / m)).map V.int := List.map_set.symm
      have y0 : 0 ≤ y % 2147483647 := Int.emod_nonneg _ (by decide)
      have y1 : y % 2147483647 < 2147483647 := Int.emod_lt_of_pos _ (by decide)
      have m0 : 0 ≤ y % m := Int.emod_nonneg _ (by omega)
      have m1 : y % m < m := Int.emod_lt_of_pos _ h8
      have hw : CDivW y m := ⟨h8, h9⟩
      walk_at "go"
      refine ift (fun hd => ?_) (fun hd => ?_)
      · walk_at "go"
        refine ift (fun he => ?_) (fun he => ?_)
        · walk_at "go"
          refine ift (fun hf => ?_) (fun hf => ?_)
          · walk_at "go"
            refine ⟨_, c + 1, m, rfl, y0, y1, by omega, by omega, h8, fun r r0 r1 => q r _ r0 r1 ⟨ns, a + 1, c + 1, z, 0, by walk_at "lk", by walk_at "lk", by omega, by omega, by omega, h4, h5⟩ (kp fun b x y => ?_)⟩
            simp only [upd_ne x]
          · walk_at "go"
            refine ⟨_, c + 1, m, rfl, y0, y1, by omega, by omega, h8, fun r r0 r1 => q r _ r0 r1 ⟨ns, a, c + 1, z, st + 1, by walk_at "lk", by walk_at "lk", by omega, by omega, by omega, h4, h5⟩ (kp fun b x y => ?_)⟩
            simp only [upd_ne x]
        · walk_at "go"
          refine ift (fun hf => ?_) (fun hf => ?_)
          · walk_at "go"
            refine q _ _ m0 m1 ⟨ns.set a.toNat (y / m), a + 1, c + 1, z, 0, by walk_at "lk", by rw [← es]; walk_at "lk", by omega, by omega, by omega, h4, h5⟩ (kp fun b x y => ?_)
            simp only [upd_ne x, upd_ne y]
          · walk_at "go"
            refine q _ _ m0 m1 ⟨ns.set a.toNat (y / m), a, c + 1, z, 2, by walk_at "lk", by rw [← es]; walk_at "lk", by omega, by omega, by omega, h4, h5⟩ (kp fun b x y => ?_)
            simp only [upd_ne x, upd_ne y]
      · walk_at "go"
        refine ift (fun hf => ?_) (fun hf => ?_)
        · walk_at "go"
          refine q _ _ m0 m1 ⟨ns.set a.toNat (y / m), a + 1, c + 1, z, 0, by walk_at "lk", by rw [← es]; walk_at "lk", by omega, by omega, by omega, h4, h5⟩ (kp fun b x y => ?_)
          simp only [upd_ne x, upd_ne y]
        · walk_at "go"
          refine q _ _ m0 m1 ⟨ns.set a.toNat (y / m), a, c + 1, z, 2, by walk_at "lk", by rw [← es]; walk_at "lk", by omega, by omega, by omega, h4, h5⟩ (kp fun b x y => ?_)
          simp only [upd_ne x, upd_ne y]
def spPool (K : PySem.W.Frag) : Sp := fun vs H Q _ => ∃ (a : Addr) (ns : List Int), vs = [.ref a] ∧ SqL K H a (ns.map V.int) ∧ ns.length ≤ 63 ∧ ∀ (p n : Addr) (H' : Hp), PoolAt H' p n 0 → Same H H' → H p = none → H n = none → Q (.ref p) H'
theorem c__law_pool (T : Tx K mg C) : Cal P w K mg base CX0 1 "_law_pool" (spPool K) := by
  refine cal0 T.d_pool sc__law_pool (fun _ _ _ _ _ _ us hl => match us, hl with | [_], _ => rfl) (fun vs H Q E h => ?_) (fun f cdv A outer s H vs Q E hr h => ?_)
  · obtain ⟨a, ns, rfl, _⟩ := h
    rfl
  · obtain ⟨a, ns, rfl, hS, hl, q⟩ := h
    refine ⟨_, (pss_cons (ps_setLc (i := 1) (own := [("cell", 3)]) (g := gName 3) (tt := tYes) rfl sc__law_pool.nd rfl rfl (sw_true rfl rfl rfl (by decide +kernel)) (pi_listK (K := K) rfl (pe_slice (r := rSlXX K) sl_X (pv 0) po_none (po_some pe_int))) (blkOk_by (N := N__law_pool) (sc := defScope s__law_pool) (by decide +kernel)) (fun _ _ _ _ _ => (pg_name (i := 3) sc__law_pool.nd rfl (by first | exact Or.inl rfl | exact Or.inr rfl))) (fun _ _ _ _ _ => pts_nil) (fun _ _ _ _ _ => (pe_callTy call_intX (by rfl) T.n_int (by decide +kernel) (pa_cons (pv 3) pa_nil))))
      (pss_cons (ps_set (i := 2) sc__law_pool.nd rfl (by first | exact Or.inl rfl | exact Or.inr rfl) pe_int)
      (pss_cons (ps_for PassesOwn.never rfl (pi_listK (K := K) rfl (pv 1)) (pg_name (i := 3) sc__law_pool.nd rfl (by first | exact Or.inl rfl | exact Or.inr rfl)) (pss_one (ps_set (i := 2) sc__law_pool.nd rfl (by first | exact Or.inl rfl | exact Or.inr rfl) (pe_op op_mod (pe_callTy call_intX (by rfl) T.n_int (by decide +kernel) (pa_cons (pe_op (r := rAddX K) op_addX (pe_op op_muX (pv 2) pe_int) (pv 3)) pa_nil)) pe_int))))
      (pss_one (ps_ret (pe_lst (pa_cons (pv 1) (pa_cons pe_int (pa_cons pe_int (pa_cons (pv 2) (pa_cons pe_int pa_nil))))))))))), ?_⟩
    walk_at "go"
    rename_i l H1 n1 s1 h1
    have e1 : cutV (ns.map V.int) none (some 63) = ns.map V.int := by
      rw [show (63 : Int) = ((63 : Nat) : Int) from rfl, cutV_to, List.take_of_length_le (by rw [List.length_map]; exact hl)]
    rw [e1] at h1
    refine lcw_fm (xs := ns.map V.int) (j := 3) wx_list (fun _ => true) (fun x => x) (fun H' s => SqL.of (s _ _ h1)) (by rw [List.length_map]; omega) (fun _ => rfl) (fun x _ H' R _ k => k H' (Same.refl H')) (fun x hx _ H' R _ k => ?_) (fun d H2 n2 s2 h2 => ?_)
    · obtain ⟨z, _, rfl⟩ := List.mem_map.mp hx
      walk_at "go"
      exact k H' (Same.refl H')
    · rw [show (((ns.map V.int).filter fun _ => true).map fun x => x) = ns.map V.int by simp] at h2
      walk_at "go"
      refine fow (xs := ns.map V.int) wx_list (fun i σ' H' => ∃ (z : Int) (v : Option V), σ' = [some (.ref a), some (.ref d), some (.int z), v] ∧ 0 ≤ z ∧ z < 2147483647 ∧ H' = H2) ⟨11, none, rfl, by decide, by decide, rfl⟩ (fun i σ' H' ⟨_, _, _, _, _, e⟩ => e ▸ SqL.of h2) (fun i x σ' H' hx ⟨z, v, es, z0, z1, eh⟩ => ?_) (fun σ' H' ⟨z, v, es, z0, z1, eh⟩ => ?_)
      · obtain ⟨y, _, rfl⟩ := List.mem_map.mp (List.mem_of_getElem? hx)
        subst es eh
        walk_at "go"
        exact ⟨_, _, rfl, Int.emod_nonneg _ (by decide), Int.emod_lt_of_pos _ (by decide), rfl⟩
      · subst es eh
        walk_at "go"
        rename_i p H3 n3 s3 h3
        exact q p d H3 ⟨ns, 0, 0, z, 0, h3, s3 _ _ h2, by decide, by decide, by decide, z0, z1⟩ (by walk_at "sm") (Same.free (by walk_at "sm") n3) (Same.free (by walk_at "sm") n2)
def spLowest : Sp := fun vs H Q _ => ∃ t b : Int, vs = [.int t, .int b] ∧ 0 < b ∧ b.natAbs < 2 ^ 1000 ∧ ∀ (q : Addr) (H' : Hp) (u v : Int), H' q = some (.tup [.int u, .int v]) → H q = none → Same H H' → 0 < v → v ≤ b → u.natAbs ≤ t.natAbs → Q (.ref q) H'
theorem c__law_lowest (T : Tx K mg C) : Cal P w K mg base CX0 1 "_law_lowest" spLowest := by
  refine cal0 T.d_lowest sc__law_lowest (fun _ _ _ _ _ _ us hl => match us, hl with | [_, _], _ => rfl) (fun vs H Q E h => ?_) (fun f cdv A outer s H vs Q E hr h => ?_)
  · obtain ⟨t, b, rfl, _⟩ := h
    rfl
  · obtain ⟨t, b, rfl, b0, b1, q⟩ := h
    refine ⟨_, (pss_cons (ps_par (i := 2) (j := 3) (by rfl) sc__law_lowest.nd rfl rfl (by decide) rfl rfl (pa_cons (pe_callB call_abs (by rfl) T.n_abs (by decide +kernel) (pa_cons (pv 0) pa_nil)) (pa_cons (pv 1) pa_nil)) (by rfl))
      (pss_cons (ps_while PassesOwn.never (pt_cmpR op_gtX (pv 3) pe_int (nomark _)) (pss_one (ps_par (i := 2) (j := 3) (by rfl) sc__law_lowest.nd rfl rfl (by decide) rfl rfl (pa_cons (pv 3) (pa_cons (pe_op op_mod (pe_callTy call_intX (by rfl) T.n_int (by decide +kernel) (pa_cons (pv 2) pa_nil)) (pv 3)) pa_nil)) (by rfl))))
      (pss_one (ps_ret (pe_tup (pa_cons (pe_op op_fdX (pv 0) (pv 2)) (pa_cons (pe_op op_fdX (pv 1) (pv 2)) pa_nil))))))), ?_⟩
    walk_at "gr"
    refine ⟨fun m σ H' => ∃ x y : Nat, σ = [some (.int t), some (.int b), some (.int x), some (.int y)] ∧ H' = H ∧ m = y ∧ Nat.gcd x y = Nat.gcd t.natAbs b.natAbs, ⟨_, t.natAbs, b.natAbs, ?_, rfl, rfl, rfl⟩, ?_⟩
    · have e1 : (if t < 0 then -t else t) = (t.natAbs : Int) := by split <;> omega
      have e2 : (b.natAbs : Int) = b := by omega
      rw [e1, e2]
      rfl
    · rintro m σ H1 ⟨x, y, rfl, rfl, em, hg⟩
      walk_at "gr"
      refine ift (fun hc => ?_) (fun hc => ?_)
      · have hy : 0 < y := by have := of_decide_eq_true hc; omega
        have hy' : (0 : Int) < y := by omega
        refine ⟨fun σ' H' => ∃ x' y' : Nat, σ' = [some (.int t), some (.int b), some (.int x'), some (.int y')] ∧ H' = H1 ∧ y' < y ∧ Nat.gcd x' y' = Nat.gcd t.natAbs b.natAbs, fun σ' H' ⟨x', y', e1, e2, l, e3⟩ => ⟨y', by rw [em]; exact l, x', y', e1, e2, rfl, e3⟩, ?_⟩
        walk_at "gr"
        refine ⟨y, x % y, ?_, rfl, Nat.mod_lt _ hy, ?_⟩
        · rfl
        · rw [← hg, Nat.gcd_comm x y, Nat.gcd_rec y x, Nat.gcd_comm]
      · have hy : y = 0 := by have := of_decide_eq_false hc; omega
        rw [hy, Nat.gcd_zero_right] at hg
        have gd : x ∣ b.natAbs := hg ▸ Nat.gcd_dvd_right _ _
        have x0 : 0 < x := Nat.pos_of_ne_zero fun e => by rw [e] at gd; have := Nat.eq_zero_of_zero_dvd gd; omega
        have xb : x ≤ b.natAbs := Nat.le_of_dvd (by omega) gd
        have lg : (x : Int).natAbs.log2 < 9000 := Nat.lt_of_lt_of_le (PySem.Flt.log2_lt_of (k := 1000) (by decide) (Nat.lt_of_le_of_lt xb b1)) (by decide)
        have l : CDivW t (x : Int) := ⟨by omega, lg⟩
        have l' : CDivW b (x : Int) := ⟨by omega, lg⟩
        walk_at "gr"
        rename_i L H2 n2 s2 e2
        refine q L H2 _ _ e2 n2 s2 ?_ ?_ ?_
        · exact Int.ediv_pos_of_pos_of_dvd b0 (by omega) (by have := Int.natCast_dvd_natCast.mpr gd; rwa [show ((b.natAbs : Nat) : Int) = b by omega] at this)
        · exact Int.ediv_le_self _ (by omega)
        · obtain ⟨c, hc⟩ : (x : Int) ∣ t := by
            have g : x ∣ t.natAbs := hg ▸ Nat.gcd_dvd_left _ _
            exact Int.natAbs_dvd_natAbs.mp (by simpa using g)
          rw [hc, Int.mul_ediv_cancel_left _ (by omega), Int.natAbs_mul, Int.natAbs_natCast]
          exact Nat.le_mul_of_pos_left _ x0
theorem log29 {z : Int} (h0 : 0 < z) (h : z ≤ 10 ^ 29) : z.natAbs.log2 < 9000 := Nat.lt_of_lt_of_le (PySem.Flt.log2_lt_of (k := 100) (by decide) (by
  have e : (10 : Int) ^ 29 < 2 ^ 100 := by decide
  have : z < 2 ^ 100 := by omega
  omega)) (by decide)
theorem mul29 {a y : Int} (h0 : 0 ≤ a) (h : a < 10 ^ 40) (hy : y = 1 ∨ y = -1) : CMulW a y := wide_mul (a := 200) (b := 10) (by
  have e : (10 : Int) ^ 40 < 2 ^ 200 := by decide
  omega) (by omega) (by decide) (by decide) (by decide)
def spInteger : Sp := fun vs H Q _ => ∃ (p n : Addr) (k : Int), vs = [.ref p] ∧ PoolAt H p n k ∧ 0 ≤ k ∧ k < 999999000 ∧ ∀ (r : Int) (H' : Hp), r.natAbs < 10 ^ 29 → PoolAt H' p n (k + 3) → Keep p n H H' → Q (.int r) H'
theorem c__law_integer (T : Tx K mg C) : Cal P w K mg base CX0 3 "_law_integer" spInteger := by
  have c__law_draw : Cal P w K mg base CX0 2 "_law_draw" spDraw := c__law_draw T
  refine cal0 T.d_integer sc__law_integer (fun _ _ _ _ _ _ us hl => match us, hl with | [_], _ => rfl) (fun vs H Q E h => ?_) (fun f cdv A outer s H vs Q E hr h => ?_)
  · obtain ⟨p, n, k, rfl, _⟩ := h
    rfl
  · obtain ⟨p, n, k, rfl, hp, k0, k1, q⟩ := h
    refine ⟨_, (pss_cons (ps_set (i := 1) sc__law_integer.nd rfl (by first | exact Or.inl rfl | exact Or.inr rfl) (pe_ix (r := rIx K) ix_seq (pe_lst (pa_cons pe_int (pa_cons pe_int (pa_cons pe_int (pa_cons (pe_op op_pow pe_int pe_int) pa_nil))))) (pe_c c__law_draw hr (by decide) (by rfl) pass0 (pa_cons (pv 0) (pa_cons pe_int pa_nil))) (fun _ _ => rfl)))
      (pss_one (ps_ret (pe_op op_muX (pe_c c__law_draw hr (by decide) (by rfl) pass0 (pa_cons (pv 0) (pa_cons (pv 1) pa_nil))) (pe_ix (r := rIx K) ix_seq (pe_lst (pa_cons pe_int (pa_cons (pe_un un_neg pe_int) pa_nil))) (pe_c c__law_draw hr (by decide) (by rfl) pass0 (pa_cons (pv 0) (pa_cons pe_int pa_nil))) (fun _ _ => rfl)))))), ?_⟩
    walk_at "gr"
    rename_i L H0 nL sL eL
    obtain ⟨ne1, ne2⟩ := hp.ne nL
    refine ⟨p, n, 4, k, rfl, hp.same sL, k0, by omega, by decide, by decide +kernel, fun r H1 r0 r1 hp1 kp1 => ?_⟩
    have eL1 := kp1.get eL ne1 ne2
    obtain ⟨z, hz, z0, z1⟩ : ∃ z : Int, atI [V.int 9, V.int 9, V.int 40, V.int (10 ^ 29)] r = some (.int z) ∧ 0 < z ∧ z ≤ 10 ^ 29 := by
      rcases (by omega : r = 0 ∨ r = 1 ∨ r = 2 ∨ r = 3) with rfl | rfl | rfl | rfl <;> exact ⟨_, rfl, by decide, by decide⟩
    walk_at "gr"
    refine ⟨p, n, z, k + 1, rfl, hp1, by omega, by omega, z0, log29 z0 z1, fun r2 H2 q0 q1 hp2 kp2 => ?_⟩
    walk_at "gr"
    rename_i L' H3 nL' sL' eL'
    obtain ⟨ne1', ne2'⟩ := hp2.ne nL'
    refine ⟨p, n, 2, k + 1 + 1, rfl, hp2.same sL', by omega, by omega, by decide, by decide +kernel, fun r4 H4 u0 u1 hp4 kp4 => ?_⟩
    have eL4 := kp4.get eL' ne1' ne2'
    obtain ⟨y, hy, hy2⟩ : ∃ y : Int, atI [V.int 1, V.int (-1)] r4 = some (.int y) ∧ (y = 1 ∨ y = -1) := by
      rcases (by omega : r4 = 0 ∨ r4 = 1) with rfl | rfl
      · exact ⟨1, rfl, .inl rfl⟩
      · exact ⟨-1, rfl, .inr rfl⟩
    have cm : CMulW r2 y := mul29 q0 (by omega) hy2
    walk_at "gr"
    refine q _ _ ?_ (hp4.mono (by omega)) ((((Keep.same sL).trans kp1).trans kp2).trans ((Keep.same sL').trans kp4))
    rcases hy2 with rfl | rfl <;> omega
theorem keep_none {p n a : Addr} {k : Int} {H H' : Hp} (e : Keep p n H H') (h : PoolAt H' p n k) (z : H' a = none) : H a = none := by
  obtain ⟨n1, n2⟩ := h.ne z
  cases q : H a with
  | none => rfl
  | some o => rw [e a o q n1 n2] at z; cases z
def spPair : Sp := fun vs H Q _ => ∃ (p n : Addr) (k : Int), vs = [.ref p] ∧ PoolAt H p n k ∧ 0 ≤ k ∧ k < 999990000 ∧ ∀ (q : Addr) (t b : Int) (H' : Hp), t.natAbs < 10 ^ 30 → b ≠ 0 → b.natAbs < 10 ^ 31 → H' q = some (.tup [.int t, .int b]) → H q = none → PoolAt H' p n (k + 8) → Keep p n H H' → Q (.ref q) H'
theorem c__law_pair (T : Tx K mg C) : Cal P w K mg base CX0 4 "_law_pair" spPair := by
  have c__law_draw : Cal P w K mg base CX0 2 "_law_draw" spDraw := c__law_draw T
  have c__law_integer : Cal P w K mg base CX0 3 "_law_integer" spInteger := c__law_integer T
  refine cal0 T.d_pair sc__law_pair (fun _ _ _ _ _ _ us hl => match us, hl with | [_], _ => rfl) (fun vs H Q E h => ?_) (fun f cdv A outer s H vs Q E hr h => ?_)
  · obtain ⟨p, n, k, rfl, _⟩ := h
    rfl
  · obtain ⟨p, n, k, rfl, hp, k0, k1, q⟩ := h
    refine ⟨_, (pss_cons (ps_par (i := 2) (j := 3) (by rfl) sc__law_pair.nd rfl rfl (by decide) rfl rfl (pa_cons (pe_c c__law_integer hr (by decide) (by rfl) pass0 (pa_cons (pv 0) pa_nil)) (pa_cons (pe_op (r := rAddX K) op_addX pe_int (pe_callB call_abs (by rfl) T.n_abs (by decide +kernel) (pa_cons (pe_c c__law_integer hr (by decide) (by rfl) pass0 (pa_cons (pv 0) pa_nil)) pa_nil))) pa_nil)) (by rfl))
      (pss_cons (ps_set (i := 1) sc__law_pair.nd rfl (by first | exact Or.inl rfl | exact Or.inr rfl) (pe_ix (r := rIx K) ix_seq (pe_lst (pa_cons pe_int (pa_cons pe_int (pa_cons pe_int (pa_cons pe_int pa_nil))))) (pe_c c__law_draw hr (by decide) (by rfl) pass0 (pa_cons (pv 0) (pa_cons pe_int pa_nil))) (fun _ _ => rfl)))
      (pss_one (ps_ret (pe_tup (pa_cons (pe_op op_muX (pv 2) (pv 1)) (pa_cons (pe_op op_muX (pe_op op_muX (pv 3) (pv 1)) (pe_ix (r := rIx K) ix_seq (pe_lst (pa_cons pe_int (pa_cons (pe_un un_neg pe_int) pa_nil))) (pe_c c__law_draw hr (by decide) (by rfl) pass0 (pa_cons (pv 0) (pa_cons pe_int pa_nil))) (fun _ _ => rfl))) pa_nil))))))), ?_⟩
    walk_at "gr"
    refine ⟨p, n, k, rfl, hp, k0, by omega, fun r1 H1 l1 hp1 kp1 => ?_⟩
    walk_at "gr"
    refine ⟨p, n, k + 3, rfl, hp1, by omega, by omega, fun r2 H2 l2 hp2 kp2 => ?_⟩
    walk_at "gr"
    rename_i L H3 nL sL eL
    obtain ⟨ne1, ne2⟩ := hp2.ne nL
    refine ⟨p, n, 4, k + 3 + 3, rfl, hp2.same sL, by omega, by omega, by decide, by decide +kernel, fun r4 H4 u0 u1 hp4 kp4 => ?_⟩
    have eL4 := kp4.get eL ne1 ne2
    obtain ⟨y, hy, hy2⟩ : ∃ y : Int, atI [V.int 1, V.int 1, V.int 2, V.int 6] r4 = some (.int y) ∧ (y = 1 ∨ y = 2 ∨ y = 6) := by
      rcases (by omega : r4 = 0 ∨ r4 = 1 ∨ r4 = 2 ∨ r4 = 3) with rfl | rfl | rfl | rfl <;> exact ⟨_, rfl, by decide⟩
    walk_at "gr"
    rename_i L5 H5 nL5 sL5 eL5
    obtain ⟨ne1', ne2'⟩ := hp4.ne nL5
    refine ⟨p, n, 2, k + 3 + 3 + 1, rfl, hp4.same sL5, by omega, by omega, by decide, by decide +kernel, fun r6 H6 u0 u1 hp6 kp6 => ?_⟩
    have eL6 := kp6.get eL5 ne1' ne2'
    obtain ⟨x, hx, hx2⟩ : ∃ y : Int, atI [V.int 1, V.int (-1)] r6 = some (.int y) ∧ (y = 1 ∨ y = -1) := by
      rcases (by omega : r6 = 0 ∨ r6 = 1) with rfl | rfl
      · exact ⟨1, rfl, .inl rfl⟩
      · exact ⟨-1, rfl, .inr rfl⟩
    have e2 : (if r2 < 0 then -r2 else r2) = (r2.natAbs : Int) := by split <;> omega
    rw [e2]
    have cm : CMulW ((1 + (r2.natAbs : Int)) * y) x := mul29 (by rcases hy2 with rfl | rfl | rfl <;> omega) (by rcases hy2 with rfl | rfl | rfl <;> omega) hx2
    walk_at "gr"
    rename_i L7 H7 nL7 sL7 eL7
    refine q L7 _ _ _ ?_ ?_ ?_ eL7 ?_ (hp6.same sL7 |>.mono (by omega)) ?_
    · rcases hy2 with rfl | rfl | rfl <;> omega
    · rcases hy2 with rfl | rfl | rfl <;> rcases hx2 with rfl | rfl <;> omega
    · rcases hy2 with rfl | rfl | rfl <;> rcases hx2 with rfl | rfl <;> omega
    · exact keep_none (((((kp1.trans kp2).trans (Keep.same sL)).trans kp4).trans (Keep.same sL5)).trans kp6) hp6 nL7
    · exact (((((kp1.trans kp2).trans (Keep.same sL)).trans kp4).trans (Keep.same sL5)).trans kp6).trans (Keep.same sL7)
/-! ### comparisons -/
abbrev fLt (t b u v : Int) : Bool := decide (t * v < u * b)
abbrev fLe (t b u v : Int) : Bool := decide (t * v ≤ u * b)
abbrev fGt (t b u v : Int) : Bool := decide (t * v > u * b)
abbrev fGe (t b u v : Int) : Bool := decide (t * v ≥ u * b)
def rCmp (C : Addr) (sp sp' : Sp) : R2 := fun x y H Q => rOwn C sp x y H Q ∨ rRef C sp' x y H Q
def Sm (t b : Int) : Prop := t.natAbs < 2 ^ 4000 ∧ b.natAbs < 2 ^ 4000
def Low (t b : Int) : Prop := 0 < b ∧ Nat.gcd t.natAbs b.natAbs = 1
theorem Nb.same {H H' : Hp} {x : V} {t b : Int} (s : Same H H') (h : Nb C H x t b) : Nb C H' x t b := by
  cases h with
  | int => exact .int _
  | rat h => exact .rat (h.same s)
theorem Nb.own {H : Hp} {a : Addr} {t b : Int} (h : RAt C H a t b) : ∃ dx fs, H a = some (.ins C dx fs) := h.elim fun dx e => ⟨dx, _, e⟩
theorem Nb.side {H : Hp} {y : V} {t b : Int} (h : Nb C H y t b) : (∃ kn, Kd H y kn) ∨ (∃ a dx fs, y = .ref a ∧ H a = some (.ins C dx fs)) := by
  cases h with
  | int => exact .inl ⟨_, .int _⟩
  | rat h => exact .inr (h.elim fun dx e => ⟨_, dx, _, rfl, e⟩)
theorem p_cmp {H : Hp} {Q : VK} {x y : V} {t b u v : Int} {f f' : Int → Int → Int → Int → Bool} (e : f' u v t b = f t b u v) (hx : Nb C H x t b) (hy : Nb C H y u v) (one : (∃ a, x = .ref a) ∨ ∃ a, y = .ref a) (m : Sm t b) (n : Sm u v) (q : ∀ H', Same H H' → Q (.bl (f t b u v)) H') : rCmp C (Rel4 f C) (Rel4 f' C) x y H Q := by
  cases hx with
  | rat h =>
    obtain ⟨dx, h1⟩ := id h
    exact .inl ⟨_, dx, _, rfl, h1, hy.side, _, _, _, _, _, _, rfl, h, hy, m, n, q⟩
  | int =>
    cases hy with
    | int => rcases one with ⟨a, z⟩ | ⟨a, z⟩ <;> cases z
    | rat h =>
      obtain ⟨dx, h1⟩ := id h
      exact .inr ⟨_, _, dx, _, rfl, rfl, h1, _, _, _, _, _, _, rfl, h, .int _, n, m, fun H' s => by rw [e]; exact q H' s⟩
theorem low_eq {t b u v : Int} (h1 : Low t b) (h2 : Low u v) : (decide (t = u) && decide (b = v)) = decide (t * v = u * b) := by
  rw [Bool.eq_iff_iff, Bool.and_eq_true, decide_eq_true_iff, decide_eq_true_iff, decide_eq_true_iff]
  constructor
  · rintro ⟨rfl, rfl⟩
    rfl
  · intro e
    have e2 : t.natAbs * v.natAbs = u.natAbs * b.natAbs := by rw [← Int.natAbs_mul, ← Int.natAbs_mul, e]
    have d1 : b.natAbs ∣ v.natAbs := (Nat.Coprime.symm h1.2).dvd_of_dvd_mul_left (e2 ▸ Nat.dvd_mul_left _ _)
    have d2 : v.natAbs ∣ b.natAbs := (Nat.Coprime.symm h2.2).dvd_of_dvd_mul_left (e2 ▸ Nat.dvd_mul_left _ _)
    have e3 := Nat.dvd_antisymm d1 d2
    have e4 : b = v := by have := h1.1; have := h2.1; omega
    subst e4
    exact ⟨Int.eq_of_mul_eq_mul_right (by have := h1.1; omega) e, rfl⟩
theorem p_eqR {H : Hp} {Q : VK} {x y : V} {t b u v : Int} (hx : Nb C H x t b) (hy : Nb C H y u v) (one : (∃ a, x = .ref a) ∨ ∃ a, y = .ref a) (m : Low t b) (n : Low u v) (g : Bool → Bool) (sp : Sp) (hsp : ∀ a t b y r H Q, RAt C H a t b → Er C H t b y r → Q (.bl (g r)) H → sp [.ref a, y] H Q E0) (q : Q (.bl (g (decide (t * v = u * b)))) H) : rCmp C sp sp x y H Q := by
  rw [← low_eq m n] at q
  cases hx with
  | rat h =>
    obtain ⟨dx, h1⟩ := id h
    refine .inl ⟨_, dx, _, rfl, h1, hy.side, ?_⟩
    cases hy with
    | rat h' => exact hsp _ _ _ _ _ _ _ h (.rat h') q
    | int => exact hsp _ _ _ _ _ _ _ h .int (by rw [Bool.and_comm]; exact q)
  | int =>
    cases hy with
    | int => rcases one with ⟨a, z⟩ | ⟨a, z⟩ <;> cases z
    | rat h =>
      obtain ⟨dx, h1⟩ := id h
      refine .inr ⟨_, _, dx, _, rfl, rfl, h1, hsp _ _ _ _ _ _ _ h .int ?_⟩
      rw [Bool.and_comm, show decide (v = 1) = decide ((1 : Int) = v) from decide_eq_decide.mpr ⟨Eq.symm, Eq.symm⟩, show decide (u = t) = decide (t = u) from decide_eq_decide.mpr ⟨Eq.symm, Eq.symm⟩]
      exact q
def signsV (m n : Int) : List V := [.bl (decide (m < n)), .bl (decide (m ≤ n)), .bl (decide (m > n)), .bl (decide (m ≥ n)), .bl (decide (m = n)), .bl (!decide (m = n))]
def spSigns (C : Addr) : Sp := fun vs H Q _ => ∃ x y t b u v, vs = [x, y] ∧ Nb C H x t b ∧ Nb C H y u v ∧ ((∃ a, x = .ref a) ∨ ∃ a, y = .ref a) ∧ Sm t b ∧ Sm u v ∧ Low t b ∧ Low u v ∧ ∀ q H', H' q = some (.lst (signsV (t * v) (u * b))) → H q = none → Same H H' → Q (.ref q) H'
theorem c__law_signs (T : Tx K mg C) : Cal P w K mg base CX0 6 "_law_signs" (spSigns C) := by
  have m_lt : OwnM P w K mg base 5 C "__lt__" (Rel4 fLt C) := c_lt T.R
  have m_le : OwnM P w K mg base 5 C "__le__" (Rel4 fLe C) := c_le T.R
  have m_gt : OwnM P w K mg base 5 C "__gt__" (Rel4 fGt C) := c_gt T.R
  have m_ge : OwnM P w K mg base 5 C "__ge__" (Rel4 fGe C) := c_ge T.R
  have m_eq : OwnM P w K mg base 3 C "__eq__" (spEq C) := c_eq T.R
  have m_ne : OwnM P w K mg base 4 C "__ne__" (spNe C) := c_ne T.R
  refine cal0 T.d_signs sc__law_signs (fun _ _ _ _ _ _ us hl => match us, hl with | [_, _], _ => rfl) (fun vs H Q E h => ?_) (fun f cdv A outer s H vs Q E hr h => ?_)
  · obtain ⟨x, y, t, b, u, v, rfl, _⟩ := h
    rfl
  · obtain ⟨x, y, t, b, u, v, rfl, hx, hy, one, m, n, l1, l2, q⟩ := h
    refine ⟨_, (pss_one (ps_ret (pe_lst (pa_cons (pe_cmpR (r := rCmp C (Rel4 fLt C) (Rel4 fGt C)) ((op_own (m := "__lt__") (fun _ _ => rfl) m_lt rfl (by decide) hr T.R.ap).or (op_ownR (m := "__gt__") (fun _ _ => rfl) m_gt rfl (by decide) hr T.R.sI PySem.F.slot_int_lt PySem.F.entry_int_lt (fun a b => PySem.F.args_int_lt_2 a b) int_lt_ref)) (pv 0) (pv 1) (nomark _)) (pa_cons (pe_cmpR (r := rCmp C (Rel4 fLe C) (Rel4 fGe C)) ((op_own (m := "__le__") (fun _ _ => rfl) m_le rfl (by decide) hr T.R.ap).or (op_ownR (m := "__ge__") (fun _ _ => rfl) m_ge rfl (by decide) hr T.R.sI PySem.F.slot_int_le PySem.F.entry_int_le (fun a b => PySem.F.args_int_le_2 a b) int_le_ref)) (pv 0) (pv 1) (nomark _)) (pa_cons (pe_cmpR (r := rCmp C (Rel4 fGt C) (Rel4 fLt C)) ((op_own (m := "__gt__") (fun _ _ => rfl) m_gt rfl (by decide) hr T.R.ap).or (op_ownR (m := "__lt__") (fun _ _ => rfl) m_lt rfl (by decide) hr T.R.sI PySem.F.slot_int_gt PySem.F.entry_int_gt (fun a b => PySem.F.args_int_gt_2 a b) int_gt_ref)) (pv 0) (pv 1) (nomark _)) (pa_cons (pe_cmpR (r := rCmp C (Rel4 fGe C) (Rel4 fLe C)) ((op_own (m := "__ge__") (fun _ _ => rfl) m_ge rfl (by decide) hr T.R.ap).or (op_ownR (m := "__le__") (fun _ _ => rfl) m_le rfl (by decide) hr T.R.sI PySem.F.slot_int_ge PySem.F.entry_int_ge (fun a b => PySem.F.args_int_ge_2 a b) int_ge_ref)) (pv 0) (pv 1) (nomark _)) (pa_cons (pe_cmpR (r := rCmp C (spEq C) (spEq C)) ((op_own (m := "__eq__") (fun _ _ => rfl) m_eq rfl (by decide) hr T.R.ap).or (op_ownR (m := "__eq__") (fun _ _ => rfl) m_eq rfl (by decide) hr T.R.sI PySem.F.slot_int_eq PySem.F.entry_int_eq (fun a b => PySem.F.args_int_eq_2 a b) int_eq_ref)) (pv 0) (pv 1) (nomark _)) (pa_cons (pe_cmpR (r := rCmp C (spNe C) (spNe C)) ((op_own (m := "__ne__") (fun _ _ => rfl) m_ne rfl (by decide) hr T.R.ap).or (op_ownR (m := "__ne__") (fun _ _ => rfl) m_ne rfl (by decide) hr T.R.sI PySem.F.slot_int_ne PySem.F.entry_int_ne (fun a b => PySem.F.args_int_ne_2 a b) int_ne_ref)) (pv 0) (pv 1) (nomark _)) pa_nil))))))))), ?_⟩
    walk_at "gr"
    refine p_cmp rfl hx hy one m n fun H1 s1 => ?_
    have hx1 := hx.same s1
    have hy1 := hy.same s1
    walk_at "gr"
    refine p_cmp rfl hx1 hy1 one m n fun H2 s2 => ?_
    have hx2 := hx1.same s2
    have hy2 := hy1.same s2
    walk_at "gr"
    refine p_cmp rfl hx2 hy2 one m n fun H3 s3 => ?_
    have hx3 := hx2.same s3
    have hy3 := hy2.same s3
    walk_at "gr"
    refine p_cmp rfl hx3 hy3 one m n fun H4 s4 => ?_
    have hx4 := hx3.same s4
    have hy4 := hy3.same s4
    walk_at "gr"
    refine p_eqR hx4 hy4 one l1 l2 id (spEq C) (fun a t b y r H Q h e k => ⟨a, t, b, y, r, rfl, h, e, k⟩) ?_
    walk_at "gr"
    refine p_eqR hx4 hy4 one l1 l2 (fun r => !r) (spNe C) (fun a t b y r H Q h e k => ⟨a, t, b, y, r, rfl, h, e, k⟩) ?_
    walk_at "gr"
    rename_i q' H5 n5 s5 e5
    have s04 : Same H H4 := s1.trans (s2.trans (s3.trans s4))
    exact q q' H5 e5 (s04.free n5) (s04.trans s5)
def spDue : Sp := fun vs H Q _ => ∃ a c t b u v, vs = [.ref a, .ref c] ∧ H a = some (.tup [.int t, .int b]) ∧ H c = some (.tup [.int u, .int v]) ∧ Sm t b ∧ Sm u v ∧ ∀ q H', H' q = some (.lst (signsV (t * v) (u * b))) → H q = none → Same H H' → Q (.ref q) H'
theorem c__law_due (T : Tx K mg C) : Cal P w K mg base CX0 1 "_law_due" spDue := by
  refine cal0 T.d_due sc__law_due (fun _ _ _ _ _ _ us hl => match us, hl with | [_, _], _ => rfl) (fun vs H Q E h => ?_) (fun f cdv A outer s H vs Q E hr h => ?_)
  · obtain ⟨a, c, t, b, u, v, rfl, _⟩ := h
    rfl
  · obtain ⟨a, c, t, b, u, v, rfl, h1, h2, m, n, q⟩ := h
    refine ⟨_, (pss_cons (ps_par (i := 2) (j := 3) (by rfl) sc__law_due.nd rfl rfl (by decide) rfl rfl (pa_cons (pe_op op_muX (pe_ix (r := rIx K) ix_seq (pv 0) pe_int (fun _ _ => rfl)) (pe_ix (r := rIx K) ix_seq (pv 1) pe_int (fun _ _ => rfl))) (pa_cons (pe_op op_muX (pe_ix (r := rIx K) ix_seq (pv 1) pe_int (fun _ _ => rfl)) (pe_ix (r := rIx K) ix_seq (pv 0) pe_int (fun _ _ => rfl))) pa_nil)) (by rfl))
      (pss_one (ps_ret (pe_lst (pa_cons (pe_cmpR op_ltX (pv 2) (pv 3) (nomark _)) (pa_cons (pe_cmpR op_leX (pv 2) (pv 3) (nomark _)) (pa_cons (pe_cmpR op_gtX (pv 2) (pv 3) (nomark _)) (pa_cons (pe_cmpR op_geX (pv 2) (pv 3) (nomark _)) (pa_cons (pe_cmpR (r := rEqX K) (op_eqX hr.units) (pv 2) (pv 3) (nomark _)) (pa_cons (pe_cmpR (r := rNeX K) (op_neX hr.units) (pv 2) (pv 3) (nomark _)) pa_nil)))))))))), ?_⟩
    have e1 : atI [V.int t, V.int b] 0 = some (.int t) := rfl
    have e2 : atI [V.int t, V.int b] 1 = some (.int b) := rfl
    have e3 : atI [V.int u, V.int v] 0 = some (.int u) := rfl
    have e4 : atI [V.int u, V.int v] 1 = some (.int v) := rfl
    have w1 : CMulW t v := wide_mul m.1 n.2 (by decide) (by decide) (by decide)
    have w2 : CMulW u b := wide_mul n.1 m.2 (by decide) (by decide) (by decide)
    walk_at "gr"
    rename_i q' H5 n5 s5 e5
    exact q q' H5 e5 n5 s5
end
end Pk

namespace Pk
open PySem PySem.Spec PyProof.Rows L2
local macro_rules | `(tactic| walk_at "sz") => `(tactic| first | assumption | decide +kernel | exact Nat.le_trans (Nat.le_of_ble_eq_true rfl) (show 100000 ≤ sizeLine by decide) | exact Nat.le_trans (by omega) (show 100000 ≤ sizeLine by decide) | (show _ ≤ sizeLine; exact Nat.le_trans (by (simp only [List.length_append, List.length_map, List.length_cons, List.length_nil]; omega)) (show 100000 ≤ sizeLine by decide)))
local macro_rules | `(tactic| walk_at "mul") => `(tactic| first | exact Or.inl (Or.inl ⟨by omega, by omega⟩) | exact Or.inl (Or.inr ⟨by omega, by omega⟩))
local macro_rules | `(tactic| walk_at "ci") => `(tactic| first | assumption | exact (by decide : (0 : Int) < _) | (show (0 : Int) < _; omega) | exact ⟨by assumption, by assumption⟩ | exact ⟨by decide, by decide⟩ | exact ⟨by decide, by decide, by omega⟩)
local macro_rules | `(tactic| walk_at "lk") => `(tactic| first | assumption | exact upd_same | ((refine Eq.trans (upd_ne (by first | assumption | exact Ne.symm (by assumption))) ?_); walk_at "lk") | exact Same.get (by assumption) (by walk_at "lk") | exact Keep.get (by assumption) (by walk_at "lk") (by assumption) (by assumption))
local macro_rules | `(tactic| walk_at "sq") => `(tactic| first | assumption | exact SqL.of (by walk_at "lk") | exact Same.seq (by assumption) (by walk_at "sq"))
local macro_rules | `(tactic| walk_at "stt") => `(tactic| exact SqT.of (by walk_at "lk"))
local macro_rules | `(tactic| walk_at "kd") => `(tactic| first | assumption | exact Kd.str _ (by first | assumption | omega | decide) | exact Kd.bl _ | exact Kd.int _ | exact Kd.non | exact Kd.lst (by walk_at "lk") | exact Kd.tup (by walk_at "lk") | exact Kd.dct (by walk_at "lk") | exact Kd.same (by assumption) (by walk_at "kd"))
local macro_rules | `(tactic| walk_at "sm") => `(tactic| first | assumption | exact Same.refl _ | (refine Same.trans ?_ (by assumption); walk_at "sm"))
local macro_rules | `(tactic| walk_at "st") => `(tactic| first
  | with_reducible refine i_seq ?_ | with_reducible refine i_asg ?_ | with_reducible refine i_ret ?_ | with_reducible refine i_op ?_
  | ((with_reducible show tVar _ _ _ _); refine i_var rfl ?_)
  | with_reducible refine i_c ?_ | with_reducible refine i_cb ?_ | with_reducible refine i_call ?_ | with_reducible refine i_cons ?_ | with_reducible refine i_nil ?_
  | with_reducible refine i_name ?_ | with_reducible refine i_sub ?_ | with_reducible refine i_drop ?_ | with_reducible refine i_ifs ?_ | with_reducible refine i_ife ?_
  | with_reducible refine i_test ?_ | with_reducible refine i_tru ?_ | with_reducible refine i_and ?_ | with_reducible refine i_or ?_ | with_reducible refine i_not ?_
  | with_reducible refine i_andV ?_ | with_reducible refine i_orV ?_ | with_reducible refine i_notV ?_ | with_reducible refine i_un ?_
  | with_reducible refine i_bl ?_ | with_reducible refine i_trB ?_ | with_reducible refine i_next ?_
  | with_reducible refine iteF ?_ | with_reducible refine iteT ?_
  | with_reducible refine i_lstF ?_ | with_reducible refine i_tupF ?_
  | with_reducible refine p_addI ?_ | with_reducible refine p_I0 ?_ | with_reducible refine p_U ?_
  | with_reducible refine p_ltI ?_ | with_reducible refine p_leI ?_ | with_reducible refine p_gtI ?_ | with_reducible refine p_geI ?_
  | with_reducible refine p_ltS ?_ | with_reducible refine p_leS ?_ | with_reducible refine p_gtS ?_
  | with_reducible refine p_eqI ?_ | with_reducible refine p_neI ?_ | with_reducible refine p_int ?_
  | ((with_reducible show rMuXX (V.int _) (V.int _) _ _); refine p_muI (by walk_at "mul") ?_)
  | ((with_reducible show rI _ _ (V.int _) (V.int _) _ _); refine p_I (by walk_at "ci") ?_)
  | ((with_reducible show rIx _ (V.ref _) (V.int _) _ _); (first | refine p_ixL (by walk_at "sq") (by first | exact rfl | assumption) ?_ | refine p_ixT (SqT.of (by walk_at "lk")) (by first | exact rfl | assumption) ?_))
  | ((with_reducible show rSetL (V.ref _) (V.int _) _ _ _); refine p_setL (by walk_at "lk") (by first | exact rfl | assumption) ?_)
  | ((with_reducible show rLenX _ [V.ref _] _ _); (first | refine p_lenL (by walk_at "sq") ?_ | refine p_lenT (SqT.of (by walk_at "lk")) ?_))
  | ((with_reducible show rLenX _ [V.str _] _ _); refine p_lenS (by walk_at "sz") ?_)
  | with_reducible refine i_lc ?_ | with_reducible refine i_for ?_ | with_reducible refine i_itl ?_ | with_reducible refine i_itt ?_ | with_reducible refine i_itr ?_ | with_reducible refine i_its ?_
  | ((with_reducible show ∃ _, V.ref _ = V.ref _ ∧ (∃ _, SqL _ _ _ _) ∧ _); refine p_itl (by walk_at "sq") ?_)
  | ((with_reducible show ∃ _, V.ref _ = V.ref _ ∧ (∃ _, SqT _ _ _ _) ∧ _); refine p_itt (by walk_at "stt") ?_) | with_reducible refine p_its ?_
  | ((with_reducible show ∃ _, [V.int _] = [V.int _] ∧ _); refine p_itr (by omega) (by omega) ?_)
  | with_reducible refine i_sl ?_ | with_reducible refine i_np ?_ | with_reducible refine i_pt ?_ | with_reducible refine i_in ?_
  | ((with_reducible show rSlXX _ (V.ref _) _ _ _ _); refine p_slL (by walk_at "sq") ?_; intro _ _ _ _ _)
  | ((with_reducible show rSlXX _ (V.str _) _ _ _ _); refine p_slS (by walk_at "sz") ?_)
  | ((with_reducible show rIsi _ [_, V.ty "str"] _ _); refine p_isStr (by walk_at "kd") ?_)
  | ((with_reducible show rIsi _ [_, V.ty "int"] _ _); refine p_isInt (by walk_at "kd") ?_)
  | ((with_reducible show rIsi _ [_, V.ty "bool"] _ _); refine p_isBool (by walk_at "kd") ?_)
  | ((with_reducible show rIsiT _ [_, V.ref _] _ _); refine p_isLT (by walk_at "lk") (by walk_at "kd") ?_)
  | with_reducible refine i_chain ?_ | with_reducible refine i_m1 ?_ | with_reducible refine i_m0 ?_ | with_reducible refine i_str ?_
  | ((with_reducible show LstK _ _ _); refine p_lstK (by walk_at "sz") ?_; intro _ _ _ _ _)
  | ((with_reducible show TupK _ _ _); refine p_tupK (by walk_at "sz") ?_; intro _ _ _ _ _)
  | ((with_reducible show (if _ = true then _ else _)); (first | refine ifT' (by first | assumption | exact rfl) ?_ | refine ifF' (by first | assumption | exact rfl) ?_))
  | ((with_reducible show rEqX _ (V.bl _) (V.bl _) _ _); refine p_eqS rfl ?_) | ((with_reducible show rNeX _ (V.bl _) (V.bl _) _ _); refine p_neS rfl ?_)
  | ((with_reducible show rEqX _ (V.ref _) (V.ref _) _ _); refine p_eqNil (by walk_at "lk") (by walk_at "lk") ?_) | ((with_reducible show rNeX _ (V.ref _) (V.ref _) _ _); refine p_neNil (by walk_at "lk") (by walk_at "lk") ?_)
  | ((with_reducible show rAddX _ (V.str _) (V.str _) _ _); refine p_addS (by walk_at "sz") ?_)
  | ((with_reducible show rMuXX (V.str _) (V.int _) _ _); refine p_muS ⟨by decide +kernel, by decide +kernel, by decide +kernel⟩ ?_)
  | ((with_reducible show tDNewK _ _ _); refine i_dnew ?_; intro _ _ _ _ _)
  | ((with_reducible show rTupX _ [V.ref _] _ _); refine p_tupL (by walk_at "sq") ?_; intro _ _ _ _ _)
  | ((with_reducible show rAddX _ (V.ref _) (V.ref _) _ _); refine p_addL (by walk_at "lk") (by walk_at "lk") (by walk_at "sz") ?_; intro _ _ _ _ _)
  | with_reducible refine p_notB ?_ | with_reducible refine p_isB ?_)
local macro_rules | `(tactic| walk_at "go") => `(tactic| (walk_at "st"; (repeat walk_at "st")))

local macro_rules | `(tactic| walk_at "rx") => `(tactic| first
  | with_reducible refine i_par ?_ | ((with_reducible show ∃ _ _, [_, _] = [_, _] ∧ _); refine ⟨_, _, rfl, ?_⟩) | ((with_reducible show ∃ _, [V.int _] = [V.int _] ∧ _); refine ⟨_, rfl, ?_⟩)
  | with_reducible refine i_sfl ?_ | with_reducible refine i_mk ?_ | with_reducible refine i_pr ?_ | with_reducible refine i_fl ?_
  | ((with_reducible show FlK _ _ _ (V.ref _) _); first | refine p_flT (by assumption) (by assumption) ?_ | refine p_flB (by assumption) (by assumption) ?_)
  | ((with_reducible show rIsi _ [V.ref _, V.ref _] _ _); refine p_isR (by assumption) (by assumption) ?_)
  | ((with_reducible show rIsi _ [V.ref _, V.ty "int"] _ _); refine p_isRi (by assumption) (by assumption) ?_)
  | ((with_reducible show rIsi _ [_, V.ref _] _ _); refine p_isRn (by assumption) (by walk_at "kd") ?_)
  | ((with_reducible show rMuXX (V.int _) (V.int _) _ _); refine p_muI (Or.inr (by assumption)) ?_)
  | ((with_reducible show rGcd [V.int _, V.int _] _ _); refine ⟨_, _, rfl, ?_⟩)
  | ((with_reducible show PrK _ _ _ (V.ref _) _); first | refine p_prT (by assumption) ?_ | refine p_prB (by assumption) ?_))
local macro_rules | `(tactic| walk_at "gr") => `(tactic| repeat (first | walk_at "st" | walk_at "rx"))

section
variable {P : Program} {w : World} {K : PySem.W.Frag} {mg : Str → Option Value} {base : Heap} {C : Addr}
/-! ### the ratios that the law makes -/
theorem rv {t b : Int} (hb : 0 < b) : Low (rN t b) (rD t b) ∧ ∃ g : Int, 0 < g ∧ t = g * rN t b ∧ b = g * rD t b := by
  have e : sg t b = ((Nat.gcd t.natAbs b.natAbs : Nat) : Int) := by unfold sg; rw [if_neg (by omega)]
  have g0 : 0 < Nat.gcd t.natAbs b.natAbs := Nat.gcd_pos_of_pos_right _ (by omega)
  obtain ⟨x, hx⟩ : ((Nat.gcd t.natAbs b.natAbs : Nat) : Int) ∣ t := Int.natAbs_dvd_natAbs.mp (by rw [Int.natAbs_natCast]; exact Nat.gcd_dvd_left _ _)
  obtain ⟨y, hy⟩ : ((Nat.gcd t.natAbs b.natAbs : Nat) : Int) ∣ b := Int.natAbs_dvd_natAbs.mp (by rw [Int.natAbs_natCast]; exact Nat.gcd_dvd_right _ _)
  have en : rN t b = x := by
    unfold rN
    rw [e, Int.fdiv_eq_ediv_of_nonneg _ (by omega)]
    conv => lhs; lhs; rw [hx]
    exact Int.mul_ediv_cancel_left _ (by omega)
  have ed : rD t b = y := by
    unfold rD
    rw [e, Int.fdiv_eq_ediv_of_nonneg _ (by omega)]
    conv => lhs; lhs; rw [hy]
    exact Int.mul_ediv_cancel_left _ (by omega)
  rw [en, ed]
  have y0 : 0 < y := by
    rw [hy] at hb
    exact Int.pos_of_mul_pos_right hb (by omega)
  refine ⟨⟨y0, ?_⟩, _, by omega, hx, hy⟩
  have hx' : t.natAbs = Nat.gcd t.natAbs b.natAbs * x.natAbs := by conv => lhs; rw [hx, Int.natAbs_mul, Int.natAbs_natCast]
  have hy' : b.natAbs = Nat.gcd t.natAbs b.natAbs * y.natAbs := by conv => lhs; rw [hy, Int.natAbs_mul, Int.natAbs_natCast]
  have z : Nat.gcd t.natAbs b.natAbs * Nat.gcd x.natAbs y.natAbs = Nat.gcd t.natAbs b.natAbs * 1 := by
    rw [← Nat.gcd_mul_left, ← hx', ← hy', Nat.mul_one]
  exact Nat.eq_of_mul_eq_mul_left g0 z
theorem rvS {t b : Int} (hb : 0 < b) (h : Sm t b) : Sm (rN t b) (rD t b) := by
  obtain ⟨_, g, g0, e1, e2⟩ := rv (t := t) hb
  have f : ∀ x y : Int, x = g * y → y.natAbs ≤ x.natAbs := fun x y e => by
    rw [e, Int.natAbs_mul]
    exact Nat.le_mul_of_pos_left _ (by omega)
  exact ⟨Nat.lt_of_le_of_lt (f _ _ e1) h.1, Nat.lt_of_le_of_lt (f _ _ e2) h.2⟩
theorem signs_scale {c m n : Int} (h : 0 < c) : signsV (c * m) (c * n) = signsV m n := by
  have a : (c * m < c * n) ↔ m < n := Int.mul_lt_mul_left h
  have b : (c * m ≤ c * n) ↔ m ≤ n := Int.mul_le_mul_left h
  have a' : (c * n < c * m) ↔ n < m := Int.mul_lt_mul_left h
  have b' : (c * n ≤ c * m) ↔ n ≤ m := Int.mul_le_mul_left h
  have d : (c * m = c * n) ↔ m = n := ⟨fun e => Int.eq_of_mul_eq_mul_left (by omega) e, fun e => by rw [e]⟩
  unfold signsV
  rw [decide_eq_decide.mpr a, decide_eq_decide.mpr b, decide_eq_decide.mpr d, decide_eq_decide.mpr (show (c * m > c * n) ↔ m > n from a'), decide_eq_decide.mpr (show (c * m ≥ c * n) ↔ m ≥ n from b')]
theorem signs_rv {t b u v : Int} (hb : 0 < b) (hv : 0 < v) : signsV (rN t b * rD u v) (rN u v * rD t b) = signsV (t * v) (u * b) := by
  obtain ⟨_, g, g0, e1, e2⟩ := rv (t := t) hb
  obtain ⟨_, h, h0, e3, e4⟩ := rv (t := u) hv
  generalize rN t b = x at *
  generalize rD t b = y at *
  generalize rN u v = x' at *
  generalize rD u v = y' at *
  rw [show t * v = (g * h) * (x * y') by rw [e1, e4]; grind, show u * b = (g * h) * (x' * y) by rw [e2, e3]; grind]
  exact (signs_scale (Int.mul_pos g0 h0)).symm
theorem rv_one (z : Int) : Low z 1 := ⟨by decide, Nat.gcd_one_right _⟩
theorem signs_num {t b z : Int} (hb : 0 < b) : signsV (rN t b * 1) (z * rD t b) = signsV (t * 1) (z * b) := by
  have := signs_rv (t := t) (u := z) hb (v := 1) (by decide)
  rwa [rN_one, rD_one] at this
theorem signs_num' {t b z : Int} (hb : 0 < b) : signsV (z * rD t b) (rN t b * 1) = signsV (z * b) (t * 1) := by
  have := signs_rv (t := z) (u := t) (b := 1) (by decide) hb
  rwa [rN_one, rD_one] at this
theorem rN_zero {t b : Int} (hb : 0 < b) : decide (rN t b = 0) = decide (t = 0) := by
  obtain ⟨_, g, g0, e1, _⟩ := rv (t := t) hb
  refine decide_eq_decide.mpr ⟨fun e => by rw [e1, e, Int.mul_zero], fun e => ?_⟩
  rw [e] at e1
  rcases Int.mul_eq_zero.mp e1.symm with h | h
  · omega
  · rw [e]; exact h
theorem same_updN {H H' : Hp} {l : Addr} {o : HO} (s : Same H H') (n : H l = none) : Same H (L2.upd H' l o) := fun b u e => by rw [upd_ne (ne_of_none e n)]; exact s b u e
theorem RAt.upd {C : Addr} {H : Hp} {a l : Addr} {t b : Int} {o : HO} (h : RAt C H a t b) (n : a ≠ l) : RAt C (L2.upd H l o) a t b := h.elim fun dx e => ⟨dx, by rw [upd_ne n]; exact e⟩
theorem i_bm {T : String} {r : V → List V → Hp → VK → Prop} {to : TE} {t : TA} {σ : L2.St} {H : Hp} {Q : VK} (h : to σ H fun x H1 => tyV K T x H1 ∧ t σ H1 fun xs H2 => r x xs H2 Q) : tBM K T r to t σ H Q := h
def dsig (m n : Int) : List PyData := [.bool (decide (m < n)), .bool (decide (m ≤ n)), .bool (decide (m > n)), .bool (decide (m ≥ n)), .bool (decide (m = n)), .bool (!decide (m = n))]
theorem six_len : ∀ a b c d e f : Bool, (PyData.list [.bool a, .bool b, .bool c, .bool d, .bool e, .bool f]).shown.length ≤ 100 := by decide +kernel
theorem two_len : ∀ a b : Bool, (PyData.list [.bool a, .bool b]).shown.length ≤ 100 := by decide +kernel
theorem rep_six {H : Hp} {Q : VK} {a : Addr} {m n : Int} (e : H a = some (.lst (signsV m n))) (q : Q (.str (PyData.list (dsig m n)).shown) H) : rRepr [.ref a] H Q :=
  ⟨a, .list (dsig m n), rfl, .lst e (.cons (.bl _) (.cons (.bl _) (.cons (.bl _) (.cons (.bl _) (.cons (.bl _) (.cons (.bl _) .nil)))))), rfl, rfl, Nat.le_of_ble_eq_true rfl, Nat.le_trans (six_len _ _ _ _ _ _) (by decide), q⟩
theorem rep_two {H : Hp} {Q : VK} {a : Addr} {x y : Bool} (e : H a = some (.lst [.bl x, .bl y])) (q : Q (.str (PyData.list [.bool x, .bool y]).shown) H) : rRepr [.ref a] H Q :=
  ⟨a, .list [.bool x, .bool y], rfl, .lst e (.cons (.bl _) (.cons (.bl _) .nil)), rfl, rfl, Nat.le_of_ble_eq_true rfl, Nat.le_trans (two_len _ _) (by decide), q⟩
/-- a row: the answers, and what is due; it doesn't reach l -/
def RowOk (l : Addr) (H : Hp) (r : Addr) : Prop := ∃ a b m n, H r = some (.lst [.ref a, .ref b]) ∧ H a = some (.lst (signsV m n)) ∧ H b = some (.lst (signsV m n)) ∧ r ≠ l ∧ a ≠ l ∧ b ≠ l
theorem RowOk.same {l r : Addr} {H H' : Hp} (s : Same H H') (h : RowOk l H r) : RowOk l H' r := by
  obtain ⟨a, b, m, n, h1, h2, h3, h4⟩ := h
  exact ⟨a, b, m, n, s _ _ h1, s _ _ h2, s _ _ h3, h4⟩
theorem RowOk.upd {l r : Addr} {H : Hp} {o : HO} (h : RowOk l H r) : RowOk l (L2.upd H l o) r := by
  obtain ⟨a, b, m, n, h1, h2, h3, h4, h5, h6⟩ := h
  exact ⟨a, b, m, n, by rw [upd_ne h4]; exact h1, by rw [upd_ne h5]; exact h2, by rw [upd_ne h6]; exact h3, h4, h5, h6⟩
def spRight : Sp := fun vs H Q _ => ∃ a c t b u v z, vs = [.ref a, .ref c, .int z] ∧ H a = some (.tup [.int t, .int b]) ∧ H c = some (.tup [.int u, .int v]) ∧ 0 < b ∧ 0 < v ∧ Sm t b ∧ Sm u v ∧ Sm z 1 ∧ ∀ H', Same H H' → Q (.bl true) H'
theorem c__law_right (T : Tx K mg C) : CalG P w K mg base CX0 7 "_law_right" spRight := by
  have c_Ratio2 : C8.Mak P w K mg base 2 "Ratio" C (spIni C) [] := c_Ratio2 T.R
  have c__law_signs : Cal P w K mg base CX0 6 "_law_signs" (spSigns C) := c__law_signs T
  have c__law_due : Cal P w K mg base CX0 1 "_law_due" spDue := c__law_due T
  have m_bool : OwnM P w K mg base 1 C "__bool__" (spBool C) := c_bool T.R
  refine calg T.d_right sc__law_right (fun _ _ _ _ _ _ us hl => match us, hl with | [_, _, _], _ => rfl) (fun vs H Q E h => ?_) (fun f cdv A outer s H vs Q E gd hr h => ?_)
  · obtain ⟨a, c, t, b, u, v, z, rfl, _⟩ := h
    rfl
  · obtain ⟨a, c, t, b, u, v, z, rfl, h1, h2, b0, v0, m, n, z1, q⟩ := h
    have gd : (A.deeper (envOfC "_law_right" (defScope s__law_right) s.heap.objs.size f cdv)).guards = some [] := gd
    refine ⟨_, (pss_cons (ps_par (i := 5) (j := 6) (by rfl) sc__law_right.nd rfl rfl (by decide) rfl rfl (pa_cons (C8.pe_mk c_Ratio2 hr (by decide) (by rfl) (pa_cons (pe_ix (r := rIx K) ix_seq (pv 0) pe_int (fun _ _ => rfl)) (pa_cons (pe_ix (r := rIx K) ix_seq (pv 0) pe_int (fun _ _ => rfl)) pa_nil))) (pa_cons (C8.pe_mk c_Ratio2 hr (by decide) (by rfl) (pa_cons (pe_ix (r := rIx K) ix_seq (pv 1) pe_int (fun _ _ => rfl)) (pa_cons (pe_ix (r := rIx K) ix_seq (pv 1) pe_int (fun _ _ => rfl)) pa_nil))) pa_nil)) (by rfl))
      (pss_cons (ps_set (i := 3) sc__law_right.nd rfl (by first | exact Or.inl rfl | exact Or.inr rfl) (pe_tup (pa_cons (pv 2) (pa_cons pe_int pa_nil))))
      (pss_cons (ps_set (i := 4) sc__law_right.nd rfl (by first | exact Or.inl rfl | exact Or.inr rfl) (pe_lst (pa_cons (pe_lst (pa_cons (pe_c c__law_signs hr (by decide) (by rfl) pass0 (pa_cons (pv 5) (pa_cons (pv 6) pa_nil))) (pa_cons (pe_c c__law_due hr (by decide) (by rfl) pass0 (pa_cons (pv 0) (pa_cons (pv 1) pa_nil))) pa_nil))) (pa_cons (pe_lst (pa_cons (pe_c c__law_signs hr (by decide) (by rfl) pass0 (pa_cons (pv 6) (pa_cons (pv 5) pa_nil))) (pa_cons (pe_c c__law_due hr (by decide) (by rfl) pass0 (pa_cons (pv 1) (pa_cons (pv 0) pa_nil))) pa_nil))) pa_nil))))
      (pss_cons (ps_expr (pe_bm PySem.F.plainAttrs_list PySem.F.slot_list_append PySem.F.type_list_append mt_append (pv 4) (pa_cons (pe_lst (pa_cons (pe_c c__law_signs hr (by decide) (by rfl) pass0 (pa_cons (pv 5) (pa_cons (pv 2) pa_nil))) (pa_cons (pe_c c__law_due hr (by decide) (by rfl) pass0 (pa_cons (pv 0) (pa_cons (pv 3) pa_nil))) pa_nil))) pa_nil)))
      (pss_cons (ps_expr (pe_bm PySem.F.plainAttrs_list PySem.F.slot_list_append PySem.F.type_list_append mt_append (pv 4) (pa_cons (pe_lst (pa_cons (pe_c c__law_signs hr (by decide) (by rfl) pass0 (pa_cons (pv 2) (pa_cons (pv 5) pa_nil))) (pa_cons (pe_c c__law_due hr (by decide) (by rfl) pass0 (pa_cons (pv 3) (pa_cons (pv 0) pa_nil))) pa_nil))) pa_nil)))
      (pss_cons (ps_expr (pe_bm PySem.F.plainAttrs_list PySem.F.slot_list_append PySem.F.type_list_append mt_append (pv 4) (pa_cons (pe_lst (pa_cons (pe_c c__law_signs hr (by decide) (by rfl) pass0 (pa_cons (pv 5) (pa_cons (C8.pe_mk c_Ratio2 hr (by decide) (by rfl) (pa_cons (pe_ix (r := rIx K) ix_seq (pv 0) pe_int (fun _ _ => rfl)) (pa_cons (pe_ix (r := rIx K) ix_seq (pv 0) pe_int (fun _ _ => rfl)) pa_nil))) pa_nil))) (pa_cons (pe_c c__law_due hr (by decide) (by rfl) pass0 (pa_cons (pv 0) (pa_cons (pv 0) pa_nil))) pa_nil))) pa_nil)))
      (pss_cons (ps_if (pt_cmpR (r := rNeX K) (op_neX hr.units) (pe_lc (own := [("row", 7)]) (g := gName 7) rfl sc__law_right.nd (pi_listK (K := K) rfl (pv 4)) (blkOk_by (N := N__law_right) (sc := defScope s__law_right) (by decide +kernel)) (fun _ _ _ _ _ => (pg_name (i := 7) sc__law_right.nd rfl (by first | exact Or.inl rfl | exact Or.inr rfl))) (fun _ _ _ _ _ => pts_one (pt_cmpR (r := rNeX K) (op_neX hr.units) (pe_callB (r := rRepr) (call_repr hr gd) (by rfl) T.n_repr (by decide +kernel) (pa_cons (pe_ix (r := rIx K) ix_seq (pv 7) pe_int (fun _ _ => rfl)) pa_nil)) (pe_callB (r := rRepr) (call_repr hr gd) (by rfl) T.n_repr (by decide +kernel) (pa_cons (pe_ix (r := rIx K) ix_seq (pv 7) pe_int (fun _ _ => rfl)) pa_nil)) (nomark _))) (fun _ _ _ _ _ => (pv 7))) (pe_lst pa_nil) (nomark _)) (pss_one (ps_ret pe_bl)) pss_nil)
      (pss_one (ps_ret (pe_cmpR (r := rEqX K) (op_eqX hr.units) (pe_callB (r := rRepr) (call_repr hr gd) (by rfl) T.n_repr (by decide +kernel) (pa_cons (pe_lst (pa_cons (pe_callTy (call_boolO m_bool (by decide) hr) (by rfl) T.n_bool (by decide +kernel) (pa_cons (pv 5) pa_nil)) (pa_cons (pe_callTy (call_boolO m_bool (by decide) hr) (by rfl) T.n_bool (by decide +kernel) (pa_cons (pv 6) pa_nil)) pa_nil))) pa_nil)) (pe_callB (r := rRepr) (call_repr hr gd) (by rfl) T.n_repr (by decide +kernel) (pa_cons (pe_lst (pa_cons (pe_cmpR (r := rNeX K) (op_neX hr.units) (pe_ix (r := rIx K) ix_seq (pv 0) pe_int (fun _ _ => rfl)) pe_int (nomark _)) (pa_cons (pe_cmpR (r := rNeX K) (op_neX hr.units) (pe_ix (r := rIx K) ix_seq (pv 1) pe_int (fun _ _ => rfl)) pe_int (nomark _)) pa_nil))) pa_nil)) (nomark _))))))))))), ?_⟩
    have e1 : atI [V.int t, V.int b] 0 = some (.int t) := rfl
    have e2 : atI [V.int t, V.int b] 1 = some (.int b) := rfl
    have e3 : atI [V.int u, V.int v] 0 = some (.int u) := rfl
    have e4 : atI [V.int u, V.int v] 1 = some (.int v) := rfl
    walk_at "gr"
    refine p_mk (vs := [.int t, .int b]) (dvs := []) rfl (by omega) m.2 fun p1 H1 r1 s1 n1 => ?_
    have ha := s1 _ _ h1
    have hc := s1 _ _ h2
    have S0 : Same H H1 := s1
    walk_at "gr"
    refine p_mk (vs := [.int u, .int v]) (dvs := []) rfl (by omega) n.2 fun p2 H2 r2 s2 n2 => ?_
    have ha := s2 _ _ ha
    have hc := s2 _ _ hc
    have r1 := r1.same s2
    have S0 := S0.trans s2
    have L1 := (rv (t := t) b0).1
    have L2 := (rv (t := u) v0).1
    have S1 := rvS b0 m
    have S2 := rvS v0 n
    walk_at "gr"
    rename_i W KW nW sW eW
    have S0 := S0.trans sW
    have ha := sW _ _ ha
    have hc := sW _ _ hc
    have r1 := r1.same sW
    have r2 := r2.same sW
    refine ⟨.ref p1, .ref p2, _, _, _, _, rfl, .rat r1, .rat r2, .inl ⟨_, rfl⟩, S1, S2, L1, L2, fun a1 Ga1 ga1 na1 sa1 => ?_⟩
    rw [signs_rv b0 v0] at ga1
    have S0 := S0.trans sa1
    have ha := sa1 _ _ ha
    have hc := sa1 _ _ hc
    have r1 := r1.same sa1
    have r2 := r2.same sa1
    have eW := sa1 _ _ eW
    walk_at "gr"
    refine ⟨a, c, t, b, u, v, rfl, ha, hc, m, n, fun b1 Gb1 gb1 nb1 sb1 => ?_⟩
    have S0 := S0.trans sb1
    have ha := sb1 _ _ ha
    have hc := sb1 _ _ hc
    have r1 := r1.same sb1
    have r2 := r2.same sb1
    have eW := sb1 _ _ eW
    have ga1 := sb1 _ _ ga1
    walk_at "gr"
    rename_i R1 KR1 nR1 sR1 eR1
    have S0 := S0.trans sR1
    have ha := sR1 _ _ ha
    have hc := sR1 _ _ hc
    have r1 := r1.same sR1
    have r2 := r2.same sR1
    have eW := sR1 _ _ eW
    have ga1 := sR1 _ _ ga1
    have gb1 := sR1 _ _ gb1
    refine ⟨.ref p2, .ref p1, _, _, _, _, rfl, .rat r2, .rat r1, .inl ⟨_, rfl⟩, S2, S1, L2, L1, fun a2 Ga2 ga2 na2 sa2 => ?_⟩
    rw [signs_rv v0 b0] at ga2
    have S0 := S0.trans sa2
    have ha := sa2 _ _ ha
    have hc := sa2 _ _ hc
    have r1 := r1.same sa2
    have r2 := r2.same sa2
    have eW := sa2 _ _ eW
    have ga1 := sa2 _ _ ga1
    have gb1 := sa2 _ _ gb1
    have eR1 := sa2 _ _ eR1
    walk_at "gr"
    refine ⟨c, a, u, v, t, b, rfl, hc, ha, n, m, fun b2 Gb2 gb2 nb2 sb2 => ?_⟩
    have S0 := S0.trans sb2
    have ha := sb2 _ _ ha
    have hc := sb2 _ _ hc
    have r1 := r1.same sb2
    have r2 := r2.same sb2
    have eW := sb2 _ _ eW
    have ga1 := sb2 _ _ ga1
    have gb1 := sb2 _ _ gb1
    have eR1 := sb2 _ _ eR1
    have ga2 := sb2 _ _ ga2
    walk_at "gr"
    rename_i R2 KR2 nR2 sR2 eR2 LL KLL nLL sLL eLL
    have S0 := S0.trans sR2
    have ha := sR2 _ _ ha
    have hc := sR2 _ _ hc
    have r1 := r1.same sR2
    have r2 := r2.same sR2
    have eW := sR2 _ _ eW
    have ga1 := sR2 _ _ ga1
    have gb1 := sR2 _ _ gb1
    have eR1 := sR2 _ _ eR1
    have ga2 := sR2 _ _ ga2
    have gb2 := sR2 _ _ gb2
    have hLL := S0.free nLL
    have xha := ne_of_none ha nLL
    have xhc := ne_of_none hc nLL
    have xr1 := r1.elim fun dx e => ne_of_none e nLL
    have xr2 := r2.elim fun dx e => ne_of_none e nLL
    have xeW := ne_of_none eW nLL
    have xga1 := ne_of_none ga1 nLL
    have xgb1 := ne_of_none gb1 nLL
    have xeR1 := ne_of_none eR1 nLL
    have xga2 := ne_of_none ga2 nLL
    have xgb2 := ne_of_none gb2 nLL
    have xeR2 := ne_of_none eR2 nLL
    have S0 := S0.trans sLL
    have ha := sLL _ _ ha
    have hc := sLL _ _ hc
    have r1 := r1.same sLL
    have r2 := r2.same sLL
    have eW := sLL _ _ eW
    have ga1 := sLL _ _ ga1
    have gb1 := sLL _ _ gb1
    have eR1 := sLL _ _ eR1
    have ga2 := sLL _ _ ga2
    have gb2 := sLL _ _ gb2
    have eR2 := sLL _ _ eR2
    have k1 : RowOk LL KLL R1 := ⟨a1, b1, _, _, eR1, ga1, gb1, xeR1, xga1, xgb1⟩
    have k2 : RowOk LL KLL R2 := ⟨a2, b2, _, _, eR2, ga2, gb2, xeR2, xga2, xgb2⟩
    walk_at "gr"
    refine i_bm ?_
    walk_at "gr"
    refine ⟨.inl ⟨rfl, _, SqL.of eLL⟩, ?_⟩
    walk_at "gr"
    refine ⟨.ref p1, .int z, _, _, _, _, rfl, .rat r1, .int z, .inl ⟨_, rfl⟩, S1, z1, L1, rv_one z, fun a3 Ga3 ga3 na3 sa3 => ?_⟩
    rw [signs_num b0] at ga3
    have xa3 := (ne_of_none eLL na3).symm
    have S0 := S0.trans sa3
    have ha := sa3 _ _ ha
    have hc := sa3 _ _ hc
    have r1 := r1.same sa3
    have r2 := r2.same sa3
    have eW := sa3 _ _ eW
    have k1 := k1.same sa3
    have k2 := k2.same sa3
    have eLL := sa3 _ _ eLL
    walk_at "gr"
    refine ⟨a, W, t, b, z, 1, rfl, ha, eW, m, z1, fun b3 Gb3 gb3 nb3 sb3 => ?_⟩
    have xb3 := (ne_of_none eLL nb3).symm
    have S0 := S0.trans sb3
    have ha := sb3 _ _ ha
    have hc := sb3 _ _ hc
    have r1 := r1.same sb3
    have r2 := r2.same sb3
    have eW := sb3 _ _ eW
    have k1 := k1.same sb3
    have k2 := k2.same sb3
    have eLL := sb3 _ _ eLL
    have ga3 := sb3 _ _ ga3
    walk_at "gr"
    rename_i R3 KR3 nR3 sR3 eR3
    have xR3 := (ne_of_none eLL nR3).symm
    have S0 := S0.trans sR3
    have ha := sR3 _ _ ha
    have hc := sR3 _ _ hc
    have r1 := r1.same sR3
    have r2 := r2.same sR3
    have eW := sR3 _ _ eW
    have k1 := k1.same sR3
    have k2 := k2.same sR3
    have eLL := sR3 _ _ eLL
    have ga3 := sR3 _ _ ga3
    have gb3 := sR3 _ _ gb3
    have k3 : RowOk LL KR3 R3 := ⟨a3, b3, _, _, eR3, ga3, gb3, xR3, xa3, xb3⟩
    refine ⟨LL, _, _, rfl, rfl, eLL, (by show 2 < sizeLine; decide), ?_⟩
    have ha := (upd_ne (o := .lst [.ref R1, .ref R2, .ref R3]) xha).trans ha
    have hc := (upd_ne (o := .lst [.ref R1, .ref R2, .ref R3]) xhc).trans hc
    have r1 := r1.upd (o := .lst [.ref R1, .ref R2, .ref R3]) xr1
    have r2 := r2.upd (o := .lst [.ref R1, .ref R2, .ref R3]) xr2
    have eW := (upd_ne (o := .lst [.ref R1, .ref R2, .ref R3]) xeW).trans eW
    have k1 := k1.upd (o := .lst [.ref R1, .ref R2, .ref R3])
    have k2 := k2.upd (o := .lst [.ref R1, .ref R2, .ref R3])
    have k3 := k3.upd (o := .lst [.ref R1, .ref R2, .ref R3])
    have S0 := same_updN (o := .lst [.ref R1, .ref R2, .ref R3]) S0 hLL
    have eLL : upd KR3 LL (.lst [.ref R1, .ref R2, .ref R3]) LL = some (.lst [.ref R1, .ref R2, .ref R3]) := upd_same
    walk_at "gr"
    refine i_bm ?_
    walk_at "gr"
    refine ⟨.inl ⟨rfl, _, SqL.of eLL⟩, ?_⟩
    walk_at "gr"
    refine ⟨.int z, .ref p1, _, _, _, _, rfl, .int z, .rat r1, .inr ⟨_, rfl⟩, z1, S1, rv_one z, L1, fun a4 Ga4 ga4 na4 sa4 => ?_⟩
    rw [signs_num' b0] at ga4
    have xa4 := (ne_of_none eLL na4).symm
    have S0 := S0.trans sa4
    have ha := sa4 _ _ ha
    have hc := sa4 _ _ hc
    have r1 := r1.same sa4
    have r2 := r2.same sa4
    have eW := sa4 _ _ eW
    have k1 := k1.same sa4
    have k2 := k2.same sa4
    have eLL := sa4 _ _ eLL
    have k3 := k3.same sa4
    walk_at "gr"
    refine ⟨W, a, z, 1, t, b, rfl, eW, ha, z1, m, fun b4 Gb4 gb4 nb4 sb4 => ?_⟩
    have xb4 := (ne_of_none eLL nb4).symm
    have S0 := S0.trans sb4
    have ha := sb4 _ _ ha
    have hc := sb4 _ _ hc
    have r1 := r1.same sb4
    have r2 := r2.same sb4
    have eW := sb4 _ _ eW
    have k1 := k1.same sb4
    have k2 := k2.same sb4
    have eLL := sb4 _ _ eLL
    have k3 := k3.same sb4
    have ga4 := sb4 _ _ ga4
    walk_at "gr"
    rename_i R4 KR4 nR4 sR4 eR4
    have xR4 := (ne_of_none eLL nR4).symm
    have S0 := S0.trans sR4
    have ha := sR4 _ _ ha
    have hc := sR4 _ _ hc
    have r1 := r1.same sR4
    have r2 := r2.same sR4
    have eW := sR4 _ _ eW
    have k1 := k1.same sR4
    have k2 := k2.same sR4
    have eLL := sR4 _ _ eLL
    have k3 := k3.same sR4
    have ga4 := sR4 _ _ ga4
    have gb4 := sR4 _ _ gb4
    have k4 : RowOk LL KR4 R4 := ⟨a4, b4, _, _, eR4, ga4, gb4, xR4, xa4, xb4⟩
    refine ⟨LL, _, _, rfl, rfl, eLL, (by show 3 < sizeLine; decide), ?_⟩
    have ha := (upd_ne (o := .lst [.ref R1, .ref R2, .ref R3, .ref R4]) xha).trans ha
    have hc := (upd_ne (o := .lst [.ref R1, .ref R2, .ref R3, .ref R4]) xhc).trans hc
    have r1 := r1.upd (o := .lst [.ref R1, .ref R2, .ref R3, .ref R4]) xr1
    have r2 := r2.upd (o := .lst [.ref R1, .ref R2, .ref R3, .ref R4]) xr2
    have eW := (upd_ne (o := .lst [.ref R1, .ref R2, .ref R3, .ref R4]) xeW).trans eW
    have k1 := k1.upd (o := .lst [.ref R1, .ref R2, .ref R3, .ref R4])
    have k2 := k2.upd (o := .lst [.ref R1, .ref R2, .ref R3, .ref R4])
    have k3 := k3.upd (o := .lst [.ref R1, .ref R2, .ref R3, .ref R4])
    have k4 := k4.upd (o := .lst [.ref R1, .ref R2, .ref R3, .ref R4])
    have S0 := same_updN (o := .lst [.ref R1, .ref R2, .ref R3, .ref R4]) S0 hLL
    have eLL : upd KR4 LL (.lst [.ref R1, .ref R2, .ref R3, .ref R4]) LL = some (.lst [.ref R1, .ref R2, .ref R3, .ref R4]) := upd_same
    walk_at "gr"
    refine i_bm ?_
    walk_at "gr"
    refine ⟨.inl ⟨rfl, _, SqL.of eLL⟩, ?_⟩
    walk_at "gr"
    refine p_mk (vs := [.int t, .int b]) (dvs := []) rfl (by omega) m.2 fun p3 H9 r3 s9 n9 => ?_
    have S0 := S0.trans s9
    have ha := s9 _ _ ha
    have hc := s9 _ _ hc
    have r1 := r1.same s9
    have r2 := r2.same s9
    have eW := s9 _ _ eW
    have k1 := k1.same s9
    have k2 := k2.same s9
    have eLL := s9 _ _ eLL
    have k3 := k3.same s9
    have k4 := k4.same s9
    walk_at "gr"
    refine ⟨.ref p1, .ref p3, _, _, _, _, rfl, .rat r1, .rat r3, .inl ⟨_, rfl⟩, S1, S1, L1, L1, fun a5 Ga5 ga5 na5 sa5 => ?_⟩
    rw [signs_rv b0 b0] at ga5
    have xa5 := (ne_of_none eLL na5).symm
    have S0 := S0.trans sa5
    have ha := sa5 _ _ ha
    have hc := sa5 _ _ hc
    have r1 := r1.same sa5
    have r2 := r2.same sa5
    have eW := sa5 _ _ eW
    have k1 := k1.same sa5
    have k2 := k2.same sa5
    have eLL := sa5 _ _ eLL
    have k3 := k3.same sa5
    have k4 := k4.same sa5
    walk_at "gr"
    refine ⟨a, a, t, b, t, b, rfl, ha, ha, m, m, fun b5 Gb5 gb5 nb5 sb5 => ?_⟩
    have xb5 := (ne_of_none eLL nb5).symm
    have S0 := S0.trans sb5
    have ha := sb5 _ _ ha
    have hc := sb5 _ _ hc
    have r1 := r1.same sb5
    have r2 := r2.same sb5
    have eW := sb5 _ _ eW
    have k1 := k1.same sb5
    have k2 := k2.same sb5
    have eLL := sb5 _ _ eLL
    have k3 := k3.same sb5
    have k4 := k4.same sb5
    have ga5 := sb5 _ _ ga5
    walk_at "gr"
    rename_i R5 KR5 nR5 sR5 eR5
    have xR5 := (ne_of_none eLL nR5).symm
    have S0 := S0.trans sR5
    have ha := sR5 _ _ ha
    have hc := sR5 _ _ hc
    have r1 := r1.same sR5
    have r2 := r2.same sR5
    have eW := sR5 _ _ eW
    have k1 := k1.same sR5
    have k2 := k2.same sR5
    have eLL := sR5 _ _ eLL
    have k3 := k3.same sR5
    have k4 := k4.same sR5
    have ga5 := sR5 _ _ ga5
    have gb5 := sR5 _ _ gb5
    have k5 : RowOk LL KR5 R5 := ⟨a5, b5, _, _, eR5, ga5, gb5, xR5, xa5, xb5⟩
    refine ⟨LL, _, _, rfl, rfl, eLL, (by show 4 < sizeLine; decide), ?_⟩
    have ha := (upd_ne (o := .lst [.ref R1, .ref R2, .ref R3, .ref R4, .ref R5]) xha).trans ha
    have hc := (upd_ne (o := .lst [.ref R1, .ref R2, .ref R3, .ref R4, .ref R5]) xhc).trans hc
    have r1 := r1.upd (o := .lst [.ref R1, .ref R2, .ref R3, .ref R4, .ref R5]) xr1
    have r2 := r2.upd (o := .lst [.ref R1, .ref R2, .ref R3, .ref R4, .ref R5]) xr2
    have eW := (upd_ne (o := .lst [.ref R1, .ref R2, .ref R3, .ref R4, .ref R5]) xeW).trans eW
    have k1 := k1.upd (o := .lst [.ref R1, .ref R2, .ref R3, .ref R4, .ref R5])
    have k2 := k2.upd (o := .lst [.ref R1, .ref R2, .ref R3, .ref R4, .ref R5])
    have k3 := k3.upd (o := .lst [.ref R1, .ref R2, .ref R3, .ref R4, .ref R5])
    have k4 := k4.upd (o := .lst [.ref R1, .ref R2, .ref R3, .ref R4, .ref R5])
    have k5 := k5.upd (o := .lst [.ref R1, .ref R2, .ref R3, .ref R4, .ref R5])
    have S0 := same_updN (o := .lst [.ref R1, .ref R2, .ref R3, .ref R4, .ref R5]) S0 hLL
    have eLL : upd KR5 LL (.lst [.ref R1, .ref R2, .ref R3, .ref R4, .ref R5]) LL = some (.lst [.ref R1, .ref R2, .ref R3, .ref R4, .ref R5]) := upd_same
    walk_at "gr"
    have rows : ∀ x ∈ [V.ref R1, V.ref R2, V.ref R3, V.ref R4, V.ref R5], ∃ r, x = .ref r ∧ RowOk LL (upd KR5 LL (.lst [.ref R1, .ref R2, .ref R3, .ref R4, .ref R5])) r := fun x hx => by
      simp only [List.mem_cons, List.not_mem_nil, or_false] at hx
      rcases hx with rfl | rfl | rfl | rfl | rfl
      · exact ⟨_, rfl, k1⟩
      · exact ⟨_, rfl, k2⟩
      · exact ⟨_, rfl, k3⟩
      · exact ⟨_, rfl, k4⟩
      · exact ⟨_, rfl, k5⟩
    refine lcw_fm (xs := [.ref R1, .ref R2, .ref R3, .ref R4, .ref R5]) (j := 7) wx_list (fun _ => false) (fun x => x) (fun H' s => SqL.of (s _ _ eLL)) (by show 5 < 100000; decide) (fun _ => rfl) (fun x hx H' R sR k => ?_) (fun x hx z => by cases z) (fun d H10 n10 s10 h10 => ?_)
    · obtain ⟨r, rfl, hr0⟩ := rows x hx
      obtain ⟨y1, y2, i1, i2, f1, f2, f3, _⟩ := hr0.same sR
      have g1 : atI [V.ref y1, V.ref y2] 0 = some (.ref y1) := rfl
      have g2 : atI [V.ref y1, V.ref y2] 1 = some (.ref y2) := rfl
      walk_at "gr"
      refine rep_six f2 ?_
      walk_at "gr"
      refine rep_six f3 ?_
      walk_at "gr"
      exact p_neS rfl ⟨false, by simp, k _ (Same.refl _)⟩
    · rw [show (([V.ref R1, V.ref R2, V.ref R3, V.ref R4, V.ref R5].filter fun _ => false).map fun x => x) = [] by simp] at h10
      have S0 := S0.trans s10
      have ha := s10 _ _ ha
      have hc := s10 _ _ hc
      have r1 := r1.same s10
      have r2 := r2.same s10
      walk_at "gr"
      rename_i E1 KE nE sE eE
      have S0 := S0.trans sE
      have ha := sE _ _ ha
      have hc := sE _ _ hc
      have r1 := r1.same sE
      have r2 := r2.same sE
      obtain ⟨dx1, q1⟩ := id r1
      refine ⟨p1, dx1, _, rfl, q1, p1, _, _, rfl, r1, _, rfl, ?_⟩
      walk_at "gr"
      obtain ⟨dx2, q2⟩ := id r2
      refine ⟨p2, dx2, _, rfl, q2, p2, _, _, rfl, r2, _, rfl, ?_⟩
      walk_at "gr"
      rename_i E2 KF nF sF eF
      have S0 := S0.trans sF
      have ha := sF _ _ ha
      have hc := sF _ _ hc
      have r1 := r1.same sF
      have r2 := r2.same sF
      refine rep_two eF ?_
      walk_at "gr"
      rename_i E3 KG nG sG eG
      have S0 := S0.trans sG
      have ha := sG _ _ ha
      have hc := sG _ _ hc
      have r1 := r1.same sG
      have r2 := r2.same sG
      refine rep_two eG ?_
      walk_at "gr"
      refine p_eqS rfl ?_
      walk_at "gr"
      rw [rN_zero b0, rN_zero v0, decide_eq_true rfl]
      exact q _ S0
end
end Pk

namespace Pk
open PySem PySem.Spec PyProof.Rows L2
local macro_rules | `(tactic| walk_at "sz") => `(tactic| first | assumption | decide +kernel | exact Nat.le_trans (Nat.le_of_ble_eq_true rfl) (show 100000 ≤ sizeLine by decide) | exact Nat.le_trans (by omega) (show 100000 ≤ sizeLine by decide) | (show _ ≤ sizeLine; exact Nat.le_trans (by (simp only [List.length_append, List.length_map, List.length_cons, List.length_nil]; omega)) (show 100000 ≤ sizeLine by decide)))
local macro_rules | `(tactic| walk_at "mul") => `(tactic| first | exact Or.inl (Or.inl ⟨by omega, by omega⟩) | exact Or.inl (Or.inr ⟨by omega, by omega⟩))
local macro_rules | `(tactic| walk_at "ci") => `(tactic| first | assumption | exact (by decide : (0 : Int) < _) | (show (0 : Int) < _; omega) | exact ⟨by assumption, by assumption⟩ | exact ⟨by decide, by decide⟩ | exact ⟨by decide, by decide, by omega⟩)
local macro_rules | `(tactic| walk_at "lk") => `(tactic| first | assumption | exact upd_same | ((refine Eq.trans (upd_ne (by first | assumption | exact Ne.symm (by assumption))) ?_); walk_at "lk") | exact Same.get (by assumption) (by walk_at "lk") | exact Keep.get (by assumption) (by walk_at "lk") (by assumption) (by assumption))
local macro_rules | `(tactic| walk_at "sq") => `(tactic| first | assumption | exact SqL.of (by walk_at "lk") | exact Same.seq (by assumption) (by walk_at "sq"))
local macro_rules | `(tactic| walk_at "stt") => `(tactic| exact SqT.of (by walk_at "lk"))
local macro_rules | `(tactic| walk_at "kd") => `(tactic| first | assumption | exact Kd.str _ (by first | assumption | omega | decide) | exact Kd.bl _ | exact Kd.int _ | exact Kd.non | exact Kd.lst (by walk_at "lk") | exact Kd.tup (by walk_at "lk") | exact Kd.dct (by walk_at "lk") | exact Kd.same (by assumption) (by walk_at "kd"))
local macro_rules | `(tactic| walk_at "sm") => `(tactic| first | assumption | exact Same.refl _ | (refine Same.trans ?_ (by assumption); walk_at "sm"))
local macro_rules | `(tactic| walk_at "st") => `(tactic| first
  | with_reducible refine i_seq ?_ | with_reducible refine i_asg ?_ | with_reducible refine i_ret ?_ | with_reducible refine i_op ?_
  | ((with_reducible show tVar _ _ _ _); refine i_var rfl ?_)
  | with_reducible refine i_c ?_ | with_reducible refine i_cb ?_ | with_reducible refine i_call ?_ | with_reducible refine i_cons ?_ | with_reducible refine i_nil ?_
  | with_reducible refine i_name ?_ | with_reducible refine i_sub ?_ | with_reducible refine i_drop ?_ | with_reducible refine i_ifs ?_ | with_reducible refine i_ife ?_
  | with_reducible refine i_test ?_ | with_reducible refine i_tru ?_ | with_reducible refine i_and ?_ | with_reducible refine i_or ?_ | with_reducible refine i_not ?_
  | with_reducible refine i_andV ?_ | with_reducible refine i_orV ?_ | with_reducible refine i_notV ?_ | with_reducible refine i_un ?_
  | with_reducible refine i_bl ?_ | with_reducible refine i_trB ?_ | with_reducible refine i_next ?_
  | with_reducible refine iteF ?_ | with_reducible refine iteT ?_
  | with_reducible refine i_lstF ?_ | with_reducible refine i_tupF ?_
  | with_reducible refine p_addI ?_ | with_reducible refine p_I0 ?_ | with_reducible refine p_U ?_
  | with_reducible refine p_ltI ?_ | with_reducible refine p_leI ?_ | with_reducible refine p_gtI ?_ | with_reducible refine p_geI ?_
  | with_reducible refine p_ltS ?_ | with_reducible refine p_leS ?_ | with_reducible refine p_gtS ?_
  | with_reducible refine p_eqI ?_ | with_reducible refine p_neI ?_ | with_reducible refine p_int ?_
  | ((with_reducible show rMuXX (V.int _) (V.int _) _ _); refine p_muI (by walk_at "mul") ?_)
  | ((with_reducible show rI _ _ (V.int _) (V.int _) _ _); refine p_I (by walk_at "ci") ?_)
  | ((with_reducible show rIx _ (V.ref _) (V.int _) _ _); (first | refine p_ixL (by walk_at "sq") (by first | exact rfl | assumption) ?_ | refine p_ixT (SqT.of (by walk_at "lk")) (by first | exact rfl | assumption) ?_))
  | ((with_reducible show rSetL (V.ref _) (V.int _) _ _ _); refine p_setL (by walk_at "lk") (by first | exact rfl | assumption) ?_)
  | ((with_reducible show rLenX _ [V.ref _] _ _); (first | refine p_lenL (by walk_at "sq") ?_ | refine p_lenT (SqT.of (by walk_at "lk")) ?_))
  | ((with_reducible show rLenX _ [V.str _] _ _); refine p_lenS (by walk_at "sz") ?_)
  | with_reducible refine i_lc ?_ | with_reducible refine i_for ?_ | with_reducible refine i_itl ?_ | with_reducible refine i_itt ?_ | with_reducible refine i_itr ?_ | with_reducible refine i_its ?_
  | ((with_reducible show ∃ _, V.ref _ = V.ref _ ∧ (∃ _, SqL _ _ _ _) ∧ _); refine p_itl (by walk_at "sq") ?_)
  | ((with_reducible show ∃ _, V.ref _ = V.ref _ ∧ (∃ _, SqT _ _ _ _) ∧ _); refine p_itt (by walk_at "stt") ?_) | with_reducible refine p_its ?_
  | ((with_reducible show ∃ _, [V.int _] = [V.int _] ∧ _); refine p_itr (by omega) (by omega) ?_)
  | with_reducible refine i_sl ?_ | with_reducible refine i_np ?_ | with_reducible refine i_pt ?_ | with_reducible refine i_in ?_
  | ((with_reducible show rSlXX _ (V.ref _) _ _ _ _); refine p_slL (by walk_at "sq") ?_; intro _ _ _ _ _)
  | ((with_reducible show rSlXX _ (V.str _) _ _ _ _); refine p_slS (by walk_at "sz") ?_)
  | ((with_reducible show rIsi _ [_, V.ty "str"] _ _); refine p_isStr (by walk_at "kd") ?_)
  | ((with_reducible show rIsi _ [_, V.ty "int"] _ _); refine p_isInt (by walk_at "kd") ?_)
  | ((with_reducible show rIsi _ [_, V.ty "bool"] _ _); refine p_isBool (by walk_at "kd") ?_)
  | ((with_reducible show rIsiT _ [_, V.ref _] _ _); refine p_isLT (by walk_at "lk") (by walk_at "kd") ?_)
  | with_reducible refine i_chain ?_ | with_reducible refine i_m1 ?_ | with_reducible refine i_m0 ?_ | with_reducible refine i_str ?_
  | ((with_reducible show LstK _ _ _); refine p_lstK (by walk_at "sz") ?_; intro _ _ _ _ _)
  | ((with_reducible show TupK _ _ _); refine p_tupK (by walk_at "sz") ?_; intro _ _ _ _ _)
  | ((with_reducible show (if _ = true then _ else _)); (first | refine ifT' (by first | assumption | exact rfl) ?_ | refine ifF' (by first | assumption | exact rfl) ?_))
  | ((with_reducible show rEqX _ (V.bl _) (V.bl _) _ _); refine p_eqS rfl ?_) | ((with_reducible show rNeX _ (V.bl _) (V.bl _) _ _); refine p_neS rfl ?_)
  | ((with_reducible show rEqX _ (V.ref _) (V.ref _) _ _); refine p_eqNil (by walk_at "lk") (by walk_at "lk") ?_) | ((with_reducible show rNeX _ (V.ref _) (V.ref _) _ _); refine p_neNil (by walk_at "lk") (by walk_at "lk") ?_)
  | ((with_reducible show rAddX _ (V.str _) (V.str _) _ _); refine p_addS (by walk_at "sz") ?_)
  | ((with_reducible show rMuXX (V.str _) (V.int _) _ _); refine p_muS ⟨by decide +kernel, by decide +kernel, by decide +kernel⟩ ?_)
  | ((with_reducible show tDNewK _ _ _); refine i_dnew ?_; intro _ _ _ _ _)
  | ((with_reducible show rTupX _ [V.ref _] _ _); refine p_tupL (by walk_at "sq") ?_; intro _ _ _ _ _)
  | ((with_reducible show rAddX _ (V.ref _) (V.ref _) _ _); refine p_addL (by walk_at "lk") (by walk_at "lk") (by walk_at "sz") ?_; intro _ _ _ _ _)
  | with_reducible refine p_notB ?_ | with_reducible refine p_isB ?_)
local macro_rules | `(tactic| walk_at "go") => `(tactic| (walk_at "st"; (repeat walk_at "st")))

local macro_rules | `(tactic| walk_at "rx") => `(tactic| first
  | with_reducible refine i_par ?_ | ((with_reducible show ∃ _ _, [_, _] = [_, _] ∧ _); refine ⟨_, _, rfl, ?_⟩) | ((with_reducible show ∃ _, [V.int _] = [V.int _] ∧ _); refine ⟨_, rfl, ?_⟩)
  | with_reducible refine i_sfl ?_ | with_reducible refine i_mk ?_ | with_reducible refine i_pr ?_ | with_reducible refine i_fl ?_
  | ((with_reducible show FlK _ _ _ (V.ref _) _); first | refine p_flT (by assumption) (by assumption) ?_ | refine p_flB (by assumption) (by assumption) ?_)
  | ((with_reducible show rIsi _ [V.ref _, V.ref _] _ _); refine p_isR (by assumption) (by assumption) ?_)
  | ((with_reducible show rIsi _ [V.ref _, V.ty "int"] _ _); refine p_isRi (by assumption) (by assumption) ?_)
  | ((with_reducible show rIsi _ [_, V.ref _] _ _); refine p_isRn (by assumption) (by walk_at "kd") ?_)
  | ((with_reducible show rMuXX (V.int _) (V.int _) _ _); refine p_muI (Or.inr (by assumption)) ?_)
  | ((with_reducible show rGcd [V.int _, V.int _] _ _); refine ⟨_, _, rfl, ?_⟩)
  | ((with_reducible show PrK _ _ _ (V.ref _) _); first | refine p_prT (by assumption) ?_ | refine p_prB (by assumption) ?_))
local macro_rules | `(tactic| walk_at "gr") => `(tactic| repeat (first | walk_at "st" | walk_at "rx"))

section
variable {P : Program} {w : World} {K : PySem.W.Frag} {mg : Str → Option Value} {base : Heap} {C : Addr}
theorem lcw_obj {te : TE} {vs : List Nat} {σ : L2.St} {H1 : Hp} {xs : List V} {J : It} {G : Hp → Prop} {Q : VK} {j : Nat} (w : WalkX J xs G) (Ob : V → HO → Prop) (hG : ∀ H', Same H1 H' → G H') (hz : xs.length < 100000) (hw : ∀ x, wipe ((wipe σ vs).set j (some x)) vs = wipe σ vs)
    (he : ∀ x, x ∈ xs → ∀ (H' : Hp) (R : VK), Same H1 H' → (∀ q o H'', Same H' H'' → H' q = none → H'' q = some o → Ob x o → R (.ref q) H'') → te ((wipe σ vs).set j (some x)) H' R)
    (q : ∀ D H' acc, H1 D = none → Same H1 H' → H' D = some (.lst acc) → acc.length = xs.length → (∀ (i : Nat) x, xs[i]? = some x → ∃ q o, acc[i]? = some (.ref q) ∧ q ≠ D ∧ H1 q = none ∧ H' q = some o ∧ Ob x o) → Q (.ref D) H') : LcBody (gName j) tYes te vs σ Q J H1 := by
  refine lcw w fun D hD => ⟨fun i H => Same H1 H ∧ ∃ acc, H D = some (.lst acc) ∧ acc.length = i ∧ ∀ (k : Nat) x, xs[k]? = some x → k < i → ∃ q o, acc[k]? = some (.ref q) ∧ q ≠ D ∧ H1 q = none ∧ H q = some o ∧ Ob x o, fun _ _ => True,
    ⟨same_upd hD, [], upd_same, rfl, fun k x _ h => absurd h (Nat.not_lt_zero _)⟩, True.intro, fun _ H s => hG H s.1, fun i x hx acc H s _ e hl => ?_, fun acc H s _ e hl => ?_⟩
  · have hi : i < 100000 := Nat.lt_trans (List.getElem?_eq_some_iff.mp hx).1 hz
    obtain ⟨s, acc', e', l', all⟩ := s
    rw [e] at e'
    cases e'
    refine ⟨hw x, ?_⟩
    have goal : te ((wipe σ vs).set j (some x)) H (LcEnd D (fun i H => Same H1 H ∧ ∃ acc, H D = some (.lst acc) ∧ acc.length = i ∧ ∀ (k : Nat) x, xs[k]? = some x → k < i → ∃ q o, acc[k]? = some (.ref q) ∧ q ≠ D ∧ H1 q = none ∧ H q = some o ∧ Ob x o) (fun _ _ => True) (i + 1)) := by
      refine he x (List.mem_of_getElem? hx) H _ s fun q o H4 s4 n4 e4 ob => ?_
      have qD : q ≠ D := (ne_of_none e n4).symm
      refine lc_end (s4 _ _ e) hl hi ⟨Same.upd (s.trans s4) hD, _, upd_same, by rw [List.length_append, l', List.length_singleton], fun k y hy hk => ?_⟩ True.intro
      by_cases hki : k < i
      · obtain ⟨q', o', a1, a2, a0, a3, a4⟩ := all k y hy hki
        exact ⟨q', o', by rw [List.getElem?_append_left (by omega)]; exact a1, a2, a0, by rw [upd_ne a2]; exact s4 _ _ a3, a4⟩
      · obtain rfl : k = i := by omega
        obtain rfl : x = y := Option.some.inj (hx.symm.trans hy)
        exact ⟨q, o, by rw [List.getElem?_append_right (by omega), show k - acc.length = 0 by omega]; rfl, qD, s.free n4, by rw [upd_ne qD]; exact e4, ob⟩
    exact goal
  · obtain ⟨s, acc', e', l', all⟩ := s
    rw [e] at e'
    cases e'
    exact q D H acc hD s e l' fun i x hx => all i x hx (List.getElem?_eq_some_iff.mp hx).1
theorem p_ownN {H : Hp} {Q : VK} {a : Addr} {t b : Int} {y : V} {r : Bool} (h : RAt C H a t b) (e : Er C H t b y r) (q : Q (.bl (!r)) H) : rOwn C (spNe C) (.ref a) y H Q := by
  obtain ⟨dx, h1⟩ := id h
  refine ⟨a, dx, _, rfl, h1, ?_, a, t, b, y, r, rfl, h, e, q⟩
  cases e with
  | rat h' => exact h'.elim fun dy h2 => .inr ⟨_, dy, _, rfl, h2⟩
  | kd h' _ => exact .inl ⟨_, h'⟩
  | int => exact .inl ⟨_, .int _⟩
def Pr (H : Hp) (q : Addr) (t b : Int) : Prop := H q = some (.tup [.int t, .int b]) ∧ 0 < b ∧ t.natAbs < 10 ^ 35 ∧ b.natAbs < 10 ^ 35
theorem big {x : Int} (h : x.natAbs < 10 ^ 35) : x.natAbs < 2 ^ 4000 := Nat.lt_trans h (Nat.lt_of_lt_of_le (by decide : 10 ^ 35 < 2 ^ 200) (Nat.pow_le_pow_right (by decide) (by decide)))
theorem big1 {x : Int} (h : x.natAbs < 10 ^ 35) : x.natAbs < 2 ^ 1000 := Nat.lt_trans h (Nat.lt_of_lt_of_le (by decide : 10 ^ 35 < 2 ^ 200) (Nat.pow_le_pow_right (by decide) (by decide)))
theorem bigdiv {x y : Int} (h0 : 0 < y) (h : y.natAbs < 10 ^ 35) : CDivW x y := ⟨h0, Nat.lt_of_lt_of_le (PySem.Flt.log2_lt_of (k := 1000) (by decide) (big1 h)) (by decide)⟩
-- ["script", "pool", "k", "some", "number", "ratio", "odd", "first", "second", "one"]
def spLaw (K : PySem.W.Frag) : Sp := fun vs H Q _ => ∃ (a : Addr) (ns : List Int), vs = [.ref a] ∧ SqL K H a (ns.map V.int) ∧ ns.length ≤ 63 ∧ ∀ H', Q (.bl true) H'
theorem ok_law (T : Tx K mg C) {f : Addr} {fd : FuncData} (F : Fun K "law" "law" s_law f fd) : GOk P w K mg base CX0 8 f fd ["script"] (spLaw K) := by
  have c__law_pool : Cal P w K mg base CX0 1 "_law_pool" (spPool K) := c__law_pool T
  have c__law_draw : Cal P w K mg base CX0 2 "_law_draw" spDraw := c__law_draw T
  have c__law_integer : Cal P w K mg base CX0 3 "_law_integer" spInteger := c__law_integer T
  have c__law_pair : Cal P w K mg base CX0 4 "_law_pair" spPair := c__law_pair T
  have c__law_lowest : Cal P w K mg base CX0 1 "_law_lowest" spLowest := c__law_lowest T
  have c__law_right : CalG P w K mg base CX0 7 "_law_right" spRight := c__law_right T
  have c_Ratio2 : C8.Mak P w K mg base 2 "Ratio" C (spIni C) [] := c_Ratio2 T.R
  have m_eq : OwnM P w K mg base 3 C "__eq__" (spEq C) := c_eq T.R
  have m_ne : OwnM P w K mg base 4 C "__ne__" (spNe C) := c_ne T.R
  refine g_of F sc_law (fun vs H Q E h => ?_) (fun cdv A outer s H vs Q E gd hr h => ?_)
  · obtain ⟨a, ns, rfl, _⟩ := h
    rfl
  · obtain ⟨a, ns, rfl, hS, hl, q⟩ := h
    have gd : (A.deeper (envOfC "law" (defScope s_law) s.heap.objs.size f cdv)).guards = some [] := gd
    have hr : Room 7 _ := hr
    refine Exists.imp (fun t h => ⟨h.1.nox, h.2⟩) (?_ : ∃ t, PSs (cxOf CX0 P w K mg base N_law "law" (defScope s_law) f cdv A outer s H E).nox (defBody s_law) t ∧ _)
    refine ⟨_, (pss_cons (ps_set (i := 1) sc_law.nd rfl (by first | exact Or.inl rfl | exact Or.inr rfl) (pe_c c__law_pool hr (by decide) (by rfl) pass0 (pa_cons (pv 0) pa_nil)))
      (pss_cons (ps_for PassesOwn.never rfl (pi_range1 (by rfl) T.n_range (pa_cons pe_int pa_nil)) (pg_name (i := 2) sc_law.nd rfl (by first | exact Or.inl rfl | exact Or.inr rfl)) (pss_cons (ps_set (i := 3) sc_law.nd rfl (by first | exact Or.inl rfl | exact Or.inr rfl) (pe_lst (pa_cons (pe_c c__law_pair hr (by decide) (by rfl) pass0 (pa_cons (pv 1) pa_nil)) (pa_cons (pe_c c__law_pair hr (by decide) (by rfl) pass0 (pa_cons (pv 1) pa_nil)) pa_nil))))
      (pss_cons (ps_asg (pe_lc (own := [("one", 9)]) (g := gName 9) (tt := tYes) rfl sc_law.nd (pi_listK (K := K) rfl (pv 3)) (blkOk_by (N := N_law) (sc := defScope s_law) (by decide +kernel)) (fun _ _ _ _ _ => (pg_name (i := 9) sc_law.nd rfl (by first | exact Or.inl rfl | exact Or.inr rfl))) (fun _ _ _ _ _ => pts_nil) (fun _ _ _ _ _ => (pe_c c__law_lowest hr (by decide) (by rfl) pass0 (pa_cons (pe_ix (r := rIx K) ix_seq (pv 9) pe_int (fun _ _ => rfl)) (pa_cons (pe_callB call_abs (by rfl) T.n_abs (by decide +kernel) (pa_cons (pe_ix (r := rIx K) ix_seq (pv 9) pe_int (fun _ _ => rfl)) pa_nil)) pa_nil))))) (pg_unl rfl (pgs_cons (pg_name (i := 7) sc_law.nd rfl (by first | exact Or.inl rfl | exact Or.inr rfl)) (pgs_cons (pg_name (i := 8) sc_law.nd rfl (by first | exact Or.inl rfl | exact Or.inr rfl)) pgs_nil))))
      (pss_cons (ps_if (pt_cmpR (r := rEqX K) (op_eqX hr.units) (pe_c c__law_draw hr (by decide) (by rfl) pass0 (pa_cons (pv 1) (pa_cons pe_int pa_nil))) pe_int (nomark _)) (pss_one (ps_set (i := 8) sc_law.nd rfl (by first | exact Or.inl rfl | exact Or.inr rfl) (pe_c c__law_lowest hr (by decide) (by rfl) pass0 (pa_cons (pe_op op_sub (pe_op (r := rAddX K) op_addX (pe_op op_muX (pe_ix (r := rIx K) ix_seq (pv 7) pe_int (fun _ _ => rfl)) pe_int) (pe_c c__law_draw hr (by decide) (by rfl) pass0 (pa_cons (pv 1) (pa_cons pe_int pa_nil)))) pe_int) (pa_cons (pe_op op_muX (pe_ix (r := rIx K) ix_seq (pv 7) pe_int (fun _ _ => rfl)) pe_int) pa_nil))))) pss_nil)
      (pss_cons (ps_set (i := 4) sc_law.nd rfl (by first | exact Or.inl rfl | exact Or.inr rfl) (pe_ix (r := rIx K) ix_seq (pe_lst (pa_cons (pe_c c__law_integer hr (by decide) (by rfl) pass0 (pa_cons (pv 1) pa_nil)) (pa_cons (pe_op op_fdX (pe_ix (r := rIx K) ix_seq (pv 7) pe_int (fun _ _ => rfl)) (pe_ix (r := rIx K) ix_seq (pv 7) pe_int (fun _ _ => rfl))) pa_nil))) (pe_c c__law_draw hr (by decide) (by rfl) pass0 (pa_cons (pv 1) (pa_cons pe_int pa_nil))) (fun _ _ => rfl)))
      (pss_cons (ps_if (PW.pt (pw_or (pt_not (pt_truK (K := K) rfl (pe_cG c__law_right hr gd (by decide) (by rfl) pass0 (pa_cons (pv 7) (pa_cons (pv 8) (pa_cons (pv 4) pa_nil)))) (by intro _; rfl))) (pw_or1 (pt_not (pt_truK (K := K) rfl (pe_cG c__law_right hr gd (by decide) (by rfl) pass0 (pa_cons (pv 8) (pa_cons (pv 7) (pa_cons pe_int pa_nil)))) (by intro _; rfl)))))) (pss_one (ps_ret pe_bl)) pss_nil)
      (pss_cons (ps_set (i := 5) sc_law.nd rfl (by first | exact Or.inl rfl | exact Or.inr rfl) (C8.pe_mk c_Ratio2 hr (by decide) (by rfl) (pa_cons (pe_ix (r := rIx K) ix_seq (pv 7) pe_int (fun _ _ => rfl)) (pa_cons (pe_ix (r := rIx K) ix_seq (pv 7) pe_int (fun _ _ => rfl)) pa_nil))))
      (pss_one (ps_for PassesOwn.never rfl (pi_listK (K := K) rfl (pe_lst (pa_cons pe_non (pa_cons (pe_callTy call_str_int (by rfl) T.n_str (by decide +kernel) (pa_cons (pe_ix (r := rIx K) ix_seq (pv 7) pe_int (fun _ _ => rfl)) pa_nil)) (pa_cons (pv 7) (pa_cons (pe_lst (pa_cons (pe_ix (r := rIx K) ix_seq (pv 7) pe_int (fun _ _ => rfl)) pa_nil)) (pa_cons pe_dnewK (pa_cons pe_bl (pa_cons pe_bl pa_nil))))))))) (pg_name (i := 6) sc_law.nd rfl (by first | exact Or.inl rfl | exact Or.inr rfl)) (pss_one (ps_if (PW.pt (pw_or (pt_cmpR (r := rOwn C (spEq C)) (op_own (m := "__eq__") (fun _ _ => rfl) m_eq rfl (by decide) hr T.R.ap) (pv 5) (pv 6) (nomark _)) (pw_or1 (pt_not (pt_cmpR (r := rOwn C (spNe C)) (op_own (m := "__ne__") (fun _ _ => rfl) m_ne rfl (by decide) hr T.R.ap) (pv 5) (pv 6) (nomark _)))))) (pss_one (ps_ret pe_bl)) pss_nil)))))))))))
      (pss_one (ps_ret pe_bl)))), ?_⟩
    walk_at "gr"
    refine ⟨a, ns, rfl, hS, hl, fun p n H1 hP s1 np nn => ?_⟩
    walk_at "gr"
    refine fow (xs := intsV 8) wx_range (fun i σ' H' => ∃ v2 v3 v4 v5 v6 v7 v8 v9 : Option V, σ' = [some (.ref a), some (.ref p), v2, v3, v4, v5, v6, v7, v8, v9] ∧ PoolAt H' p n (1000 * i))
      ⟨none, none, none, none, none, none, none, none, rfl, hP.mono (by omega)⟩ (fun _ _ _ _ => trivial) (fun i x σ' H' hx ⟨v2, v3, v4, v5, v6, v7, v8, v9, es, hP⟩ => ?_) (fun σ' H' ⟨v2, v3, v4, v5, v6, v7, v8, v9, es, hP⟩ => ?_)
    · obtain ⟨hi, rfl⟩ := intsV_at hx
      subst es
      walk_at "gr"
      refine ⟨p, n, 1000 * i, rfl, hP, by omega, by omega, fun q1 t1 b1 H2 l1 z1 m1 e1 n1 hP2 kp2 => ?_⟩
      walk_at "gr"
      refine ⟨p, n, 1000 * i + 8, rfl, hP2, by omega, by omega, fun q2 t2 b2 H3 l2 z2 m2 e2 n2 hP3 kp3 => ?_⟩
      have e1 := kp3.get e1 (hP.ne n1).1 (hP.ne n1).2
      walk_at "gr"
      rename_i L H4 nL sL eL
      have hP4 := hP3.same sL
      have e1 := sL _ _ e1
      have e2 := sL _ _ e2
      refine lcw_obj (xs := [.ref q1, .ref q2]) wx_list (fun _ o => ∃ t b : Int, o = .tup [.int t, .int b] ∧ 0 < b ∧ t.natAbs < 10 ^ 32 ∧ b.natAbs < 10 ^ 32) (fun H' s => SqL.of (s _ _ eL)) (by show 2 < 100000; decide) (fun _ => rfl) (fun x hx H' R sR k => ?_) (fun D H5 acc nD s5 eD la all => ?_)
      · obtain ⟨q0, t0, b0, rfl, e0, z0, l0, m0⟩ : ∃ q t b, x = .ref q ∧ H' q = some (.tup [.int t, .int b]) ∧ b ≠ 0 ∧ t.natAbs < 10 ^ 30 ∧ b.natAbs < 10 ^ 31 := by
          simp only [List.mem_cons, List.not_mem_nil, or_false] at hx
          rcases hx with rfl | rfl
          · exact ⟨_, _, _, rfl, sR _ _ e1, z1, l1, m1⟩
          · exact ⟨_, _, _, rfl, sR _ _ e2, z2, l2, m2⟩
        have g0 : atI [V.int t0, V.int b0] 0 = some (.int t0) := rfl
        have g1 : atI [V.int t0, V.int b0] 1 = some (.int b0) := rfl
        walk_at "gr"
        have ab : (if b0 < 0 then -b0 else b0) = (b0.natAbs : Int) := by split <;> omega
        rw [ab]
        have pb : b0.natAbs < 2 ^ 1000 := big1 (by omega)
        refine ⟨t0, (b0.natAbs : Int), rfl, by omega, by rw [Int.natAbs_natCast]; exact pb, fun q H6 u v e6 n6 s6 v0 vb ub => ?_⟩
        exact k q _ H6 s6 n6 e6 ⟨u, v, rfl, v0, by omega, by omega⟩
      · obtain ⟨x1, o1, a1, d1, n3, f1, t3, b3, rfl, z3, l3, m3⟩ := all 0 _ rfl
        obtain ⟨x2, o2, a2, d2, n4, f2, t4, b4, rfl, z4, l4, m4⟩ := all 1 _ rfl
        obtain rfl : acc = [.ref x1, .ref x2] := by
          match acc, la, a1, a2 with
          | [y1, y2], _, a1, a2 => rw [Option.some.inj a1, Option.some.inj a2]
        have hP5 := hP4.same s5
        walk_at "gr"
        refine ⟨D, _, rfl, SqL.of eD, rfl, ?_⟩
        refine ⟨.ref x1, [.ref x2], rfl, ?_⟩
        refine i_name ?_
        refine ⟨.ref x2, [], rfl, ?_⟩
        refine i_name ?_
        refine ⟨rfl, ?_⟩
        walk_at "gr"
        refine ⟨p, n, 3, 1000 * i + 8 + 8, rfl, hP5, by omega, by omega, by decide, by decide +kernel, fun r1 H6 q0 q1 P6 kp6 => ?_⟩
        obtain ⟨x1p, x1n⟩ := hP4.ne n3
        obtain ⟨x2p, x2n⟩ := hP4.ne n4
        have f1 := kp6.get f1 x1p x1n
        have f2 := kp6.get f2 x2p x2n
        have c0 : atI [V.int t3, V.int b3] 0 = some (.int t3) := rfl
        have c1 : atI [V.int t3, V.int b3] 1 = some (.int b3) := rfl
        walk_at "gr"
        refine ift (fun hc => ?_) (fun hc => ?_)
        · have m3t : CMulW t3 3 := wide_mul (a := 1000) (b := 10) (big1 (by omega)) (by decide) (by decide) (by decide) (by decide)
          have m3b : CMulW b3 3 := wide_mul (a := 1000) (b := 10) (big1 (by omega)) (by decide) (by decide) (by decide) (by decide)
          walk_at "gr"
          refine ⟨p, n, 3, 1000 * i + 8 + 8 + 1, rfl, P6, by omega, by omega, by decide, by decide +kernel, fun r2 H7 u0 u1 P7 kp7 => ?_⟩
          have f1 := kp7.get f1 x1p x1n
          walk_at "gr"
          refine ⟨_, _, rfl, by omega, big1 (by omega), fun x5 H8 t5 b5 e8 n8 s8 z6 l6 m6 => ?_⟩
          have f1 := s8 _ _ f1
          have f2 := e8
          obtain ⟨x2p, x2n⟩ := P7.ne n8
          have P6 := P7.same s8
          have cd : CDivW t3 b3 := bigdiv z3 (by omega)
          walk_at "gr"
          refine ⟨p, n, 1000 * i + 8 + 8 + 1 + 1, rfl, P6, by omega, by omega, fun zz H7 lz P7 kp7 => ?_⟩
          have f1 := kp7.get f1 x1p x1n
          have f2 := kp7.get f2 x2p x2n
          walk_at "gr"
          rename_i L6 H8 nL6 sL6 eL6
          have P8 := P7.same sL6
          refine ⟨p, n, 2, 1000 * i + 8 + 8 + 1 + 1 + 3, rfl, P8, by omega, by omega, by decide, by decide +kernel, fun r2 H9 q0 q1 P9 kp9 => ?_⟩
          have f1 := kp9.get (sL6 _ _ f1) x1p x1n
          have f2 := kp9.get (sL6 _ _ f2) x2p x2n
          have eL9 := kp9.get eL6 (P7.ne nL6).1 (P7.ne nL6).2
          obtain ⟨z, hz, zl⟩ : ∃ z : Int, atI [V.int zz, V.int (t3 / b3)] r2 = some (.int z) ∧ z.natAbs < 10 ^ 35 := by
            rcases (by omega : r2 = 0 ∨ r2 = 1) with rfl | rfl
            · exact ⟨_, rfl, by omega⟩
            · exact ⟨_, rfl, Nat.lt_of_le_of_lt (Int.natAbs_ediv_le_natAbs _ _) (by omega)⟩
          walk_at "gr"
          have S3 : Sm t3 b3 := ⟨big (by omega), big (by omega)⟩
          have S4 : Sm t5 b5 := ⟨big (by omega), big (by omega)⟩
          refine ⟨x1, x5, t3, b3, t5, b5, z, rfl, f1, f2, z3, z6, S3, S4, ⟨big zl, big (by decide)⟩, fun H10 s10 => ?_⟩
          have f1 := s10 _ _ f1
          have f2 := s10 _ _ f2
          walk_at "gr"
          refine ⟨x5, x1, t5, b5, t3, b3, 0, rfl, f2, f1, z6, z3, S4, S3, ⟨big (by decide), big (by decide)⟩, fun H11 s11 => ?_⟩
          have f1 := s11 _ _ f1
          have P11 := (P9.same s10).same s11
          have c0 : atI [V.int t3, V.int b3] 0 = some (.int t3) := rfl
          have c1 : atI [V.int t3, V.int b3] 1 = some (.int b3) := rfl
          walk_at "gr"
          refine p_mk (vs := [.int t3, .int b3]) (dvs := []) rfl (by omega) S3.2 fun pr H12 rr s12 n12 => ?_
          have f1 := s12 _ _ f1
          have P12 := P11.same s12
          walk_at "gr"
          have lg : t3.natAbs.log2 < 1920 := Nat.lt_of_lt_of_le (PySem.Flt.log2_lt_of (k := 1000) (by decide) (big1 (by omega))) (by decide)
          have sl : (PySem.Str.ofString (toString t3)).length ≤ 10000 := Nat.le_trans (int_text_len_1921 lg) (by decide)
          refine ⟨lg, ?_⟩
          walk_at "gr"
          rename_i M1 G1 nM1 sM1 eM1 M2 G2 nM2 sM2 eM2 M3 G3 nM3 sM3 eM3
          have rr := ((rr.same sM1).same sM2).same sM3
          have f1 := sM3 _ _ (sM2 _ _ (sM1 _ _ f1))
          have eM1 := sM3 _ _ (sM2 _ _ eM1)
          have eM2 := sM3 _ _ eM2
          have P15 := ((P12.same sM1).same sM2).same sM3
          have kinds : ∀ x ∈ [V.non, V.str (Str.ofString (toString t3)), V.ref x1, V.ref M1, V.ref M2, V.bl true, V.bl false], ∃ kn, Kd G3 x kn ∧ kn ≠ .int := fun x hx => by
            simp only [List.mem_cons, List.not_mem_nil, or_false] at hx
            rcases hx with rfl | rfl | rfl | rfl | rfl | rfl | rfl
            · exact ⟨_, .non, by decide⟩
            · exact ⟨_, .str _ sl, by decide⟩
            · exact ⟨_, .tup f1, by decide⟩
            · exact ⟨_, .lst eM1, by decide⟩
            · exact ⟨_, .dct eM2, by decide⟩
            · exact ⟨_, .bl true, by decide⟩
            · exact ⟨_, .bl false, by decide⟩
          refine fow (xs := [V.non, V.str (Str.ofString (toString t3)), V.ref x1, V.ref M1, V.ref M2, V.bl true, V.bl false]) wx_list (fun _ σ' H' => ∃ v6 : Option V, σ' = [some (.ref a), some (.ref p), some (.int i), some (.ref L), some (.int z), some (.ref pr), v6, some (.ref x1), some (.ref x5), v9] ∧ H' = G3) ⟨v6, rfl, rfl⟩ (fun _ _ _ ⟨_, _, e⟩ => e ▸ SqL.of eM3) (fun j x σ' H' hx ⟨v6', es, eh⟩ => ?_) (fun σ' H' ⟨v6', es, eh⟩ => ?_)
          · subst es eh
            obtain ⟨kn, hk, hn⟩ := kinds x (List.mem_of_getElem? hx)
            walk_at "gr"
            refine p_own rr (.kd hk hn) ?_
            walk_at "gr"
            refine p_ownN rr (.kd hk hn) ?_
            walk_at "gr"
            exact ⟨_, rfl, rfl⟩
          · subst es eh
            exact ⟨_, _, _, _, _, _, _, _, rfl, P15.mono (by omega)⟩
        · have P6 := P6.mono (show 1000 * (i : Int) + 8 + 8 + 1 ≤ 1000 * i + 8 + 8 + 1 + 1 by omega)
          have z6 := z4
          have cd : CDivW t3 b3 := bigdiv z3 (by omega)
          walk_at "gr"
          refine ⟨p, n, 1000 * i + 8 + 8 + 1 + 1, rfl, P6, by omega, by omega, fun zz H7 lz P7 kp7 => ?_⟩
          have f1 := kp7.get f1 x1p x1n
          have f2 := kp7.get f2 x2p x2n
          walk_at "gr"
          rename_i L6 H8 nL6 sL6 eL6
          have P8 := P7.same sL6
          refine ⟨p, n, 2, 1000 * i + 8 + 8 + 1 + 1 + 3, rfl, P8, by omega, by omega, by decide, by decide +kernel, fun r2 H9 q0 q1 P9 kp9 => ?_⟩
          have f1 := kp9.get (sL6 _ _ f1) x1p x1n
          have f2 := kp9.get (sL6 _ _ f2) x2p x2n
          have eL9 := kp9.get eL6 (P7.ne nL6).1 (P7.ne nL6).2
          obtain ⟨z, hz, zl⟩ : ∃ z : Int, atI [V.int zz, V.int (t3 / b3)] r2 = some (.int z) ∧ z.natAbs < 10 ^ 35 := by
            rcases (by omega : r2 = 0 ∨ r2 = 1) with rfl | rfl
            · exact ⟨_, rfl, by omega⟩
            · exact ⟨_, rfl, Nat.lt_of_le_of_lt (Int.natAbs_ediv_le_natAbs _ _) (by omega)⟩
          walk_at "gr"
          have S3 : Sm t3 b3 := ⟨big (by omega), big (by omega)⟩
          have S4 : Sm t4 b4 := ⟨big (by omega), big (by omega)⟩
          refine ⟨x1, x2, t3, b3, t4, b4, z, rfl, f1, f2, z3, z6, S3, S4, ⟨big zl, big (by decide)⟩, fun H10 s10 => ?_⟩
          have f1 := s10 _ _ f1
          have f2 := s10 _ _ f2
          walk_at "gr"
          refine ⟨x2, x1, t4, b4, t3, b3, 0, rfl, f2, f1, z6, z3, S4, S3, ⟨big (by decide), big (by decide)⟩, fun H11 s11 => ?_⟩
          have f1 := s11 _ _ f1
          have P11 := (P9.same s10).same s11
          have c0 : atI [V.int t3, V.int b3] 0 = some (.int t3) := rfl
          have c1 : atI [V.int t3, V.int b3] 1 = some (.int b3) := rfl
          walk_at "gr"
          refine p_mk (vs := [.int t3, .int b3]) (dvs := []) rfl (by omega) S3.2 fun pr H12 rr s12 n12 => ?_
          have f1 := s12 _ _ f1
          have P12 := P11.same s12
          walk_at "gr"
          have lg : t3.natAbs.log2 < 1920 := Nat.lt_of_lt_of_le (PySem.Flt.log2_lt_of (k := 1000) (by decide) (big1 (by omega))) (by decide)
          have sl : (PySem.Str.ofString (toString t3)).length ≤ 10000 := Nat.le_trans (int_text_len_1921 lg) (by decide)
          refine ⟨lg, ?_⟩
          walk_at "gr"
          rename_i M1 G1 nM1 sM1 eM1 M2 G2 nM2 sM2 eM2 M3 G3 nM3 sM3 eM3
          have rr := ((rr.same sM1).same sM2).same sM3
          have f1 := sM3 _ _ (sM2 _ _ (sM1 _ _ f1))
          have eM1 := sM3 _ _ (sM2 _ _ eM1)
          have eM2 := sM3 _ _ eM2
          have P15 := ((P12.same sM1).same sM2).same sM3
          have kinds : ∀ x ∈ [V.non, V.str (Str.ofString (toString t3)), V.ref x1, V.ref M1, V.ref M2, V.bl true, V.bl false], ∃ kn, Kd G3 x kn ∧ kn ≠ .int := fun x hx => by
            simp only [List.mem_cons, List.not_mem_nil, or_false] at hx
            rcases hx with rfl | rfl | rfl | rfl | rfl | rfl | rfl
            · exact ⟨_, .non, by decide⟩
            · exact ⟨_, .str _ sl, by decide⟩
            · exact ⟨_, .tup f1, by decide⟩
            · exact ⟨_, .lst eM1, by decide⟩
            · exact ⟨_, .dct eM2, by decide⟩
            · exact ⟨_, .bl true, by decide⟩
            · exact ⟨_, .bl false, by decide⟩
          refine fow (xs := [V.non, V.str (Str.ofString (toString t3)), V.ref x1, V.ref M1, V.ref M2, V.bl true, V.bl false]) wx_list (fun _ σ' H' => ∃ v6 : Option V, σ' = [some (.ref a), some (.ref p), some (.int i), some (.ref L), some (.int z), some (.ref pr), v6, some (.ref x1), some (.ref x2), v9] ∧ H' = G3) ⟨v6, rfl, rfl⟩ (fun _ _ _ ⟨_, _, e⟩ => e ▸ SqL.of eM3) (fun j x σ' H' hx ⟨v6', es, eh⟩ => ?_) (fun σ' H' ⟨v6', es, eh⟩ => ?_)
          · subst es eh
            obtain ⟨kn, hk, hn⟩ := kinds x (List.mem_of_getElem? hx)
            walk_at "gr"
            refine p_own rr (.kd hk hn) ?_
            walk_at "gr"
            refine p_ownN rr (.kd hk hn) ?_
            walk_at "gr"
            exact ⟨_, rfl, rfl⟩
          · subst es eh
            exact ⟨_, _, _, _, _, _, _, _, rfl, P15.mono (by omega)⟩
    · subst es
      walk_at "gr"
      exact q _
end
end Pk

namespace Pk
open PySem PySem.Spec PyProof.Rows L2
/-! ### what the top has written; the law's own head -/
theorem all_mk {l : PySem.W.OpenLaw} {w : World} {K : PySem.W.Frag} {h : Heap} {mg : Str → Option Value} {fa : Addr} (X : K.In h) (G : h.Ns mainGlobals mg) (hfa : mg "law" = some (.ref fa))
    {C : Addr}
    {f0 : Addr} {od0 an0 : Option Addr} {sl0 : Array (Option Value)} {oc0 kV0 dc0 pm0 cd0 ct0 : Value}
    {f1 : Addr} {od1 an1 : Option Addr} {sl1 : Array (Option Value)} {oc1 kV1 dc1 pm1 cd1 ct1 : Value}
    {f2 : Addr} {od2 an2 : Option Addr} {sl2 : Array (Option Value)} {oc2 kV2 dc2 pm2 cd2 ct2 : Value}
    {f3 : Addr} {od3 an3 : Option Addr} {sl3 : Array (Option Value)} {oc3 kV3 dc3 pm3 cd3 ct3 : Value}
    {f4 : Addr} {od4 an4 : Option Addr} {sl4 : Array (Option Value)} {oc4 kV4 dc4 pm4 cd4 ct4 : Value}
    {f5 : Addr} {od5 an5 : Option Addr} {sl5 : Array (Option Value)} {oc5 kV5 dc5 pm5 cd5 ct5 : Value}
    {f6 : Addr} {od6 an6 : Option Addr} {sl6 : Array (Option Value)} {oc6 kV6 dc6 pm6 cd6 ct6 : Value}
    {f7 : Addr} {od7 an7 : Option Addr} {sl7 : Array (Option Value)} {oc7 kV7 dc7 pm7 cd7 ct7 : Value}
    {f8 : Addr} {od8 an8 : Option Addr} {sl8 : Array (Option Value)} {oc8 kV8 dc8 pm8 cd8 ct8 : Value}
    {f9 : Addr} {od9 an9 : Option Addr} {sl9 : Array (Option Value)} {oc9 kV9 dc9 pm9 cd9 ct9 : Value}
    {f10 : Addr} {od10 an10 : Option Addr} {sl10 : Array (Option Value)} {oc10 kV10 dc10 pm10 cd10 ct10 : Value}
    {f11 : Addr} {od11 an11 : Option Addr} {sl11 : Array (Option Value)} {oc11 kV11 dc11 pm11 cd11 ct11 : Value}
    {f12 : Addr} {od12 an12 : Option Addr} {sl12 : Array (Option Value)} {oc12 kV12 dc12 pm12 cd12 ct12 : Value}
    {f13 : Addr} {od13 an13 : Option Addr} {sl13 : Array (Option Value)} {oc13 kV13 dc13 pm13 cd13 ct13 : Value}
    {f14 : Addr} {od14 an14 : Option Addr} {sl14 : Array (Option Value)} {oc14 kV14 dc14 pm14 cd14 ct14 : Value}
    {f15 : Addr} {od15 an15 : Option Addr} {sl15 : Array (Option Value)} {oc15 kV15 dc15 pm15 cd15 ct15 : Value}
    {f16 : Addr} {od16 an16 : Option Addr} {sl16 : Array (Option Value)} {oc16 kV16 dc16 pm16 cd16 ct16 : Value}
    {f17 : Addr} {od17 an17 : Option Addr} {sl17 : Array (Option Value)} {oc17 kV17 dc17 pm17 cd17 ct17 : Value}
    {f18 : Addr} {od18 an18 : Option Addr} {sl18 : Array (Option Value)} {oc18 kV18 dc18 pm18 cd18 ct18 : Value}
    {f19 : Addr} {od19 an19 : Option Addr} {sl19 : Array (Option Value)} {oc19 kV19 dc19 pm19 cd19 ct19 : Value}
    {f20 : Addr} {od20 an20 : Option Addr} {sl20 : Array (Option Value)} {oc20 kV20 dc20 pm20 cd20 ct20 : Value}
    {p20 : Addr} {r20 : List Value}
    {f21 : Addr} {od21 an21 : Option Addr} {sl21 : Array (Option Value)} {oc21 kV21 dc21 pm21 cd21 ct21 : Value}
    {p21 : Addr} {r21 : List Value}
    {dT : Addr} {odT : Option Addr} {slT : Array (Option Value)} {ocT : Value} {nT' : Nat} {tk : Tok}
    {f22 : Addr} {od22 an22 : Option Addr} {sl22 : Array (Option Value)} {oc22 kV22 dc22 pm22 cd22 ct22 : Value}
    (aC : PySem.W.nsIn K mainGlobals "Ratio" = some (some (.ref C)))
    (pg : PySem.W.plainGet K C Str.empty = true)
    (hd : PySem.W.hasDictIn K C = true)
    (po : PySem.W.plainOver K C = true)
    (sa : PySem.W.findIn K (.ref C) "__setattr__" = some (some (.builtin "object.__setattr__")))
    (mk : PySem.W.makesIn K C = true)
    (kc : PySem.W.keepIn K (.ref C) = true)
    (ca : PySem.W.findIn K (.ref C) "__class__" = some (some (.builtin "object.__class__")))
    (cn : PySem.W.specialIn K (.builtin "object.__class__") "__get__" = some (some (.builtin "getset_descriptor.__get__")))
    (ctk : PySem.W.takesIn K (.builtin "object.__class__") = some true)
    (cm : PySem.W.mroIn K C (.type "object") = some true)
    (sf : PySem.W.kitOne K (.ref C) (.ref C) = some true)
    (si : PySem.W.kitOne K (.ref C) (.type "int") = some false)
    (sk0 : PySem.W.kitOne K (.type "NoneType") (.ref C) = some false)
    (sk1 : PySem.W.kitOne K (.type "bool") (.ref C) = some false)
    (sk2 : PySem.W.kitOne K (.type "int") (.ref C) = some false)
    (sk3 : PySem.W.kitOne K (.type "str") (.ref C) = some false)
    (sk4 : PySem.W.kitOne K (.type "list") (.ref C) = some false)
    (sk5 : PySem.W.kitOne K (.type "tuple") (.ref C) = some false)
    (sk6 : PySem.W.kitOne K (.type "dict") (.ref C) = some false)
    (ap0 : PySem.W.subIn K (.type "NoneType") (.ref C) = some false)
    (ap1 : PySem.W.subIn K (.type "bool") (.ref C) = some false)
    (ap2 : PySem.W.subIn K (.type "int") (.ref C) = some false)
    (ap3 : PySem.W.subIn K (.type "str") (.ref C) = some false)
    (ap4 : PySem.W.subIn K (.type "list") (.ref C) = some false)
    (ap5 : PySem.W.subIn K (.type "tuple") (.ref C) = some false)
    (ap6 : PySem.W.subIn K (.type "dict") (.ref C) = some false)
    (sI : PySem.W.subIn K (.ref C) (.type "int") = some false)
    (nT : PySem.W.findIn K (.ref C) "_top" = some none)
    (nB : PySem.W.findIn K (.ref C) "_bottom" = some none)
    (gc : PySem.W.nsIn K mainGlobals "gcd" = some (some (.builtin "math.gcd")))
    (z_int : PySem.W.nsIn K mainGlobals "int" = some none)
    (z_len : PySem.W.nsIn K mainGlobals "len" = some none)
    (z_abs : PySem.W.nsIn K mainGlobals "abs" = some none)
    (z_bool : PySem.W.nsIn K mainGlobals "bool" = some none)
    (z_repr : PySem.W.nsIn K mainGlobals "repr" = some none)
    (z_str : PySem.W.nsIn K mainGlobals "str" = some none)
    (z_range : PySem.W.nsIn K mainGlobals "range" = some none)
    (z_isinstance : PySem.W.nsIn K mainGlobals "isinstance" = some none)
    (a0 : PySem.W.nsIn K mainGlobals "_law_pool" = some (some (.ref f0)))
    (l0 : K.lookup f0 = some ⟨oc0, od0, .func (PySem.W.fnOf "_law_pool" "_law_pool" (defArgs s__law_pool) (defBody s__law_pool) (defScope s__law_pool) .none kV0 dc0 pm0 an0 cd0 ct0), sl0⟩)
    (c0 : PySem.W.codeIn K cd0 "_law_pool" = true)
    (k0 : PySem.W.keepIn K (.ref f0) = true)
    (a1 : PySem.W.nsIn K mainGlobals "_law_mixed" = some (some (.ref f1)))
    (l1 : K.lookup f1 = some ⟨oc1, od1, .func (PySem.W.fnOf "_law_mixed" "_law_mixed" (defArgs s__law_mixed) (defBody s__law_mixed) (defScope s__law_mixed) .none kV1 dc1 pm1 an1 cd1 ct1), sl1⟩)
    (c1 : PySem.W.codeIn K cd1 "_law_mixed" = true)
    (k1 : PySem.W.keepIn K (.ref f1) = true)
    (a2 : PySem.W.nsIn K mainGlobals "_law_draw" = some (some (.ref f2)))
    (l2 : K.lookup f2 = some ⟨oc2, od2, .func (PySem.W.fnOf "_law_draw" "_law_draw" (defArgs s__law_draw) (defBody s__law_draw) (defScope s__law_draw) .none kV2 dc2 pm2 an2 cd2 ct2), sl2⟩)
    (c2 : PySem.W.codeIn K cd2 "_law_draw" = true)
    (k2 : PySem.W.keepIn K (.ref f2) = true)
    (a3 : PySem.W.nsIn K mainGlobals "_law_lowest" = some (some (.ref f3)))
    (l3 : K.lookup f3 = some ⟨oc3, od3, .func (PySem.W.fnOf "_law_lowest" "_law_lowest" (defArgs s__law_lowest) (defBody s__law_lowest) (defScope s__law_lowest) .none kV3 dc3 pm3 an3 cd3 ct3), sl3⟩)
    (c3 : PySem.W.codeIn K cd3 "_law_lowest" = true)
    (k3 : PySem.W.keepIn K (.ref f3) = true)
    (a4 : PySem.W.nsIn K mainGlobals "_law_integer" = some (some (.ref f4)))
    (l4 : K.lookup f4 = some ⟨oc4, od4, .func (PySem.W.fnOf "_law_integer" "_law_integer" (defArgs s__law_integer) (defBody s__law_integer) (defScope s__law_integer) .none kV4 dc4 pm4 an4 cd4 ct4), sl4⟩)
    (c4 : PySem.W.codeIn K cd4 "_law_integer" = true)
    (k4 : PySem.W.keepIn K (.ref f4) = true)
    (a5 : PySem.W.nsIn K mainGlobals "_law_pair" = some (some (.ref f5)))
    (l5 : K.lookup f5 = some ⟨oc5, od5, .func (PySem.W.fnOf "_law_pair" "_law_pair" (defArgs s__law_pair) (defBody s__law_pair) (defScope s__law_pair) .none kV5 dc5 pm5 an5 cd5 ct5), sl5⟩)
    (c5 : PySem.W.codeIn K cd5 "_law_pair" = true)
    (k5 : PySem.W.keepIn K (.ref f5) = true)
    (a6 : PySem.W.nsIn K mainGlobals "_law_signs" = some (some (.ref f6)))
    (l6 : K.lookup f6 = some ⟨oc6, od6, .func (PySem.W.fnOf "_law_signs" "_law_signs" (defArgs s__law_signs) (defBody s__law_signs) (defScope s__law_signs) .none kV6 dc6 pm6 an6 cd6 ct6), sl6⟩)
    (c6 : PySem.W.codeIn K cd6 "_law_signs" = true)
    (k6 : PySem.W.keepIn K (.ref f6) = true)
    (a7 : PySem.W.nsIn K mainGlobals "_law_due" = some (some (.ref f7)))
    (l7 : K.lookup f7 = some ⟨oc7, od7, .func (PySem.W.fnOf "_law_due" "_law_due" (defArgs s__law_due) (defBody s__law_due) (defScope s__law_due) .none kV7 dc7 pm7 an7 cd7 ct7), sl7⟩)
    (c7 : PySem.W.codeIn K cd7 "_law_due" = true)
    (k7 : PySem.W.keepIn K (.ref f7) = true)
    (a8 : PySem.W.nsIn K mainGlobals "_law_right" = some (some (.ref f8)))
    (l8 : K.lookup f8 = some ⟨oc8, od8, .func (PySem.W.fnOf "_law_right" "_law_right" (defArgs s__law_right) (defBody s__law_right) (defScope s__law_right) .none kV8 dc8 pm8 an8 cd8 ct8), sl8⟩)
    (c8 : PySem.W.codeIn K cd8 "_law_right" = true)
    (k8 : PySem.W.keepIn K (.ref f8) = true)
    (a9 : PySem.W.nsIn K mainGlobals "law" = some (some (.ref f9)))
    (l9 : K.lookup f9 = some ⟨oc9, od9, .func (PySem.W.fnOf "law" "law" (defArgs s_law) (defBody s_law) (defScope s_law) .none kV9 dc9 pm9 an9 cd9 ct9), sl9⟩)
    (c9 : PySem.W.codeIn K cd9 "law" = true)
    (k9 : PySem.W.keepIn K (.ref f9) = true)
    (a10 : PySem.W.nsIn K mainGlobals "is_whole" = some (some (.ref f10)))
    (l10 : K.lookup f10 = some ⟨oc10, od10, .func (PySem.W.fnOf "is_whole" "is_whole" (defArgs s_is_whole) (defBody s_is_whole) (defScope s_is_whole) .none kV10 dc10 pm10 an10 cd10 ct10), sl10⟩)
    (c10 : PySem.W.codeIn K cd10 "is_whole" = true)
    (k10 : PySem.W.keepIn K (.ref f10) = true)
    (a11 : PySem.W.nsIn K mainGlobals "is_number" = some (some (.ref f11)))
    (l11 : K.lookup f11 = some ⟨oc11, od11, .func (PySem.W.fnOf "is_number" "is_number" (defArgs s_is_number) (defBody s_is_number) (defScope s_is_number) .none kV11 dc11 pm11 an11 cd11 ct11), sl11⟩)
    (c11 : PySem.W.codeIn K cd11 "is_number" = true)
    (k11 : PySem.W.keepIn K (.ref f11) = true)
    (a12 : PySem.W.nsIn K mainGlobals "as_ratio" = some (some (.ref f12)))
    (l12 : K.lookup f12 = some ⟨oc12, od12, .func (PySem.W.fnOf "as_ratio" "as_ratio" (defArgs s_as_ratio) (defBody s_as_ratio) (defScope s_as_ratio) .none kV12 dc12 pm12 an12 cd12 ct12), sl12⟩)
    (c12 : PySem.W.codeIn K cd12 "as_ratio" = true)
    (k12 : PySem.W.keepIn K (.ref f12) = true)
    (a13 : PySem.W.findIn K (.ref C) "__bool__" = some (some (.ref f13)))
    (i13 : PySem.W.isFn K (.ref f13) = true)
    (l13 : K.lookup f13 = some ⟨oc13, od13, .func (PySem.W.fnOf "__bool__" "Ratio.__bool__" (defArgs s_Ratio___bool__) (defBody s_Ratio___bool__) (defScope s_Ratio___bool__) .none kV13 dc13 pm13 an13 cd13 ct13), sl13⟩)
    (c13 : PySem.W.codeIn K cd13 "Ratio.__bool__" = true)
    (k13 : PySem.W.keepIn K (.ref f13) = true)
    (a14 : PySem.W.findIn K (.ref C) "__eq__" = some (some (.ref f14)))
    (i14 : PySem.W.isFn K (.ref f14) = true)
    (l14 : K.lookup f14 = some ⟨oc14, od14, .func (PySem.W.fnOf "__eq__" "Ratio.__eq__" (defArgs s_Ratio___eq__) (defBody s_Ratio___eq__) (defScope s_Ratio___eq__) .none kV14 dc14 pm14 an14 cd14 ct14), sl14⟩)
    (c14 : PySem.W.codeIn K cd14 "Ratio.__eq__" = true)
    (k14 : PySem.W.keepIn K (.ref f14) = true)
    (a15 : PySem.W.findIn K (.ref C) "__ne__" = some (some (.ref f15)))
    (i15 : PySem.W.isFn K (.ref f15) = true)
    (l15 : K.lookup f15 = some ⟨oc15, od15, .func (PySem.W.fnOf "__ne__" "Ratio.__ne__" (defArgs s_Ratio___ne__) (defBody s_Ratio___ne__) (defScope s_Ratio___ne__) .none kV15 dc15 pm15 an15 cd15 ct15), sl15⟩)
    (c15 : PySem.W.codeIn K cd15 "Ratio.__ne__" = true)
    (k15 : PySem.W.keepIn K (.ref f15) = true)
    (a16 : PySem.W.findIn K (.ref C) "__lt__" = some (some (.ref f16)))
    (i16 : PySem.W.isFn K (.ref f16) = true)
    (l16 : K.lookup f16 = some ⟨oc16, od16, .func (PySem.W.fnOf "__lt__" "Ratio.__lt__" (defArgs s_Ratio___lt__) (defBody s_Ratio___lt__) (defScope s_Ratio___lt__) .none kV16 dc16 pm16 an16 cd16 ct16), sl16⟩)
    (c16 : PySem.W.codeIn K cd16 "Ratio.__lt__" = true)
    (k16 : PySem.W.keepIn K (.ref f16) = true)
    (a17 : PySem.W.findIn K (.ref C) "__le__" = some (some (.ref f17)))
    (i17 : PySem.W.isFn K (.ref f17) = true)
    (l17 : K.lookup f17 = some ⟨oc17, od17, .func (PySem.W.fnOf "__le__" "Ratio.__le__" (defArgs s_Ratio___le__) (defBody s_Ratio___le__) (defScope s_Ratio___le__) .none kV17 dc17 pm17 an17 cd17 ct17), sl17⟩)
    (c17 : PySem.W.codeIn K cd17 "Ratio.__le__" = true)
    (k17 : PySem.W.keepIn K (.ref f17) = true)
    (a18 : PySem.W.findIn K (.ref C) "__gt__" = some (some (.ref f18)))
    (i18 : PySem.W.isFn K (.ref f18) = true)
    (l18 : K.lookup f18 = some ⟨oc18, od18, .func (PySem.W.fnOf "__gt__" "Ratio.__gt__" (defArgs s_Ratio___gt__) (defBody s_Ratio___gt__) (defScope s_Ratio___gt__) .none kV18 dc18 pm18 an18 cd18 ct18), sl18⟩)
    (c18 : PySem.W.codeIn K cd18 "Ratio.__gt__" = true)
    (k18 : PySem.W.keepIn K (.ref f18) = true)
    (a19 : PySem.W.findIn K (.ref C) "__ge__" = some (some (.ref f19)))
    (i19 : PySem.W.isFn K (.ref f19) = true)
    (l19 : K.lookup f19 = some ⟨oc19, od19, .func (PySem.W.fnOf "__ge__" "Ratio.__ge__" (defArgs s_Ratio___ge__) (defBody s_Ratio___ge__) (defScope s_Ratio___ge__) .none kV19 dc19 pm19 an19 cd19 ct19), sl19⟩)
    (c19 : PySem.W.codeIn K cd19 "Ratio.__ge__" = true)
    (k19 : PySem.W.keepIn K (.ref f19) = true)
    (a20 : PySem.W.findIn K (.ref C) "top" = some (some (.ref p20)))
    (g20 : PySem.W.specialIn K (.ref p20) "__get__" = some (some (.builtin "property.__get__")))
    (t20 : PySem.W.takesIn K (.ref p20) = some true)
    (q20 : PySem.W.recIn K p20 "property" = some (.ref f20 :: r20))
    (l20 : K.lookup f20 = some ⟨oc20, od20, .func (PySem.W.fnOf "top" "Ratio.top" (defArgs s_Ratio_top) (defBody s_Ratio_top) (defScope s_Ratio_top) .none kV20 dc20 pm20 an20 cd20 ct20), sl20⟩)
    (c20 : PySem.W.codeIn K cd20 "Ratio.top" = true)
    (k20 : PySem.W.keepIn K (.ref f20) = true)
    (a21 : PySem.W.findIn K (.ref C) "bottom" = some (some (.ref p21)))
    (g21 : PySem.W.specialIn K (.ref p21) "__get__" = some (some (.builtin "property.__get__")))
    (t21 : PySem.W.takesIn K (.ref p21) = some true)
    (q21 : PySem.W.recIn K p21 "property" = some (.ref f21 :: r21))
    (l21 : K.lookup f21 = some ⟨oc21, od21, .func (PySem.W.fnOf "bottom" "Ratio.bottom" (defArgs s_Ratio_bottom) (defBody s_Ratio_bottom) (defScope s_Ratio_bottom) .none kV21 dc21 pm21 an21 cd21 ct21), sl21⟩)
    (c21 : PySem.W.codeIn K cd21 "Ratio.bottom" = true)
    (k21 : PySem.W.keepIn K (.ref f21) = true)
    (a22 : PySem.W.findIn K (.ref C) "__init__" = some (some (.ref f22)))
    (i22 : PySem.W.isFn K (.ref f22) = true)
    (l22 : K.lookup f22 = some ⟨oc22, od22, .func (PySem.W.fnOf "__init__" "Ratio.__init__" (defArgs s_Ratio___init__) (defBody s_Ratio___init__) (defScope s_Ratio___init__) (.ref dT) kV22 dc22 pm22 an22 cd22 ct22), sl22⟩)
    (c22 : PySem.W.codeIn K cd22 "Ratio.__init__" = true)
    (k22 : PySem.W.keepIn K (.ref f22) = true)
    (lT : K.lookup dT = some ⟨ocT, odT, .seq #[.int 1 tk] nT', slT⟩) :
    ∃ fd : FuncData, (∀ (s : Shared) (v : Value), BindsTo s fd ⟨[v], []⟩ [("script", v)]) ∧ ∀ base : Heap, K.In base → base.Ns mainGlobals mg → GOk l.prog w K mg base CX0 8 fa fd ["script"] (spLaw K) := by
  have e := hfa.symm.trans (PySem.W.mg_of X G a9)
  cases e
  have T : Tx K mg C := ⟨⟨⟨⟨pg, hd, po, sa⟩, ca, cn, ctk, cm, sf, si, fun kn => by cases kn <;> assumption⟩,
    ⟨_, PySem.W.mg_of X G aC, rfl⟩,
    nT,
    nB,
    (fun kn => by cases kn <;> assumption),
    sI,
    ⟨⟨f22, _, ⟨mk, a22, i22, kc⟩, ⟨⟨oc22, od22, .ref dT, kV22, dc22, pm22, an22, cd22, ct22, sl22, rfl, l22, c22, .inr ⟨by simp, dT, _, [.int 1 tk], nT', rfl, lT, rfl, .cons ⟨tk, rfl⟩ .nil⟩, .inl rfl⟩, k22⟩⟩⟩,
    ⟨⟨_, _, _, fun_mk (st := s_Ratio_top) l20 c20 k20, ⟨a20, g20, t20, _, q20⟩⟩⟩,
    ⟨⟨_, _, _, fun_mk (st := s_Ratio_bottom) l21 c21 k21, ⟨a21, g21, t21, _, q21⟩⟩⟩,
    ⟨⟨_, _, fun_mk (st := s_Ratio___bool__) l13 c13 k13, ⟨a13, i13, k13⟩⟩⟩,
    ⟨⟨_, _, fun_mk (st := s_Ratio___eq__) l14 c14 k14, ⟨a14, i14, k14⟩⟩⟩,
    ⟨⟨_, _, fun_mk (st := s_Ratio___ne__) l15 c15 k15, ⟨a15, i15, k15⟩⟩⟩,
    ⟨⟨_, _, fun_mk (st := s_Ratio___lt__) l16 c16 k16, ⟨a16, i16, k16⟩⟩⟩,
    ⟨⟨_, _, fun_mk (st := s_Ratio___le__) l17 c17 k17, ⟨a17, i17, k17⟩⟩⟩,
    ⟨⟨_, _, fun_mk (st := s_Ratio___gt__) l18 c18 k18, ⟨a18, i18, k18⟩⟩⟩,
    ⟨⟨_, _, fun_mk (st := s_Ratio___ge__) l19 c19 k19, ⟨a19, i19, k19⟩⟩⟩,
    PySem.W.mg_none_of X G z_int,
    PySem.W.mg_none_of X G z_bool,
    PySem.W.mg_none_of X G z_isinstance,
    PySem.W.mg_of X G gc,
    ⟨⟨_, _, fun_mk (st := s_is_whole) l10 c10 k10, PySem.W.mg_of X G a10⟩⟩,
    ⟨⟨_, _, fun_mk (st := s_is_number) l11 c11 k11, PySem.W.mg_of X G a11⟩⟩,
    ⟨⟨_, _, fun_mk (st := s_as_ratio) l12 c12 k12, PySem.W.mg_of X G a12⟩⟩⟩,
    PySem.W.mg_none_of X G z_int,
    PySem.W.mg_none_of X G z_len,
    PySem.W.mg_none_of X G z_abs,
    PySem.W.mg_none_of X G z_bool,
    PySem.W.mg_none_of X G z_repr,
    PySem.W.mg_none_of X G z_str,
    PySem.W.mg_none_of X G z_range,
    ⟨⟨_, _, fun_mk (st := s__law_pool) l0 c0 k0, PySem.W.mg_of X G a0⟩⟩,
    ⟨⟨_, _, fun_mk (st := s__law_mixed) l1 c1 k1, PySem.W.mg_of X G a1⟩⟩,
    ⟨⟨_, _, fun_mk (st := s__law_draw) l2 c2 k2, PySem.W.mg_of X G a2⟩⟩,
    ⟨⟨_, _, fun_mk (st := s__law_lowest) l3 c3 k3, PySem.W.mg_of X G a3⟩⟩,
    ⟨⟨_, _, fun_mk (st := s__law_integer) l4 c4 k4, PySem.W.mg_of X G a4⟩⟩,
    ⟨⟨_, _, fun_mk (st := s__law_pair) l5 c5 k5, PySem.W.mg_of X G a5⟩⟩,
    ⟨⟨_, _, fun_mk (st := s__law_signs) l6 c6 k6, PySem.W.mg_of X G a6⟩⟩,
    ⟨⟨_, _, fun_mk (st := s__law_due) l7 c7 k7, PySem.W.mg_of X G a7⟩⟩,
    ⟨⟨_, _, fun_mk (st := s__law_right) l8 c8 k8, PySem.W.mg_of X G a8⟩⟩,
    ⟨⟨_, _, fun_mk (st := s_law) l9 c9 k9, PySem.W.mg_of X G a9⟩⟩⟩
  exact ⟨PySem.W.fnOf "law" "law" (defArgs s_law) (defBody s_law) (defScope s_law) .none kV9 dc9 pm9 an9 cd9 ct9, fun s v => .of_eq rfl, fun base _ _ => ok_law T (fun_mk (st := s_law) l9 c9 k9)⟩
end Pk
open PySem PySem.W PyProof.Rows
set_option maxRecDepth 100000 in
set_option maxHeartbeats 0 in
theorem PySem.Challenge.cw_lineorigins_k03_ratios_compared_holds : PySem.Challenge.rw_lineorigins_k03_ratios_compared.Holds := by
  w_on; o_law; k_head; (case hw => w_witness2)
  k_fill
  refine Pk.walk_G (l := PySem.Challenge.rw_lineorigins_k03_ratios_compared) (n := 63) (k := 8) (x := "script") (CX := fun _ => L2.CX0) (sp := fun w => Pk.spLaw _) rfl (by decide) rfl ⟨rfl, by decide, by decide⟩ (fun w h Y => PySem.W.kIn_of Y) ?F (fun _ _ a ns hl _ hS => ⟨a, ns, rfl, hS, hl, fun _ => rfl⟩) (fun _ _ _ _ _ h => h)
  case F =>
    intro w mg fa h KX G hmg
    refine' Pk.all_mk KX G hmg ?aC ?pg ?hd ?po ?sa ?mk ?kc ?ca ?cn ?ctk ?cm ?sf ?si ?sk0 ?sk1 ?sk2 ?sk3 ?sk4 ?sk5 ?sk6 ?ap0 ?ap1 ?ap2 ?ap3 ?ap4 ?ap5 ?ap6 ?sI ?nT ?nB ?gc ?z_int ?z_len ?z_abs ?z_bool ?z_repr ?z_str ?z_range ?z_isinstance ?a0 ?l0 ?c0 ?k0 ?a1 ?l1 ?c1 ?k1 ?a2 ?l2 ?c2 ?k2 ?a3 ?l3 ?c3 ?k3 ?a4 ?l4 ?c4 ?k4 ?a5 ?l5 ?c5 ?k5 ?a6 ?l6 ?c6 ?k6 ?a7 ?l7 ?c7 ?k7 ?a8 ?l8 ?c8 ?k8 ?a9 ?l9 ?c9 ?k9 ?a10 ?l10 ?c10 ?k10 ?a11 ?l11 ?c11 ?k11 ?a12 ?l12 ?c12 ?k12 ?a13 ?i13 ?l13 ?c13 ?k13 ?a14 ?i14 ?l14 ?c14 ?k14 ?a15 ?i15 ?l15 ?c15 ?k15 ?a16 ?i16 ?l16 ?c16 ?k16 ?a17 ?i17 ?l17 ?c17 ?k17 ?a18 ?i18 ?l18 ?c18 ?k18 ?a19 ?i19 ?l19 ?c19 ?k19 ?a20 ?g20 ?t20 ?q20 ?l20 ?c20 ?k20 ?a21 ?g21 ?t21 ?q21 ?l21 ?c21 ?k21 ?a22 ?i22 ?l22 ?c22 ?k22 ?lT
    (case aC => k_is)
    (case pg => k_is)
    (case hd => k_is)
    (case po => k_is)
    (case sa => k_is)
    (case mk => k_is)
    (case kc => k_is)
    (case ca => k_is)
    (case cn => k_is)
    (case ctk => k_is)
    (case cm => k_is)
    (case sf => kit_is)
    (case si => kit_is)
    (case sk0 => kit_is)
    (case sk1 => kit_is)
    (case sk2 => kit_is)
    (case sk3 => kit_is)
    (case sk4 => kit_is)
    (case sk5 => kit_is)
    (case sk6 => kit_is)
    (case ap0 => k_is)
    (case ap1 => k_is)
    (case ap2 => k_is)
    (case ap3 => k_is)
    (case ap4 => k_is)
    (case ap5 => k_is)
    (case ap6 => k_is)
    (case sI => k_is)
    (case nT => k_is)
    (case nB => k_is)
    (case gc => k_is)
    (case z_int => k_is)
    (case z_len => k_is)
    (case z_abs => k_is)
    (case z_bool => k_is)
    (case z_repr => k_is)
    (case z_str => k_is)
    (case z_range => k_is)
    (case z_isinstance => k_is)
    (case a0 => k_is)
    (case l0 => k_is)
    (case c0 => k_is)
    (case k0 => k_is)
    (case a1 => k_is)
    (case l1 => k_is)
    (case c1 => k_is)
    (case k1 => k_is)
    (case a2 => k_is)
    (case l2 => k_is)
    (case c2 => k_is)
    (case k2 => k_is)
    (case a3 => k_is)
    (case l3 => k_is)
    (case c3 => k_is)
    (case k3 => k_is)
    (case a4 => k_is)
    (case l4 => k_is)
    (case c4 => k_is)
    (case k4 => k_is)
    (case a5 => k_is)
    (case l5 => k_is)
    (case c5 => k_is)
    (case k5 => k_is)
    (case a6 => k_is)
    (case l6 => k_is)
    (case c6 => k_is)
    (case k6 => k_is)
    (case a7 => k_is)
    (case l7 => k_is)
    (case c7 => k_is)
    (case k7 => k_is)
    (case a8 => k_is)
    (case l8 => k_is)
    (case c8 => k_is)
    (case k8 => k_is)
    (case a9 => k_is)
    (case l9 => k_is)
    (case c9 => k_is)
    (case k9 => k_is)
    (case a10 => k_is)
    (case l10 => k_is)
    (case c10 => k_is)
    (case k10 => k_is)
    (case a11 => k_is)
    (case l11 => k_is)
    (case c11 => k_is)
    (case k11 => k_is)
    (case a12 => k_is)
    (case l12 => k_is)
    (case c12 => k_is)
    (case k12 => k_is)
    (case a13 => k_is)
    (case i13 => k_is)
    (case l13 => k_is)
    (case c13 => k_is)
    (case k13 => k_is)
    (case a14 => k_is)
    (case i14 => k_is)
    (case l14 => k_is)
    (case c14 => k_is)
    (case k14 => k_is)
    (case a15 => k_is)
    (case i15 => k_is)
    (case l15 => k_is)
    (case c15 => k_is)
    (case k15 => k_is)
    (case a16 => k_is)
    (case i16 => k_is)
    (case l16 => k_is)
    (case c16 => k_is)
    (case k16 => k_is)
    (case a17 => k_is)
    (case i17 => k_is)
    (case l17 => k_is)
    (case c17 => k_is)
    (case k17 => k_is)
    (case a18 => k_is)
    (case i18 => k_is)
    (case l18 => k_is)
    (case c18 => k_is)
    (case k18 => k_is)
    (case a19 => k_is)
    (case i19 => k_is)
    (case l19 => k_is)
    (case c19 => k_is)
    (case k19 => k_is)
    (case a20 => k_is)
    (case g20 => k_is)
    (case t20 => k_is)
    (case q20 => k_is)
    (case l20 => k_is)
    (case c20 => k_is)
    (case k20 => k_is)
    (case a21 => k_is)
    (case g21 => k_is)
    (case t21 => k_is)
    (case q21 => k_is)
    (case l21 => k_is)
    (case c21 => k_is)
    (case k21 => k_is)
    (case a22 => k_is)
    (case i22 => k_is)
    (case l22 => k_is)
    (case c22 => k_is)
    (case k22 => k_is)
    (case lT => k_is)
