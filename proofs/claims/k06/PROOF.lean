import PyProof.Rows.All
import Wide.All
import OpenK.AllK
import Wide.FinOn
import HandS.ForMost
import HandS.IsInst
import HandS.Wide
import HandS.Style
import HandS.Walk
import HandS.StrMore
import PyProof.StrBlock2
import PyProof.EqAt
import PyProof.NeKinds
import PySem.Challenge.RW_lineorigins_k06_lines_and_texts
set_option Elab.async false
set_option linter.all false
set_option maxRecDepth 100000
set_option maxHeartbeats 4000000
namespace Pk
open PySem PySem.Spec PyProof.Rows L2

theorem same_upd {H : Hp} {p : Addr} {o : HO} (h : H p = none) : Same H (upd H p o) := fun b x e => by
  rw [upd_ne (ne_of_none e h)]
  exact e
theorem Same.get {H H' : Hp} {a : Addr} {o : HO} (e : Same H H') (h : H a = some o) : H' a = some o := e a o h
/-- a new object, the heap behind it forgotten but for what stands -/
theorem al {H : Hp} {o : HO} {Q : VK} (h : ∀ p H', H p = none → Same H H' → H' p = some o → Q (.ref p) H') : ∀ p, H p = none → Q (.ref p) (upd H p o) :=
  fun p hp => h p _ hp (same_upd hp) upd_same

/-! ### the written part by its name -/
section
variable {X : Cx} {K : PySem.W.Frag}
theorem pi_listK (hK : X.K = K) {tg l : Expr} {tl : TE} (hl : PE X l tl) : PI X tg l (iList K tl) := hK ▸ pi_list hl
theorem pi_tupK (hK : X.K = K) {tg l : Expr} {tl : TE} (hl : PE X l tl) : PI X tg l (iTup K tl) := hK ▸ pi_tup hl
end
/-! ### a thing walked in one of two ways -/
theorem pi_or {X : Cx} {tg l : Expr} {w1 w2 : TI} (a : PI X tg l w1) (b : PI X tg l w2) : PI X tg l (fun σ H R => w1 σ H R ∨ w2 σ H R) :=
  ⟨fun pins s σ H R I h => h.elim (a.run pins s σ H R I) (b.run pins s σ H R I)⟩
theorem pe_alt {X : Cx} {e : Expr} {t1 t2 : TE} (a : PE X e t1) (b : PE X e t2) : PE X e (fun σ H Q => t1 σ H Q ∨ t2 σ H Q) :=
  ⟨fun pins s σ H Q I h => h.elim (a.run pins s σ H Q I) (b.run pins s σ H Q I)⟩

/-! ### operators of more than one kind -/
def rAddX (K : PySem.W.Frag) : R2 := fun x y H Q => rI0 (fun i j => .int (i + j)) x y H Q ∨ ((∃ i j, x = .str i ∧ y = .str j ∧ i.length + j.length ≤ sizeLine ∧ Q (.str (i ++ j)) H) ∨ (rCat x y H Q ∨ rCatT K x y H Q))
theorem op_addX {X : Cx} : OpR X (binaryOp .Add) (rAddX X.K) := op_add.or (op_add_str.or (op_cat.or op_catT))
def rEqN : R2 := fun x y H Q => ∃ a b xs ys, x = .ref a ∧ y = .ref b ∧ H a = some (.lst xs) ∧ H b = some (.lst ys) ∧ xs.length ≠ ys.length ∧ Q (.bl false) H
theorem op_eqN {X : Cx} (hu : X.A.units < cLine) : OpR X (compareOp .Eq) rEqN := by
  intro pins s σ H x y v u Q I rx ry h
  obtain ⟨a, b, xs, ys, rfl, rfl, ha, hb, hn, q⟩ := h
  cases (show v = Value.ref a from rx)
  cases (show u = Value.ref b from ry)
  obtain ⟨is, r1, p1, _⟩ := I.list (SqL.of ha)
  obtain ⟨js, r2, p2, _⟩ := I.list (SqL.of hb)
  obtain ⟨o1, n1, e1, c1, _, d1⟩ := p1
  obtain ⟨o2, n2, e2, c2, _, d2⟩ := p2
  refine SeqAt.eq_list_lengthsAt ⟨o1, e1, c1, n1, d1⟩ ⟨o2, e2, c2, n2, d2⟩ ?_ hu ⟨.bl false, H, I, rfl, q⟩
  have l1 := r1.length
  have l2 := r2.length
  simp only [bne_iff_ne, List.size_toArray]
  omega
def rNeN : R2 := fun x y H Q => ∃ a b xs ys, x = .ref a ∧ y = .ref b ∧ H a = some (.lst xs) ∧ H b = some (.lst ys) ∧ xs.length ≠ ys.length ∧ Q (.bl true) H
theorem op_neN {X : Cx} (hu : X.A.units < cLine) : OpR X (compareOp .NotEq) rNeN := by
  intro pins s σ H x y v u Q I rx ry h
  obtain ⟨a, b, xs, ys, rfl, rfl, ha, hb, hn, q⟩ := h
  cases (show v = Value.ref a from rx)
  cases (show u = Value.ref b from ry)
  obtain ⟨is, r1, p1, _⟩ := I.list (SqL.of ha)
  obtain ⟨js, r2, p2, _⟩ := I.list (SqL.of hb)
  obtain ⟨o1, n1, e1, c1, _, d1⟩ := p1
  obtain ⟨o2, n2, e2, c2, _, d2⟩ := p2
  refine SeqAt.RcNeAt.lists_lengths ⟨o1, e1, c1, n1, d1⟩ ⟨o2, e2, c2, n2, d2⟩ ?_ hu X.prog X.w X.xe (EP X pins σ Q) ⟨.bl true, H, I, rfl, q⟩
  have l1 := r1.length
  have l2 := r2.length
  simp only [bne_iff_ne, List.size_toArray]
  omega
def rEqX (K : PySem.W.Frag) : R2 := fun x y H Q => rEq x y H Q ∨ (rEqD K x y H Q ∨ rEqN x y H Q)
theorem op_eqX {X : Cx} (hu : X.A.units + 64 < cLine) : OpR X (compareOp .Eq) (rEqX X.K) := op_eq.or ((op_eqD hu).or (op_eqN (by omega)))
def rNeX (K : PySem.W.Frag) : R2 := fun x y H Q => rNe x y H Q ∨ (rNeD K x y H Q ∨ rNeN x y H Q)
theorem op_neX {X : Cx} (hu : X.A.units + 64 < cLine) : OpR X (compareOp .NotEq) (rNeX X.K) := op_ne.or ((op_neD hu).or (op_neN (by omega)))

def rMuX : R2 := fun x y H Q => rI CMul (fun i j => .int (i * j)) x y H Q ∨ rI CMulW (fun i j => .int (i * j)) x y H Q
theorem op_muI {X : Cx} : OpR X (binaryOp .Mult) rMuX := op_mul.or op_mulW
/-- a text, several times -/
def rRepS : R2 := fun x y H Q => ∃ z k, x = .str z ∧ y = .int k ∧ MulOk z k ∧ Q (.str (Txt.mul z k)) H
theorem op_repS {X : Cx} : OpR X (binaryOp .Mult) rRepS := by
  intro pins s σ H x y v u Q I rx ry h
  obtain ⟨z, k, rfl, rfl, ok, q⟩ := h
  obtain ⟨t, rfl⟩ := rx
  obtain ⟨t2, rfl⟩ := ry
  exact PySem.SB.mul ok fun t' k' => ⟨.str (Txt.mul z k), H, I.tok _, ⟨_, rfl⟩, q⟩
def rMuXX : R2 := fun x y H Q => rMuX x y H Q ∨ (rRepS x y H Q ∨ rRep x y H Q)
theorem op_muX {X : Cx} : OpR X (binaryOp .Mult) rMuXX := op_muI.or (op_repS.or op_rep)
def rLtX : R2 := fun x y H Q => rI0 (fun i j => .bl (decide (i < j))) x y H Q ∨ (∃ i j, x = .str i ∧ y = .str j ∧ Q (.bl (decide (i.cps.toList < j.cps.toList))) H)
theorem op_ltX {X : Cx} : OpR X (compareOp .Lt) rLtX := op_lt.or op_lt_str
def rLeX : R2 := fun x y H Q => rI0 (fun i j => .bl (decide (i ≤ j))) x y H Q ∨ (∃ i j, x = .str i ∧ y = .str j ∧ Q (.bl (!decide (j.cps.toList < i.cps.toList))) H)
theorem op_leX {X : Cx} : OpR X (compareOp .LtE) rLeX := op_le.or op_le_str
def rGtX : R2 := fun x y H Q => rI0 (fun i j => .bl (decide (j < i))) x y H Q ∨ (∃ i j, x = .str i ∧ y = .str j ∧ Q (.bl (decide (j.cps.toList < i.cps.toList))) H)
theorem op_gtX {X : Cx} : OpR X (compareOp .Gt) rGtX := op_gt.or op_gt_str
def rGeX : R2 := fun x y H Q => rI0 (fun i j => .bl (decide (j ≤ i))) x y H Q ∨ (∃ i j, x = .str i ∧ y = .str j ∧ Q (.bl (!decide (i.cps.toList < j.cps.toList))) H)
theorem op_geX {X : Cx} : OpR X (compareOp .GtE) rGeX := op_ge.or op_ge_str
theorem op_fdX {X : Cx} : OpR X (binaryOp .FloorDiv) (rI CDivW fun i j => .int (i / j)) := op_fdivW
def rSlXX (K : PySem.W.Frag) : V → Option Int → Option Int → Hp → VK → Prop := fun x lo hi H Q => rSlL K x lo hi H Q ∨ rSlS x lo hi H Q
theorem sl_X {X : Cx} : SlR X (rSlXX X.K) := sl_list.or sl_str
def rIntX : List V → Hp → VK → Prop := fun xs H Q => ((∃ i, xs = [.int i] ∧ Q (.int i) H) ∨ ∃ k, xs = [.bl k] ∧ Q (.int (if k then 1 else 0)) H) ∨ (∃ a n, xs = [.str a] ∧ PySem.intText? a = some n ∧ a.length ≤ 640 ∧ Q (.int n) H)
theorem call_intX {X : Cx} : CallR X (.type "int") rIntX := call_int1.or call_int_str
def rLenX (K : PySem.W.Frag) : List V → Hp → VK → Prop := fun xs H Q => ∃ x n, xs = [x] ∧ LenV K x H n ∧ Q (.int n) H
theorem call_lenX {X : Cx} : CallR X (.builtin "len") (rLenX X.K) := call_len
def rTupX (K : PySem.W.Frag) : List V → Hp → VK → Prop := fun xs H Q => ∃ p ys, xs = [.ref p] ∧ ((SqL K H p ys ∧ ∀ l, H l = none → Q (.ref l) (upd H l (.tup ys))) ∨ (SqT K H p ys ∧ Q (.ref p) H))
theorem call_tupX {X : Cx} : CallR X (.type "tuple") (rTupX X.K) := call_tuple_of
def tTruX (K : PySem.W.Frag) (ta : TE) : TT := fun σ H Q => ta σ H fun x H' => ∃ k, TruV K x H' k ∧ Q k H'
theorem pt_truK {X : Cx} {K : PySem.W.Frag} (hK : X.K = K) {a : Expr} {ta : TE} (ha : PE X a ta) (he : ∀ whole, isTrue a X.env whole = (do let v ← whole; standAt a.pos; holding [v] (truthy v))) : PT X a (tTruX K ta) := hK ▸ pt_truth ha he
theorem pt_tru {X : Cx} {a : Expr} {ta : TE} (ha : PE X a ta) (he : ∀ whole, isTrue a X.env whole = (do let v ← whole; standAt a.pos; holding [v] (truthy v))) : PT X a (tTruX X.K ta) := pt_truth ha he
theorem pe_gc {X : Cx} {x : Str} {v : V} {pos : Pos} (hg : Gl X x) (h : ∃ u, X.mg x = some u ∧ RelV v u) (hd : (x == ("__debug__" : Str)) = false := by decide) : PE X (.Name x pos) (tC v) := by
  obtain ⟨u, h1, h2⟩ := h
  exact pe_glob hg h1 h2 hd

/-! ### a def of the text, at its name -/
structure DefAt (K : PySem.W.Frag) (mg : Str → Option Value) (x : Str) (st : Stmt) : Prop where
  ex : ∃ f fd, Fun K x x st f fd ∧ mg x = some (.ref f)
/-- how arguments bind: no defaults -/
def Bnd (x : Str) (st : Stmt) (ps : List Str) : Prop := ∀ (kV doc pm : Value) (an : Option Addr) (cdv ct : Value) (us : List Value), us.length = ps.length → bindArgs (PySem.W.fnOf x x (defArgs st) (defBody st) (defScope st) .none kV doc pm an cdv ct) ⟨us, []⟩ = pure (ps.zip us)
section
variable {P : Program} {w : World} {K : PySem.W.Frag} {mg : Str → Option Value} {base : Heap}
/-- a def that may be called by its name -/
structure Cal (P : Program) (w : World) (K : PySem.W.Frag) (mg : Str → Option Value) (base : Heap) (CX : CXT) (k : Nat) (x : Str) (sp : Sp) : Prop where
  ex : ∃ (f : Addr) (fd : FuncData) (ps : List Str), FnOk P w K mg base CX k f fd ps sp ∧ mg x = some (.ref f) ∧ PySem.W.keepIn K (.ref f) = true ∧ Binds K fd ps []
theorem cal0 {x : Str} {st : Stmt} {N ps : List Str} {k : Nat} {sp : Sp} (D : DefAt K mg x st) (S : FnScope N ps (defScope st)) (hb : Bnd x st ps) (len : ∀ vs H Q E, sp vs H Q E → vs.length = ps.length)
    (hbody : ∀ (f : Addr) (cdv : Value) (A : Around) (outer : List Env) (s : Shared) (H : Hp) (vs : List V) (Q : VK) (E : XK), Room k (A.deeper (envOfC x (defScope st) s.heap.objs.size f cdv)) → sp vs H Q E →
      ∃ t, PSs (cxOf CX0 P w K mg base N x (defScope st) f cdv A outer s H E).nox (defBody st) t ∧ t { nx := fun _ H' => Q .non H', rt := Q } (start N vs) H) : Cal P w K mg base CX0 (k + 1) x sp := by
  obtain ⟨f, fd, F, m⟩ := D.ex
  exact ⟨f, fd, ps, F.ok S len (hbody f), m, F.kp, F.binds hb⟩
end
section
variable {X : Cx} {k j : Nat} {x : Str} {sp : Sp} {p pos : Pos} {e : Expr} {es : List Expr} {t : TA}
theorem pe_c {CX : CXT} {E : XK} (c : Cal X.prog X.w X.K X.mg X.base CX k x sp) (hr : Room j X.A) (hk : k ≤ j) (hg : Gl X x) (hx : Passes CX X E) (ha : PA X (e :: es) t)
    (hdb : (x == ("__debug__" : Str)) = false := by decide) (he : starEach (e :: es) X.env = (false, eval e X.env) :: starEach es X.env := by rfl) (hpl : (backTo pos (starEach es X.env)).any (·.1) = false := by rfl) :
    PE X (.Call (.Name x p) (e :: es) [] pos) (tCall sp [] E t) := by
  obtain ⟨f, fd, ps, F, hm, kp, b⟩ := c.ex
  exact pe_call F (hr.mono hk) hg hm kp b .nil hx ha hdb he hpl
end
/-! ### readings, a step at a time -/
def LstK (Q : VK) : List V → Hp → Prop := fun xs H1 => xs.length ≤ sizeLine ∧ ∀ p, H1 p = none → Q (.ref p) (upd H1 p (.lst xs))
def TupK (Q : VK) : List V → Hp → Prop := fun xs H1 => xs.length ≤ sizeLine ∧ ∀ p, H1 p = none → Q (.ref p) (upd H1 p (.tup xs))
section
variable {K : PySem.W.Frag} {σ : L2.St} {H : Hp} {Q : VK} {D : Ends} {ta tb te tc : TE} {t tr : TA} {tt tu : TT} {ts tz tw : TS} {r : R2} {rm : V → List V → Hp → VK → Prop} {v x y : V} {i j : Int}
theorem i_ret (h : te σ H D.rt) : tRet te D σ H := h
theorem i_op (h : ta σ H fun x H1 => tb σ H1 fun y H2 => r x y H2 Q) : tOp r ta tb σ H Q := h
theorem i_un {r : V → Hp → VK → Prop} (h : ta σ H fun x H1 => r x H1 Q) : tUn r ta σ H Q := h
theorem i_var {n : Nat} (h : σ[n]? = some (some v)) (q : Q v H) : tVar n σ H Q := ⟨v, h, q⟩
theorem i_c (q : Q v H) : tC v σ H Q := q
theorem i_cb {r : List V → Hp → VK → Prop} (h : t σ H fun vs H1 => r vs H1 Q) : tCB r t σ H Q := h
theorem i_call {sp : Sp} {dvs : List V} {E : XK} (h : t σ H fun vs H1 => sp (vs ++ dvs) H1 Q E) : tCall sp dvs E t σ H Q := h
theorem i_cons {R : List V → Hp → Prop} (h : te σ H fun x H1 => tr σ H1 fun xs H2 => R (x :: xs) H2) : tCons te tr σ H R := h
theorem i_nil {R : List V → Hp → Prop} (h : R [] H) : tNil σ H R := h
theorem i_seq (h : ts { D with nx := tz D } σ H) : tSeq ts tz D σ H := h
theorem i_next (h : D.nx σ H) : tNext D σ H := h
theorem i_asg {g : TG} (h : te σ H fun x H1 => g x σ H1 D.nx) : tAsg te g D σ H := h
theorem i_name {n : Nat} {R : L2.St → Hp → Prop} (h : R (σ.set n (some v)) H) : gName n v σ H R := h
theorem i_sub {ts : TSet} {R : L2.St → Hp → Prop} (h : ta σ H fun o H1 => tb σ H1 fun i H2 => ts o i v H2 fun H3 => R σ H3) : gSub ta tb ts v σ H R := h
theorem i_drop (h : te σ H fun _ H1 => D.nx σ H1) : tDrop te D σ H := h
theorem i_ifs (h : tt σ H fun b H1 => if b = true then ts D σ H1 else tz D σ H1) : tIfS tt ts tz D σ H := h
theorem i_ife (h : tt σ H fun c H1 => if c = true then ta σ H1 Q else tb σ H1 Q) : tIf tt ta tb σ H Q := h
theorem i_test {R : Bool → Hp → Prop} (h : te σ H fun x H' => ∃ k, x = .bl k ∧ R k H') : tTest te σ H R := h
theorem i_tru {R : Bool → Hp → Prop} (h : te σ H fun x H' => ∃ k, TruV K x H' k ∧ R k H') : tTruX K te σ H R := h
theorem i_and {R : Bool → Hp → Prop} (h : tt σ H fun c H1 => if c = true then tu σ H1 R else R false H1) : tAnd tt tu σ H R := h
theorem i_or {R : Bool → Hp → Prop} (h : tt σ H fun c H1 => if c = true then R true H1 else tu σ H1 R) : tOr tt tu σ H R := h
theorem i_not {R : Bool → Hp → Prop} (h : tt σ H fun c H1 => R (!c) H1) : tNot tt σ H R := h
theorem i_andV (h : ta σ H fun x H1 => ∃ c, x = .bl c ∧ if c = true then tb σ H1 Q else Q (.bl false) H1) : tAndV ta tb σ H Q := h
theorem i_orV (h : ta σ H fun x H1 => ∃ c, x = .bl c ∧ if c = true then Q (.bl true) H1 else tb σ H1 Q) : tOrV ta tb σ H Q := h
theorem i_notV (h : ta σ H fun x H1 => ∃ c, x = .bl c ∧ Q (.bl (!c)) H1) : tNotV ta σ H Q := h
theorem i_bl {b : Bool} {R : Bool → Prop} (h : R b) : ∃ k, V.bl b = .bl k ∧ R k := ⟨b, rfl, h⟩
theorem i_blH {b : Bool} {R : Bool → Hp → Prop} (h : R b H) : ∃ k, V.bl b = .bl k ∧ R k H := ⟨b, rfl, h⟩
theorem i_trB {b : Bool} {R : Bool → Prop} (h : R b) : ∃ k, TruV K (.bl b) H k ∧ R k := ⟨b, rfl, h⟩
theorem i_lstF (h : t σ H (LstK Q)) : tLst t σ H Q := h
theorem i_tupF (h : t σ H (TupK Q)) : tTup t σ H Q := h
theorem p_lstK {xs : List V} (hl : xs.length ≤ sizeLine) (h : ∀ p H', H p = none → Same H H' → H' p = some (.lst xs) → Q (.ref p) H') : LstK Q xs H := ⟨hl, al h⟩
theorem p_tupK {xs : List V} (hl : xs.length ≤ sizeLine) (h : ∀ p H', H p = none → Same H H' → H' p = some (.tup xs) → Q (.ref p) H') : TupK Q xs H := ⟨hl, al h⟩
/-- operators -/
theorem p_addI (q : Q (.int (i + j)) H) : rAddX K (.int i) (.int j) H Q := .inl ⟨i, j, rfl, rfl, q⟩
theorem p_addS {a b : Str} (hl : a.length + b.length ≤ sizeLine) (q : Q (.str (a ++ b)) H) : rAddX K (.str a) (.str b) H Q := .inr (.inl ⟨a, b, rfl, rfl, hl, q⟩)
theorem p_addL {a b : Addr} {xs ys : List V} (h1 : H a = some (.lst xs)) (h2 : H b = some (.lst ys)) (hl : xs.length + ys.length ≤ sizeLine) (q : ∀ p H', H p = none → Same H H' → H' p = some (.lst (xs ++ ys)) → Q (.ref p) H') : rAddX K (.ref a) (.ref b) H Q :=
  .inr (.inr (.inl ⟨a, b, xs, ys, rfl, rfl, h1, h2, hl, al q⟩))
theorem p_I0 {g : Int → Int → V} (q : Q (g i j) H) : rI0 g (.int i) (.int j) H Q := ⟨i, j, rfl, rfl, q⟩
theorem p_I {C : Int → Int → Prop} {g : Int → Int → V} (c : C i j) (q : Q (g i j) H) : rI C g (.int i) (.int j) H Q := ⟨i, j, rfl, rfl, c, q⟩
theorem p_U {g : Int → V} (q : Q (g i) H) : rU g (.int i) H Q := ⟨i, rfl, q⟩
theorem p_muI (c : CMul i j ∨ CMulW i j) (q : Q (.int (i * j)) H) : rMuXX (.int i) (.int j) H Q := c.elim (fun c => .inl (.inl ⟨i, j, rfl, rfl, c, q⟩)) fun c => .inl (.inr ⟨i, j, rfl, rfl, c, q⟩)
theorem p_muS {z : Str} (c : MulOk z j) (q : Q (.str (Txt.mul z j)) H) : rMuXX (.str z) (.int j) H Q := .inr (.inl ⟨z, j, rfl, rfl, c, q⟩)
theorem p_ltI (q : Q (.bl (decide (i < j))) H) : rLtX (.int i) (.int j) H Q := .inl ⟨i, j, rfl, rfl, q⟩
theorem p_leI (q : Q (.bl (decide (i ≤ j))) H) : rLeX (.int i) (.int j) H Q := .inl ⟨i, j, rfl, rfl, q⟩
theorem p_gtI (q : Q (.bl (decide (j < i))) H) : rGtX (.int i) (.int j) H Q := .inl ⟨i, j, rfl, rfl, q⟩
theorem p_geI (q : Q (.bl (decide (j ≤ i))) H) : rGeX (.int i) (.int j) H Q := .inl ⟨i, j, rfl, rfl, q⟩
theorem p_ltS {a b : Str} (q : Q (.bl (decide (a.cps.toList < b.cps.toList))) H) : rLtX (.str a) (.str b) H Q := .inr ⟨a, b, rfl, rfl, q⟩
theorem p_leS {a b : Str} (q : Q (.bl (!decide (b.cps.toList < a.cps.toList))) H) : rLeX (.str a) (.str b) H Q := .inr ⟨a, b, rfl, rfl, q⟩
theorem p_gtS {a b : Str} (q : Q (.bl (decide (b.cps.toList < a.cps.toList))) H) : rGtX (.str a) (.str b) H Q := .inr ⟨a, b, rfl, rfl, q⟩
theorem p_eqI (q : Q (.bl (decide (i = j))) H) : rEqX K (.int i) (.int j) H Q := .inl ⟨rfl, by
  have e : decide (V.int i = V.int j) = decide (i = j) := decide_eq_decide.mpr ⟨fun h => V.int.inj h, fun h => h ▸ rfl⟩
  rw [e]
  exact q⟩
theorem p_neI (q : Q (.bl (!decide (i = j))) H) : rNeX K (.int i) (.int j) H Q := .inl ⟨rfl, by
  have e : decide (V.int i = V.int j) = decide (i = j) := decide_eq_decide.mpr ⟨fun h => V.int.inj h, fun h => h ▸ rfl⟩
  rw [e]
  exact q⟩
theorem p_eqS (s : scal x y = true) (q : Q (.bl (decide (x = y))) H) : rEqX K x y H Q := .inl ⟨s, q⟩
theorem p_neS (s : scal x y = true) (q : Q (.bl (!decide (x = y))) H) : rNeX K x y H Q := .inl ⟨s, q⟩
theorem p_int (q : Q (.int i) H) : rIntX [.int i] H Q := .inl (.inl ⟨i, rfl, q⟩)
theorem p_lenS {z : Str} (hl : z.length ≤ sizeLine) (q : Q (.int z.length) H) : rLenX K [.str z] H Q := ⟨.str z, z.length, rfl, ⟨hl, rfl⟩, q⟩
theorem p_lenL {a : Addr} {xs : List V} (h : SqL K H a xs) (q : Q (.int xs.length) H) : rLenX K [.ref a] H Q := ⟨.ref a, xs.length, rfl, .inl ⟨xs, h, rfl⟩, q⟩
theorem p_lenT {a : Addr} {xs : List V} (h : SqT K H a xs) (q : Q (.int xs.length) H) : rLenX K [.ref a] H Q := ⟨.ref a, xs.length, rfl, .inr ⟨xs, h, rfl⟩, q⟩
theorem p_ixL {a : Addr} {xs : List V} (h : SqL K H a xs) (ha : atI xs i = some v) (q : Q v H) : rIx K (.ref a) (.int i) H Q := .inl ⟨a, xs, i, v, rfl, rfl, h, ha, q⟩
theorem p_ixT {a : Addr} {xs : List V} (h : SqT K H a xs) (ha : atI xs i = some v) (q : Q v H) : rIx K (.ref a) (.int i) H Q := .inr (.inl ⟨a, xs, i, v, rfl, rfl, h, ha, q⟩)
theorem p_ixS {z : Str} {c : Nat} (hl : z.length ≤ sizeLine) (ha : atI z.cps.toList i = some c) (q : Q (.str ⟨#[c]⟩) H) : rIx K (.str z) (.int i) H Q := .inr (.inr ⟨z, i, c, rfl, rfl, hl, ha, q⟩)
theorem p_setL {a : Addr} {xs : List V} {n : Nat} {R : Hp → Prop} (h : H a = some (.lst xs)) (hi : ixN xs.length i = some n) (q : R (upd H a (.lst (xs.set n v)))) : rSetL (.ref a) (.int i) v H R := ⟨a, xs, i, n, rfl, rfl, h, hi, q⟩
theorem i_m1 (h : ta σ H fun x H1 => (∃ a, x = .str a) ∧ tb σ H1 fun y H2 => rm x [y] H2 Q) : tM1 rm ta tb σ H Q := h
theorem i_m0 (h : ta σ H fun x H1 => (∃ a, x = .str a) ∧ rm x [] H1 Q) : tM0 rm ta σ H Q := h
theorem i_str {z : Str} {B : Prop} (h : B) : (∃ a, V.str z = .str a) ∧ B := ⟨⟨z, rfl⟩, h⟩
theorem p_join {z : Str} {a : Addr} {ys : List Str} (h : SqL K H a (ys.map V.str)) (hl : (ys.map (·.length)).sum + ys.length * z.length ≤ 16777216) (q : Q (.str (Txt.join z ys)) H) :
    ∃ a' p, ∃ ys : List Str, V.str z = .str a' ∧ [V.ref a] = [.ref p] ∧ (SqL K H p (ys.map V.str) ∨ SqT K H p (ys.map V.str)) ∧ (ys.map (·.length)).sum + ys.length * a'.length ≤ 16777216 ∧ Q (.str (Txt.join a' ys)) H := ⟨z, a, ys, rfl, rfl, .inl h, hl, q⟩
theorem ift {A B : Prop} {c : Bool} (h1 : c = true → A) (h2 : c = false → B) : if c = true then A else B := by
  cases c with
  | true => exact h1 rfl
  | false => exact h2 rfl
end

/-! ### the pool -/
/-- the pool at p, its numbers at n, at most k draws so far -/
def PoolAt (H : Hp) (p n : Addr) (k : Int) : Prop := ∃ (ns : List Int) (a c z st : Int), H p = some (.lst [.ref n, .int a, .int c, .int z, .int st]) ∧ H n = some (.lst (ns.map V.int)) ∧ 0 ≤ a ∧ 0 ≤ c ∧ c ≤ k ∧ 0 ≤ z ∧ z < 2147483647
/-- what was tracked stands, but for the pool -/
def Keep (p n : Addr) (H H' : Hp) : Prop := ∀ a o, H a = some o → a ≠ p → a ≠ n → H' a = some o
theorem Keep.get {p n a : Addr} {H H' : Hp} {o : HO} (e : Keep p n H H') (h : H a = some o) (h1 : a ≠ p) (h2 : a ≠ n) : H' a = some o := e a o h h1 h2
theorem Keep.refl (p n : Addr) (H : Hp) : Keep p n H H := fun _ _ h _ _ => h
theorem Keep.trans {p n : Addr} {H H1 H2 : Hp} (a : Keep p n H H1) (b : Keep p n H1 H2) : Keep p n H H2 := fun x o h h1 h2 => b x o (a x o h h1 h2) h1 h2
theorem Keep.same {p n : Addr} {H H1 : Hp} (a : Same H H1) : Keep p n H H1 := fun x o h _ _ => a x o h
theorem Keep.upd {p n d : Addr} {H H1 : Hp} {o : HO} (k : Keep p n H H1) (h : H d = none) : Keep p n H (L2.upd H1 d o) := fun x u e h1 h2 => by
  rw [upd_ne (ne_of_none e h)]
  exact k x u e h1 h2
theorem PoolAt.ne {p n a : Addr} {H : Hp} {k : Int} (h : PoolAt H p n k) (e : H a = none) : a ≠ p ∧ a ≠ n := by
  obtain ⟨ns, b, c, z, st, h1, h2, _⟩ := h
  exact ⟨(ne_of_none h1 e).symm, (ne_of_none h2 e).symm⟩
theorem PoolAt.same {p n : Addr} {H H' : Hp} {k : Int} (h : PoolAt H p n k) (e : Same H H') : PoolAt H' p n k := by
  obtain ⟨ns, b, c, z, st, h1, h2, h3⟩ := h
  exact ⟨ns, b, c, z, st, e _ _ h1, e _ _ h2, h3⟩
theorem PoolAt.mono {p n : Addr} {H : Hp} {k j : Int} (h : PoolAt H p n k) (e : k ≤ j) : PoolAt H p n j := by
  obtain ⟨ns, b, c, z, st, h1, h2, h3, h4, h5, h6⟩ := h
  exact ⟨ns, b, c, z, st, h1, h2, h3, h4, by omega, h6⟩
theorem PoolAt.upd {p n d : Addr} {H : Hp} {k : Int} {o : HO} (h : PoolAt H p n k) (h1 : d ≠ p) (h2 : d ≠ n) : PoolAt (L2.upd H d o) p n k := by
  obtain ⟨ns, b, c, z, st, e1, e2, h3⟩ := h
  exact ⟨ns, b, c, z, st, by rw [upd_ne (Ne.symm h1)]; exact e1, by rw [upd_ne (Ne.symm h2)]; exact e2, h3⟩
theorem Same.upd {d : Addr} {H H1 : Hp} {o : HO} (k : Same H H1) (h : H d = none) : Same H (L2.upd H1 d o) := fun x u e => by
  rw [upd_ne (ne_of_none e h)]
  exact k x u e

theorem log_lt {m : Int} (h0 : 0 ≤ m) (h : m < 1000000000000) : m.natAbs.log2 < 9000 := Nat.lt_of_lt_of_le (PySem.Flt.log2_lt_of (k := 64) (by decide) (by
  have e : (2 : Nat) ^ 64 = 18446744073709551616 := by decide
  rw [e]
  omega)) (by decide)
/-! ### slices -/
section
variable {K : PySem.W.Frag} {σ : L2.St} {H : Hp} {Q : VK} {te : TE} {tl th : TO} {lo hi : Option Int}
theorem i_sl {r : V → Option Int → Option Int → Hp → VK → Prop} (h : te σ H fun x H1 => tl σ H1 fun a H2 => th σ H2 fun b H3 => r x a b H3 Q) : tSl r te tl th σ H Q := h
theorem i_np {R : Option Int → Hp → Prop} (h : R none H) : tNoPart σ H R := h
theorem i_pt {R : Option Int → Hp → Prop} (h : te σ H fun x H1 => ∃ i, x = .int i ∧ R (some i) H1) : tPart te σ H R := h
theorem i_in {i : Int} {R : Int → Prop} (h : R i) : ∃ k, V.int i = .int k ∧ R k := ⟨i, rfl, h⟩
theorem p_slL {a : Addr} {xs : List V} (h : SqL K H a xs) (q : ∀ p H', H p = none → Same H H' → H' p = some (.lst (cutV xs lo hi)) → Q (.ref p) H') : rSlXX K (.ref a) lo hi H Q := .inl ⟨a, xs, rfl, h, al q⟩
theorem p_slS {z : Str} (h : z.length ≤ sizeLine) (q : Q (.str (cutS z lo hi)) H) : rSlXX K (.str z) lo hi H Q := .inr ⟨z, rfl, h, q⟩
theorem cutV_to (xs : List V) (k : Nat) : cutV xs none (some (k : Int)) = xs.take k := by
  unfold cutV
  rw [show HT.sIx xs.length 0 none = 0 from HT.sIx_none _ _, HT.sIx_nat]
  rw [List.drop_zero, Nat.sub_zero]
  by_cases h : k ≤ xs.length
  · rw [Nat.min_eq_left h]
  · rw [Nat.min_eq_right (by omega), List.take_length, List.take_of_length_le (by omega)]
theorem cutV_from (xs : List V) (k : Nat) : cutV xs (some (k : Int)) none = xs.drop k := by
  unfold cutV
  rw [HT.sIx_nat, HT.sIx_none]
  by_cases h : k ≤ xs.length
  · rw [Nat.min_eq_left h]
    exact List.take_of_length_le (by rw [List.length_drop]; exact Nat.le_refl _)
  · rw [Nat.min_eq_right (by omega), List.drop_length, List.drop_of_length_le (by omega), List.take_nil]
end

/-! ### comprehensions -/
section
variable {K : PySem.W.Frag} {a D : Addr} {xs : List V} {g : TG} {tt : TT} {te : TE} {vs : List Nat} {σ : L2.St} {H1 : Hp} {Qd : Hp → Prop}
/-- behind i turns: R of the heap, J of the list made so far -/
def LcNx (D : Addr) (R : Nat → Hp → Prop) (J : Nat → List V → Prop) (i : Nat) (H : Hp) : Prop := ∃ acc, H D = some (.lst acc) ∧ R i H ∧ J i acc ∧ acc.length ≤ i
def LcEnd (D : Addr) (R : Nat → Hp → Prop) (J : Nat → List V → Prop) (i : Nat) : VK := fun y H4 => ∃ acc, H4 D = some (.lst acc) ∧ acc.length < sizeLine ∧ LcNx D R J i (upd H4 D (.lst (acc ++ [y])))
def LcTurn (D : Addr) (R : Nat → Hp → Prop) (J : Nat → List V → Prop) (g : TG) (tt : TT) (te : TE) (vs : List Nat) (σ : L2.St) (i : Nat) (x : V) : Prop := ∀ acc H, R i H → J i acc → H D = some (.lst acc) → acc.length ≤ i →
  g x (wipe σ vs) H fun σ2 H2 => wipe σ2 vs = wipe σ vs ∧ tt σ2 H2 fun b H3 => if b = true then te σ2 H3 (LcEnd D R J (i + 1)) else LcNx D R J (i + 1) H3
theorem lc_end {R : Nat → Hp → Prop} {J : Nat → List V → Prop} {i : Nat} {y : V} {H4 : Hp} {acc : List V} (h : H4 D = some (.lst acc)) (hl : acc.length ≤ i) (hi : i < 100000) (r : R (i + 1) (upd H4 D (.lst (acc ++ [y])))) (j : J (i + 1) (acc ++ [y])) : LcEnd D R J (i + 1) y H4 :=
  ⟨acc, h, Nat.lt_of_lt_of_le (by omega) (show 100000 ≤ sizeLine by decide), acc ++ [y], upd_same, r, j, by rw [List.length_append, List.length_singleton]; omega⟩
theorem lc_skip {R : Nat → Hp → Prop} {J : Nat → List V → Prop} {i : Nat} {H4 : Hp} {acc : List V} (h : H4 D = some (.lst acc)) (hl : acc.length ≤ i) (r : R (i + 1) H4) (j : J (i + 1) acc) : LcNx D R J (i + 1) H4 :=
  ⟨acc, h, r, j, by omega⟩
/-- what is asked of the walked thing -/
def LcBody (g : TG) (tt : TT) (te : TE) (vs : List Nat) (σ : L2.St) (Q : VK) : It → Hp → Prop := fun J H1 => tLc (fun _ H R => R J H) g tt te vs σ H1 Q
theorem i_lc {wi : TI} {Q : VK} (h : wi σ H1 (LcBody g tt te vs σ Q)) : tLc wi g tt te vs σ H1 Q := h
/-- a walked thing that gives the items of xs, the heap as it was -/
abbrev WalkX (J : It) (xs : List V) (G : Hp → Prop) : Prop := Walk J xs.length G (YAt xs)
theorem lcw {J : It} {G : Hp → Prop} {Q : VK} (w : WalkX J xs G) (h : ∀ D, H1 D = none → ∃ (R : Nat → Hp → Prop) (Jx : Nat → List V → Prop), R 0 (upd H1 D (.lst [])) ∧ Jx 0 [] ∧ (∀ i H, R i H → G H) ∧ (∀ i x, xs[i]? = some x → LcTurn D R Jx g tt te vs σ i x) ∧
      ∀ acc H, R xs.length H → Jx xs.length acc → H D = some (.lst acc) → acc.length ≤ xs.length → Q (.ref D) H) : LcBody g tt te vs σ Q J H1 := by
  intro D hD
  obtain ⟨R, Jx, r0, j0, hG, ht, hd⟩ := h D hD
  refine lc_it w (LcNx D R Jx) ⟨[], upd_same, r0, j0, Nat.le_refl _⟩ (fun i H _ p => ?_) (fun i x H H' hi p y => ?_) (fun H p => ?_)
  · obtain ⟨acc, _, r, _⟩ := p
    exact hG i H r
  · obtain ⟨acc, e, r, j, l⟩ := p
    obtain ⟨rfl, hx⟩ := y
    exact ht i x hx acc H' r j e l
  · obtain ⟨acc, e, r, j, l⟩ := p
    exact hd acc H r j e l
theorem list_take_more {α : Type} {l : List α} {i : Nat} {x : α} (h : l[i]? = some x) : l.take (i + 1) = l.take i ++ [x] := by
  rw [List.take_add_one, h]
  rfl
/-- pure: the items that p lets through, by f -/
theorem lcw_fm {J : It} {G : Hp → Prop} {Q : VK} {j : Nat} (w : WalkX J xs G) (p : V → Bool) (f : V → V) (hG : ∀ H', Same H1 H' → G H') (hz : xs.length < 100000) (hw : ∀ x, wipe ((wipe σ vs).set j (some x)) vs = wipe σ vs)
    (ht : ∀ x, x ∈ xs → ∀ (H' : Hp) (R : Bool → Hp → Prop), Same H1 H' → (∀ H'', Same H' H'' → R (p x) H'') → tt ((wipe σ vs).set j (some x)) H' R)
    (he : ∀ x, x ∈ xs → p x = true → ∀ (H' : Hp) (R : VK), Same H1 H' → (∀ H'', Same H' H'' → R (f x) H'') → te ((wipe σ vs).set j (some x)) H' R)
    (q : ∀ D H', H1 D = none → Same H1 H' → H' D = some (.lst ((xs.filter p).map f)) → Q (.ref D) H') : LcBody (gName j) tt te vs σ Q J H1 := by
  refine lcw w fun D hD => ⟨fun _ H => Same H1 H, fun i acc => acc = ((xs.take i).filter p).map f, same_upd hD, rfl, fun _ H s => hG H s, fun i x hx acc H s ej e hl => ?_, fun acc H s ej e _ => ?_⟩
  · have hm : x ∈ xs := List.mem_of_getElem? hx
    have hi : i < 100000 := Nat.lt_trans (List.getElem?_eq_some_iff.mp hx).1 hz
    refine ⟨hw x, ht x hm H _ s fun H3 s3 => ?_⟩
    cases hp : p x with
    | true =>
      refine iteT (he x hm hp H3 _ (s.trans s3) fun H4 s4 => ?_)
      have s14 := (s.trans s3).trans s4
      refine lc_end (s4 _ _ (s3 _ _ e)) hl hi (Same.upd s14 hD) ?_
      have ej : acc = ((xs.take i).filter p).map f := ej
      show acc ++ [f x] = ((xs.take (i + 1)).filter p).map f
      rw [list_take_more hx, List.filter_append, List.map_append, ← ej]
      simp [hp]
    | false =>
      refine iteF (lc_skip (s3 _ _ e) hl (s.trans s3) ?_)
      have ej : acc = ((xs.take i).filter p).map f := ej
      show acc = ((xs.take (i + 1)).filter p).map f
      rw [list_take_more hx, List.filter_append, List.map_append, ← ej]
      simp [hp]
  · have ej : acc = ((xs.take xs.length).filter p).map f := ej
    rw [List.take_length] at ej
    exact q D H hD s (by rw [← ej]; exact e)
/-- with draws: R tells the pool's state, J the list -/
theorem lcw_pool {J : It} {G : Hp → Prop} {Q : VK} {j : Nat} {p n : Addr} {k d : Int} (w : WalkX J xs G) (Jx : Nat → List V → Prop) (hP : PoolAt H1 p n k) (hG : ∀ H', Keep p n H1 H' → G H') (hz : xs.length < 100000) (hw : ∀ x, wipe ((wipe σ vs).set j (some x)) vs = wipe σ vs) (j0 : Jx 0 [])
    (he : ∀ i x acc, xs[i]? = some x → Jx i acc → ∀ (H' : Hp) (R : VK), Keep p n H1 H' → PoolAt H' p n (k + i * d) → (∀ y H'', Keep p n H' H'' → PoolAt H'' p n (k + (i + 1 : Nat) * d) → Jx (i + 1) (acc ++ [y]) → R y H'') → te ((wipe σ vs).set j (some x)) H' R)
    (q : ∀ D H' acc, H1 D = none → Keep p n H1 H' → PoolAt H' p n (k + xs.length * d) → Jx xs.length acc → acc.length ≤ xs.length → H' D = some (.lst acc) → Q (.ref D) H') : LcBody (gName j) tYes te vs σ Q J H1 := by
  refine lcw w fun D hD => ⟨fun i H => Keep p n H1 H ∧ PoolAt H p n (k + i * d), Jx, ⟨(Keep.refl p n H1).upd hD, ?_⟩, j0, fun _ H s => hG H s.1, fun i x hx acc H s ej e hl => ?_, fun acc H s ej e hl => q D H acc hD s.1 s.2 ej hl e⟩
  · have z : PoolAt (L2.upd H1 D (.lst [])) p n k := hP.upd (hP.ne hD).1 (hP.ne hD).2
    exact z.mono (by simp)
  · have hi : i < 100000 := Nat.lt_trans (List.getElem?_eq_some_iff.mp hx).1 hz
    refine ⟨hw x, ?_⟩
    have goal : te ((wipe σ vs).set j (some x)) H (LcEnd D (fun i H => Keep p n H1 H ∧ PoolAt H p n (k + i * d)) Jx (i + 1)) := he i x acc hx ej H _ s.1 s.2 fun y H4 s4 p4 j4 => by
      have e4 := s4 _ _ e (hP.ne hD).1 (hP.ne hD).2
      exact lc_end e4 hl hi ⟨(s.1.trans s4).upd hD, p4.upd (hP.ne hD).1 (hP.ne hD).2⟩ j4
    exact goal
theorem p_lcL {Q : VK} {xs : List V} (h : SqL K H1 a xs) (q : LcBody g tt te vs σ Q (Itl K a) H1) : ∃ a', V.ref a = .ref a' ∧ (∃ xs, SqL K H1 a' xs) ∧ LcBody g tt te vs σ Q (Itl K a') H1 := ⟨a, rfl, ⟨xs, h⟩, q⟩
theorem p_lcT {Q : VK} {xs : List V} (h : SqT K H1 a xs) (q : LcBody g tt te vs σ Q (Itt K a) H1) : ∃ a', V.ref a = .ref a' ∧ (∃ xs, SqT K H1 a' xs) ∧ LcBody g tt te vs σ Q (Itt K a') H1 := ⟨a, rfl, ⟨xs, h⟩, q⟩
end
/-! ### walked things -/
section
variable {K : PySem.W.Frag} {a : Addr} {xs : List V} {σ : L2.St} {H : Hp} {R : It → Hp → Prop} {te : TE} {ta : TA}
theorem i_itl (h : te σ H fun x H1 => ∃ a, x = .ref a ∧ (∃ xs, SqL K H1 a xs) ∧ R (Itl K a) H1) : iList K te σ H R := h
theorem i_itt (h : te σ H fun x H1 => ∃ a, x = .ref a ∧ (∃ xs, SqT K H1 a xs) ∧ R (Itt K a) H1) : iTup K te σ H R := h
theorem i_itr (h : ta σ H fun vs H1 => ∃ j : Int, vs = [.int j] ∧ -(2 ^ 62) ≤ j ∧ j < 2 ^ 62 ∧ R (Itr 0 j.toNat) H1) : iRng1 ta σ H R := h
theorem i_its (h : te σ H fun v H1 => ∃ x, v = .str x ∧ R (Its x) H1) : iStr te σ H R := h
theorem p_itl {R : Addr → Prop} (h : SqL K H a xs) (q : R a) : ∃ a', V.ref a = .ref a' ∧ (∃ xs, SqL K H a' xs) ∧ R a' := ⟨a, rfl, ⟨xs, h⟩, q⟩
theorem p_itt {R : Addr → Prop} (h : SqT K H a xs) (q : R a) : ∃ a', V.ref a = .ref a' ∧ (∃ xs, SqT K H a' xs) ∧ R a' := ⟨a, rfl, ⟨xs, h⟩, q⟩
theorem p_itr {R : Int → Prop} {i : Int} (h1 : -(2 ^ 62) ≤ i) (h2 : i < 2 ^ 62) (q : R i) : ∃ j, [V.int i] = [.int j] ∧ -(2 ^ 62) ≤ j ∧ j < 2 ^ 62 ∧ R j := ⟨i, rfl, h1, h2, q⟩
theorem p_its {R : Str → Prop} {z : Str} (q : R z) : ∃ x, V.str z = .str x ∧ R x := ⟨z, rfl, q⟩
/-- the signs of a text, each a text -/
def chars (z : Str) : List V := z.cps.toList.map fun c => V.str ⟨#[c]⟩
def intsV (n : Nat) : List V := (List.range n).map fun i : Nat => V.int i
theorem intsV_len (n : Nat) : (intsV n).length = n := by simp [intsV]
theorem chars_len (z : Str) : (chars z).length = z.length := by simp [chars, Str.length]
theorem wx_list : WalkX (Itl K a) xs (fun H => SqL K H a xs) := walk_list
theorem wx_tup : WalkX (Itt K a) xs (fun H => SqT K H a xs) := walk_tup
theorem wx_range {n : Nat} : WalkX (Itr 0 n) (intsV n) (fun _ => True) := by
  unfold WalkX
  rw [intsV_len]
  refine walk_range.mono (fun _ h => h) fun i H x H' hi _ y => ⟨y.1, ?_⟩
  rw [y.2, intsV, List.getElem?_map, List.getElem?_range hi]
  simp
theorem wx_str {z : Str} : WalkX (Its z) (chars z) (fun _ => True) := by
  have e : (chars z).length = z.cps.size := by simp [chars]
  unfold WalkX
  rw [e]
  refine walk_str.mono (fun _ h => h) fun i H x H' hi _ y => ⟨y.1, ?_⟩
  obtain ⟨c, hc, rfl⟩ := y.2
  rw [chars, List.getElem?_map, Array.getElem?_toList, hc]
  rfl
/-! ### for -/
def FoBody (g : TG) (tb : TS) (D : Ends) (σ : L2.St) : It → Hp → Prop := fun J H1 => tFor (fun _ H R => R J H) g tb D σ H1
theorem i_for {wi : TI} {g : TG} {tb : TS} {D : Ends} (h : wi σ H (FoBody g tb D σ)) : tFor wi g tb D σ H := h
theorem fow {J : It} {G : Hp → Prop} {g : TG} {tb : TS} {D : Ends} (w : WalkX J xs G) (Pv : Nat → L2.St → Hp → Prop) (h0 : Pv 0 σ H) (hG : ∀ i σ H, Pv i σ H → G H)
    (hs : ∀ i x σ H, xs[i]? = some x → Pv i σ H → g x σ H fun σ2 H2 => tb { D with nx := Pv (i + 1), ct := Pv (i + 1), bk := D.nx } σ2 H2) (hd : ∀ σ H, Pv xs.length σ H → D.nx σ H) : FoBody g tb D σ J H :=
  for_it w Pv h0 (fun i σ H _ p => hG i σ H p) (fun i x σ H H' _ p y => by
    obtain ⟨rfl, hx⟩ := y
    exact hs i x σ H' hx p) hd
end
end Pk

namespace Pk
open PySem PySem.Spec PyProof.Rows L2
/-! ### kinds of plain values -/
inductive Kn where | non | bl | int | str | lst | tup | dct
  deriving DecidableEq
def Kn.is : Kn → Kn → Bool
  | .bl, .int => true
  | a, b => a == b
inductive Kd (H : Hp) : V → Kn → Prop where
  | non : Kd H .non .non
  | bl (b : Bool) : Kd H (.bl b) .bl
  | int (i : Int) : Kd H (.int i) .int
  | str (z : Str) (h : z.length ≤ 10000) : Kd H (.str z) .str
  | lst {a : Addr} {xs : List V} (e : H a = some (.lst xs)) : Kd H (.ref a) .lst
  | tup {a : Addr} {xs : List V} (e : H a = some (.tup xs)) : Kd H (.ref a) .tup
  | dct {a : Addr} {kvs : List (Key × V)} (e : H a = some (.dK kvs)) : Kd H (.ref a) .dct
theorem Kd.same {H H' : Hp} {x : V} {k : Kn} (s : Same H H') (h : Kd H x k) : Kd H' x k := by
  cases h with
  | non => exact .non
  | bl b => exact .bl b
  | int i => exact .int i
  | str z h => exact .str z h
  | lst e => exact .lst (s _ _ e)
  | tup e => exact .tup (s _ _ e)
  | dct e => exact .dct (s _ _ e)
def Kn.nm : Kn → String
  | .non => "NoneType" | .bl => "bool" | .int => "int" | .str => "str" | .lst => "list" | .tup => "tuple" | .dct => "dict"
theorem kit_nm (a c : Kn) (hc : c ≠ .non) : kitB a.nm c.nm = some (a.is c) := by
  cases a <;> cases c <;> first | exact absurd rfl hc | decide +kernel
theorem Kd.tyx {K : PySem.W.Frag} {H : Hp} {x : V} {k : Kn} (h : Kd H x k) : TyX K H x (.type k.nm) := by
  cases h with
  | non => exact .base .non
  | bl b => exact .base (.bl b)
  | int i => exact .base (.int i)
  | str z _ => exact .base (.str z)
  | lst e => exact .base (.lst e)
  | tup e => exact .base (.tup e)
  | dct e => exact .base (.dK e)
section
variable {K : PySem.W.Frag} {σ : L2.St} {H : Hp} {Q : VK} {x : V} {a : Kn}
theorem p_isi (c : Kn) (hc : c ≠ .non) (h : Kd H x a) (q : Q (.bl (a.is c)) H) : rIsi K [x, .ty c.nm] H Q := ⟨x, .ty c.nm, .type a.nm, .type c.nm, a.is c, rfl, .ty _, h.tyx, kit_ty (kit_nm a c hc), q⟩
theorem p_isStr (h : Kd H x a) (q : Q (.bl (a.is .str)) H) : rIsi K [x, .ty "str"] H Q := p_isi .str (by decide) h q
theorem p_isInt (h : Kd H x a) (q : Q (.bl (a.is .int)) H) : rIsi K [x, .ty "int"] H Q := p_isi .int (by decide) h q
theorem p_isBool (h : Kd H x a) (q : Q (.bl (a.is .bl)) H) : rIsi K [x, .ty "bool"] H Q := p_isi .bl (by decide) h q
theorem p_isi2 (c d : Kn) (hc : c ≠ .non) (hd : d ≠ .non) {t : Addr} (ht : H t = some (.tup [.ty c.nm, .ty d.nm])) (h : Kd H x a) (q : Q (.bl (a.is c || a.is d)) H) : rIsiT K [x, .ref t] H Q := by
  refine ⟨x, t, _, .type a.nm, [.type c.nm, .type d.nm], a.is c || a.is d, rfl, ht, .cons (.ty _) (.cons (.ty _) .nil), h.tyx, ?_, q⟩
  refine kitAny_cons (kit_ty (kit_nm a c hc)) (fun h1 => ?_) (fun h1 => by rw [h1]; rfl)
  refine kitAny_cons (kit_ty (kit_nm a d hd)) (fun h2 => ?_) (fun h2 => by rw [h2, Bool.or_true])
  rw [h1, h2]
  exact kitAny_nil
theorem p_isLT {t : Addr} (ht : H t = some (.tup [.ty "list", .ty "tuple"])) (h : Kd H x a) (q : Q (.bl (a.is .lst || a.is .tup)) H) : rIsiT K [x, .ref t] H Q := p_isi2 .lst .tup (by decide) (by decide) ht h q
/-! ### all, chains, truth -/
theorem p_all {p : Addr} {bs : List Bool} (h : SqL K H p (bs.map V.bl)) (q : Q (.bl (bs.all id)) H) : rAll K [.ref p] H Q := ⟨p, bs, rfl, h, q⟩
theorem i_chain {r r' : R2} {ta tb tc : TE} (h : ta σ H fun x H1 => tb σ H1 fun y H2 => r x y H2 fun z H3 => ∃ k, z = .bl k ∧ (if k = true then tc σ H3 fun w' H4 => r' y w' H4 Q else Q (.bl false) H3)) : tChain r r' ta tb tc σ H Q := h
theorem sign_lt (c d : Nat) : decide ((#[c] : Array Nat).toList < (#[d] : Array Nat).toList) = decide (c < d) := by
  apply decide_eq_decide.mpr
  constructor
  · intro h
    rcases h with h | h | ⟨h, h2⟩
    · exact h
  · intro h
    exact .rel h
/-! ### == [] over texts -/
theorem dp_strs {ys : List Str} : DpAll K H (ys.map V.str) (ys.map PyData.str) := by
  induction ys with
  | nil => exact .nil
  | cons y r ih => exact .cons (.str y) ih
theorem lay_strs : ∀ ys : List Str, (∀ y ∈ ys, PyData.strOk y = true) → PyData.canLayAll0 (ys.map PyData.str) = true
  | [], _ => by simp [PyData.canLayAll0]
  | y :: r, h => by
    have ih := lay_strs r fun z hz => h z (List.mem_cons_of_mem _ hz)
    simp [PyData.canLayAll0, PyData.canLay0, ih, h y List.mem_cons_self]
theorem dep_strs : ∀ ys : List Str, PyData.depthAll (ys.map PyData.str) = 0
  | [] => by simp [PyData.depthAll]
  | y :: r => by
    have ih := dep_strs r
    simp [PyData.depthAll, PyData.depth, ih]
theorem sh_strs {ys : List Str} (h : ∀ y ∈ ys, PyData.strOk y = true) : SeqAt.shaped (.list (ys.map PyData.str)) = true := by
  unfold SeqAt.shaped
  simp [PyData.canLay0, lay_strs ys h, PyData.depth, dep_strs]
theorem eqv_nil (ys : List Str) : PyData.eqv (.list (ys.map PyData.str)) (.list []) = ys.isEmpty := by
  cases ys <;> simp [PyData.eqv, PyData.eqvAll]
theorem p_eqNil {p r : Addr} {xs : List V} (h1 : H p = some (.lst xs)) (h2 : H r = some (.lst [])) (q : Q (.bl xs.isEmpty) H) : rEqX K (.ref p) (.ref r) H Q := by
  cases xs with
  | nil => exact .inr (.inl ⟨.list [], .list [], .lst (SqL.of h1) .nil, .lst (SqL.of h2) .nil, by decide +kernel, by decide +kernel, by
      have e : PyData.eqv (.list []) (.list []) = true := by decide +kernel
      rw [e]
      exact q⟩)
  | cons x r' => exact .inr (.inr ⟨p, r, _, _, rfl, rfl, h1, h2, by simp, q⟩)
theorem p_neNil {p r : Addr} {xs : List V} (h1 : H p = some (.lst xs)) (h2 : H r = some (.lst [])) (q : Q (.bl (!xs.isEmpty)) H) : rNeX K (.ref p) (.ref r) H Q := by
  cases xs with
  | nil => exact .inr (.inl ⟨.list [], .list [], .lst (SqL.of h1) .nil, .lst (SqL.of h2) .nil, by decide +kernel, by decide +kernel, by
      have e : PyData.eqv (.list []) (.list []) = true := by decide +kernel
      rw [e]
      exact q⟩)
  | cons x r' => exact .inr (.inr ⟨p, r, _, _, rfl, rfl, h1, h2, by simp, q⟩)
/-! ### texts -/
theorem foldl_app (cs : List Nat) : ∀ acc : Array Nat, (cs.map fun c => (⟨#[c]⟩ : Str)).foldl (fun acc p => acc ++ (⟨#[]⟩ : Str).cps ++ p.cps) acc = acc ++ cs.toArray := by
  induction cs with
  | nil => intro acc; simp
  | cons c r ih =>
    intro acc
    rw [List.map_cons, List.foldl_cons, ih]
    simp
theorem join_chars (cs : List Nat) : Txt.join Str.empty (cs.map fun c => (⟨#[c]⟩ : Str)) = ⟨cs.toArray⟩ := by
  cases cs with
  | nil => rfl
  | cons c r =>
    show Builtin.Str.glued _ _ = _
    unfold Builtin.Str.glued
    have e := foldl_app r #[c]
    refine congrArg Str.mk ?_
    rw [List.map_cons, List.drop_one, List.tail_cons]
    refine Eq.trans e ?_
    simp
theorem ifT' {c : Bool} {A B : Prop} (h : c = true) (a : A) : if c = true then A else B := by rw [if_pos h]; exact a
theorem ifF' {c : Bool} {A B : Prop} (h : c = false) (b : B) : if c = true then A else B := by rw [h]; exact iteF b
def plainB (z : Str) : Bool := z.cps.toList.all fun c => decide (32 ≤ c) && decide (c ≤ 126)
def lineB : V → Bool
  | .str z => decide (z.length ≤ 40) && plainB z
  | _ => false
theorem cut_to (z : Str) (k : Nat) : cutS z none (some (k : Int)) = ⟨(z.cps.toList.take k).toArray⟩ := by
  unfold cutS
  rw [show HT.sIx z.length 0 none = 0 from HT.sIx_none _ _, HT.sIx_nat, List.drop_zero, Nat.sub_zero]
  have e : z.length = z.cps.toList.length := by simp [Str.length]
  by_cases h : k ≤ z.length
  · rw [Nat.min_eq_left h]
  · rw [Nat.min_eq_right (by omega), List.take_of_length_le (by omega), List.take_of_length_le (by omega)]
theorem cut_from (z : Str) (k : Nat) : cutS z (some (k : Int)) none = ⟨(z.cps.toList.drop k).toArray⟩ := by
  unfold cutS
  have e : z.length = z.cps.toList.length := by simp [Str.length]
  rw [HT.sIx_nat, HT.sIx_none]
  by_cases h : k ≤ z.length
  · rw [Nat.min_eq_left h, List.take_of_length_le (by rw [List.length_drop]; omega)]
  · rw [Nat.min_eq_right (by omega), List.drop_of_length_le (by omega), List.drop_of_length_le (by omega), List.take_nil]
theorem app_cps (a b : Str) : (a ++ b).cps.toList = a.cps.toList ++ b.cps.toList := by
  show (a.cps ++ b.cps).toList = _
  simp
theorem app_len (a b : Str) : (a ++ b).length = a.length + b.length := by
  show (a.cps ++ b.cps).size = _
  simp [Str.length]
theorem sum_ones (cs : List Nat) : ((cs.map fun c => (⟨#[c]⟩ : Str)).map (·.length)).sum = cs.length := by
  induction cs with
  | nil => rfl
  | cons c r ih =>
    rw [List.map_cons, List.map_cons, List.sum_cons, ih, List.length_cons]
    show 1 + r.length = r.length + 1
    omega
/-! ### kinds beside the pool -/
def KdP (p n : Addr) (H : Hp) (x : V) (k : Kn) : Prop := Kd H x k ∧ ∀ b, x = .ref b → b ≠ p ∧ b ≠ n
theorem KdP.keep {p n : Addr} {H H' : Hp} {x : V} {k : Kn} (e : Keep p n H H') (h : KdP p n H x k) : KdP p n H' x k := by
  obtain ⟨h, hb⟩ := h
  refine ⟨?_, hb⟩
  cases h with
  | non => exact .non
  | bl b => exact .bl b
  | int i => exact .int i
  | str z h => exact .str z h
  | lst q => exact .lst (e _ _ q (hb _ rfl).1 (hb _ rfl).2)
  | tup q => exact .tup (e _ _ q (hb _ rfl).1 (hb _ rfl).2)
  | dct q => exact .dct (e _ _ q (hb _ rfl).1 (hb _ rfl).2)
theorem KdP.same {p n : Addr} {H H' : Hp} {x : V} {k : Kn} (e : Same H H') (h : KdP p n H x k) : KdP p n H' x k := ⟨h.1.same e, h.2⟩
theorem KdP.flat {p n : Addr} {H : Hp} {x : V} {k : Kn} (h : Kd H x k) (hx : ∀ b, x ≠ .ref b) : KdP p n H x k := ⟨h, fun b e => absurd e (hx b)⟩
theorem two_at {x y : V} {r : Int} (h0 : 0 ≤ r) (h1 : r < 2) : ∃ v, (v = x ∨ v = y) ∧ atI [x, y] r = some v := by
  have h : r = 0 ∨ r = 1 := by omega
  rcases h with rfl | rfl
  · exact ⟨x, .inl rfl, rfl⟩
  · exact ⟨y, .inr rfl, rfl⟩
theorem at_lt {xs : List V} {r : Int} (h0 : 0 ≤ r) (h1 : r < xs.length) : ∃ v, v ∈ xs ∧ atI xs r = some v := by
  have h : r.toNat < xs.length := by omega
  exact ⟨xs[r.toNat], List.getElem_mem h, at_of (j := r.toNat) (by omega) (List.getElem?_eq_getElem h)⟩
theorem intsV_at {n i : Nat} {x : V} (h : (intsV n)[i]? = some x) : i < n ∧ x = .int i := by
  have hi : i < n := by
    have := (List.getElem?_eq_some_iff.mp h).1
    rwa [intsV_len] at this
  rw [intsV, List.getElem?_map, List.getElem?_range hi] at h
  exact ⟨hi, (Option.some.inj h).symm⟩
theorem cutS_len (z : Str) (lo hi : Option Int) : (cutS z lo hi).length ≤ z.length := cutS_length z lo hi
/-- the empty dict -/
theorem p_dnew {R : VK} (q : ∀ d H', H d = none → Same H H' → H' d = some (.dK []) → R (.ref d) H') : ∀ d, H d = none → R (.ref d) (upd H d (.dK [])) := fun d hd => q d _ hd (same_upd hd) upd_same
theorem p_tupL {p : Addr} {xs : List V} (h : SqL K H p xs) (q : ∀ d H', H d = none → Same H H' → H' d = some (.tup xs) → Q (.ref d) H') : rTupX K [.ref p] H Q := ⟨p, xs, rfl, .inl ⟨h, al q⟩⟩
theorem i_dnew (q : ∀ d H', H d = none → Same H H' → H' d = some (.dK []) → Q (.ref d) H') : tDNewK σ H Q := p_dnew q
theorem mem_cutV {xs : List V} {lo hi : Option Int} {x : V} (h : x ∈ cutV xs lo hi) : x ∈ xs := List.mem_of_mem_drop (List.mem_of_mem_take h)
theorem all_filter {α : Type} (p : α → Bool) (xs : List α) : xs.all p = (xs.filter fun x => !p x).isEmpty := by
  induction xs with
  | nil => rfl
  | cons x r ih =>
    rw [List.all_cons, List.filter_cons, ih]
    cases p x <;> simp
theorem p_notB {a b : Bool} (q : Q (.bl (!decide (a = b))) H) : rNotB (.bl a) (.bl b) H Q := ⟨a, b, rfl, rfl, q⟩
theorem p_isB {a b : Bool} (q : Q (.bl (decide (a = b))) H) : rIsB (.bl a) (.bl b) H Q := ⟨a, b, rfl, rfl, q⟩
end
end Pk

namespace Pk
open PySem PySem.Spec PyProof.Rows L2
local macro_rules | `(tactic| walk_at "sz") => `(tactic| first | assumption | decide +kernel | exact Nat.le_trans (Nat.le_of_ble_eq_true rfl) (show 100000 ≤ sizeLine by decide) | exact Nat.le_trans (by omega) (show 100000 ≤ sizeLine by decide) | (show _ ≤ sizeLine; exact Nat.le_trans (by (simp only [List.length_append, List.length_map, List.length_cons, List.length_nil]; omega)) (show 100000 ≤ sizeLine by decide)))
local macro_rules | `(tactic| walk_at "mul") => `(tactic| first | exact Or.inl (Or.inl ⟨by omega, by omega⟩) | exact Or.inl (Or.inr ⟨by omega, by omega⟩))
local macro_rules | `(tactic| walk_at "ci") => `(tactic| first | assumption | exact (by decide : (0 : Int) < _) | (show (0 : Int) < _; omega) | exact ⟨by assumption, by assumption⟩ | exact ⟨by decide, by decide⟩ | exact ⟨by decide, by decide, by omega⟩)
local macro_rules | `(tactic| walk_at "lk") => `(tactic| first | assumption | exact upd_same | ((refine Eq.trans (upd_ne (by first | assumption | exact Ne.symm (by assumption))) ?_); walk_at "lk") | exact Same.get (by assumption) (by walk_at "lk") | exact Keep.get (by assumption) (by walk_at "lk") (by assumption) (by assumption))
local macro_rules | `(tactic| walk_at "sq") => `(tactic| first | assumption | exact SqL.of (by walk_at "lk") | exact Same.seq (by assumption) (by walk_at "sq"))
local macro_rules | `(tactic| walk_at "stt") => `(tactic| exact SqT.of (by walk_at "lk"))
local macro_rules | `(tactic| walk_at "kd") => `(tactic| first | assumption | exact Kd.str _ (by first | assumption | omega | decide) | exact Kd.bl _ | exact Kd.int _ | exact Kd.non | exact Kd.lst (by walk_at "lk") | exact Kd.tup (by walk_at "lk") | exact Kd.dct (by walk_at "lk") | exact Kd.same (by assumption) (by walk_at "kd"))
local macro_rules | `(tactic| walk_at "sm") => `(tactic| first | assumption | exact Same.refl _ | (refine Same.trans ?_ (by assumption); walk_at "sm"))
local macro_rules | `(tactic| walk_at "st") => `(tactic| first
  | with_reducible refine i_seq ?_ | with_reducible refine i_asg ?_ | with_reducible refine i_ret ?_ | with_reducible refine i_op ?_
  | ((with_reducible show tVar _ _ _ _); refine i_var rfl ?_)
  | with_reducible refine i_c ?_ | with_reducible refine i_cb ?_ | with_reducible refine i_call ?_ | with_reducible refine i_cons ?_ | with_reducible refine i_nil ?_
  | with_reducible refine i_name ?_ | with_reducible refine i_sub ?_ | with_reducible refine i_drop ?_ | with_reducible refine i_ifs ?_ | with_reducible refine i_ife ?_
  | with_reducible refine i_test ?_ | with_reducible refine i_tru ?_ | with_reducible refine i_and ?_ | with_reducible refine i_or ?_ | with_reducible refine i_not ?_
  | with_reducible refine i_andV ?_ | with_reducible refine i_orV ?_ | with_reducible refine i_notV ?_ | with_reducible refine i_un ?_
  | with_reducible refine i_bl ?_ | with_reducible refine i_trB ?_ | with_reducible refine i_next ?_
  | with_reducible refine iteF ?_ | with_reducible refine iteT ?_
  | with_reducible refine i_lstF ?_ | with_reducible refine i_tupF ?_
  | with_reducible refine p_addI ?_ | with_reducible refine p_I0 ?_ | with_reducible refine p_U ?_
  | with_reducible refine p_ltI ?_ | with_reducible refine p_leI ?_ | with_reducible refine p_gtI ?_ | with_reducible refine p_geI ?_
  | with_reducible refine p_ltS ?_ | with_reducible refine p_leS ?_ | with_reducible refine p_gtS ?_
  | with_reducible refine p_eqI ?_ | with_reducible refine p_neI ?_ | with_reducible refine p_int ?_
  | ((with_reducible show rMuXX (V.int _) (V.int _) _ _); refine p_muI (by walk_at "mul") ?_)
  | ((with_reducible show rI _ _ (V.int _) (V.int _) _ _); refine p_I (by walk_at "ci") ?_)
  | ((with_reducible show rIx _ (V.ref _) (V.int _) _ _); (first | refine p_ixL (by walk_at "sq") (by first | exact rfl | assumption) ?_ | refine p_ixT (SqT.of (by walk_at "lk")) (by first | exact rfl | assumption) ?_))
  | ((with_reducible show rSetL (V.ref _) (V.int _) _ _ _); refine p_setL (by walk_at "lk") (by first | exact rfl | assumption) ?_)
  | ((with_reducible show rLenX _ [V.ref _] _ _); (first | refine p_lenL (by walk_at "sq") ?_ | refine p_lenT (SqT.of (by walk_at "lk")) ?_))
  | ((with_reducible show rLenX _ [V.str _] _ _); refine p_lenS (by walk_at "sz") ?_)
  | with_reducible refine i_lc ?_ | with_reducible refine i_for ?_ | with_reducible refine i_itl ?_ | with_reducible refine i_itt ?_ | with_reducible refine i_itr ?_ | with_reducible refine i_its ?_
  | ((with_reducible show ∃ _, V.ref _ = V.ref _ ∧ (∃ _, SqL _ _ _ _) ∧ _); refine p_itl (by walk_at "sq") ?_)
  | ((with_reducible show ∃ _, V.ref _ = V.ref _ ∧ (∃ _, SqT _ _ _ _) ∧ _); refine p_itt (by walk_at "stt") ?_) | with_reducible refine p_its ?_
  | ((with_reducible show ∃ _, [V.int _] = [V.int _] ∧ _); refine p_itr (by omega) (by omega) ?_)
  | with_reducible refine i_sl ?_ | with_reducible refine i_np ?_ | with_reducible refine i_pt ?_ | with_reducible refine i_in ?_
  | ((with_reducible show rSlXX _ (V.ref _) _ _ _ _); refine p_slL (by walk_at "sq") ?_; intro _ _ _ _ _)
  | ((with_reducible show rSlXX _ (V.str _) _ _ _ _); refine p_slS (by walk_at "sz") ?_)
  | ((with_reducible show rIsi _ [_, V.ty "str"] _ _); refine p_isStr (by walk_at "kd") ?_)
  | ((with_reducible show rIsi _ [_, V.ty "int"] _ _); refine p_isInt (by walk_at "kd") ?_)
  | ((with_reducible show rIsi _ [_, V.ty "bool"] _ _); refine p_isBool (by walk_at "kd") ?_)
  | ((with_reducible show rIsiT _ [_, V.ref _] _ _); refine p_isLT (by walk_at "lk") (by walk_at "kd") ?_)
  | with_reducible refine i_chain ?_ | with_reducible refine i_m1 ?_ | with_reducible refine i_m0 ?_ | with_reducible refine i_str ?_
  | ((with_reducible show LstK _ _ _); refine p_lstK (by walk_at "sz") ?_; intro _ _ _ _ _)
  | ((with_reducible show TupK _ _ _); refine p_tupK (by walk_at "sz") ?_; intro _ _ _ _ _)
  | ((with_reducible show (if _ = true then _ else _)); (first | refine ifT' (by first | assumption | exact rfl) ?_ | refine ifF' (by first | assumption | exact rfl) ?_))
  | ((with_reducible show rEqX _ (V.bl _) (V.bl _) _ _); refine p_eqS rfl ?_) | ((with_reducible show rNeX _ (V.bl _) (V.bl _) _ _); refine p_neS rfl ?_)
  | ((with_reducible show rEqX _ (V.ref _) (V.ref _) _ _); refine p_eqNil (by walk_at "lk") (by walk_at "lk") ?_) | ((with_reducible show rNeX _ (V.ref _) (V.ref _) _ _); refine p_neNil (by walk_at "lk") (by walk_at "lk") ?_)
  | ((with_reducible show rAddX _ (V.str _) (V.str _) _ _); refine p_addS (by walk_at "sz") ?_)
  | ((with_reducible show rMuXX (V.str _) (V.int _) _ _); refine p_muS ⟨by decide +kernel, by decide +kernel, by decide +kernel⟩ ?_)
  | ((with_reducible show tDNewK _ _ _); refine i_dnew ?_; intro _ _ _ _ _)
  | ((with_reducible show rTupX _ [V.ref _] _ _); refine p_tupL (by walk_at "sq") ?_; intro _ _ _ _ _)
  | ((with_reducible show rAddX _ (V.ref _) (V.ref _) _ _); refine p_addL (by walk_at "lk") (by walk_at "lk") (by walk_at "sz") ?_; intro _ _ _ _ _)
  | with_reducible refine p_notB ?_ | with_reducible refine p_isB ?_)
local macro_rules | `(tactic| walk_at "go") => `(tactic| (walk_at "st"; (repeat walk_at "st")))

def top (i : Nat) : Stmt := PySem.Challenge.pw_lineorigins_k06_lines_and_texts.main.body.getD i (.Pass ⟨0, 0, 0, 0⟩)
abbrev s__law_pool : Stmt := top 9
abbrev N__law_pool : List Str := ["script", "numbers", "seed", "cell"]
theorem sc__law_pool : FnScope ["script", "numbers", "seed", "cell"] ["script"] (defScope s__law_pool) := ⟨rfl, rfl, rfl, by decide +kernel, rfl, by decide +kernel, by decide +kernel⟩
abbrev s__law_mixed : Stmt := top 10
abbrev N__law_mixed : List Str := ["number", "count", "many"]
theorem sc__law_mixed : FnScope ["number", "count", "many"] ["number", "count", "many"] (defScope s__law_mixed) := ⟨rfl, rfl, rfl, by decide +kernel, rfl, by decide +kernel, by decide +kernel⟩
abbrev s__law_draw : Stmt := top 11
abbrev N__law_draw : List Str := ["pool", "many", "at", "numbers", "cell"]
theorem sc__law_draw : FnScope ["pool", "many", "at", "numbers", "cell"] ["pool", "many"] (defScope s__law_draw) := ⟨rfl, rfl, rfl, by decide +kernel, rfl, by decide +kernel, by decide +kernel⟩
abbrev s_is_listing : Stmt := top 1
abbrev N_is_listing : List Str := ["value"]
theorem sc_is_listing : FnScope ["value"] ["value"] (defScope s_is_listing) := ⟨rfl, rfl, rfl, by decide +kernel, rfl, by decide +kernel, by decide +kernel⟩
abbrev s_is_plain : Stmt := top 2
abbrev N_is_plain : List Str := ["text", "mark"]
theorem sc_is_plain : FnScope ["text", "mark"] ["text"] (defScope s_is_plain) := ⟨rfl, rfl, rfl, by decide +kernel, rfl, by decide +kernel, by decide +kernel⟩
abbrev s_is_line : Stmt := top 6
abbrev N_is_line : List Str := ["value"]
theorem sc_is_line : FnScope ["value"] ["value"] (defScope s_is_line) := ⟨rfl, rfl, rfl, by decide +kernel, rfl, by decide +kernel, by decide +kernel⟩
abbrev s_is_text : Stmt := top 7
abbrev N_is_text : List Str := ["value", "line"]
theorem sc_is_text : FnScope ["value", "line"] ["value"] (defScope s_is_text) := ⟨rfl, rfl, rfl, by decide +kernel, rfl, by decide +kernel, by decide +kernel⟩
abbrev s__law_signs : Stmt := top 12
abbrev N__law_signs : List Str := ["pool", "many", "signs", "k"]
theorem sc__law_signs : FnScope ["pool", "many", "signs", "k"] ["pool", "many"] (defScope s__law_signs) := ⟨rfl, rfl, rfl, by decide +kernel, rfl, by decide +kernel, by decide +kernel⟩
abbrev s__law_is_line : Stmt := top 13
abbrev N__law_is_line : List Str := ["thing", "sign"]
theorem sc__law_is_line : FnScope ["thing", "sign"] ["thing"] (defScope s__law_is_line) := ⟨rfl, rfl, rfl, by decide +kernel, rfl, by decide +kernel, by decide +kernel⟩
abbrev s__law_truth : Stmt := top 14
abbrev N__law_truth : List Str := ["found", "due"]
theorem sc__law_truth : FnScope ["found", "due"] ["found", "due"] (defScope s__law_truth) := ⟨rfl, rfl, rfl, by decide +kernel, rfl, by decide +kernel, by decide +kernel⟩
abbrev s_law : Stmt := top 15
abbrev N_law : List Str := ["script", "pool", "lines", "k", "odd", "thing", "good", "many", "line", "at", "some", "bent", "text", "due"]
theorem sc_law : FnScope ["script", "pool", "lines", "k", "odd", "thing", "good", "many", "line", "at", "some", "bent", "text", "due"] ["script"] (defScope s_law) := ⟨rfl, rfl, rfl, by decide +kernel, rfl, by decide +kernel, by decide +kernel⟩
structure Tx (K : PySem.W.Frag) (mg : Str → Option Value) : Prop where
  n_int : mg "int" = none
  n_len : mg "len" = none
  n_isinstance : mg "isinstance" = none
  n_list : mg "list" = none
  n_tuple : mg "tuple" = none
  n_str : mg "str" = none
  n_bool : mg "bool" = none
  n_all : mg "all" = none
  n_range : mg "range" = none
  g_MOST_CHARACTERS : ∃ u, mg "MOST_CHARACTERS" = some u ∧ RelV (.int 40) u
  g_MOST_LINES : ∃ u, mg "MOST_LINES" = some u ∧ RelV (.int 12) u
  d_listing : DefAt K mg "is_listing" s_is_listing
  d_plain : DefAt K mg "is_plain" s_is_plain
  d_line : DefAt K mg "is_line" s_is_line
  d_text : DefAt K mg "is_text" s_is_text
  d_signs : DefAt K mg "_law_signs" s__law_signs
  d_isline : DefAt K mg "_law_is_line" s__law_is_line
  d_truth : DefAt K mg "_law_truth" s__law_truth
  d_law : DefAt K mg "law" s_law
  d_pool : DefAt K mg "_law_pool" s__law_pool
  d_mixed : DefAt K mg "_law_mixed" s__law_mixed
  d_draw : DefAt K mg "_law_draw" s__law_draw
section
variable {P : Program} {w : World} {K : PySem.W.Frag} {mg : Str → Option Value} {base : Heap}
def spMixed : Sp := fun vs H Q _ => ∃ (a c m : Int), vs = [.int a, .int c, .int m] ∧ 0 ≤ a ∧ a < 2147483647 ∧ 0 ≤ c ∧ c < 2 ^ 50 ∧ 0 < m ∧ ∀ r : Int, 0 ≤ r → r < m → Q (.int r) H
theorem c__law_mixed (T : Tx K mg) : Cal P w K mg base CX0 1 "_law_mixed" spMixed := by
  refine cal0 T.d_mixed sc__law_mixed (fun _ _ _ _ _ _ us hl => match us, hl with | [_, _, _], _ => rfl) (fun vs H Q E h => ?_) (fun f cdv A outer s H vs Q E hr h => ?_)
  · obtain ⟨a, c, m, rfl, _⟩ := h
    rfl
  · obtain ⟨a, c, m, rfl, h1, h2, h3, h4, h5, k⟩ := h
    refine ⟨_, (pss_one (ps_ret (pe_op op_mod (pe_op op_fdX (pe_callTy call_intX (by rfl) T.n_int (by decide +kernel) (pa_cons (pe_op op_mod (pe_op op_pow (pe_callTy call_intX (by rfl) T.n_int (by decide +kernel) (pa_cons (pe_op (r := rAddX K) op_addX (pv 0) (pe_op op_muX pe_int (pv 1))) pa_nil)) pe_int) pe_int) pa_nil)) pe_int) (pv 2)))), ?_⟩
    walk_at "go"
    exact k _ (Int.emod_nonneg _ (by omega)) (Int.emod_lt_of_pos _ h5)
def spDraw : Sp := fun vs H Q _ => ∃ (p n : Addr) (m k : Int), vs = [.ref p, .int m] ∧ PoolAt H p n k ∧ 0 ≤ k ∧ k < 1000000000 ∧ 0 < m ∧ m.natAbs.log2 < 9000 ∧ ∀ (r : Int) (H' : Hp), 0 ≤ r → r < m → PoolAt H' p n (k + 1) → Keep p n H H' → Q (.int r) H'
theorem c__law_draw (T : Tx K mg) : Cal P w K mg base CX0 2 "_law_draw" spDraw := by
  have c__law_mixed : Cal P w K mg base CX0 1 "_law_mixed" spMixed := c__law_mixed T
  refine cal0 T.d_draw sc__law_draw (fun _ _ _ _ _ _ us hl => match us, hl with | [_, _], _ => rfl) (fun vs H Q E h => ?_) (fun f cdv A outer s H vs Q E hr h => ?_)
  · obtain ⟨p, n, m, k, rfl, _⟩ := h
    rfl
  · obtain ⟨p, n, m, k, rfl, ⟨ns, a, c, z, st, hp, hn, h1, h2, h3, h4, h5⟩, h6, h7, h8, h9, q⟩ := h
    have npn : p ≠ n := ne_of hp hn (fun e => by cases ns <;> simp at e)
    refine ⟨_, (pss_cons (ps_asg (pe_op (r := rAddX K) op_addX (pe_ix (r := rIx K) ix_seq (pv 0) pe_int (fun _ _ => rfl)) pe_int) (pg_sub (pv 0) pe_int set_list))
      (pss_cons (ps_if (pt_cmpR op_geX (pe_ix (r := rIx K) ix_seq (pv 0) pe_int (fun _ _ => rfl)) (pe_callB (r := rLenX K) call_lenX (by rfl) T.n_len (by decide +kernel) (pa_cons (pe_ix (r := rIx K) ix_seq (pv 0) pe_int (fun _ _ => rfl)) pa_nil)) (nomark _)) (pss_one (ps_ret (pe_c c__law_mixed hr (by decide) (by rfl) pass0 (pa_cons (pe_ix (r := rIx K) ix_seq (pv 0) pe_int (fun _ _ => rfl)) (pa_cons (pe_ix (r := rIx K) ix_seq (pv 0) pe_int (fun _ _ => rfl)) (pa_cons (pv 1) pa_nil)))))) pss_nil)
      (pss_cons (ps_set (i := 2) sc__law_draw.nd rfl (by first | exact Or.inl rfl | exact Or.inr rfl) (pe_ix (r := rIx K) ix_seq (pv 0) pe_int (fun _ _ => rfl)))
      (pss_cons (ps_set (i := 3) sc__law_draw.nd rfl (by first | exact Or.inl rfl | exact Or.inr rfl) (pe_ix (r := rIx K) ix_seq (pv 0) pe_int (fun _ _ => rfl)))
      (pss_cons (ps_set (i := 4) sc__law_draw.nd rfl (by first | exact Or.inl rfl | exact Or.inr rfl) (pe_ix (r := rIx K) ix_seq (pv 3) (pv 2) (fun _ _ => rfl)))
      (pss_cons (ps_if (PW.pt (pw_and (pt_cmpR (r := rNeX K) (op_neX hr.units) (pe_ix (r := rIx K) ix_seq (pv 0) pe_int (fun _ _ => rfl)) pe_int (nomark _)) (pw_and1 (pt_cmpR op_ltX (pv 4) (pe_op op_pow pe_int pe_int) (nomark _))))) (pss_cons (ps_asg (pe_op (r := rAddX K) op_addX (pe_ix (r := rIx K) ix_seq (pv 0) pe_int (fun _ _ => rfl)) pe_int) (pg_sub (pv 0) pe_int set_list))
      (pss_cons (ps_if (pt_cmpR (r := rEqX K) (op_eqX hr.units) (pe_ix (r := rIx K) ix_seq (pv 0) pe_int (fun _ _ => rfl)) pe_int (nomark _)) (pss_cons (ps_asg (pe_op (r := rAddX K) op_addX (pv 2) pe_int) (pg_sub (pv 0) pe_int set_list))
      (pss_one (ps_asg pe_int (pg_sub (pv 0) pe_int set_list)))) pss_nil)
      (pss_one (ps_ret (pe_c c__law_mixed hr (by decide) (by rfl) pass0 (pa_cons (pe_op op_mod (pe_callTy call_intX (by rfl) T.n_int (by decide +kernel) (pa_cons (pv 4) pa_nil)) pe_int) (pa_cons (pe_ix (r := rIx K) ix_seq (pv 0) pe_int (fun _ _ => rfl)) (pa_cons (pv 1) pa_nil)))))))) pss_nil)
      (pss_cons (ps_asg pe_int (pg_sub (pv 0) pe_int set_list))
      (pss_cons (ps_asg (pe_op op_fdX (pe_callTy call_intX (by rfl) T.n_int (by decide +kernel) (pa_cons (pv 4) pa_nil)) (pv 1)) (pg_sub (pv 3) (pv 2) set_list))
      (pss_cons (ps_if (pt_cmpR (r := rEqX K) (op_eqX hr.units) (pe_ix (r := rIx K) ix_seq (pv 3) (pv 2) (fun _ _ => rfl)) pe_int (nomark _)) (pss_cons (ps_asg (pe_op (r := rAddX K) op_addX (pv 2) pe_int) (pg_sub (pv 0) pe_int set_list))
      (pss_one (ps_asg pe_int (pg_sub (pv 0) pe_int set_list)))) pss_nil)
      (pss_one (ps_ret (pe_op op_mod (pe_callTy call_intX (by rfl) T.n_int (by decide +kernel) (pa_cons (pv 4) pa_nil)) (pv 1))))))))))))), ?_⟩
    walk_at "go"
    have kp : ∀ {H' : Hp}, (∀ b : Addr, b ≠ p → b ≠ n → H' b = H b) → Keep p n H H' := fun {H'} h b o e x y => (h b x y).trans e
    refine ift (fun hc => ?_) (fun hc => ?_)
    · walk_at "go"
      refine ⟨z, c + 1, m, rfl, h4, h5, by omega, by omega, h8, fun r r0 r1 => q r _ r0 r1 ⟨ns, a, c + 1, z, st, by walk_at "lk", by walk_at "lk", h1, by omega, by omega, h4, h5⟩ (kp fun b x y => ?_)⟩
      simp only [upd_ne x]
    · have ha : a.toNat < ns.length := by
        have e := of_decide_eq_false hc
        rw [List.length_map] at e
        omega
      have hx : atI (ns.map V.int) a = some (V.int ns[a.toNat]) := at_of (j := a.toNat) (by omega) (by rw [List.getElem?_map, List.getElem?_eq_getElem ha]; rfl)
      generalize ns[a.toNat] = y at hx
      have hj : ixN (ns.map V.int).length a = some a.toNat := by
        unfold ixN
        rw [List.length_map, if_pos h1, if_pos (by omega)]
      have hx2 : atI ((ns.map V.int).set a.toNat (V.int (y / m))) a = some (V.int (y / m)) := at_of (j := a.toNat) (by omega) (List.getElem?_set_self (by rw [List.length_map]; exact ha))
      have es : (ns.map V.int).set a.toNat (V.int (y / m)) = (ns.set a.toNat (y / m)).map V.int := List.map_set.symm
      have y0 : 0 ≤ y % 2147483647 := Int.emod_nonneg _ (by decide)
      have y1 : y % 2147483647 < 2147483647 := Int.emod_lt_of_pos _ (by decide)
      have m0 : 0 ≤ y % m := Int.emod_nonneg _ (by omega)
      have m1 : y % m < m := Int.emod_lt_of_pos _ h8
      have hw : CDivW y m := ⟨h8, h9⟩
      walk_at "go"
      refine ift (fun hd => ?_) (fun hd => ?_)
      · walk_at "go"
        refine ift (fun he => ?_) (fun he => ?_)
        · walk_at "go"
          refine ift (fun hf => ?_) (fun hf => ?_)
          · walk_at "go"
            refine ⟨_, c + 1, m, rfl, y0, y1, by omega, by omega, h8, fun r r0 r1 => q r _ r0 r1 ⟨ns, a + 1, c + 1, z, 0, by walk_at "lk", by walk_at "lk", by omega, by omega, by omega, h4, h5⟩ (kp fun b x y => ?_)⟩
            simp only [upd_ne x]
          · walk_at "go"
            refine ⟨_, c + 1, m, rfl, y0, y1, by omega, by omega, h8, fun r r0 r1 => q r _ r0 r1 ⟨ns, a, c + 1, z, st + 1, by walk_at "lk", by walk_at "lk", by omega, by omega, by omega, h4, h5⟩ (kp fun b x y => ?_)⟩
            simp only [upd_ne x]
        · walk_at "go"
          refine ift (fun hf => ?_) (fun hf => ?_)
          · walk_at "go"
            refine q _ _ m0 m1 ⟨ns.set a.toNat (y / m), a + 1, c + 1, z, 0, by walk_at "lk", by rw [← es]; walk_at "lk", by omega, by omega, by omega, h4, h5⟩ (kp fun b x y => ?_)
            simp only [upd_ne x, upd_ne y]
          · walk_at "go"
            refine q _ _ m0 m1 ⟨ns.set a.toNat (y / m), a, c + 1, z, 2, by walk_at "lk", by rw [← es]; walk_at "lk", by omega, by omega, by omega, h4, h5⟩ (kp fun b x y => ?_)
            simp only [upd_ne x, upd_ne y]
      · walk_at "go"
        refine ift (fun hf => ?_) (fun hf => ?_)
        · walk_at "go"
          refine q _ _ m0 m1 ⟨ns.set a.toNat (y / m), a + 1, c + 1, z, 0, by walk_at "lk", by rw [← es]; walk_at "lk", by omega, by omega, by omega, h4, h5⟩ (kp fun b x y => ?_)
          simp only [upd_ne x, upd_ne y]
        · walk_at "go"
          refine q _ _ m0 m1 ⟨ns.set a.toNat (y / m), a, c + 1, z, 2, by walk_at "lk", by rw [← es]; walk_at "lk", by omega, by omega, by omega, h4, h5⟩ (kp fun b x y => ?_)
          simp only [upd_ne x, upd_ne y]
def spPool (K : PySem.W.Frag) : Sp := fun vs H Q _ => ∃ (a : Addr) (ns : List Int), vs = [.ref a] ∧ SqL K H a (ns.map V.int) ∧ ns.length ≤ 63 ∧ ∀ (p n : Addr) (H' : Hp), PoolAt H' p n 0 → Same H H' → H p = none → H n = none → Q (.ref p) H'
theorem c__law_pool (T : Tx K mg) : Cal P w K mg base CX0 1 "_law_pool" (spPool K) := by
  refine cal0 T.d_pool sc__law_pool (fun _ _ _ _ _ _ us hl => match us, hl with | [_], _ => rfl) (fun vs H Q E h => ?_) (fun f cdv A outer s H vs Q E hr h => ?_)
  · obtain ⟨a, ns, rfl, _⟩ := h
    rfl
  · obtain ⟨a, ns, rfl, hS, hl, q⟩ := h
    refine ⟨_, (pss_cons (ps_setLc (i := 1) (own := [("cell", 3)]) (g := gName 3) (tt := tYes) rfl sc__law_pool.nd rfl rfl (sw_true rfl rfl rfl (by decide +kernel)) (pi_listK (K := K) rfl (pe_slice (r := rSlXX K) sl_X (pv 0) po_none (po_some pe_int))) (blkOk_by (N := N__law_pool) (sc := defScope s__law_pool) (by decide +kernel)) (fun _ _ _ _ _ => (pg_name (i := 3) sc__law_pool.nd rfl (by first | exact Or.inl rfl | exact Or.inr rfl))) (fun _ _ _ _ _ => pts_nil) (fun _ _ _ _ _ => (pe_callTy call_intX (by rfl) T.n_int (by decide +kernel) (pa_cons (pv 3) pa_nil))))
      (pss_cons (ps_set (i := 2) sc__law_pool.nd rfl (by first | exact Or.inl rfl | exact Or.inr rfl) pe_int)
      (pss_cons (ps_for PassesOwn.never rfl (pi_listK (K := K) rfl (pv 1)) (pg_name (i := 3) sc__law_pool.nd rfl (by first | exact Or.inl rfl | exact Or.inr rfl)) (pss_one (ps_set (i := 2) sc__law_pool.nd rfl (by first | exact Or.inl rfl | exact Or.inr rfl) (pe_op op_mod (pe_callTy call_intX (by rfl) T.n_int (by decide +kernel) (pa_cons (pe_op (r := rAddX K) op_addX (pe_op op_muX (pv 2) pe_int) (pv 3)) pa_nil)) pe_int))))
      (pss_one (ps_ret (pe_lst (pa_cons (pv 1) (pa_cons pe_int (pa_cons pe_int (pa_cons (pv 2) (pa_cons pe_int pa_nil))))))))))), ?_⟩
    walk_at "go"
    rename_i l H1 n1 s1 h1
    have e1 : cutV (ns.map V.int) none (some 63) = ns.map V.int := by
      rw [show (63 : Int) = ((63 : Nat) : Int) from rfl, cutV_to, List.take_of_length_le (by rw [List.length_map]; exact hl)]
    rw [e1] at h1
    refine lcw_fm (xs := ns.map V.int) (j := 3) wx_list (fun _ => true) (fun x => x) (fun H' s => SqL.of (s _ _ h1)) (by rw [List.length_map]; omega) (fun _ => rfl) (fun x _ H' R _ k => k H' (Same.refl H')) (fun x hx _ H' R _ k => ?_) (fun d H2 n2 s2 h2 => ?_)
    · obtain ⟨z, _, rfl⟩ := List.mem_map.mp hx
      walk_at "go"
      exact k H' (Same.refl H')
    · rw [show (((ns.map V.int).filter fun _ => true).map fun x => x) = ns.map V.int by simp] at h2
      walk_at "go"
      refine fow (xs := ns.map V.int) wx_list (fun i σ' H' => ∃ (z : Int) (v : Option V), σ' = [some (.ref a), some (.ref d), some (.int z), v] ∧ 0 ≤ z ∧ z < 2147483647 ∧ H' = H2) ⟨11, none, rfl, by decide, by decide, rfl⟩ (fun i σ' H' ⟨_, _, _, _, _, e⟩ => e ▸ SqL.of h2) (fun i x σ' H' hx ⟨z, v, es, z0, z1, eh⟩ => ?_) (fun σ' H' ⟨z, v, es, z0, z1, eh⟩ => ?_)
      · obtain ⟨y, _, rfl⟩ := List.mem_map.mp (List.mem_of_getElem? hx)
        subst es eh
        walk_at "go"
        exact ⟨_, _, rfl, Int.emod_nonneg _ (by decide), Int.emod_lt_of_pos _ (by decide), rfl⟩
      · subst es eh
        walk_at "go"
        rename_i p H3 n3 s3 h3
        exact q p d H3 ⟨ns, 0, 0, z, 0, h3, s3 _ _ h2, by decide, by decide, by decide, z0, z1⟩ (by walk_at "sm") (Same.free (by walk_at "sm") n3) (Same.free (by walk_at "sm") n2)
end
end Pk

namespace Pk
open PySem PySem.Spec PyProof.Rows L2
local macro_rules | `(tactic| walk_at "sz") => `(tactic| first | assumption | decide +kernel | exact Nat.le_trans (Nat.le_of_ble_eq_true rfl) (show 100000 ≤ sizeLine by decide) | exact Nat.le_trans (by omega) (show 100000 ≤ sizeLine by decide) | (show _ ≤ sizeLine; exact Nat.le_trans (by (simp only [List.length_append, List.length_map, List.length_cons, List.length_nil]; omega)) (show 100000 ≤ sizeLine by decide)))
local macro_rules | `(tactic| walk_at "mul") => `(tactic| first | exact Or.inl (Or.inl ⟨by omega, by omega⟩) | exact Or.inl (Or.inr ⟨by omega, by omega⟩))
local macro_rules | `(tactic| walk_at "ci") => `(tactic| first | assumption | exact (by decide : (0 : Int) < _) | (show (0 : Int) < _; omega) | exact ⟨by assumption, by assumption⟩ | exact ⟨by decide, by decide⟩ | exact ⟨by decide, by decide, by omega⟩)
local macro_rules | `(tactic| walk_at "lk") => `(tactic| first | assumption | exact upd_same | ((refine Eq.trans (upd_ne (by first | assumption | exact Ne.symm (by assumption))) ?_); walk_at "lk") | exact Same.get (by assumption) (by walk_at "lk") | exact Keep.get (by assumption) (by walk_at "lk") (by assumption) (by assumption))
local macro_rules | `(tactic| walk_at "sq") => `(tactic| first | assumption | exact SqL.of (by walk_at "lk") | exact Same.seq (by assumption) (by walk_at "sq"))
local macro_rules | `(tactic| walk_at "stt") => `(tactic| exact SqT.of (by walk_at "lk"))
local macro_rules | `(tactic| walk_at "kd") => `(tactic| first | assumption | exact Kd.str _ (by first | assumption | omega | decide) | exact Kd.bl _ | exact Kd.int _ | exact Kd.non | exact Kd.lst (by walk_at "lk") | exact Kd.tup (by walk_at "lk") | exact Kd.dct (by walk_at "lk") | exact Kd.same (by assumption) (by walk_at "kd"))
local macro_rules | `(tactic| walk_at "sm") => `(tactic| first | assumption | exact Same.refl _ | (refine Same.trans ?_ (by assumption); walk_at "sm"))
local macro_rules | `(tactic| walk_at "st") => `(tactic| first
  | with_reducible refine i_seq ?_ | with_reducible refine i_asg ?_ | with_reducible refine i_ret ?_ | with_reducible refine i_op ?_
  | ((with_reducible show tVar _ _ _ _); refine i_var rfl ?_)
  | with_reducible refine i_c ?_ | with_reducible refine i_cb ?_ | with_reducible refine i_call ?_ | with_reducible refine i_cons ?_ | with_reducible refine i_nil ?_
  | with_reducible refine i_name ?_ | with_reducible refine i_sub ?_ | with_reducible refine i_drop ?_ | with_reducible refine i_ifs ?_ | with_reducible refine i_ife ?_
  | with_reducible refine i_test ?_ | with_reducible refine i_tru ?_ | with_reducible refine i_and ?_ | with_reducible refine i_or ?_ | with_reducible refine i_not ?_
  | with_reducible refine i_andV ?_ | with_reducible refine i_orV ?_ | with_reducible refine i_notV ?_ | with_reducible refine i_un ?_
  | with_reducible refine i_bl ?_ | with_reducible refine i_trB ?_ | with_reducible refine i_next ?_
  | with_reducible refine iteF ?_ | with_reducible refine iteT ?_
  | with_reducible refine i_lstF ?_ | with_reducible refine i_tupF ?_
  | with_reducible refine p_addI ?_ | with_reducible refine p_I0 ?_ | with_reducible refine p_U ?_
  | with_reducible refine p_ltI ?_ | with_reducible refine p_leI ?_ | with_reducible refine p_gtI ?_ | with_reducible refine p_geI ?_
  | with_reducible refine p_ltS ?_ | with_reducible refine p_leS ?_ | with_reducible refine p_gtS ?_
  | with_reducible refine p_eqI ?_ | with_reducible refine p_neI ?_ | with_reducible refine p_int ?_
  | ((with_reducible show rMuXX (V.int _) (V.int _) _ _); refine p_muI (by walk_at "mul") ?_)
  | ((with_reducible show rI _ _ (V.int _) (V.int _) _ _); refine p_I (by walk_at "ci") ?_)
  | ((with_reducible show rIx _ (V.ref _) (V.int _) _ _); (first | refine p_ixL (by walk_at "sq") (by first | exact rfl | assumption) ?_ | refine p_ixT (SqT.of (by walk_at "lk")) (by first | exact rfl | assumption) ?_))
  | ((with_reducible show rSetL (V.ref _) (V.int _) _ _ _); refine p_setL (by walk_at "lk") (by first | exact rfl | assumption) ?_)
  | ((with_reducible show rLenX _ [V.ref _] _ _); (first | refine p_lenL (by walk_at "sq") ?_ | refine p_lenT (SqT.of (by walk_at "lk")) ?_))
  | ((with_reducible show rLenX _ [V.str _] _ _); refine p_lenS (by walk_at "sz") ?_)
  | with_reducible refine i_lc ?_ | with_reducible refine i_for ?_ | with_reducible refine i_itl ?_ | with_reducible refine i_itt ?_ | with_reducible refine i_itr ?_ | with_reducible refine i_its ?_
  | ((with_reducible show ∃ _, V.ref _ = V.ref _ ∧ (∃ _, SqL _ _ _ _) ∧ _); refine p_itl (by walk_at "sq") ?_)
  | ((with_reducible show ∃ _, V.ref _ = V.ref _ ∧ (∃ _, SqT _ _ _ _) ∧ _); refine p_itt (by walk_at "stt") ?_) | with_reducible refine p_its ?_
  | ((with_reducible show ∃ _, [V.int _] = [V.int _] ∧ _); refine p_itr (by omega) (by omega) ?_)
  | with_reducible refine i_sl ?_ | with_reducible refine i_np ?_ | with_reducible refine i_pt ?_ | with_reducible refine i_in ?_
  | ((with_reducible show rSlXX _ (V.ref _) _ _ _ _); refine p_slL (by walk_at "sq") ?_; intro _ _ _ _ _)
  | ((with_reducible show rSlXX _ (V.str _) _ _ _ _); refine p_slS (by walk_at "sz") ?_)
  | ((with_reducible show rIsi _ [_, V.ty "str"] _ _); refine p_isStr (by walk_at "kd") ?_)
  | ((with_reducible show rIsi _ [_, V.ty "int"] _ _); refine p_isInt (by walk_at "kd") ?_)
  | ((with_reducible show rIsi _ [_, V.ty "bool"] _ _); refine p_isBool (by walk_at "kd") ?_)
  | ((with_reducible show rIsiT _ [_, V.ref _] _ _); refine p_isLT (by walk_at "lk") (by walk_at "kd") ?_)
  | with_reducible refine i_chain ?_ | with_reducible refine i_m1 ?_ | with_reducible refine i_m0 ?_ | with_reducible refine i_str ?_
  | ((with_reducible show LstK _ _ _); refine p_lstK (by walk_at "sz") ?_; intro _ _ _ _ _)
  | ((with_reducible show TupK _ _ _); refine p_tupK (by walk_at "sz") ?_; intro _ _ _ _ _)
  | ((with_reducible show (if _ = true then _ else _)); (first | refine ifT' (by first | assumption | exact rfl) ?_ | refine ifF' (by first | assumption | exact rfl) ?_))
  | ((with_reducible show rEqX _ (V.bl _) (V.bl _) _ _); refine p_eqS rfl ?_) | ((with_reducible show rNeX _ (V.bl _) (V.bl _) _ _); refine p_neS rfl ?_)
  | ((with_reducible show rEqX _ (V.ref _) (V.ref _) _ _); refine p_eqNil (by walk_at "lk") (by walk_at "lk") ?_) | ((with_reducible show rNeX _ (V.ref _) (V.ref _) _ _); refine p_neNil (by walk_at "lk") (by walk_at "lk") ?_)
  | ((with_reducible show rAddX _ (V.str _) (V.str _) _ _); refine p_addS (by walk_at "sz") ?_)
  | ((with_reducible show rMuXX (V.str _) (V.int _) _ _); refine p_muS ⟨by decide +kernel, by decide +kernel, by decide +kernel⟩ ?_)
  | ((with_reducible show tDNewK _ _ _); refine i_dnew ?_; intro _ _ _ _ _)
  | ((with_reducible show rTupX _ [V.ref _] _ _); refine p_tupL (by walk_at "sq") ?_; intro _ _ _ _ _)
  | ((with_reducible show rAddX _ (V.ref _) (V.ref _) _ _); refine p_addL (by walk_at "lk") (by walk_at "lk") (by walk_at "sz") ?_; intro _ _ _ _ _)
  | with_reducible refine p_notB ?_ | with_reducible refine p_isB ?_)
local macro_rules | `(tactic| walk_at "go") => `(tactic| (walk_at "st"; (repeat walk_at "st")))

section
variable {P : Program} {w : World} {K : PySem.W.Frag} {mg : Str → Option Value} {base : Heap}
def badV : V → Bool
  | .str z => decide (z.cps.getD 0 0 < 32) || decide (126 < z.cps.getD 0 0)
  | _ => false
theorem at_of' {α : Type} {xs : List α} {z : Int} {j : Nat} {v : α} (e : z = (j : Int)) (h : xs[j]? = some v) : atI xs z = some v := by
  rw [e]
  exact atI_nat h
def signV : V → V
  | .str z => .bl (decide (32 ≤ z.cps.getD 0 0) && decide (z.cps.getD 0 0 ≤ 126))
  | _ => .non
def spListing : Sp := fun vs H Q _ => ∃ (x : V) (a : Kn), vs = [x] ∧ Kd H x a ∧ ∀ H', Same H H' → Q (.bl (a.is .lst || a.is .tup)) H'
theorem c_is_listing (T : Tx K mg) : Cal P w K mg base CX0 1 "is_listing" spListing := by
  refine cal0 T.d_listing sc_is_listing (fun _ _ _ _ _ _ us hl => match us, hl with | [_], _ => rfl) (fun vs H Q E h => ?_) (fun f cdv A outer s H vs Q E hr h => ?_)
  · obtain ⟨x, a, rfl, _⟩ := h
    rfl
  · obtain ⟨x, a, rfl, hx, q⟩ := h
    refine ⟨_, (pss_one (ps_ret (pe_callB (r := rIsiT K) call_isiT (by rfl) T.n_isinstance (by decide +kernel) (pa_cons (pv 0) (pa_cons (pe_tup (pa_cons (pe_bltn (v := .ty "list") (by rfl) T.n_list (by decide +kernel) rfl) (pa_cons (pe_bltn (v := .ty "tuple") (by rfl) T.n_tuple (by decide +kernel) rfl) pa_nil))) pa_nil))))), ?_⟩
    walk_at "go"
    exact q _ (by walk_at "sm")
def spPlain : Sp := fun vs H Q _ => ∃ (z : Str), vs = [.str z] ∧ z.length ≤ 10000 ∧ ∀ H', Same H H' → Q (.bl (plainB z)) H'
theorem c_is_plain (T : Tx K mg) : Cal P w K mg base CX0 1 "is_plain" spPlain := by
  refine cal0 T.d_plain sc_is_plain (fun _ _ _ _ _ _ us hl => match us, hl with | [_], _ => rfl) (fun vs H Q E h => ?_) (fun f cdv A outer s H vs Q E hr h => ?_)
  · obtain ⟨z, rfl, _⟩ := h
    rfl
  · obtain ⟨z, rfl, hz, q⟩ := h
    refine ⟨_, (pss_one (ps_ret (pe_callB (r := rAll K) (cr_all rfl) (by rfl) T.n_all (by decide +kernel) (pa_cons (pe_lc (own := [("mark", 1)]) (g := gName 1) (tt := tYes) rfl sc_is_plain.nd (pi_str (pv 0)) (blkOk_by (N := N_is_plain) (sc := defScope s_is_plain) (by decide +kernel)) (fun _ _ _ _ _ => (pg_name (i := 1) sc_is_plain.nd rfl (by first | exact Or.inl rfl | exact Or.inr rfl))) (fun _ _ _ _ _ => pts_nil) (fun _ _ _ _ _ => (pe_chain op_leX op_leX pe_str (pv 1) pe_str))) pa_nil)))), ?_⟩
    walk_at "go"
    refine lcw_fm (xs := chars z) (j := 1) wx_str (fun _ => true) signV (fun H' s => trivial) (by rw [chars_len]; omega) (fun _ => rfl) (fun x _ H' R _ k => k H' (Same.refl H')) (fun x hx _ H' R _ k => ?_) (fun d H2 n2 s2 h2 => ?_)
    · obtain ⟨c, _, rfl⟩ := List.mem_map.mp hx
      have e1 : decide ((⟨#[c]⟩ : Str).cps.toList < (Str.ofString " ").cps.toList) = decide (c < 32) := sign_lt c 32
      have e2 : decide ((Str.ofString "~").cps.toList < (⟨#[c]⟩ : Str).cps.toList) = decide (126 < c) := sign_lt 126 c
      walk_at "go"
      refine ift (fun hc => ?_) (fun hc => ?_)
      · walk_at "go"
        rw [e1] at hc
        have h1 : 32 ≤ c := by simpa using hc
        rw [e2, show (!decide (126 < c)) = (decide (32 ≤ c) && decide (c ≤ 126)) by rw [Bool.eq_iff_iff]; simp [h1]]
        exact k H' (Same.refl H')
      · rw [e1] at hc
        have h1 : ¬ 32 ≤ c := by simpa using hc
        rw [show false = (decide (32 ≤ c) && decide (c ≤ 126)) by simp [h1]]
        exact k H' (Same.refl H')
    · walk_at "go"
      have e : ((chars z).filter fun _ => true).map signV = (z.cps.toList.map fun c => decide (32 ≤ c) && decide (c ≤ 126)).map V.bl := by
        rw [List.filter_eq_self.mpr (fun _ _ => rfl), chars, List.map_map, List.map_map]
        rfl
      rw [e] at h2
      refine p_all (SqL.of h2) ?_
      rw [show ((z.cps.toList.map fun c => decide (32 ≤ c) && decide (c ≤ 126)).all id) = plainB z by rw [List.all_map]; rfl]
      exact q _ s2
def spLine : Sp := fun vs H Q _ => ∃ (x : V) (a : Kn), vs = [x] ∧ Kd H x a ∧ ∀ H', Same H H' → Q (.bl (lineB x)) H'
theorem c_is_line (T : Tx K mg) : Cal P w K mg base CX0 2 "is_line" spLine := by
  have c_is_plain : Cal P w K mg base CX0 1 "is_plain" spPlain := c_is_plain T
  refine cal0 T.d_line sc_is_line (fun _ _ _ _ _ _ us hl => match us, hl with | [_], _ => rfl) (fun vs H Q E h => ?_) (fun f cdv A outer s H vs Q E hr h => ?_)
  · obtain ⟨x, a, rfl, _⟩ := h
    rfl
  · obtain ⟨x, a, rfl, hx, q⟩ := h
    refine ⟨_, (pss_one (ps_ret (pe_and (pe_callB (r := rIsi K) call_isi (by rfl) T.n_isinstance (by decide +kernel) (pa_cons (pv 0) (pa_cons (pe_bltn (v := .ty "str") (by rfl) T.n_str (by decide +kernel) rfl) pa_nil))) (pe_and (pe_cmpR op_leX (pe_callB (r := rLenX K) call_lenX (by rfl) T.n_len (by decide +kernel) (pa_cons (pv 0) pa_nil)) (pe_gc (by rfl) T.g_MOST_CHARACTERS) (nomark _)) (pe_one (pe_c c_is_plain hr (by decide) (by rfl) pass0 (pa_cons (pv 0) pa_nil))))))), ?_⟩
    cases hx with
    | str z hz =>
      walk_at "go"
      refine ift (fun hc => ?_) (fun hc => ?_)
      · walk_at "go"
        refine ⟨z, rfl, hz, fun H' s' => ?_⟩
        have hc' : z.length ≤ 40 := by have := of_decide_eq_true hc; omega
        have e : plainB z = lineB (.str z) := by simp [lineB, hc']
        rw [e]
        exact q _ s'
      · have hc' : ¬ z.length ≤ 40 := by have := of_decide_eq_false hc; omega
        have e : false = lineB (.str z) := by simp [lineB, hc']
        rw [e]
        exact q _ (Same.refl H)
    | non => walk_at "go"; exact q _ (Same.refl H)
    | bl b => walk_at "go"; exact q _ (Same.refl H)
    | int b => walk_at "go"; exact q _ (Same.refl H)
    | lst e => walk_at "go"; exact q _ (Same.refl H)
    | tup e => walk_at "go"; exact q _ (Same.refl H)
    | dct e => walk_at "go"; exact q _ (Same.refl H)
/-- what is_text is asked of, its answer -/
inductive TextV (H : Hp) : V → Bool → Prop where
  | flat {x : V} {k : Kn} (h : Kd H x k) (h1 : k.is .lst = false) (h2 : k.is .tup = false) : TextV H x false
  | lst {p : Addr} {xs : List V} (e : H p = some (.lst xs)) (hl : xs.length ≤ 1000) (h : ∀ y ∈ xs, ∃ k, Kd H y k) : TextV H (.ref p) (decide (xs.length ≤ 12) && xs.all lineB)
  | tup {p : Addr} {xs : List V} (e : H p = some (.tup xs)) (hl : xs.length ≤ 1000) (h : ∀ y ∈ xs, ∃ k, Kd H y k) : TextV H (.ref p) (decide (xs.length ≤ 12) && xs.all lineB)
def spText : Sp := fun vs H Q _ => ∃ (x : V) (b : Bool), vs = [x] ∧ TextV H x b ∧ ∀ H', Same H H' → Q (.bl b) H'
theorem c_is_text (T : Tx K mg) : Cal P w K mg base CX0 3 "is_text" spText := by
  have c_is_line : Cal P w K mg base CX0 2 "is_line" spLine := c_is_line T
  have c_is_listing : Cal P w K mg base CX0 1 "is_listing" spListing := c_is_listing T
  refine cal0 T.d_text sc_is_text (fun _ _ _ _ _ _ us hl => match us, hl with | [_], _ => rfl) (fun vs H Q E h => ?_) (fun f cdv A outer s H vs Q E hr h => ?_)
  · obtain ⟨x, a, rfl, _⟩ := h
    rfl
  · obtain ⟨x, b, rfl, hx, q⟩ := h
    refine ⟨_, (pss_cons (ps_if (PW.pt (pw_or (pt_not (pt_truK (K := K) rfl (pe_c c_is_listing hr (by decide) (by rfl) pass0 (pa_cons (pv 0) pa_nil)) (by intro _; rfl))) (pw_or1 (pt_cmpR op_gtX (pe_callB (r := rLenX K) call_lenX (by rfl) T.n_len (by decide +kernel) (pa_cons (pv 0) pa_nil)) (pe_gc (by rfl) T.g_MOST_LINES) (nomark _))))) (pss_one (ps_ret pe_bl)) pss_nil)
      (pss_one (ps_ret (pe_callB (r := rAll K) (cr_all rfl) (by rfl) T.n_all (by decide +kernel) (pa_cons (pe_lc (own := [("line", 1)]) (g := gName 1) (tt := tYes) rfl sc_is_text.nd (pi_or (pi_listK (K := K) rfl (pv 0)) (pi_tupK (K := K) rfl (pv 0))) (blkOk_by (N := N_is_text) (sc := defScope s_is_text) (by decide +kernel)) (fun _ _ _ _ _ => (pg_name (i := 1) sc_is_text.nd rfl (by first | exact Or.inl rfl | exact Or.inr rfl))) (fun _ _ _ _ _ => pts_nil) (fun _ _ _ _ _ => (pe_c c_is_line hr (by decide) (by rfl) pass0 (pa_cons (pv 1) pa_nil)))) pa_nil))))), ?_⟩
    cases hx with
    | flat h h1 h2 =>
      walk_at "go"
      refine ⟨_, _, rfl, h, fun H1 s1 => ?_⟩
      rw [h1, h2]
      walk_at "go"
      exact q _ s1
    | @lst p xs e hl h =>
      walk_at "go"
      refine ⟨_, _, rfl, .lst e, fun H1 s1 => ?_⟩
      walk_at "go"
      refine ift (fun hc => ?_) (fun hc => ?_)
      · have hc' := of_decide_eq_true hc
        have e1 : false = (decide (xs.length ≤ 12) && xs.all lineB) := by simp [show ¬ xs.length ≤ 12 by omega]
        walk_at "go"
        rw [e1]
        exact q _ s1
      · have hc' := of_decide_eq_false hc
        walk_at "go"
        refine Or.inl ?_
        walk_at "go"
        refine lcw_fm (xs := xs) (j := 1) wx_list (fun _ => true) (fun x => .bl (lineB x)) (fun H' s => SqL.of (s _ _ (s1 _ _ e))) (by omega) (fun _ => rfl) (fun x _ H' R _ k => k H' (Same.refl H')) (fun x hx _ H' R s' k => ?_) (fun d H2 n2 s2 h2 => ?_)
        · obtain ⟨kx, hk⟩ := h x hx
          walk_at "go"
          exact ⟨x, kx, rfl, (hk.same s1).same s', fun H'' s'' => k H'' s''⟩
        · walk_at "go"
          have e2 : (xs.filter fun _ => true).map (fun x => V.bl (lineB x)) = (xs.map lineB).map V.bl := by
            rw [List.filter_eq_self.mpr (fun _ _ => rfl), List.map_map]
            rfl
          rw [e2] at h2
          refine p_all (SqL.of h2) ?_
          have e1 : (xs.map lineB).all id = (decide (xs.length ≤ 12) && xs.all lineB) := by simp [show xs.length ≤ 12 by omega, List.all_map]
          rw [e1]
          exact q _ (s1.trans s2)
    | @tup p xs e hl h =>
      walk_at "go"
      refine ⟨_, _, rfl, .tup e, fun H1 s1 => ?_⟩
      walk_at "go"
      refine ift (fun hc => ?_) (fun hc => ?_)
      · have hc' := of_decide_eq_true hc
        have e1 : false = (decide (xs.length ≤ 12) && xs.all lineB) := by simp [show ¬ xs.length ≤ 12 by omega]
        walk_at "go"
        rw [e1]
        exact q _ s1
      · have hc' := of_decide_eq_false hc
        walk_at "go"
        refine Or.inr ?_
        walk_at "go"
        refine lcw_fm (xs := xs) (j := 1) wx_tup (fun _ => true) (fun x => .bl (lineB x)) (fun H' s => SqT.of (s _ _ (s1 _ _ e))) (by omega) (fun _ => rfl) (fun x _ H' R _ k => k H' (Same.refl H')) (fun x hx _ H' R s' k => ?_) (fun d H2 n2 s2 h2 => ?_)
        · obtain ⟨kx, hk⟩ := h x hx
          walk_at "go"
          exact ⟨x, kx, rfl, (hk.same s1).same s', fun H'' s'' => k H'' s''⟩
        · walk_at "go"
          have e2 : (xs.filter fun _ => true).map (fun x => V.bl (lineB x)) = (xs.map lineB).map V.bl := by
            rw [List.filter_eq_self.mpr (fun _ _ => rfl), List.map_map]
            rfl
          rw [e2] at h2
          refine p_all (SqL.of h2) ?_
          have e1 : (xs.map lineB).all id = (decide (xs.length ≤ 12) && xs.all lineB) := by simp [show xs.length ≤ 12 by omega, List.all_map]
          rw [e1]
          exact q _ (s1.trans s2)
def okS (z : Str) : Prop := PyData.strOk z = true
def spIsLine : Sp := fun vs H Q _ => ∃ (x : V) (a : Kn), vs = [x] ∧ Kd H x a ∧ ∀ H', Same H H' → Q (.bl (lineB x)) H'
theorem c__law_is_line (T : Tx K mg) : Cal P w K mg base CX0 1 "_law_is_line" spIsLine := by
  refine cal0 T.d_isline sc__law_is_line (fun _ _ _ _ _ _ us hl => match us, hl with | [_], _ => rfl) (fun vs H Q E h => ?_) (fun f cdv A outer s H vs Q E hr h => ?_)
  · obtain ⟨x, a, rfl, _⟩ := h
    rfl
  · obtain ⟨x, a, rfl, hx, q⟩ := h
    refine ⟨_, (pss_cons (ps_if (PW.pt (pw_or (pt_not (pt_truK (K := K) rfl (pe_callB (r := rIsi K) call_isi (by rfl) T.n_isinstance (by decide +kernel) (pa_cons (pv 0) (pa_cons (pe_bltn (v := .ty "str") (by rfl) T.n_str (by decide +kernel) rfl) pa_nil))) (by intro _; rfl))) (pw_or1 (pt_cmpR op_gtX (pe_callB (r := rLenX K) call_lenX (by rfl) T.n_len (by decide +kernel) (pa_cons (pv 0) pa_nil)) pe_int (nomark _))))) (pss_one (ps_ret pe_bl)) pss_nil)
      (pss_one (ps_ret (pe_cmpR (r := rEqX K) (op_eqX hr.units) (pe_lc (own := [("sign", 1)]) (g := gName 1) rfl sc__law_is_line.nd (pi_str (pv 0)) (blkOk_by (N := N__law_is_line) (sc := defScope s__law_is_line) (by decide +kernel)) (fun _ _ _ _ _ => (pg_name (i := 1) sc__law_is_line.nd rfl (by first | exact Or.inl rfl | exact Or.inr rfl))) (fun _ _ _ _ _ => pts_one (PW.pt (pw_or (pt_cmpR op_ltX (pv 1) pe_str (nomark _)) (pw_or1 (pt_cmpR op_gtX (pv 1) pe_str (nomark _)))))) (fun _ _ _ _ _ => (pv 1))) (pe_lst pa_nil) (nomark _))))), ?_⟩
    cases hx with
    | str z hz =>
      walk_at "go"
      refine ift (fun hc => ?_) (fun hc => ?_)
      · have hc' := of_decide_eq_true hc
        have e1 : false = lineB (.str z) := by simp [lineB, show ¬ z.length ≤ 40 by omega]
        walk_at "go"
        rw [e1]
        exact q _ (Same.refl H)
      · have hc' := of_decide_eq_false hc
        walk_at "go"
        refine lcw_fm (xs := chars z) (j := 1) wx_str badV (fun x => x) (fun H' s => trivial) (by rw [chars_len]; omega) (fun _ => rfl) (fun x hx H' R _ k => ?_) (fun x hx _ H' R _ k => ?_) (fun d H2 n2 s2 h2 => ?_)
        · obtain ⟨c, _, rfl⟩ := List.mem_map.mp hx
          have e1 : decide ((⟨#[c]⟩ : Str).cps.toList < (Str.ofString " ").cps.toList) = decide (c < 32) := sign_lt c 32
          have e2 : decide ((Str.ofString "~").cps.toList < (⟨#[c]⟩ : Str).cps.toList) = decide (126 < c) := sign_lt 126 c
          walk_at "go"
          refine ift (fun hb => ?_) (fun hb => ?_)
          · rw [e1] at hb
            have e3 : badV (.str ⟨#[c]⟩) = true := by simp [badV]; left; exact of_decide_eq_true hb
            exact e3 ▸ k H' (Same.refl H')
          · rw [e1] at hb
            walk_at "go"
            rw [e2]
            have e3 : decide (126 < c) = badV (.str ⟨#[c]⟩) := by
              have := of_decide_eq_false hb
              simp [badV]
              omega
            rw [e3]
            exact k H' (Same.refl H')
        · walk_at "go"
          exact k H' (Same.refl H')
        · walk_at "go"
          have e1 : (((chars z).filter badV).map fun x => x).isEmpty = lineB (.str z) := by
            rw [List.map_id', lineB, decide_eq_true (by omega), Bool.true_and, plainB, chars, List.filter_map]
            rw [Bool.eq_iff_iff, List.isEmpty_iff, List.map_eq_nil_iff, List.filter_eq_nil_iff, List.all_eq_true]
            refine ⟨fun h c hc => ?_, fun h c hc => ?_⟩
            · have := h c hc
              simp [badV] at this ⊢
              omega
            · have := h c hc
              simp [badV] at this ⊢
              omega
          rw [e1]
          exact q _ (by walk_at "sm")
    | non => walk_at "go"; exact q _ (Same.refl H)
    | bl b => walk_at "go"; exact q _ (Same.refl H)
    | int b => walk_at "go"; exact q _ (Same.refl H)
    | lst e => walk_at "go"; exact q _ (Same.refl H)
    | tup e => walk_at "go"; exact q _ (Same.refl H)
    | dct e => walk_at "go"; exact q _ (Same.refl H)
def spTruth : Sp := fun vs H Q _ => ∃ (a b : Bool), vs = [.bl a, .bl b] ∧ Q (.bl (a == b)) H
theorem c__law_truth (T : Tx K mg) : Cal P w K mg base CX0 1 "_law_truth" spTruth := by
  refine cal0 T.d_truth sc__law_truth (fun _ _ _ _ _ _ us hl => match us, hl with | [_, _], _ => rfl) (fun vs H Q E h => ?_) (fun f cdv A outer s H vs Q E hr h => ?_)
  · obtain ⟨a, b, rfl, _⟩ := h
    rfl
  · obtain ⟨a, b, rfl, q⟩ := h
    refine ⟨_, (pss_one (ps_ret (pe_and (pe_callB (r := rIsi K) call_isi (by rfl) T.n_isinstance (by decide +kernel) (pa_cons (pv 0) (pa_cons (pe_bltn (v := .ty "bool") (by rfl) T.n_bool (by decide +kernel) rfl) pa_nil))) (pe_one (pe_cmpR (r := rEqX K) (op_eqX hr.units) (pv 0) (pv 1) (nomark _)))))), ?_⟩
    walk_at "go"
    have e : decide (V.bl a = V.bl b) = (a == b) := by cases a <;> cases b <;> decide
    rw [e]
    exact q
def sg : Str := Str.ofString " !\"#$&'()*+,-./0123456789:;<=>?@" ++ Str.ofString "ABCDEFGHIJKLMNOPQRSTUVWXYZ[\\]^_`abcdefghijklmnopqrstuvwxyz{|}~"
theorem sg_len : sg.cps.toList.length = 94 := by decide +kernel
theorem sg_ok : (sg.cps.toList.all fun c => decide (32 ≤ c) && decide (c ≤ 126)) = true := by decide +kernel
theorem sg_at {r : Int} (h0 : 0 ≤ r) (h1 : r < 94) : ∃ c, atI sg.cps.toList r = some c ∧ 32 ≤ c ∧ c ≤ 126 := by
  have hl : r.toNat < sg.cps.toList.length := by rw [sg_len]; omega
  refine ⟨sg.cps.toList[r.toNat], at_of' (j := r.toNat) (by omega) (List.getElem?_eq_getElem hl), ?_⟩
  have h := List.all_eq_true.mp sg_ok _ (List.getElem_mem hl)
  simpa using h
def spSigns : Sp := fun vs H Q _ => ∃ (p n : Addr) (m : Nat) (k : Int), vs = [.ref p, .int m] ∧ PoolAt H p n k ∧ 0 ≤ k ∧ k < 900000000 ∧ m ≤ 1000 ∧ ∀ (z : Str) (H' : Hp), z.length = m → plainB z = true → PoolAt H' p n (k + m) → Keep p n H H' → Q (.str z) H'
theorem c__law_signs (T : Tx K mg) : Cal P w K mg base CX0 3 "_law_signs" spSigns := by
  have c__law_draw : Cal P w K mg base CX0 2 "_law_draw" spDraw := c__law_draw T
  refine cal0 T.d_signs sc__law_signs (fun _ _ _ _ _ _ us hl => match us, hl with | [_, _], _ => rfl) (fun vs H Q E h => ?_) (fun f cdv A outer s H vs Q E hr h => ?_)
  · obtain ⟨p, n, m, k, rfl, _⟩ := h
    rfl
  · obtain ⟨p, n, m, k, rfl, hP, h0, h1, hm, q⟩ := h
    refine ⟨_, (pss_cons (ps_set (i := 2) sc__law_signs.nd rfl (by first | exact Or.inl rfl | exact Or.inr rfl) pe_str)
      (pss_cons (ps_set (i := 2) sc__law_signs.nd rfl (by first | exact Or.inl rfl | exact Or.inr rfl) (pe_op (r := rAddX K) op_addX (pv 2) pe_str))
      (pss_one (ps_ret (pe_join pe_str (pe_lc (own := [("k", 3)]) (g := gName 3) (tt := tYes) rfl sc__law_signs.nd (pi_range1 (by rfl) T.n_range (pa_cons (pv 1) pa_nil)) (blkOk_by (N := N__law_signs) (sc := defScope s__law_signs) (by decide +kernel)) (fun _ _ _ _ _ => (pg_name (i := 3) sc__law_signs.nd rfl (by first | exact Or.inl rfl | exact Or.inr rfl))) (fun _ _ _ _ _ => pts_nil) (fun _ _ _ _ _ => (pe_ix (r := rIx K) ix_seq (pv 2) (pe_c c__law_draw hr (by decide) (by rfl) pass0 (pa_cons (pv 0) (pa_cons pe_int pa_nil))) (fun _ _ => rfl))))))))), ?_⟩
    walk_at "go"
    refine lcw_pool (xs := intsV m) (j := 3) (d := 1) wx_range (fun i acc => ∃ cs : List Nat, acc = cs.map (fun c => V.str ⟨#[c]⟩) ∧ cs.length = i ∧ ∀ c ∈ cs, 32 ≤ c ∧ c ≤ 126) hP (fun _ _ => trivial) (by rw [intsV_len]; omega) (fun _ => rfl) ⟨[], rfl, rfl, by simp⟩ (fun i x acc hx ⟨cs, ea, el, ec⟩ H1 R k1 p1 kk => ?_) (fun d H1 acc nd k1 p1 ⟨cs, ea, el, ec⟩ _ hd => ?_)
    · have hi : i < m := by
        have := (List.getElem?_eq_some_iff.mp hx).1
        rw [intsV_len] at this
        exact this
      walk_at "go"
      refine ⟨p, n, 94, k + i * 1, rfl, p1, by omega, by omega, by decide, by decide, fun r H2 r0 r1 p2 k2 => ?_⟩
      obtain ⟨c, hc, c0, c1⟩ := sg_at r0 r1
      refine p_ixS (by decide +kernel) hc ?_
      refine kk _ H2 k2 (p2.mono (by omega)) ⟨cs ++ [c], by rw [ea, List.map_append]; rfl, by rw [List.length_append, List.length_singleton, el], fun y hy => ?_⟩
      rcases List.mem_append.mp hy with h | h
      · exact ec y h
      · rw [List.mem_singleton.mp h]
        exact ⟨c0, c1⟩
    · rw [intsV_len] at el p1
      have e1 : acc = (cs.map fun c => (⟨#[c]⟩ : Str)).map V.str := by rw [ea, List.map_map]; rfl
      rw [e1] at hd
      refine p_join (SqL.of hd) (by rw [sum_ones]; show cs.length + _ * 0 ≤ _; omega) ?_
      rw [show Txt.join (Str.ofString "") (cs.map fun c => (⟨#[c]⟩ : Str)) = ⟨cs.toArray⟩ from join_chars cs]
      refine q _ H1 (by simpa [Str.length] using el) ?_ (p1.mono (by omega)) k1
      unfold plainB
      simp only [List.all_eq_true]
      intro c hc
      have := ec c (by simpa using hc)
      simp
      exact this
end
end Pk

namespace Pk
open PySem PySem.Spec PyProof.Rows L2
local macro_rules | `(tactic| walk_at "sz") => `(tactic| first | assumption | decide +kernel | exact Nat.le_trans (Nat.le_of_ble_eq_true rfl) (show 100000 ≤ sizeLine by decide) | exact Nat.le_trans (by omega) (show 100000 ≤ sizeLine by decide) | (show _ ≤ sizeLine; exact Nat.le_trans (by (simp only [List.length_append, List.length_map, List.length_cons, List.length_nil]; omega)) (show 100000 ≤ sizeLine by decide)))
local macro_rules | `(tactic| walk_at "mul") => `(tactic| first | exact Or.inl (Or.inl ⟨by omega, by omega⟩) | exact Or.inl (Or.inr ⟨by omega, by omega⟩))
local macro_rules | `(tactic| walk_at "ci") => `(tactic| first | assumption | exact (by decide : (0 : Int) < _) | (show (0 : Int) < _; omega) | exact ⟨by assumption, by assumption⟩ | exact ⟨by decide, by decide⟩ | exact ⟨by decide, by decide, by omega⟩)
local macro_rules | `(tactic| walk_at "lk") => `(tactic| first | assumption | exact upd_same | ((refine Eq.trans (upd_ne (by first | assumption | exact Ne.symm (by assumption))) ?_); walk_at "lk") | exact Same.get (by assumption) (by walk_at "lk") | exact Keep.get (by assumption) (by walk_at "lk") (by assumption) (by assumption))
local macro_rules | `(tactic| walk_at "sq") => `(tactic| first | assumption | exact SqL.of (by walk_at "lk") | exact Same.seq (by assumption) (by walk_at "sq"))
local macro_rules | `(tactic| walk_at "stt") => `(tactic| exact SqT.of (by walk_at "lk"))
local macro_rules | `(tactic| walk_at "kd") => `(tactic| first | assumption | exact Kd.str _ (by first | assumption | omega | decide) | exact Kd.bl _ | exact Kd.int _ | exact Kd.non | exact Kd.lst (by walk_at "lk") | exact Kd.tup (by walk_at "lk") | exact Kd.dct (by walk_at "lk") | exact Kd.same (by assumption) (by walk_at "kd"))
local macro_rules | `(tactic| walk_at "sm") => `(tactic| first | assumption | exact Same.refl _ | (refine Same.trans ?_ (by assumption); walk_at "sm"))
local macro_rules | `(tactic| walk_at "st") => `(tactic| first
  | with_reducible refine i_seq ?_ | with_reducible refine i_asg ?_ | with_reducible refine i_ret ?_ | with_reducible refine i_op ?_
  | ((with_reducible show tVar _ _ _ _); refine i_var rfl ?_)
  | with_reducible refine i_c ?_ | with_reducible refine i_cb ?_ | with_reducible refine i_call ?_ | with_reducible refine i_cons ?_ | with_reducible refine i_nil ?_
  | with_reducible refine i_name ?_ | with_reducible refine i_sub ?_ | with_reducible refine i_drop ?_ | with_reducible refine i_ifs ?_ | with_reducible refine i_ife ?_
  | with_reducible refine i_test ?_ | with_reducible refine i_tru ?_ | with_reducible refine i_and ?_ | with_reducible refine i_or ?_ | with_reducible refine i_not ?_
  | with_reducible refine i_andV ?_ | with_reducible refine i_orV ?_ | with_reducible refine i_notV ?_ | with_reducible refine i_un ?_
  | with_reducible refine i_bl ?_ | with_reducible refine i_trB ?_ | with_reducible refine i_next ?_
  | with_reducible refine iteF ?_ | with_reducible refine iteT ?_
  | with_reducible refine i_lstF ?_ | with_reducible refine i_tupF ?_
  | with_reducible refine p_addI ?_ | with_reducible refine p_I0 ?_ | with_reducible refine p_U ?_
  | with_reducible refine p_ltI ?_ | with_reducible refine p_leI ?_ | with_reducible refine p_gtI ?_ | with_reducible refine p_geI ?_
  | with_reducible refine p_ltS ?_ | with_reducible refine p_leS ?_ | with_reducible refine p_gtS ?_
  | with_reducible refine p_eqI ?_ | with_reducible refine p_neI ?_ | with_reducible refine p_int ?_
  | ((with_reducible show rMuXX (V.int _) (V.int _) _ _); refine p_muI (by walk_at "mul") ?_)
  | ((with_reducible show rI _ _ (V.int _) (V.int _) _ _); refine p_I (by walk_at "ci") ?_)
  | ((with_reducible show rIx _ (V.ref _) (V.int _) _ _); (first | refine p_ixL (by walk_at "sq") (by first | exact rfl | assumption) ?_ | refine p_ixT (SqT.of (by walk_at "lk")) (by first | exact rfl | assumption) ?_))
  | ((with_reducible show rSetL (V.ref _) (V.int _) _ _ _); refine p_setL (by walk_at "lk") (by first | exact rfl | assumption) ?_)
  | ((with_reducible show rLenX _ [V.ref _] _ _); (first | refine p_lenL (by walk_at "sq") ?_ | refine p_lenT (SqT.of (by walk_at "lk")) ?_))
  | ((with_reducible show rLenX _ [V.str _] _ _); refine p_lenS (by walk_at "sz") ?_)
  | with_reducible refine i_lc ?_ | with_reducible refine i_for ?_ | with_reducible refine i_itl ?_ | with_reducible refine i_itt ?_ | with_reducible refine i_itr ?_ | with_reducible refine i_its ?_
  | ((with_reducible show ∃ _, V.ref _ = V.ref _ ∧ (∃ _, SqL _ _ _ _) ∧ _); refine p_itl (by walk_at "sq") ?_)
  | ((with_reducible show ∃ _, V.ref _ = V.ref _ ∧ (∃ _, SqT _ _ _ _) ∧ _); refine p_itt (by walk_at "stt") ?_) | with_reducible refine p_its ?_
  | ((with_reducible show ∃ _, [V.int _] = [V.int _] ∧ _); refine p_itr (by omega) (by omega) ?_)
  | with_reducible refine i_sl ?_ | with_reducible refine i_np ?_ | with_reducible refine i_pt ?_ | with_reducible refine i_in ?_
  | ((with_reducible show rSlXX _ (V.ref _) _ _ _ _); refine p_slL (by walk_at "sq") ?_; intro _ _ _ _ _)
  | ((with_reducible show rSlXX _ (V.str _) _ _ _ _); refine p_slS (by walk_at "sz") ?_)
  | ((with_reducible show rIsi _ [_, V.ty "str"] _ _); refine p_isStr (by walk_at "kd") ?_)
  | ((with_reducible show rIsi _ [_, V.ty "int"] _ _); refine p_isInt (by walk_at "kd") ?_)
  | ((with_reducible show rIsi _ [_, V.ty "bool"] _ _); refine p_isBool (by walk_at "kd") ?_)
  | ((with_reducible show rIsiT _ [_, V.ref _] _ _); refine p_isLT (by walk_at "lk") (by walk_at "kd") ?_)
  | with_reducible refine i_chain ?_ | with_reducible refine i_m1 ?_ | with_reducible refine i_m0 ?_ | with_reducible refine i_str ?_
  | ((with_reducible show LstK _ _ _); refine p_lstK (by walk_at "sz") ?_; intro _ _ _ _ _)
  | ((with_reducible show TupK _ _ _); refine p_tupK (by walk_at "sz") ?_; intro _ _ _ _ _)
  | ((with_reducible show (if _ = true then _ else _)); (first | refine ifT' (by first | assumption | exact rfl) ?_ | refine ifF' (by first | assumption | exact rfl) ?_))
  | ((with_reducible show rEqX _ (V.bl _) (V.bl _) _ _); refine p_eqS rfl ?_) | ((with_reducible show rNeX _ (V.bl _) (V.bl _) _ _); refine p_neS rfl ?_)
  | ((with_reducible show rEqX _ (V.ref _) (V.ref _) _ _); refine p_eqNil (by walk_at "lk") (by walk_at "lk") ?_) | ((with_reducible show rNeX _ (V.ref _) (V.ref _) _ _); refine p_neNil (by walk_at "lk") (by walk_at "lk") ?_)
  | ((with_reducible show rAddX _ (V.str _) (V.str _) _ _); refine p_addS (by walk_at "sz") ?_)
  | ((with_reducible show rMuXX (V.str _) (V.int _) _ _); refine p_muS ⟨by decide +kernel, by decide +kernel, by decide +kernel⟩ ?_)
  | ((with_reducible show tDNewK _ _ _); refine i_dnew ?_; intro _ _ _ _ _)
  | ((with_reducible show rTupX _ [V.ref _] _ _); refine p_tupL (by walk_at "sq") ?_; intro _ _ _ _ _)
  | ((with_reducible show rAddX _ (V.ref _) (V.ref _) _ _); refine p_addL (by walk_at "lk") (by walk_at "lk") (by walk_at "sz") ?_; intro _ _ _ _ _)
  | with_reducible refine p_notB ?_ | with_reducible refine p_isB ?_)
local macro_rules | `(tactic| walk_at "go") => `(tactic| (walk_at "st"; (repeat walk_at "st")))

section
variable {P : Program} {w : World} {K : PySem.W.Frag} {mg : Str → Option Value} {base : Heap}
-- ["script", "pool", "lines", "k", "odd", "thing", "good", "many", "line", "at", "some", "bent", "text", "due"]
def spLaw (K : PySem.W.Frag) : Sp := fun vs H Q _ => ∃ (a : Addr) (ns : List Int), vs = [.ref a] ∧ SqL K H a (ns.map V.int) ∧ ns.length ≤ 63 ∧ ∀ H', Q (.bl true) H'
theorem sizes_at {i : Nat} (h : i < 8) : ∃ m : Nat, m ≤ 42 ∧ atI [V.int 0, V.int 1, V.int 5, V.int 39, V.int 40, V.int 41, V.int 42, V.int 20] (i : Int) = some (V.int m) := by
  match i, h with
  | 0, _ => exact ⟨0, by decide, rfl⟩
  | 1, _ => exact ⟨1, by decide, rfl⟩
  | 2, _ => exact ⟨5, by decide, rfl⟩
  | 3, _ => exact ⟨39, by decide, rfl⟩
  | 4, _ => exact ⟨40, by decide, rfl⟩
  | 5, _ => exact ⟨41, by decide, rfl⟩
  | 6, _ => exact ⟨42, by decide, rfl⟩
  | 7, _ => exact ⟨20, by decide, rfl⟩
theorem ok_law {f : Addr} {fd : FuncData} (T : Tx K mg) (F : Fun K "law" "law" s_law f fd) : FnOk P w K mg base CX0 6 f fd ["script"] (spLaw K) := by
  have c__law_pool : Cal P w K mg base CX0 1 "_law_pool" (spPool K) := c__law_pool T
  have c__law_draw : Cal P w K mg base CX0 2 "_law_draw" spDraw := c__law_draw T
  have c__law_signs : Cal P w K mg base CX0 3 "_law_signs" spSigns := c__law_signs T
  have c__law_truth : Cal P w K mg base CX0 1 "_law_truth" spTruth := c__law_truth T
  have c__law_is_line : Cal P w K mg base CX0 1 "_law_is_line" spIsLine := c__law_is_line T
  have c_is_line : Cal P w K mg base CX0 2 "is_line" spLine := c_is_line T
  have c_is_text : Cal P w K mg base CX0 3 "is_text" spText := c_is_text T
  refine F.ok sc_law (fun vs H Q E h => ?_) (fun cdv A outer s H vs Q E hr h => ?_)
  · obtain ⟨a, ns, rfl, _⟩ := h
    rfl
  · obtain ⟨a, ns, rfl, hS, hl, q⟩ := h
    refine ⟨_, (pss_cons (ps_set (i := 1) sc_law.nd rfl (by first | exact Or.inl rfl | exact Or.inr rfl) (pe_c c__law_pool hr (by decide) (by rfl) pass0 (pa_cons (pv 0) pa_nil)))
      (pss_cons (ps_set (i := 2) sc_law.nd rfl (by first | exact Or.inl rfl | exact Or.inr rfl) (pe_lst (pa_cons pe_str (pa_cons pe_str (pa_cons (pe_op op_muX pe_str pe_int) (pa_cons (pe_op op_muX pe_str pe_int) pa_nil))))))
      (pss_cons (ps_for PassesOwn.never rfl (pi_range1 (by rfl) T.n_range (pa_cons pe_int pa_nil)) (pg_name (i := 3) sc_law.nd rfl (by first | exact Or.inl rfl | exact Or.inr rfl)) (pss_cons (ps_set (i := 8) sc_law.nd rfl (by first | exact Or.inl rfl | exact Or.inr rfl) (pe_c c__law_signs hr (by decide) (by rfl) pass0 (pa_cons (pv 1) (pa_cons (pe_ix (r := rIx K) ix_seq (pe_lst (pa_cons pe_int (pa_cons pe_int (pa_cons pe_int (pa_cons pe_int (pa_cons pe_int (pa_cons pe_int (pa_cons pe_int (pa_cons pe_int pa_nil))))))))) (pv 3) (fun _ _ => rfl)) pa_nil))))
      (pss_cons (ps_set (i := 9) sc_law.nd rfl (by first | exact Or.inl rfl | exact Or.inr rfl) (pe_c c__law_draw hr (by decide) (by rfl) pass0 (pa_cons (pv 1) (pa_cons (pe_op (r := rAddX K) op_addX (pe_callB (r := rLenX K) call_lenX (by rfl) T.n_len (by decide +kernel) (pa_cons (pv 8) pa_nil)) pe_int) pa_nil))))
      (pss_one (ps_set (i := 2) sc_law.nd rfl (by first | exact Or.inl rfl | exact Or.inr rfl) (pe_op (r := rAddX K) op_addX (pv 2) (pe_lst (pa_cons (pv 8) (pa_cons (pe_op (r := rAddX K) op_addX (pe_op (r := rAddX K) op_addX (pe_slice (r := rSlXX K) sl_X (pv 8) po_none (po_some (pv 9))) (pe_ix (r := rIx K) ix_seq (pe_lst (pa_cons pe_str (pa_cons pe_str pa_nil))) (pe_c c__law_draw hr (by decide) (by rfl) pass0 (pa_cons (pv 1) (pa_cons pe_int pa_nil))) (fun _ _ => rfl))) (pe_slice (r := rSlXX K) sl_X (pv 8) (po_some (pv 9)) po_none)) pa_nil)))))))))
      (pss_cons (ps_if (pt_cmpR (r := rNeX K) (op_neX hr.units) (pe_lc (own := [("line", 8)]) (g := gName 8) rfl sc_law.nd (pi_listK (K := K) rfl (pv 2)) (blkOk_by (N := N_law) (sc := defScope s_law) (by decide +kernel)) (fun _ _ _ _ _ => (pg_name (i := 8) sc_law.nd rfl (by first | exact Or.inl rfl | exact Or.inr rfl))) (fun _ _ _ _ _ => pts_one (pt_not (pt_truK (K := K) rfl (pe_c c__law_truth hr (by decide) (by rfl) pass0 (pa_cons (pe_c c_is_line hr (by decide) (by rfl) pass0 (pa_cons (pv 8) pa_nil)) (pa_cons (pe_c c__law_is_line hr (by decide) (by rfl) pass0 (pa_cons (pv 8) pa_nil)) pa_nil))) (by intro _; rfl)))) (fun _ _ _ _ _ => (pv 8))) (pe_lst pa_nil) (nomark _)) (pss_one (ps_ret pe_bl)) pss_nil)
      (pss_cons (ps_set (i := 4) sc_law.nd rfl (by first | exact Or.inl rfl | exact Or.inr rfl) (pe_lst (pa_cons pe_non (pa_cons pe_int (pa_cons pe_bl (pa_cons (pe_lst (pa_cons pe_str pa_nil)) (pa_cons (pe_tup (pa_cons pe_str pa_nil)) (pa_cons pe_dnewK (pa_cons pe_str (pa_cons (pe_ix (r := rIx K) ix_seq (pv 2) (pe_c c__law_draw hr (by decide) (by rfl) pass0 (pa_cons (pv 1) (pa_cons (pe_callB (r := rLenX K) call_lenX (by rfl) T.n_len (by decide +kernel) (pa_cons (pv 2) pa_nil)) pa_nil))) (fun _ _ => rfl)) pa_nil))))))))))
      (pss_cons (ps_for PassesOwn.never rfl (pi_listK (K := K) rfl (pv 4)) (pg_name (i := 5) sc_law.nd rfl (by first | exact Or.inl rfl | exact Or.inr rfl)) (pss_one (ps_if (pt_not (pt_truK (K := K) rfl (pe_c c__law_truth hr (by decide) (by rfl) pass0 (pa_cons (pe_c c_is_line hr (by decide) (by rfl) pass0 (pa_cons (pv 5) pa_nil)) (pa_cons (pe_c c__law_is_line hr (by decide) (by rfl) pass0 (pa_cons (pv 5) pa_nil)) pa_nil))) (by intro _; rfl))) (pss_one (ps_ret pe_bl)) pss_nil)))
      (pss_cons (ps_set (i := 6) sc_law.nd rfl (by first | exact Or.inl rfl | exact Or.inr rfl) (pe_lc (own := [("line", 8)]) (g := gName 8) rfl sc_law.nd (pi_listK (K := K) rfl (pv 2)) (blkOk_by (N := N_law) (sc := defScope s_law) (by decide +kernel)) (fun _ _ _ _ _ => (pg_name (i := 8) sc_law.nd rfl (by first | exact Or.inl rfl | exact Or.inr rfl))) (fun _ _ _ _ _ => pts_one (pt_truK (K := K) rfl (pe_c c__law_is_line hr (by decide) (by rfl) pass0 (pa_cons (pv 8) pa_nil)) (by intro _; rfl))) (fun _ _ _ _ _ => (pv 8))))
      (pss_cons (ps_for PassesOwn.never rfl (pi_listK (K := K) rfl (pe_lst (pa_cons pe_int (pa_cons pe_int (pa_cons pe_int (pa_cons pe_int (pa_cons pe_int (pa_cons pe_int (pa_cons pe_int pa_nil))))))))) (pg_name (i := 7) sc_law.nd rfl (by first | exact Or.inl rfl | exact Or.inr rfl)) (pss_cons (ps_setLc (i := 10) (own := [("k", 3)]) (g := gName 3) (tt := tYes) rfl sc_law.nd rfl rfl (sw_true rfl rfl rfl (by decide +kernel)) (pi_range1 (by rfl) T.n_range (pa_cons (pv 7) pa_nil)) (blkOk_by (N := N_law) (sc := defScope s_law) (by decide +kernel)) (fun _ _ _ _ _ => (pg_name (i := 3) sc_law.nd rfl (by first | exact Or.inl rfl | exact Or.inr rfl))) (fun _ _ _ _ _ => pts_nil) (fun _ _ _ _ _ => (pe_ix (r := rIx K) ix_seq (pv 6) (pe_c c__law_draw hr (by decide) (by rfl) pass0 (pa_cons (pv 1) (pa_cons (pe_callB (r := rLenX K) call_lenX (by rfl) T.n_len (by decide +kernel) (pa_cons (pv 6) pa_nil)) pa_nil))) (fun _ _ => rfl))))
      (pss_cons (ps_set (i := 9) sc_law.nd rfl (by first | exact Or.inl rfl | exact Or.inr rfl) (pe_c c__law_draw hr (by decide) (by rfl) pass0 (pa_cons (pv 1) (pa_cons (pe_op (r := rAddX K) op_addX (pv 7) pe_int) pa_nil))))
      (pss_cons (ps_set (i := 11) sc_law.nd rfl (by first | exact Or.inl rfl | exact Or.inr rfl) (pe_op (r := rAddX K) op_addX (pe_op (r := rAddX K) op_addX (pe_slice (r := rSlXX K) sl_X (pv 10) po_none (po_some (pv 9))) (pe_lst (pa_cons (pe_ix (r := rIx K) ix_seq (pv 4) (pe_c c__law_draw hr (by decide) (by rfl) pass0 (pa_cons (pv 1) (pa_cons (pe_callB (r := rLenX K) call_lenX (by rfl) T.n_len (by decide +kernel) (pa_cons (pv 4) pa_nil)) pa_nil))) (fun _ _ => rfl)) pa_nil))) (pe_slice (r := rSlXX K) sl_X (pv 10) (po_some (pe_op (r := rAddX K) op_addX (pv 9) pe_int)) po_none)))
      (pss_cons (ps_for PassesOwn.never rfl (pi_listK (K := K) rfl (pe_lst (pa_cons (pv 10) (pa_cons (pe_callTy (r := rTupX K) call_tupX (by rfl) T.n_tuple (by decide +kernel) (pa_cons (pv 10) pa_nil)) pa_nil)))) (pg_name (i := 12) sc_law.nd rfl (by first | exact Or.inl rfl | exact Or.inr rfl)) (pss_one (ps_if (pt_not (pt_truK (K := K) rfl (pe_c c__law_truth hr (by decide) (by rfl) pass0 (pa_cons (pe_c c_is_text hr (by decide) (by rfl) pass0 (pa_cons (pv 12) pa_nil)) (pa_cons (pe_cmpR op_leX (pv 7) pe_int (nomark _)) pa_nil))) (by intro _; rfl))) (pss_one (ps_ret pe_bl)) pss_nil)))
      (pss_cons (ps_set (i := 13) sc_law.nd rfl (by first | exact Or.inl rfl | exact Or.inr rfl) (pe_and (pe_cmpR op_leX (pe_callB (r := rLenX K) call_lenX (by rfl) T.n_len (by decide +kernel) (pa_cons (pv 11) pa_nil)) pe_int (nomark _)) (pe_one (pe_cmpR (r := rEqX K) (op_eqX hr.units) (pe_lc (own := [("line", 8)]) (g := gName 8) rfl sc_law.nd (pi_listK (K := K) rfl (pv 11)) (blkOk_by (N := N_law) (sc := defScope s_law) (by decide +kernel)) (fun _ _ _ _ _ => (pg_name (i := 8) sc_law.nd rfl (by first | exact Or.inl rfl | exact Or.inr rfl))) (fun _ _ _ _ _ => pts_one (pt_not (pt_truK (K := K) rfl (pe_c c__law_is_line hr (by decide) (by rfl) pass0 (pa_cons (pv 8) pa_nil)) (by intro _; rfl)))) (fun _ _ _ _ _ => (pv 8))) (pe_lst pa_nil) (nomark _)))))
      (pss_one (ps_if (pt_not (pt_truK (K := K) rfl (pe_c c__law_truth hr (by decide) (by rfl) pass0 (pa_cons (pe_c c_is_text hr (by decide) (by rfl) pass0 (pa_cons (pv 11) pa_nil)) (pa_cons (pv 13) pa_nil))) (by intro _; rfl))) (pss_one (ps_ret pe_bl)) pss_nil))))))))
      (pss_one (ps_ret (pe_cmpR (r := rEqX K) (op_eqX hr.units) (pe_lc (own := [("thing", 5)]) (g := gName 5) rfl sc_law.nd (pi_listK (K := K) rfl (pe_lst (pa_cons pe_non (pa_cons pe_str (pa_cons pe_int (pa_cons pe_dnewK (pa_cons pe_bl pa_nil))))))) (blkOk_by (N := N_law) (sc := defScope s_law) (by decide +kernel)) (fun _ _ _ _ _ => (pg_name (i := 5) sc_law.nd rfl (by first | exact Or.inl rfl | exact Or.inr rfl))) (fun _ _ _ _ _ => pts_one (pt_cmpR op_notBl (pe_c c_is_text hr (by decide) (by rfl) pass0 (pa_cons (pv 5) pa_nil)) pe_bl (nomark _))) (fun _ _ _ _ _ => (pv 5))) (pe_lst pa_nil) (nomark _)))))))))))), ?_⟩
    walk_at "go"
    refine ⟨a, ns, rfl, hS, hl, fun p n H1 hP s1 np nn => ?_⟩
    walk_at "go"
    rename_i L H2 n2 s2 h2
    obtain ⟨L1, L2⟩ := (hP.same (Same.refl H1)).ne n2
    refine fow (xs := intsV 8) wx_range (fun i σ' H' => ∃ (L : Addr) (ys : List Str) (v3 v8 v9 : Option V), σ' = [some (.ref a), some (.ref p), some (.ref L), v3, none, none, none, none, v8, v9, none, none, none, none] ∧ PoolAt H' p n (100 * i) ∧ L ≠ p ∧ L ≠ n ∧ H' L = some (.lst (ys.map V.str)) ∧ (∀ y ∈ ys, y.length ≤ 100) ∧ Str.empty ∈ ys ∧ ys.length = 4 + 2 * i)
      ⟨L, [Str.ofString "", Str.ofString " ", Txt.mul (Str.ofString "~") 40, Txt.mul (Str.ofString "~") 41], none, none, none, rfl, (hP.same s2).mono (by omega), L1, L2, h2, by decide +kernel, by decide +kernel, rfl⟩ (fun _ _ _ _ => trivial) (fun i x σ' H' hx ⟨L, ys, v3, v8, v9, es, hP, e1, e2, hL, hy, h0, hn⟩ => ?_) (fun σ' H' ⟨L, ys, v3, v8, v9, es, hP, e1, e2, hL, hy, h0, hn⟩ => ?_)
    · obtain ⟨hi, rfl⟩ := intsV_at hx
      subst es
      obtain ⟨m, hm, ha⟩ := sizes_at hi
      walk_at "go"
      rename_i T H3 n3 s3 h3
      have hP3 := hP.same s3
      refine ⟨p, n, m, 100 * i, rfl, hP3, by omega, by omega, by omega, fun z H4 hz pz hP4 k4 => ?_⟩
      walk_at "go"
      refine ⟨p, n, _, _, rfl, hP4, by omega, by omega, by omega, log_lt (by omega) (by omega), fun r H5 r0 r1 hP5 k5 => ?_⟩
      have hzl : z.length ≤ 42 := by omega
      have hcut := cutS_len z none (some r)
      have hcut2 := cutS_len z (some r) none
      walk_at "go"
      rename_i U H6 n6 s6 h6
      have hP6 := hP5.same s6
      obtain ⟨u1, u2⟩ := hP5.ne n6
      refine ⟨p, n, 2, _, rfl, hP6, by omega, by omega, by decide, by decide, fun r2 H7 q0 q1 hP7 k7 => ?_⟩
      obtain ⟨w2, hw2, ha2⟩ := two_at (x := V.str (Str.ofString "\n")) (y := V.str (Str.ofString "\n\n")) q0 q1
      obtain ⟨y2, rfl, hy2⟩ : ∃ y2 : Str, w2 = .str y2 ∧ y2.length ≤ 2 := by
        rcases hw2 with rfl | rfl
        · exact ⟨_, rfl, by decide +kernel⟩
        · exact ⟨_, rfl, by decide +kernel⟩
      have al := app_len (cutS z none (some r)) y2
      have al2 := app_len (cutS z none (some r) ++ y2) (cutS z (some r) none)
      walk_at "go"
      rename_i A8 H8 n8 s8 h8 M H9 n9 s9 h9
      obtain ⟨m1, m2⟩ := (hP7.same s8).ne n9
      refine ⟨M, ys ++ [z, cutS z none (some r) ++ y2 ++ cutS z (some r) none], _, _, _, rfl, (hP7.same (s8.trans s9)).mono (by omega), m1, m2, by rw [List.map_append]; exact h9, fun y hy' => ?_, List.mem_append_left _ h0, by rw [List.length_append]; show _ + 2 = _; omega⟩
      rcases List.mem_append.mp hy' with h | h
      · exact hy y h
      · simp only [List.mem_cons, List.not_mem_nil, or_false] at h
        rcases h with rfl | rfl <;> omega
    · subst es
      rw [intsV_len] at hP hn
      have hkd : ∀ x ∈ ys.map V.str, ∀ H', Kd H' x .str := fun x hx H' => by
        obtain ⟨y, hy', rfl⟩ := List.mem_map.mp hx
        exact .str y (by have := hy y hy'; omega)
      walk_at "go"
      refine lcw_fm (xs := ys.map V.str) (j := 8) wx_list (fun _ => false) (fun x => x) (fun H' s => SqL.of (s _ _ hL)) (by rw [List.length_map]; omega) (fun _ => rfl) (fun x hx H3 R s3 k => ?_) (fun x hx h => by cases h) (fun D H2 n2 s2 h2 => ?_)
      · walk_at "go"
        refine ⟨x, _, rfl, hkd x hx _, fun H4 s4 => ?_⟩
        walk_at "go"
        refine ⟨x, _, rfl, hkd x hx _, fun H5 s5 => ?_⟩
        walk_at "go"
        refine ⟨_, _, rfl, ?_⟩
        rw [show (lineB x == lineB x) = true by simp]
        walk_at "go"
        exact k _ (by walk_at "sm")
      rw [show ((ys.map V.str).filter fun _ => false) = [] from List.filter_eq_nil_iff.mpr (by simp)] at h2
      have hL2 := s2 _ _ hL
      have hP2 := hP.same s2
      walk_at "go"
      rename_i E3 H3 n3 s3 h3 B1 H4 n4 s4 h4 B2 H5 n5 s5 h5 B3 H6 n6 s6 h6
      have hP3 := hP2.same s3
      have hP4 := hP3.same s4
      have hP5 := hP4.same s5
      have hP6 : PoolAt H6 p n 800 := (hP5.same s6).mono (by omega)
      obtain ⟨b1, b1'⟩ := hP3.ne n4
      obtain ⟨b2, b2'⟩ := hP4.ne n5
      obtain ⟨b3, b3'⟩ := hP5.ne n6
      have hyl : (ys.map V.str).length = 20 := by rw [List.length_map, hn]
      refine ⟨p, n, _, 800, rfl, hP6, by omega, by omega, by omega, log_lt (by omega) (by omega), fun r7 H7 r0 r1 hP7 k7 => ?_⟩
      obtain ⟨v7, hv7, ha7⟩ := at_lt (xs := ys.map V.str) r0 r1
      walk_at "go"
      rename_i O H8 n8 s8 h8
      have hP8 := hP7.same s8
      obtain ⟨o1, o2⟩ := hP7.ne n8
      have hB1 : H8 B1 = some (.lst [.str (Str.ofString "a")]) := s8 _ _ (k7 _ _ (s6 _ _ (s5 _ _ h4)) b1 b1')
      have hB2 : H8 B2 = some (.tup [.str (Str.ofString "a")]) := s8 _ _ (k7 _ _ (s6 _ _ h5) b2 b2')
      have hB3 : H8 B3 = some (.dK []) := s8 _ _ (k7 _ _ h6 b3 b3')
      have hOdd : ∀ x ∈ [V.non, V.int 1, V.bl true, V.ref B1, V.ref B2, V.ref B3, V.str (Str.ofString "a\n"), v7], ∃ k, KdP p n H8 x k := fun x hx => by
        simp only [List.mem_cons, List.not_mem_nil, or_false] at hx
        rcases hx with rfl | rfl | rfl | rfl | rfl | rfl | rfl | rfl
        · exact ⟨_, .flat .non fun b e => by cases e⟩
        · exact ⟨_, .flat (.int 1) fun b e => by cases e⟩
        · exact ⟨_, .flat (.bl true) fun b e => by cases e⟩
        · exact ⟨_, .lst hB1, fun b e => by cases e; exact ⟨b1, b1'⟩⟩
        · exact ⟨_, .tup hB2, fun b e => by cases e; exact ⟨b2, b2'⟩⟩
        · exact ⟨_, .dct hB3, fun b e => by cases e; exact ⟨b3, b3'⟩⟩
        · exact ⟨_, .flat (.str _ (by decide +kernel)) fun b e => by cases e⟩
        · exact ⟨_, .flat (hkd _ hv7 _) fun b e => by
            obtain ⟨y, _, rfl⟩ := List.mem_map.mp hv7
            cases e⟩
      have hol : [V.non, V.int 1, V.bl true, V.ref B1, V.ref B2, V.ref B3, V.str (Str.ofString "a\n"), v7].length = 8 := rfl
      generalize [V.non, V.int 1, V.bl true, V.ref B1, V.ref B2, V.ref B3, V.str (Str.ofString "a\n"), v7] = odd at h8 hOdd hol
      have hL8 : H8 L = some (.lst (ys.map V.str)) := s8 _ _ (k7 _ _ (by walk_at "lk") e1 e2)
      refine fow (xs := odd) wx_list (fun i σ' H' => ∃ v5 : Option V, σ' = [some (.ref a), some (.ref p), some (.ref L), v3, some (.ref O), v5, none, none, v8, v9, none, none, none, none] ∧ Same H8 H') ⟨none, rfl, Same.refl H8⟩ (fun i σ' H' ⟨_, _, e⟩ => SqL.of (e _ _ h8)) (fun i x σ' H' hx ⟨v5, es, e⟩ => ?_) (fun σ' H9 ⟨v5, es, s9⟩ => ?_)
      · subst es
        obtain ⟨kx, hk⟩ := hOdd x (List.mem_of_getElem? hx)
        walk_at "go"
        refine ⟨x, _, rfl, hk.1.same e, fun H4 s4 => ?_⟩
        walk_at "go"
        refine ⟨x, _, rfl, (hk.1.same e).same s4, fun H5 s5 => ?_⟩
        walk_at "go"
        refine ⟨_, _, rfl, ?_⟩
        rw [show (lineB x == lineB x) = true by simp]
        walk_at "go"
        exact ⟨_, rfl, by walk_at "sm"⟩
      subst es
      have hL9 := s9 _ _ hL8
      walk_at "go"
      refine lcw_fm (xs := ys.map V.str) (j := 8) wx_list lineB (fun x => x) (fun H' s => SqL.of (s _ _ hL9)) (by omega) (fun _ => rfl) (fun x hx H3 R s3 k => ?_) (fun x hx _ H3 R s3 k => ?_) (fun G H10 n10 s10 h10 => ?_)
      · walk_at "go"
        refine ⟨x, _, rfl, hkd x hx _, fun H4 s4 => ?_⟩
        walk_at "go"
        exact k _ s4
      · walk_at "go"
        exact k _ (Same.refl H3)
      have hP9 := hP8.same s9
      have hP10 := hP9.same s10
      obtain ⟨g1, g2⟩ := hP9.ne n10
      obtain ⟨gs, hgs⟩ : ∃ gs : List Str, gs = ys.filter fun y => lineB (.str y) := ⟨_, rfl⟩
      have hgm : ((ys.map V.str).filter lineB).map (fun x => x) = gs.map V.str := by
        rw [List.map_id', hgs, List.filter_map]
        rfl
      rw [hgm] at h10
      have hg0 : 0 < gs.length := List.length_pos_iff.mpr (List.ne_nil_of_mem (a := Str.empty) (by rw [hgs]; exact List.mem_filter.mpr ⟨h0, by decide +kernel⟩))
      have hgl : gs.length ≤ 20 := by
        rw [hgs]
        exact Nat.le_trans (List.length_filter_le _ _) (by omega)
      have hgv : ∀ z ∈ gs, lineB (.str z) = true ∧ z.length ≤ 100 := fun z hz => by
        rw [hgs] at hz
        obtain ⟨hz1, hz2⟩ := List.mem_filter.mp hz
        exact ⟨hz2, hy z hz1⟩
      have hOdd10 : ∀ x ∈ odd, ∃ k, KdP p n H10 x k := fun x hx => by
        obtain ⟨k, hk⟩ := hOdd x hx
        exact ⟨k, (hk.same s9).same s10⟩
      have h8' : H10 O = some (.lst odd) := s10 _ _ (s9 _ _ h8)
      have hgl2 : (gs.map V.str).length = gs.length := List.length_map ..
      clear hOdd h8 hgs
      walk_at "go"
      rename_i R H11 n11 s11 h11
      have hP11 := hP10.same s11
      obtain ⟨r1', r2'⟩ := hP10.ne n11
      have hm14 : ∀ x ∈ [V.int 0, V.int 1, V.int 5, V.int 11, V.int 12, V.int 13, V.int 14], ∃ m : Nat, m ≤ 14 ∧ x = .int m := fun x hx => by
        simp only [List.mem_cons, List.not_mem_nil, or_false] at hx
        rcases hx with rfl | rfl | rfl | rfl | rfl | rfl | rfl
        · exact ⟨0, by decide, rfl⟩
        · exact ⟨1, by decide, rfl⟩
        · exact ⟨5, by decide, rfl⟩
        · exact ⟨11, by decide, rfl⟩
        · exact ⟨12, by decide, rfl⟩
        · exact ⟨13, by decide, rfl⟩
        · exact ⟨14, by decide, rfl⟩
      have hml : [V.int 0, V.int 1, V.int 5, V.int 11, V.int 12, V.int 13, V.int 14].length = 7 := rfl
      generalize [V.int 0, V.int 1, V.int 5, V.int 11, V.int 12, V.int 13, V.int 14] = ms at h11 hm14 hml
      refine fow (xs := ms) wx_list (fun i σ' H' => ∃ v3 v5 v7 v8 v9 v10 v11 v12 v13 : Option V, σ' = [some (.ref a), some (.ref p), some (.ref L), v3, some (.ref O), v5, some (.ref G), v7, v8, v9, v10, v11, v12, v13] ∧ PoolAt H' p n (1000 + 100 * i) ∧ Keep p n H11 H') ⟨v3, v5, none, v8, v9, none, none, none, none, rfl, hP11.mono (by omega), Keep.refl _ _ _⟩ (fun i σ' H' ⟨_, _, _, _, _, _, _, _, _, _, _, e⟩ => SqL.of (e _ _ h11 r1' r2')) (fun i x σ' H12 hx ⟨v3, v5, v7, v8, v9, v10, v11, v12, v13, es, hP12, k12⟩ => ?_) (fun σ' H12 ⟨v3, v5, v7, v8, v9, v10, v11, v12, v13, es, hP12, k12⟩ => ?_)
      · subst es
        obtain ⟨m, hm, rfl⟩ := hm14 x (List.mem_of_getElem? hx)
        have hi : i < 7 := hml ▸ (List.getElem?_eq_some_iff.mp hx).1
        have hG12 : H12 G = some (.lst (gs.map V.str)) := k12 _ _ (s11 _ _ h10) g1 g2
        have hO12 : H12 O = some (.lst odd) := k12 _ _ (s11 _ _ h8') o1 o2
        walk_at "go"
        refine lcw_pool (xs := intsV m) (j := 3) (d := 1) wx_range (fun i acc => ∃ zs : List Str, acc = zs.map V.str ∧ zs.length = i ∧ ∀ z ∈ zs, lineB (.str z) = true ∧ z.length ≤ 100) hP12 (fun _ _ => trivial) (by rw [intsV_len]; omega) (fun _ => rfl) ⟨[], rfl, rfl, by simp⟩ (fun j x acc hx ⟨zs, ea, el, ec⟩ H13 Q' k13 hP13 kk => ?_) (fun S H13 acc nS k13 hP13 ⟨zs, ea, el, ec⟩ _ hS13 => ?_)
        · have hj : j < m := (intsV_at hx).1
          walk_at "go"
          refine ⟨p, n, _, _, rfl, hP13, by omega, by omega, by omega, log_lt (by omega) (by omega), fun r H14 r0 r1 hP14 k14 => ?_⟩
          obtain ⟨v, hv, hav⟩ := at_lt (xs := gs.map V.str) r0 r1
          obtain ⟨z, hz, rfl⟩ := List.mem_map.mp hv
          walk_at "go"
          refine kk _ H14 k14 (hP14.mono (by omega)) ⟨zs ++ [z], by rw [ea, List.map_append]; rfl, by rw [List.length_append, List.length_singleton, el], fun y hy' => ?_⟩
          rcases List.mem_append.mp hy' with h | h
          · exact ec y h
          · rw [List.mem_singleton.mp h]
            exact hgv z hz
        subst ea
        rw [intsV_len] at el hP13
        obtain ⟨S1, S2⟩ := hP12.ne nS
        have hzl : (zs.map V.str).length = m := by rw [List.length_map, el]
        have hzk : ∀ x ∈ zs.map V.str, ∀ H', Kd H' x .str := fun x hx H' => by
          obtain ⟨y, hy', rfl⟩ := List.mem_map.mp hx
          exact .str y (by have := (ec y hy').2; omega)
        have hza : (zs.map V.str).all lineB = true := List.all_eq_true.mpr fun x hx => by
          obtain ⟨y, hy', rfl⟩ := List.mem_map.mp hx
          exact (ec y hy').1
        have hO13 : H13 O = some (.lst odd) := k13 _ _ hO12 o1 o2
        have hOdd13 : ∀ x ∈ odd, ∃ k, KdP p n H13 x k := fun x hx => by
          obtain ⟨k, hk⟩ := hOdd10 x hx
          exact ⟨k, ((hk.same s11).keep k12).keep k13⟩
        generalize zs.map V.str = ws at hS13 hzl hzk hza
        walk_at "go"
        refine ⟨p, n, _, _, rfl, hP13, by omega, by omega, by omega, log_lt (by omega) (by omega), fun r H14 r0 r1 hP14 k14 => ?_⟩
        have hc1 := cutV_length ws none (some r)
        have hc2 := cutV_length ws (some (r + 1)) none
        have hS14 : H14 S = some (.lst ws) := k14 _ _ hS13 S1 S2
        have hO14 : H14 O = some (.lst odd) := k14 _ _ hO13 o1 o2
        walk_at "go"
        rename_i C1 H15 n15 s15 h15
        obtain ⟨c1, c2⟩ := hP14.ne n15
        refine ⟨p, n, _, _, rfl, hP14.same s15, by omega, by omega, by omega, log_lt (by omega) (by omega), fun r2 H16 q0 q1 hP16 k16 => ?_⟩
        obtain ⟨v, hv, hav⟩ := at_lt (xs := odd) q0 q1
        have hS16 : H16 S = some (.lst ws) := k16 _ _ (s15 _ _ hS14) S1 S2
        obtain ⟨kv, hkv⟩ := hOdd13 v hv
        have hkv16 := ((hkv.keep k14).same s15).keep k16
        walk_at "go"
        rename_i D1 H17 n17 s17 h17 E1 H18 n18 s18 h18 C2 H19 n19 s19 h19 F1 H20 n20 s20 h20 Tp H21 n21 s21 h21 W H22 n22 s22 h22
        have hF22 : H22 F1 = some (.lst (cutV ws none (some r) ++ [v] ++ cutV ws (some (r + 1)) none)) := by walk_at "lk"
        have hS22 : H22 S = some (.lst ws) := by walk_at "lk"
        have hT22 : H22 Tp = some (.tup ws) := by walk_at "lk"
        have s622 : Same H16 H22 := by walk_at "sm"
        have hP22 := hP16.same s622
        have hbl : (cutV ws none (some r) ++ [v] ++ cutV ws (some (r + 1)) none).length ≤ 100 := by
          rw [List.length_append, List.length_append, List.length_singleton]
          omega
        have hbk : ∀ x ∈ cutV ws none (some r) ++ [v] ++ cutV ws (some (r + 1)) none, ∃ k, Kd H22 x k := fun x hx => by
          rcases List.mem_append.mp hx with h | h
          · rcases List.mem_append.mp h with h | h
            · exact ⟨_, hzk x (mem_cutV h) _⟩
            · rw [List.mem_singleton.mp h]
              exact ⟨kv, (hkv16.same s622).1⟩
          · exact ⟨_, hzk x (mem_cutV h) _⟩
        generalize cutV ws none (some r) ++ [v] ++ cutV ws (some (r + 1)) none = bs at hF22 hbl hbk
        have keepN : Keep p n H11 H22 := ((((k12.trans k13).trans k14).trans (Keep.same s15)).trans k16).trans (Keep.same s622)
        have hPN : PoolAt H22 p n (1000 + 100 * (i + 1 : Nat)) := hP22.mono (by omega)
        clear hP12 hP13 hP14 hP16 k12 k13 k14 k16 s15 h15 n15 s17 s18 s19 s20 s21 s22 h17 h18 h19 h20 h21
        refine fow (xs := [V.ref S, V.ref Tp]) wx_list (fun i σ' H' => ∃ v12 : Option V, σ' = [some (.ref a), some (.ref p), some (.ref L), v3, some (.ref O), v5, some (.ref G), some (.int m), v8, some (.int r), some (.ref S), some (.ref F1), v12, v13] ∧ Same H22 H') ⟨v12, rfl, Same.refl H22⟩ (fun i σ' H' ⟨_, _, e⟩ => SqL.of (e _ _ h22)) (fun j x σ' H23 hx ⟨v12, es, s23⟩ => ?_) (fun σ' H23 ⟨v12, es, s23⟩ => ?_)
        · subst es
          have hx2 : x = .ref S ∨ x = .ref Tp := by
            have := List.mem_of_getElem? hx
            simpa using this
          have hb : TextV H23 x (decide (ws.length ≤ 12) && ws.all lineB) := by
            rcases hx2 with rfl | rfl
            · exact .lst (s23 _ _ hS22) (by omega) fun y hy' => ⟨_, hzk y hy' _⟩
            · exact .tup (s23 _ _ hT22) (by omega) fun y hy' => ⟨_, hzk y hy' _⟩
          have hbe : ((decide (ws.length ≤ 12) && ws.all lineB) == decide ((m : Int) ≤ 12)) = true := by
            rw [hza, hzl, Bool.and_true, beq_iff_eq, decide_eq_decide]
            omega
          walk_at "go"
          refine ⟨x, _, rfl, hb, fun H24 s24 => ?_⟩
          walk_at "go"
          refine ⟨_, _, rfl, ?_⟩
          rw [hbe]
          walk_at "go"
          exact ⟨_, rfl, by walk_at "sm"⟩
        · subst es
          have hF23 := s23 _ _ hF22
          have hbk' : ∀ x ∈ bs, ∀ H', Same H22 H' → ∃ k, Kd H' x k := fun x hx H' s => by
            obtain ⟨k, hk⟩ := hbk x hx
            exact ⟨k, hk.same s⟩
          -- the last test, whatever due was made of: it says what is_text says
          have fin2 : ∀ H24, Same H23 H24 → ∃ v3' v5' v7' v8' v9' v10' v11' v12' v13' : Option V, [some (V.ref a), some (V.ref p), some (V.ref L), v3, some (V.ref O), v5, some (V.ref G), some (V.int ↑m), v8, some (V.int r), some (V.ref S), some (V.ref F1), v12, some (V.bl (decide (bs.length ≤ 12) && bs.all lineB))] = [some (.ref a), some (.ref p), some (.ref L), v3', some (.ref O), v5', some (.ref G), v7', v8', v9', v10', v11', v12', v13'] ∧ PoolAt H24 p n (1000 + 100 * (i + 1 : Nat)) ∧ Keep p n H11 H24 := fun H24 s24 => ⟨_, _, _, _, _, _, _, _, _, rfl, hPN.same (s23.trans s24), keepN.trans (Keep.same (s23.trans s24))⟩
          walk_at "go"
          refine ift (fun hd => ?_) (fun hd => ?_)
          · have hd' : bs.length ≤ 12 := by have := of_decide_eq_true hd; omega
            walk_at "go"
            refine lcw_fm (xs := bs) (j := 8) wx_list (fun x => !lineB x) (fun x => x) (fun H' s => SqL.of (s _ _ hF23)) (by omega) (fun _ => rfl) (fun x hx H3 R s3 k => ?_) (fun x hx _ H3 R s3 k => ?_) (fun M H24 n24 s24 h24 => ?_)
            · obtain ⟨kx, hk⟩ := hbk' x hx _ (s23.trans s3)
              walk_at "go"
              refine ⟨x, _, rfl, hk, fun H4 s4 => ?_⟩
              walk_at "go"
              exact k _ s4
            · walk_at "go"
              exact k _ (Same.refl H3)
            walk_at "go"
            rename_i N1 H25 n25 s25 h25
            have e : ((bs.filter fun x => !lineB x).map fun x => x).isEmpty = (decide (bs.length ≤ 12) && bs.all lineB) := by rw [List.map_id', all_filter]; simp [hd']
            rw [e]
            have s325 : Same H23 H25 := by walk_at "sm"
            refine ⟨_, _, rfl, .lst (s325 _ _ hF23) (by omega) (fun y hy' => hbk' y hy' _ (s23.trans s325)), fun H26 s26 => ?_⟩
            walk_at "go"
            refine ⟨_, _, rfl, ?_⟩
            rw [show ((decide (bs.length ≤ 12) && bs.all lineB) == (decide (bs.length ≤ 12) && bs.all lineB)) = true by simp]
            walk_at "go"
            exact fin2 _ (s325.trans s26)
          · have hd' : ¬ bs.length ≤ 12 := by have := of_decide_eq_false hd; omega
            walk_at "go"
            refine ⟨_, _, rfl, .lst hF23 (by omega) (fun y hy' => hbk' y hy' _ s23), fun H26 s26 => ?_⟩
            walk_at "go"
            refine ⟨_, _, rfl, ?_⟩
            rw [show ((decide (bs.length ≤ 12) && bs.all lineB) == false) = true by simp [hd']]
            walk_at "go"
            refine ⟨_, _, _, _, _, _, _, _, _, rfl, hPN.same (s23.trans s26), keepN.trans (Keep.same (s23.trans s26))⟩
      · subst es
        walk_at "go"
        rename_i B5 H13 n13 s13 h13 Z5 H14 n14 s14 h14
        have hB14 : H14 B5 = some (.dK []) := s14 _ _ h13
        refine lcw_fm (xs := [V.non, V.str (Str.ofString "a"), V.int 3, V.ref B5, V.bl true]) (j := 5) wx_list (fun _ => false) (fun x => x) (fun H' s => SqL.of (s _ _ h14)) (by simp) (fun _ => rfl) (fun x hx H3 R s3 k => ?_) (fun x hx h => by cases h) (fun M H15 n15 s15 h15 => ?_)
        · have hT : TextV H3 x false := by
            simp only [List.mem_cons, List.not_mem_nil, or_false] at hx
            rcases hx with rfl | rfl | rfl | rfl | rfl
            · exact .flat .non rfl rfl
            · exact .flat (.str _ (by decide +kernel)) rfl rfl
            · exact .flat (.int 3) rfl rfl
            · exact .flat (.dct (s3 _ _ hB14)) rfl rfl
            · exact .flat (.bl true) rfl rfl
          walk_at "go"
          refine ⟨x, _, rfl, hT, fun H4 s4 => ?_⟩
          walk_at "go"
          exact k _ s4
        · walk_at "go"
          exact q _
end
/-! ### what the top has written; the law's own head -/
theorem all_mk {l : PySem.W.OpenLaw} {w : World} {K : PySem.W.Frag} {h : Heap} {mg : Str → Option Value} {fa : Addr} (X : K.In h) (G : h.Ns mainGlobals mg) (hfa : mg "law" = some (.ref fa))
    {t9 : Tok}
    {t10 : Tok}
    {f11 : Addr} {od11 an11 : Option Addr} {sl11 : Array (Option Value)} {oc11 kV11 dc11 pm11 cd11 ct11 : Value}
    {f12 : Addr} {od12 an12 : Option Addr} {sl12 : Array (Option Value)} {oc12 kV12 dc12 pm12 cd12 ct12 : Value}
    {f13 : Addr} {od13 an13 : Option Addr} {sl13 : Array (Option Value)} {oc13 kV13 dc13 pm13 cd13 ct13 : Value}
    {f14 : Addr} {od14 an14 : Option Addr} {sl14 : Array (Option Value)} {oc14 kV14 dc14 pm14 cd14 ct14 : Value}
    {f15 : Addr} {od15 an15 : Option Addr} {sl15 : Array (Option Value)} {oc15 kV15 dc15 pm15 cd15 ct15 : Value}
    {f16 : Addr} {od16 an16 : Option Addr} {sl16 : Array (Option Value)} {oc16 kV16 dc16 pm16 cd16 ct16 : Value}
    {f17 : Addr} {od17 an17 : Option Addr} {sl17 : Array (Option Value)} {oc17 kV17 dc17 pm17 cd17 ct17 : Value}
    {f18 : Addr} {od18 an18 : Option Addr} {sl18 : Array (Option Value)} {oc18 kV18 dc18 pm18 cd18 ct18 : Value}
    {f19 : Addr} {od19 an19 : Option Addr} {sl19 : Array (Option Value)} {oc19 kV19 dc19 pm19 cd19 ct19 : Value}
    {f20 : Addr} {od20 an20 : Option Addr} {sl20 : Array (Option Value)} {oc20 kV20 dc20 pm20 cd20 ct20 : Value}
    {f21 : Addr} {od21 an21 : Option Addr} {sl21 : Array (Option Value)} {oc21 kV21 dc21 pm21 cd21 ct21 : Value}
    (z0 : PySem.W.nsIn K mainGlobals "int" = some none)
    (z1 : PySem.W.nsIn K mainGlobals "len" = some none)
    (z2 : PySem.W.nsIn K mainGlobals "isinstance" = some none)
    (z3 : PySem.W.nsIn K mainGlobals "list" = some none)
    (z4 : PySem.W.nsIn K mainGlobals "tuple" = some none)
    (z5 : PySem.W.nsIn K mainGlobals "str" = some none)
    (z6 : PySem.W.nsIn K mainGlobals "bool" = some none)
    (z7 : PySem.W.nsIn K mainGlobals "all" = some none)
    (z8 : PySem.W.nsIn K mainGlobals "range" = some none)
    (g9 : PySem.W.nsIn K mainGlobals "MOST_CHARACTERS" = some (some (.int 40 t9)))
    (g10 : PySem.W.nsIn K mainGlobals "MOST_LINES" = some (some (.int 12 t10)))
    (a11 : PySem.W.nsIn K mainGlobals "is_listing" = some (some (.ref f11))) (l11 : K.lookup f11 = some ⟨oc11, od11, .func (PySem.W.fnOf "is_listing" "is_listing" (defArgs s_is_listing) (defBody s_is_listing) (defScope s_is_listing) .none kV11 dc11 pm11 an11 cd11 ct11), sl11⟩) (c11 : PySem.W.codeIn K cd11 "is_listing" = true) (k11 : PySem.W.keepIn K (.ref f11) = true)
    (a12 : PySem.W.nsIn K mainGlobals "is_plain" = some (some (.ref f12))) (l12 : K.lookup f12 = some ⟨oc12, od12, .func (PySem.W.fnOf "is_plain" "is_plain" (defArgs s_is_plain) (defBody s_is_plain) (defScope s_is_plain) .none kV12 dc12 pm12 an12 cd12 ct12), sl12⟩) (c12 : PySem.W.codeIn K cd12 "is_plain" = true) (k12 : PySem.W.keepIn K (.ref f12) = true)
    (a13 : PySem.W.nsIn K mainGlobals "is_line" = some (some (.ref f13))) (l13 : K.lookup f13 = some ⟨oc13, od13, .func (PySem.W.fnOf "is_line" "is_line" (defArgs s_is_line) (defBody s_is_line) (defScope s_is_line) .none kV13 dc13 pm13 an13 cd13 ct13), sl13⟩) (c13 : PySem.W.codeIn K cd13 "is_line" = true) (k13 : PySem.W.keepIn K (.ref f13) = true)
    (a14 : PySem.W.nsIn K mainGlobals "is_text" = some (some (.ref f14))) (l14 : K.lookup f14 = some ⟨oc14, od14, .func (PySem.W.fnOf "is_text" "is_text" (defArgs s_is_text) (defBody s_is_text) (defScope s_is_text) .none kV14 dc14 pm14 an14 cd14 ct14), sl14⟩) (c14 : PySem.W.codeIn K cd14 "is_text" = true) (k14 : PySem.W.keepIn K (.ref f14) = true)
    (a15 : PySem.W.nsIn K mainGlobals "_law_signs" = some (some (.ref f15))) (l15 : K.lookup f15 = some ⟨oc15, od15, .func (PySem.W.fnOf "_law_signs" "_law_signs" (defArgs s__law_signs) (defBody s__law_signs) (defScope s__law_signs) .none kV15 dc15 pm15 an15 cd15 ct15), sl15⟩) (c15 : PySem.W.codeIn K cd15 "_law_signs" = true) (k15 : PySem.W.keepIn K (.ref f15) = true)
    (a16 : PySem.W.nsIn K mainGlobals "_law_is_line" = some (some (.ref f16))) (l16 : K.lookup f16 = some ⟨oc16, od16, .func (PySem.W.fnOf "_law_is_line" "_law_is_line" (defArgs s__law_is_line) (defBody s__law_is_line) (defScope s__law_is_line) .none kV16 dc16 pm16 an16 cd16 ct16), sl16⟩) (c16 : PySem.W.codeIn K cd16 "_law_is_line" = true) (k16 : PySem.W.keepIn K (.ref f16) = true)
    (a17 : PySem.W.nsIn K mainGlobals "_law_truth" = some (some (.ref f17))) (l17 : K.lookup f17 = some ⟨oc17, od17, .func (PySem.W.fnOf "_law_truth" "_law_truth" (defArgs s__law_truth) (defBody s__law_truth) (defScope s__law_truth) .none kV17 dc17 pm17 an17 cd17 ct17), sl17⟩) (c17 : PySem.W.codeIn K cd17 "_law_truth" = true) (k17 : PySem.W.keepIn K (.ref f17) = true)
    (a18 : PySem.W.nsIn K mainGlobals "law" = some (some (.ref f18))) (l18 : K.lookup f18 = some ⟨oc18, od18, .func (PySem.W.fnOf "law" "law" (defArgs s_law) (defBody s_law) (defScope s_law) .none kV18 dc18 pm18 an18 cd18 ct18), sl18⟩) (c18 : PySem.W.codeIn K cd18 "law" = true) (k18 : PySem.W.keepIn K (.ref f18) = true)
    (a19 : PySem.W.nsIn K mainGlobals "_law_pool" = some (some (.ref f19))) (l19 : K.lookup f19 = some ⟨oc19, od19, .func (PySem.W.fnOf "_law_pool" "_law_pool" (defArgs s__law_pool) (defBody s__law_pool) (defScope s__law_pool) .none kV19 dc19 pm19 an19 cd19 ct19), sl19⟩) (c19 : PySem.W.codeIn K cd19 "_law_pool" = true) (k19 : PySem.W.keepIn K (.ref f19) = true)
    (a20 : PySem.W.nsIn K mainGlobals "_law_mixed" = some (some (.ref f20))) (l20 : K.lookup f20 = some ⟨oc20, od20, .func (PySem.W.fnOf "_law_mixed" "_law_mixed" (defArgs s__law_mixed) (defBody s__law_mixed) (defScope s__law_mixed) .none kV20 dc20 pm20 an20 cd20 ct20), sl20⟩) (c20 : PySem.W.codeIn K cd20 "_law_mixed" = true) (k20 : PySem.W.keepIn K (.ref f20) = true)
    (a21 : PySem.W.nsIn K mainGlobals "_law_draw" = some (some (.ref f21))) (l21 : K.lookup f21 = some ⟨oc21, od21, .func (PySem.W.fnOf "_law_draw" "_law_draw" (defArgs s__law_draw) (defBody s__law_draw) (defScope s__law_draw) .none kV21 dc21 pm21 an21 cd21 ct21), sl21⟩) (c21 : PySem.W.codeIn K cd21 "_law_draw" = true) (k21 : PySem.W.keepIn K (.ref f21) = true) :
    ∃ fd : FuncData, (∀ (s : Shared) (v : Value), BindsTo s fd ⟨[v], []⟩ [("script", v)]) ∧ ∀ base : Heap, K.In base → base.Ns mainGlobals mg → FnOk l.prog w K mg base CX0 6 fa fd ["script"] (spLaw K) := by
  have e := hfa.symm.trans (PySem.W.mg_of X G a18)
  cases e
  have T : Tx K mg := ⟨PySem.W.mg_none_of X G z0, 
    PySem.W.mg_none_of X G z1, 
    PySem.W.mg_none_of X G z2, 
    PySem.W.mg_none_of X G z3, 
    PySem.W.mg_none_of X G z4, 
    PySem.W.mg_none_of X G z5, 
    PySem.W.mg_none_of X G z6, 
    PySem.W.mg_none_of X G z7, 
    PySem.W.mg_none_of X G z8, 
    ⟨_, PySem.W.mg_of X G g9, ⟨t9, rfl⟩⟩, 
    ⟨_, PySem.W.mg_of X G g10, ⟨t10, rfl⟩⟩, 
    ⟨⟨_, _, fun_mk (st := s_is_listing) l11 c11 k11, PySem.W.mg_of X G a11⟩⟩, 
    ⟨⟨_, _, fun_mk (st := s_is_plain) l12 c12 k12, PySem.W.mg_of X G a12⟩⟩, 
    ⟨⟨_, _, fun_mk (st := s_is_line) l13 c13 k13, PySem.W.mg_of X G a13⟩⟩, 
    ⟨⟨_, _, fun_mk (st := s_is_text) l14 c14 k14, PySem.W.mg_of X G a14⟩⟩, 
    ⟨⟨_, _, fun_mk (st := s__law_signs) l15 c15 k15, PySem.W.mg_of X G a15⟩⟩, 
    ⟨⟨_, _, fun_mk (st := s__law_is_line) l16 c16 k16, PySem.W.mg_of X G a16⟩⟩, 
    ⟨⟨_, _, fun_mk (st := s__law_truth) l17 c17 k17, PySem.W.mg_of X G a17⟩⟩, 
    ⟨⟨_, _, fun_mk (st := s_law) l18 c18 k18, PySem.W.mg_of X G a18⟩⟩, 
    ⟨⟨_, _, fun_mk (st := s__law_pool) l19 c19 k19, PySem.W.mg_of X G a19⟩⟩, 
    ⟨⟨_, _, fun_mk (st := s__law_mixed) l20 c20 k20, PySem.W.mg_of X G a20⟩⟩, 
    ⟨⟨_, _, fun_mk (st := s__law_draw) l21 c21 k21, PySem.W.mg_of X G a21⟩⟩⟩
  exact ⟨PySem.W.fnOf "law" "law" (defArgs s_law) (defBody s_law) (defScope s_law) .none kV18 dc18 pm18 an18 cd18 ct18, fun s v => .of_eq rfl, fun base _ _ => ok_law T (fun_mk (st := s_law) l18 c18 k18)⟩
end Pk
open PySem PySem.W PyProof.Rows
set_option maxRecDepth 100000 in
set_option maxHeartbeats 0 in
theorem PySem.Challenge.cw_lineorigins_k06_lines_and_texts_holds : PySem.Challenge.rw_lineorigins_k06_lines_and_texts.Holds := by
  w_on; o_law; k_head; (case hw => w_witness2)
  k_fill
  refine L2.walk_of (l := PySem.Challenge.rw_lineorigins_k06_lines_and_texts) (n := 63) (k := 6) (x := "script") (CX := fun _ => L2.CX0) (sp := fun w => Pk.spLaw _) rfl (by decide) rfl ⟨rfl, by decide, by decide⟩ (fun w h Y => PySem.W.kIn_of Y) ?F (fun _ _ a ns hl _ hS => ⟨a, ns, rfl, hS, hl, fun _ => rfl⟩) (fun _ _ _ _ _ h => h)
  case F =>
    intro w mg fa h KX G hmg
    refine' Pk.all_mk KX G hmg ?z0 ?z1 ?z2 ?z3 ?z4 ?z5 ?z6 ?z7 ?z8 ?g9 ?g10 ?a11 ?l11 ?c11 ?k11 ?a12 ?l12 ?c12 ?k12 ?a13 ?l13 ?c13 ?k13 ?a14 ?l14 ?c14 ?k14 ?a15 ?l15 ?c15 ?k15 ?a16 ?l16 ?c16 ?k16 ?a17 ?l17 ?c17 ?k17 ?a18 ?l18 ?c18 ?k18 ?a19 ?l19 ?c19 ?k19 ?a20 ?l20 ?c20 ?k20 ?a21 ?l21 ?c21 ?k21
    (case z0 => k_is)
    (case z1 => k_is)
    (case z2 => k_is)
    (case z3 => k_is)
    (case z4 => k_is)
    (case z5 => k_is)
    (case z6 => k_is)
    (case z7 => k_is)
    (case z8 => k_is)
    (case g9 => k_is)
    (case g10 => k_is)
    (case a11 => k_is)
    (case l11 => k_is)
    (case c11 => k_is)
    (case k11 => k_is)
    (case a12 => k_is)
    (case l12 => k_is)
    (case c12 => k_is)
    (case k12 => k_is)
    (case a13 => k_is)
    (case l13 => k_is)
    (case c13 => k_is)
    (case k13 => k_is)
    (case a14 => k_is)
    (case l14 => k_is)
    (case c14 => k_is)
    (case k14 => k_is)
    (case a15 => k_is)
    (case l15 => k_is)
    (case c15 => k_is)
    (case k15 => k_is)
    (case a16 => k_is)
    (case l16 => k_is)
    (case c16 => k_is)
    (case k16 => k_is)
    (case a17 => k_is)
    (case l17 => k_is)
    (case c17 => k_is)
    (case k17 => k_is)
    (case a18 => k_is)
    (case l18 => k_is)
    (case c18 => k_is)
    (case k18 => k_is)
    (case a19 => k_is)
    (case l19 => k_is)
    (case c19 => k_is)
    (case k19 => k_is)
    (case a20 => k_is)
    (case l20 => k_is)
    (case c20 => k_is)
    (case k20 => k_is)
    (case a21 => k_is)
    (case l21 => k_is)
    (case c21 => k_is)
    (case k21 => k_is)
