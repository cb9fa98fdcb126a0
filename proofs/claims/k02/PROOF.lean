import PyProof.Rows.All
import Wide.All
import OpenK.AllK
import Wide.FinOn
import HandS.ForMost
import HandS.ForExc
import HandS.IsInst
import HandS.Style
import HandS.Rev
import HandS.TryMany
import HandS.Evl
import HandS.EndBits
import PySem.Challenge.RW_loanplan_k02_days_added_up
set_option Elab.async false
set_option linter.all false
set_option maxRecDepth 100000
set_option maxHeartbeats 4000000
namespace Lp
open PySem L2

/-! ## readings by name -/
def NewT (xs : List V) (H : Hp) (Q : VK) : Prop := xs.length ≤ sizeLine ∧ ∀ p, H p = none → Q (.ref p) (upd H p (.tup xs))
def NewL (xs : List V) (H : Hp) (Q : VK) : Prop := xs.length ≤ sizeLine ∧ ∀ p, H p = none → Q (.ref p) (upd H p (.lst xs))
def rLen (K : PySem.W.Frag) : List V → Hp → VK → Prop := fun xs H Q => ∃ p ys, xs = [.ref p] ∧ (SqL K H p ys ∨ SqT K H p ys) ∧ Q (.int ys.length) H
theorem c_len {X : Cx} : CallR X (.builtin "len") (rLen X.K) := call_len_seq
def rListOf (K : PySem.W.Frag) : List V → Hp → VK → Prop := fun xs H Q => ∃ p ys, xs = [.ref p] ∧ (SqL K H p ys ∨ SqT K H p ys) ∧ ∀ l, H l = none → Q (.ref l) (upd H l (.lst ys))
theorem c_list {X : Cx} : CallR X (.type "list") (rListOf X.K) := call_list_of
def rMax2 : List V → Hp → VK → Prop := fun xs H Q => ∃ i j, xs = [.int i, .int j] ∧ Q (.int (if j > i then j else i)) H
theorem c_max {X : Cx} (hc : X.calm = true) : CallR X (.builtin "max") rMax2 := call_max2 hc
def rMin2 : List V → Hp → VK → Prop := fun xs H Q => ∃ i j, xs = [.int i, .int j] ∧ Q (.int (if j < i then j else i)) H
theorem c_min {X : Cx} (hc : X.calm = true) : CallR X (.builtin "min") rMin2 := call_min2 hc
def rInt1 : List V → Hp → VK → Prop := fun xs H Q => (∃ i, xs = [.int i] ∧ Q (.int i) H) ∨ ∃ k, xs = [.bl k] ∧ Q (.int (if k then 1 else 0)) H
theorem c_int {X : Cx} : CallR X (.type "int") rInt1 := call_int1
def rIsN0 : R2 := fun x y H Q => y = .non ∧ Q (.bl (decide (x = .non))) H
theorem c_isN {X : Cx} : OpR X (compareOp .Is) rIsN0 := op_isN
def rNotN0 : R2 := fun x y H Q => y = .non ∧ Q (.bl (!decide (x = .non))) H
theorem c_notN {X : Cx} : OpR X (compareOp .IsNot) rNotN0 := op_notN
def rFld (K : PySem.W.Frag) (f : Str) (x : V) (H : Hp) (Q : VK) : Prop := ∃ a C dx fs v, x = .ref a ∧ H a = some (.ins C dx fs) ∧ Cls K C ∧ NoAttr K C f ∧ fs.lookup f = some v ∧ Q v H
def rMeth (C : Addr) (m : Str) (x : V) (H : Hp) (R : Prop) : Prop := ∃ a dx fs, x = .ref a ∧ H a = some (.ins C dx fs) ∧ fs.lookup m = none ∧ R
/-! ## a reading, step by step -/
section
variable {σ : L2.St} {H : Hp} {Q : VK} {D : Ends} {K : PySem.W.Frag} {te ta tb : TE} {tt tu : TT} {t u w : TS}
theorem g_var {i : Nat} {v : V} (h : σ[i]? = some (some v)) (q : Q v H) : tVar i σ H Q := ⟨v, h, q⟩
theorem g_c {v : V} (q : Q v H) : tC v σ H Q := q
theorem g_op {r : R2} (h : ta σ H fun x H1 => tb σ H1 fun y H2 => r x y H2 Q) : tOp r ta tb σ H Q := h
theorem g_un {r : V → Hp → VK → Prop} (h : ta σ H fun x H1 => r x H1 Q) : tUn r ta σ H Q := h
theorem g_i0 {g : Int → Int → V} {a b : Int} (q : Q (g a b) H) : rI0 g (.int a) (.int b) H Q := ⟨a, b, rfl, rfl, q⟩
theorem g_i {C : Int → Int → Prop} {g : Int → Int → V} {a b : Int} (c : C a b) (q : Q (g a b) H) : rI C g (.int a) (.int b) H Q := ⟨a, b, rfl, rfl, c, q⟩
theorem g_u {g : Int → V} {a : Int} (q : Q (g a) H) : rU g (.int a) H Q := ⟨a, rfl, q⟩
theorem g_eqI {a b : Int} (q : Q (.bl (decide (a = b))) H) : rEq (.int a) (.int b) H Q := by
  refine ⟨rfl, ?_⟩
  have e : decide (V.int a = V.int b) = decide (a = b) := by
    by_cases h : a = b
    · rw [decide_eq_true h, h]; exact decide_eq_true rfl
    · rw [decide_eq_false h]; exact decide_eq_false fun q => h (V.int.inj q)
  rw [e]; exact q
theorem g_neI {a b : Int} (q : Q (.bl (decide (a ≠ b))) H) : rNe (.int a) (.int b) H Q := by
  refine ⟨rfl, ?_⟩
  have e : (!decide (V.int a = V.int b)) = decide (a ≠ b) := by
    by_cases h : a = b
    · subst h; simp
    · have h2 : ¬ V.int a = V.int b := fun q => h (V.int.inj q)
      rw [decide_eq_false h2, decide_eq_true h]; rfl
  rw [e]; exact q
theorem g_eqS {a b : Str} (q : Q (.bl (decide (a = b))) H) : rEq (.str a) (.str b) H Q := by
  refine ⟨rfl, ?_⟩
  have e : decide (V.str a = V.str b) = decide (a = b) := by
    by_cases h : a = b
    · rw [decide_eq_true h, h]; exact decide_eq_true rfl
    · rw [decide_eq_false h]; exact decide_eq_false fun q => h (V.str.inj q)
  rw [e]; exact q
theorem g_neS {a b : Str} (q : Q (.bl (decide (a ≠ b))) H) : rNe (.str a) (.str b) H Q := by
  refine ⟨rfl, ?_⟩
  have e : (!decide (V.str a = V.str b)) = decide (a ≠ b) := by
    by_cases h : a = b
    · subst h; simp
    · have h2 : ¬ V.str a = V.str b := fun q => h (V.str.inj q)
      rw [decide_eq_false h2, decide_eq_true h]; rfl
  rw [e]; exact q
theorem g_isNT (q : Q (.bl true) H) : rIsN0 .non .non H Q := ⟨rfl, by rw [decide_eq_true rfl]; exact q⟩
theorem g_isNI {i : Int} (q : Q (.bl false) H) : rIsN0 (.int i) .non H Q := ⟨rfl, by rw [decide_eq_false (by intro z; cases z)]; exact q⟩
theorem g_notNT (q : Q (.bl false) H) : rNotN0 .non .non H Q := ⟨rfl, by rw [decide_eq_true rfl]; exact q⟩
theorem g_notNI {i : Int} (q : Q (.bl true) H) : rNotN0 (.int i) .non H Q := ⟨rfl, by rw [decide_eq_false (by intro z; cases z)]; exact q⟩
theorem g_test {Q : Bool → Hp → Prop} (h : te σ H fun x H' => ∃ k, x = .bl k ∧ Q k H') : tTest te σ H Q := h
theorem g_tB {Q : Bool → Hp → Prop} (h : te σ H fun x H' => ∃ k, x = .bl k ∧ Q k H') : tB te σ H Q := h
theorem g_bl {Q : Bool → Hp → Prop} {b : Bool} (h : Q b H) : ∃ k, V.bl b = .bl k ∧ Q k H := ⟨b, rfl, h⟩
theorem g_and {Q : Bool → Hp → Prop} (h : tt σ H fun c H1 => if c = true then tu σ H1 Q else Q false H1) : tAnd tt tu σ H Q := h
theorem g_or {Q : Bool → Hp → Prop} (h : tt σ H fun c H1 => if c = true then Q true H1 else tu σ H1 Q) : tOr tt tu σ H Q := h
theorem g_not {Q : Bool → Hp → Prop} (h : tt σ H fun c H1 => Q (!c) H1) : tNot tt σ H Q := h
theorem g_andV (h : ta σ H fun x H1 => ∃ c, x = .bl c ∧ if c = true then tb σ H1 Q else Q (.bl false) H1) : tAndV ta tb σ H Q := h
theorem g_orV (h : ta σ H fun x H1 => ∃ c, x = .bl c ∧ if c = true then Q (.bl true) H1 else tb σ H1 Q) : tOrV ta tb σ H Q := h
theorem g_notV (h : ta σ H fun x H1 => ∃ c, x = .bl c ∧ Q (.bl (!c)) H1) : tNotV ta σ H Q := h
theorem g_blV {b : Bool} {P : Bool → Prop} (h : P b) : ∃ c, V.bl b = .bl c ∧ P c := ⟨b, rfl, h⟩
theorem g_chain {r r' : R2} {tc : TE} (h : ta σ H fun x H1 => tb σ H1 fun y H2 => r x y H2 fun z H3 => ∃ k, z = .bl k ∧
  (if k = true then tc σ H3 fun w' H4 => r' y w' H4 Q else Q (.bl false) H3)) : tChain r r' ta tb tc σ H Q := h
theorem g_ite {c A B : Prop} [Decidable c] (h1 : c → A) (h2 : ¬ c → B) : if decide c = true then A else B := by
  by_cases h : c
  · rw [decide_eq_true h]; exact iteT (h1 h)
  · rw [decide_eq_false h]; exact iteF (h2 h)
theorem g_iteN {c A B : Prop} [Decidable c] (h1 : ¬ c → A) (h2 : c → B) : if (!decide c) = true then A else B := by
  by_cases h : c
  · rw [decide_eq_true h]; exact iteF (h2 h)
  · rw [decide_eq_false h]; exact iteT (h1 h)
theorem g_iteT' {A B : Prop} (h : A) : if true = true then A else B := iteT h
theorem g_iteF' {A B : Prop} (h : B) : if false = true then A else B := iteF h
theorem g_iteTT {A B : Prop} [Decidable True] (h : A) : if True then A else B := by rw [if_pos True.intro]; exact h
theorem g_iteFF {A B : Prop} [Decidable False] (h : B) : if False then A else B := by rw [if_neg not_false]; exact h
theorem g_iteNT {A B : Prop} (h : B) : if (!true) = true then A else B := iteF h
theorem g_iteNF {A B : Prop} (h : A) : if (!false) = true then A else B := iteT h
theorem g_nil {Q : List V → Hp → Prop} (h : Q [] H) : tNil σ H Q := h
theorem g_cons {tr : TA} {Q : List V → Hp → Prop} (h : ta σ H fun x H1 => tr σ H1 fun xs H2 => Q (x :: xs) H2) : tCons ta tr σ H Q := h
theorem g_tup {tr : TA} (h : tr σ H fun xs H1 => NewT xs H1 Q) : tTup tr σ H Q := h
theorem g_lst {tr : TA} (h : tr σ H fun xs H1 => NewL xs H1 Q) : tLst tr σ H Q := h
theorem g_cb {r : List V → Hp → VK → Prop} {tr : TA} (h : tr σ H fun vs H1 => r vs H1 Q) : tCB r tr σ H Q := h
theorem g_bm {r : V → List V → Hp → VK → Prop} {T : String} {tr : TA} (h : ta σ H fun x H1 => tyV K T x H1 ∧ tr σ H1 fun xs H2 => r x xs H2 Q) : tBM K T r ta tr σ H Q := h
theorem g_call {sp : Sp} {dvs : List V} {E : XK} {tr : TA} (h : tr σ H fun vs H1 => sp (vs ++ dvs) H1 Q E) : tCall sp dvs E tr σ H Q := h
theorem g_meth {C : Addr} {m : Str} {sp : Sp} {dvs : List V} {E : XK} {tr : TA} (h : ta σ H fun x H1 => rMeth C m x H1 (tr σ H1 fun vs H2 => sp (x :: (vs ++ dvs)) H2 Q E)) : tMeth C m sp dvs E ta tr σ H Q := h
theorem g_fld {f : Str} (h : ta σ H fun x H1 => rFld K f x H1 Q) : tFld K ta f σ H Q := h
theorem g_make {C : Addr} {sp : Sp} {dvs : List V} {E : XK} {tr : TA} (h : tr σ H fun vs H1 => ∀ x dx, H1 x = none → H1 dx = none → dx ≠ x →
  sp (.ref x :: (vs ++ dvs)) (upd (upd H1 dx (.own x)) x (.ins C dx [])) (fun v H2 => v = .non ∧ Q (.ref x) H2) E) : tMake C sp dvs E tr σ H Q := h
/-! statements -/
theorem g_seq_asg {i : Nat} (h : te σ H fun x H1 => u D (σ.set i (some x)) H1) : tSeq (tAsg te (gName i)) u D σ H := h
theorem g_asg {i : Nat} (h : te σ H fun x H1 => D.nx (σ.set i (some x)) H1) : tAsg te (gName i) D σ H := h
theorem g_seq_asgT {g : TGs} {n : Nat} (h : te σ H fun x H1 => gTup K n g x σ H1 (u D)) : tSeq (tAsg te (gTup K n g)) u D σ H := h
theorem g_asgT {g : TGs} {n : Nat} (h : te σ H fun x H1 => gTup K n g x σ H1 D.nx) : tAsg te (gTup K n g) D σ H := h
theorem g_seq_if (h : tt σ H fun b H1 => if b = true then tSeq t u D σ H1 else tSeq w u D σ H1) : tSeq (tIfS tt t w) u D σ H := h
theorem g_if (h : tt σ H fun b H1 => if b = true then t D σ H1 else u D σ H1) : tIfS tt t u D σ H := h
theorem g_seq_next (h : u D σ H) : tSeq tNext u D σ H := h
theorem g_next (h : D.nx σ H) : tNext D σ H := h
theorem g_seq_ret (h : te σ H D.rt) : tSeq (tRet te) u D σ H := h
theorem g_ret (h : te σ H D.rt) : tRet te D σ H := h
theorem g_seq_seq (h : tSeq t (tSeq u w) D σ H) : tSeq (tSeq t u) w D σ H := h
theorem g_seq_drop (h : te σ H fun _ H1 => u D σ H1) : tSeq (tDrop te) u D σ H := h
theorem g_drop (h : te σ H fun _ H1 => D.nx σ H1) : tDrop te D σ H := h
theorem g_seq_par {i j : Nat} {tr : TA} (h : tr σ H fun vs H1 => ∃ v w, vs = [v, w] ∧ u D ((σ.set i (some v)).set j (some w)) H1) : tSeq (tPar i j tr) u D σ H := h
theorem g_par {i j : Nat} {tr : TA} (h : tr σ H fun vs H1 => ∃ v w, vs = [v, w] ∧ D.nx ((σ.set i (some v)).set j (some w)) H1) : tPar i j tr D σ H := h
theorem g_seq_bk (h : D.bk σ H) : tSeq tBreak u D σ H := h
theorem g_bk (h : D.bk σ H) : tBreak D σ H := h
theorem g_seq_ct (h : D.ct σ H) : tSeq tCont u D σ H := h
theorem g_ct (h : D.ct σ H) : tCont D σ H := h
theorem g_gn {i : Nat} {v : V} {R : L2.St → Hp → Prop} (h : R (σ.set i (some v)) H) : gName i v σ H R := h
theorem g_seq_for {wi : TI} {g : TG} (h : tFor wi g t { D with nx := u D } σ H) : tSeq (tFor wi g t) u D σ H := h
end
end Lp
namespace Lp
open PySem L2
/-! ## heaps that grow -/
theorem same_new {H : Hp} {p : Addr} {o : HO} (h : H p = none) : Same H (upd H p o) := fun b u e => by
  rw [upd_ne (ne_of_none e h)]; exact e
theorem same_upd {H H' : Hp} {p : Addr} {o : HO} (s : Same H H') (h : H p = none) : Same H (upd H' p o) := fun b u e => by
  rw [upd_ne (ne_of_none e h)]; exact s b u e
theorem same_to_new {H H' : Hp} {p : Addr} {o : HO} (s : Same H H') (h : H' p = none) : Same H (upd H' p o) := s.trans (same_new h)
/-- all but x is as it was -/
def But (x : Addr) (H H' : Hp) : Prop := ∀ b o, b ≠ x → H b = some o → H' b = some o
theorem But.same {x : Addr} {H H' : Hp} (s : Same H H') : But x H H' := fun b o _ e => s b o e
theorem But.trans {x : Addr} {H H1 H2 : Hp} (a : But x H H1) (b : But x H1 H2) : But x H H2 := fun c o n h => b c o n (a c o n h)
theorem but_upd {x : Addr} {H : Hp} {o : HO} : But x H (upd H x o) := fun b u n e => by rw [upd_ne n]; exact e
theorem SqL.same {K : PySem.W.Frag} {H H' : Hp} {a : Addr} {xs : List V} (h : SqL K H a xs) (e : Same H H') : SqL K H' a xs := e.seq h

/-! ## rows of pairs -/
abbrev Row := List (Int × Int)
inductive PairsAt (H : Hp) : List V → Row → Prop
  | nil : PairsAt H [] []
  | cons {q : Addr} {d r : Int} {xs : List V} {row : Row} : H q = some (.tup [.int d, .int r]) → PairsAt H xs row → PairsAt H (.ref q :: xs) ((d, r) :: row)
theorem PairsAt.len {H : Hp} : ∀ {xs : List V} {row : Row}, PairsAt H xs row → xs.length = row.length
  | _, _, .nil => rfl
  | _, _, .cons _ t => by rw [List.length_cons, List.length_cons, t.len]
theorem PairsAt.mono {H H' : Hp} (s : ∀ q ps, H q = some (.tup ps) → H' q = some (.tup ps)) : ∀ {xs : List V} {row : Row}, PairsAt H xs row → PairsAt H' xs row
  | _, _, .nil => .nil
  | _, _, .cons h t => .cons (s _ _ h) (t.mono s)
theorem PairsAt.app {H : Hp} : ∀ {xs ys : List V} {row row' : Row}, PairsAt H xs row → PairsAt H ys row' → PairsAt H (xs ++ ys) (row ++ row')
  | _, _, _, _, .nil, t => t
  | _, _, _, _, .cons h t, u => .cons h (t.app u)
theorem PairsAt.get {H : Hp} : ∀ {xs : List V} {row : Row} {i : Nat} {p : Int × Int}, PairsAt H xs row → row[i]? = some p → ∃ q, xs[i]? = some (.ref q) ∧ H q = some (.tup [.int p.1, .int p.2])
  | _, _, i, _, .nil, e => by simp at e
  | _, _, 0, _, .cons h t, e => by simp at e; subst e; exact ⟨_, rfl, h⟩
  | _, _, i + 1, _, .cons h t, e => by
    obtain ⟨q, h1, h2⟩ := t.get (i := i) (by simpa using e)
    exact ⟨q, by simpa using h1, h2⟩
theorem PairsAt.got {H : Hp} {xs : List V} {row : Row} {i : Nat} {v : V} (h : PairsAt H xs row) (e : xs[i]? = some v) : ∃ p q, row[i]? = some p ∧ v = .ref q ∧ H q = some (.tup [.int p.1, .int p.2]) := by
  have l : i < row.length := by rw [← h.len]; exact (List.getElem?_eq_some_iff.mp e).1
  obtain ⟨q, h1, h2⟩ := h.get (List.getElem?_eq_getElem l)
  rw [h1] at e
  exact ⟨_, q, List.getElem?_eq_getElem l, (Option.some.inj e).symm, h2⟩
theorem PairsAt.take {H : Hp} : ∀ {xs : List V} {row : Row} (n : Nat), PairsAt H xs row → PairsAt H (xs.take n) (row.take n)
  | _, _, 0, _ => .nil
  | _, _, _ + 1, .nil => .nil
  | _, _, n + 1, .cons h t => .cons h (t.take n)
theorem PairsAt.drop {H : Hp} : ∀ {xs : List V} {row : Row} (n : Nat), PairsAt H xs row → PairsAt H (xs.drop n) (row.drop n)
  | _, _, 0, h => h
  | _, _, _ + 1, .nil => .nil
  | _, _, n + 1, .cons h t => t.drop n
/-- a list at l of the row's pairs -/
def RowAt (H : Hp) (l : Addr) (row : Row) : Prop := ∃ xs, H l = some (.lst xs) ∧ PairsAt H xs row
theorem RowAt.same {H H' : Hp} {l : Addr} {row : Row} (h : RowAt H l row) (s : Same H H') : RowAt H' l row := by
  obtain ⟨xs, h1, h2⟩ := h
  exact ⟨xs, s _ _ h1, h2.mono fun q ps e => s _ _ e⟩
theorem RowAt.but {H H' : Hp} {l x : Addr} {row : Row} (h : RowAt H l row) (s : But x H H') (hl : l ≠ x) (hx : ∀ ps, H x ≠ some (.tup ps)) : RowAt H' l row := by
  obtain ⟨xs, h1, h2⟩ := h
  exact ⟨xs, s _ _ hl h1, h2.mono fun q ps e => s _ _ (fun z => hx ps (by rw [← z]; exact e)) e⟩
/-- one more pair at the list's end -/
theorem RowAt.snoc {H : Hp} {l q : Addr} {row : Row} {xs : List V} {d r : Int} (h2 : PairsAt H xs row) (hl : H l = some (.lst xs)) (hq : H q = some (.tup [.int d, .int r])) : RowAt (upd H l (.lst (xs ++ [.ref q]))) l (row ++ [(d, r)]) := by
  refine ⟨_, upd_same, ?_⟩
  have k : ∀ q ps, H q = some (.tup ps) → upd H l (.lst (xs ++ [.ref q])) q = some (.tup ps) := fun q ps e => by
    rw [upd_ne (ne_of e hl (by intro z; cases z))]; exact e
  refine PairsAt.app (h2.mono fun q ps e => ?_) (.cons ?_ .nil)
  · rw [upd_ne (ne_of e hl (by intro z; cases z))]; exact e
  · rw [upd_ne (ne_of hq hl (by intro z; cases z))]; exact hq
/-- the data that a row is -/
def rowD (row : Row) : PyData := .list (row.map fun p => .tuple [.int p.1, .int p.2])
theorem PairsAt.dp {K : PySem.W.Frag} {H : Hp} : ∀ {xs : List V} {row : Row}, PairsAt H xs row → DpAll K H xs (row.map fun p => .tuple [.int p.1, .int p.2])
  | _, _, .nil => .nil
  | _, _, .cons h t => .cons (.tup (SqT.of h) (.cons (.int _) (.cons (.int _) .nil))) t.dp
theorem RowAt.dp {K : PySem.W.Frag} {H : Hp} {l : Addr} {row : Row} (h : RowAt H l row) : Dp K H (.ref l) (rowD row) := by
  obtain ⟨xs, h1, h2⟩ := h
  exact .lst (SqL.of h1) h2.dp
theorem rowD_lay : ∀ row : Row, PyData.canLayAll0 (row.map fun p => PyData.tuple [.int p.1, .int p.2]) = true
  | [] => by simp [PyData.canLayAll0]
  | p :: r => by simp [PyData.canLayAll0, PyData.canLay0, rowD_lay r]
theorem rowD_dep : ∀ row : Row, PyData.depthAll (row.map fun p => PyData.tuple [.int p.1, .int p.2]) ≤ 3
  | [] => by simp [PyData.depthAll]
  | p :: r => by
    have := rowD_dep r
    simp only [List.map_cons, PyData.depthAll, PyData.depth]
    omega
theorem rowD_lay0 (row : Row) : (rowD row).canLay0 = true := by
  unfold rowD; simp only [PyData.canLay0]; exact rowD_lay row
theorem rowD_shaped (row : Row) : SeqAt.shaped (rowD row) = true := by
  have h1 := rowD_dep row
  have h2 : PyData.depth (rowD row) ≤ 64 := by unfold rowD; simp only [PyData.depth]; omega
  unfold SeqAt.shaped
  rw [Bool.and_eq_true]
  exact ⟨rowD_lay0 row, decide_eq_true h2⟩
section
variable {K : PySem.W.Frag} {H : Hp} {Q : VK}
theorem g_eqRow {a b : Addr} {row : Row} (ha : RowAt H a row) (hb : RowAt H b row) (q : Q (.bl true) H) : rEqD K (.ref a) (.ref b) H Q :=
  ⟨_, _, ha.dp, hb.dp, rowD_shaped _, rowD_shaped _, by rw [SeqAt.eqv_refl _ (rowD_lay0 _)]; exact q⟩
theorem g_neRow {a b : Addr} {row : Row} (ha : RowAt H a row) (hb : RowAt H b row) (q : Q (.bl false) H) : rNeD K (.ref a) (.ref b) H Q :=
  ⟨_, _, ha.dp, hb.dp, rowD_shaped _, rowD_shaped _, by rw [SeqAt.eqv_refl _ (rowD_lay0 _)]; exact q⟩
/-- len(list), list(list) -/
theorem g_len {p : Addr} {ys : List V} {n : Int} (h : SqL K H p ys) (e : (ys.length : Int) = n) (q : Q (.int n) H) : rLen K [.ref p] H Q := ⟨p, ys, rfl, .inl h, by rw [e]; exact q⟩
theorem g_lenT {p : Addr} {ys : List V} {n : Int} (h : SqT K H p ys) (e : (ys.length : Int) = n) (q : Q (.int n) H) : rLen K [.ref p] H Q := ⟨p, ys, rfl, .inr h, by rw [e]; exact q⟩
theorem g_listOf {p : Addr} {row : Row} (h : RowAt H p row) (q : ∀ l H', H l = none → Same H H' → RowAt H' l row → Q (.ref l) H') : rListOf K [.ref p] H Q := by
  obtain ⟨xs, h1, h2⟩ := h
  refine ⟨p, xs, rfl, .inl (SqL.of h1), fun l hl => q l _ hl (same_new hl) ⟨xs, upd_same, h2.mono fun q ps e => same_new hl _ _ e⟩⟩
theorem g_newT {xs : List V} (hl : xs.length ≤ 100) (h : ∀ p H', H p = none → Same H H' → H' p = some (.tup xs) → Q (.ref p) H') : NewT xs H Q :=
  ⟨Nat.le_trans hl (by decide), fun p hp => h p _ hp (same_new hp) upd_same⟩
theorem g_newL {xs : List V} (hl : xs.length ≤ 100) (h : ∀ p H', H p = none → Same H H' → H' p = some (.lst xs) → Q (.ref p) H') : NewL xs H Q :=
  ⟨Nat.le_trans hl (by decide), fun p hp => h p _ hp (same_new hp) upd_same⟩
theorem g_ixT {p : Addr} {xs : List V} {j : Nat} {v : V} (h : H p = some (.tup xs)) (e : xs[j]? = some v) (q : Q v H) : rIxT K (.ref p) (.int (j : Int)) H Q := ⟨p, xs, _, v, rfl, rfl, SqT.of h, atI_nat e, q⟩
theorem g_ixL {p : Addr} {xs : List V} {i : Int} {j : Nat} {v : V} (h : SqL K H p xs) (ei : i = (j : Int)) (e : xs[j]? = some v) (q : Q v H) : rIxL K (.ref p) (.int i) H Q := ⟨p, xs, _, v, rfl, rfl, h, by rw [ei]; exact atI_nat e, q⟩
/-- row[i] -/
theorem g_ixRow {p : Addr} {row : Row} {i : Int} {j : Nat} {d r : Int} (h : RowAt H p row) (ei : i = (j : Int)) (e : row[j]? = some (d, r)) (q : ∀ t, H t = some (.tup [.int d, .int r]) → Q (.ref t) H) : rIxL K (.ref p) (.int i) H Q := by
  obtain ⟨xs, h1, h2⟩ := h
  obtain ⟨t, e1, e2⟩ := h2.get e
  exact g_ixL (SqL.of h1) ei e1 (q t e2)
/-- row[-1] -/
theorem g_ixLast {p : Addr} {row : Row} {i : Int} {d r : Int} (h : RowAt H p row) (ei : i = -1) (e : row.getLast? = some (d, r)) (q : ∀ t, H t = some (.tup [.int d, .int r]) → Q (.ref t) H) : rIxL K (.ref p) (.int i) H Q := by
  obtain ⟨xs, h1, h2⟩ := h
  rw [List.getLast?_eq_getElem?] at e
  obtain ⟨t, e1, e2⟩ := h2.get e
  have n := h2.len
  have hn : row.length - 1 < row.length := by
    have := (List.getElem?_eq_some_iff.mp e).1; exact this
  have e3 : xs.getLast? = some (.ref t) := by rw [List.getLast?_eq_getElem?, n]; exact e1
  obtain ⟨ys, ex⟩ := List.getLast?_eq_some_iff.mp e3
  refine ⟨p, xs, i, .ref t, rfl, rfl, SqL.of h1, ?_, q t e2⟩
  rw [ei, ex]
  exact atI_last _ _
/-- len(row) -/
theorem g_lenRow {p : Addr} {row : Row} {n : Int} (h : RowAt H p row) (e : (row.length : Int) = n) (q : Q (.int n) H) : rLen K [.ref p] H Q := by
  obtain ⟨xs, h1, h2⟩ := h
  exact g_len (SqL.of h1) (by rw [h2.len]; exact e) q
theorem g_max2 {a b : Int} (q : Q (.int (max a b)) H) : rMax2 [.int a, .int b] H Q := ⟨a, b, rfl, by
  have e : (if b > a then b else a) = max a b := by split <;> omega
  rw [e]; exact q⟩
theorem g_min2 {a b : Int} (q : Q (.int (min a b)) H) : rMin2 [.int a, .int b] H Q := ⟨a, b, rfl, by
  have e : (if b < a then b else a) = min a b := by split <;> omega
  rw [e]; exact q⟩
/-- for a, b in a pair's tuple -/
theorem g_unp2 {σ : L2.St} {i j : Nat} {p : Addr} {v w : V} {R : L2.St → Hp → Prop} (h : H p = some (.tup [v, w])) (q : R ((σ.set i (some v)).set j (some w)) H) : gTup K 2 (gCons (gName i) (gCons (gName j) gNil)) (.ref p) σ H R :=
  ⟨p, [v, w], rfl, SqT.of h, rfl, v, [w], rfl, w, [], rfl, rfl, q⟩
/-- isinstance(int, int), (int, bool) -/
theorem g_isInt {a : Int} (q : Q (.bl true) H) : rIsi K [.int a, .ty "int"] H Q := ⟨_, _, _, _, true, rfl, .ty _, .base (.int a), kit_ty (by decide +kernel), q⟩
theorem g_isBool {a : Int} (q : Q (.bl false) H) : rIsi K [.int a, .ty "bool"] H Q := ⟨_, _, _, _, false, rfl, .ty _, .base (.int a), kit_ty (by decide +kernel), q⟩
theorem g_isTup {p : Addr} {xs : List V} (h : H p = some (.tup xs)) (q : Q (.bl true) H) : rIsi K [.ref p, .ty "tuple"] H Q := ⟨_, _, _, _, true, rfl, .ty _, .base (.tup h), kit_ty (by decide +kernel), q⟩
theorem g_isLst {p : Addr} {xs : List V} (h : H p = some (.lst xs)) (q : Q (.bl true) H) : rIsi K [.ref p, .ty "list"] H Q := ⟨_, _, _, _, true, rfl, .ty _, .base (.lst h), kit_ty (by decide +kernel), q⟩
end
/-! ## an int's product of any size within the script's bits -/
section
variable {X : Cx}
theorem op_mulX : OpR X (binaryOp .Mult) (rI IntMulOk fun i j => .int (i * j)) := opI fun _ _ _ _ _ _ _ hc q => PyProof.Rows.mul_int q hc
end
end Lp
namespace Lp
/-! ## the numbers: plain Lean -/
abbrev Pairs := List (Int × Int)
def cellAt (ns : List Int) (k : Int) : Int := ns.getD k.toNat 0
def mixed (c m : Int) : Int := (c * 48271 + 12345) % 2147483647 % m
def rateBy (c : Int) : Int := if c % 5 = 0 then [0, 1, 99999, 100000].getD (c / 5 % 4).toNat 0 else if c % 5 = 1 then c / 5 % 400 else mixed c 100001
theorem mixed_lo {c m : Int} (h : 0 < m) : 0 ≤ mixed c m := Int.emod_nonneg _ (by omega)
theorem mixed_hi {c m : Int} (h : 0 < m) : mixed c m < m := Int.emod_lt_of_pos _ h
theorem rateBy_ok (c : Int) : 0 ≤ rateBy c ∧ rateBy c ≤ 100000 := by
  unfold rateBy
  split
  · have h : c / 5 % 4 = 0 ∨ c / 5 % 4 = 1 ∨ c / 5 % 4 = 2 ∨ c / 5 % 4 = 3 := by omega
    rcases h with h | h | h | h <;> rw [h] <;> decide
  · split
    · omega
    · have := mixed_lo (c := c) (m := 100001) (by decide)
      have := mixed_hi (c := c) (m := 100001) (by decide)
      omega
def lastDay (row : Pairs) : Int := (row.getLast?.getD (0, 0)).1
def lastRate (row : Pairs) : Int := (row.getLast?.getD (0, 0)).2
/-- the row with n more pairs behind the first -/
def rowN (c w : Int) : Nat → Pairs
  | 0 => [(0, rateBy c)]
  | n + 1 => rowN c w n ++ [(lastDay (rowN c w n) + 1 + mixed (c + 13 * (1 + (n : Int))) w, rateBy (c / 7 + 31 * (1 + (n : Int))))]
def rowBy (c m w : Int) : Pairs := rowN c w (m - 1).toNat
theorem last_snoc {α : Type} (l : List α) (x : α) : (l ++ [x]).getLast? = some x := by simp
theorem rowN_len (c w : Int) : ∀ n, (rowN c w n).length = n + 1
  | 0 => rfl
  | n + 1 => by rw [rowN, List.length_append, rowN_len c w n]; rfl
theorem rowN_last (c w : Int) (n : Nat) : ∃ d r, (rowN c w n).getLast? = some (d, r) ∧ lastDay (rowN c w n) = d ∧ lastRate (rowN c w n) = r := by
  cases n with
  | zero => exact ⟨0, rateBy c, rfl, rfl, rfl⟩
  | succ n =>
    refine ⟨_, _, by rw [rowN]; exact last_snoc _ _, ?_, ?_⟩
    · unfold lastDay; rw [rowN, last_snoc]; rfl
    · unfold lastRate; rw [rowN, last_snoc]; rfl
/-- a good row: it begins with day 0, days grow, rates are in bounds -/
structure RowOk (row : Pairs) : Prop where
  head : ∃ r t, row = (0, r) :: t
  asc : row.Pairwise fun p q => p.1 < q.1
  rate : ∀ p ∈ row, 0 ≤ p.2 ∧ p.2 ≤ 100000
theorem RowOk.ne {row : Pairs} (h : RowOk row) : row ≠ [] := by obtain ⟨r, t, e⟩ := h.head; rw [e]; simp
theorem RowOk.pos {row : Pairs} (h : RowOk row) : 0 < row.length := List.length_pos_iff.mpr h.ne
theorem lastDay_snoc (row : Pairs) (p : Int × Int) : lastDay (row ++ [p]) = p.1 := by unfold lastDay; rw [last_snoc]; rfl
theorem lastRate_snoc (row : Pairs) (p : Int × Int) : lastRate (row ++ [p]) = p.2 := by unfold lastRate; rw [last_snoc]; rfl
theorem RowOk.le_last {row : Pairs} (h : row.Pairwise fun p q => p.1 < q.1) : ∀ p ∈ row, p.1 ≤ lastDay row := by
  rcases List.eq_nil_or_concat row with e | ⟨l, x, e⟩
  · subst e; intro p hp; cases hp
  · rw [List.concat_eq_append] at e
    subst e
    intro p hp
    rw [lastDay_snoc]
    rcases List.mem_append.mp hp with hp | hp
    · exact Int.le_of_lt ((List.pairwise_append.mp h).2.2 p hp x (by simp))
    · have e : p = x := by simpa using hp
      rw [e]; exact Int.le_refl _
theorem RowOk.snoc {row : Pairs} (h : RowOk row) {d r : Int} (hd : lastDay row < d) (h0 : 0 ≤ r) (h1 : r ≤ 100000) : RowOk (row ++ [(d, r)]) := by
  obtain ⟨a, t, e⟩ := h.head
  refine ⟨⟨a, t ++ [(d, r)], by rw [e]; rfl⟩, ?_, ?_⟩
  · refine List.pairwise_append.mpr ⟨h.asc, by simp, fun p hp q hq => ?_⟩
    have e : q = (d, r) := by simpa using hq
    rw [e]
    exact Int.lt_of_le_of_lt (RowOk.le_last h.asc p hp) hd
  · intro p hp
    rcases List.mem_append.mp hp with hp | hp
    · exact h.rate p hp
    · have e : p = (d, r) := by simpa using hp
      rw [e]; exact ⟨h0, h1⟩
theorem rowN_ok (c : Int) {w : Int} (hw : 0 < w) : ∀ n, RowOk (rowN c w n)
  | 0 => ⟨⟨_, _, rfl⟩, by simp [rowN], fun p hp => by
      have e : p = (0, rateBy c) := by simpa [rowN] using hp
      rw [e]; exact rateBy_ok c⟩
  | n + 1 => by
    rw [rowN]
    have := mixed_lo (c := c + 13 * (1 + (n : Int))) hw
    exact (rowN_ok c hw n).snoc (by omega) (rateBy_ok _).1 (rateBy_ok _).2
theorem rowN_day (c : Int) {w : Int} (hw : 0 < w) : ∀ n : Nat, 0 ≤ lastDay (rowN c w n) ∧ lastDay (rowN c w n) ≤ (n : Int) * w
  | 0 => by simp [rowN, lastDay]
  | n + 1 => by
    have ih := rowN_day c hw n
    rw [rowN, lastDay_snoc]
    have h1 := mixed_lo (c := c + 13 * (1 + (n : Int))) hw
    have h2 := mixed_hi (c := c + 13 * (1 + (n : Int))) hw
    have e : ((n + 1 : Nat) : Int) * w = (n : Int) * w + w := by
      rw [Int.natCast_succ, Int.add_mul, Int.one_mul]
    constructor
    · show 0 ≤ lastDay (rowN c w n) + 1 + mixed (c + 13 * (1 + (n : Int))) w
      omega
    · show lastDay (rowN c w n) + 1 + mixed (c + 13 * (1 + (n : Int))) w ≤ ((n + 1 : Nat) : Int) * w
      rw [e]; omega
/-! ### the rate of a day -/
def rateOf (row : Pairs) (d : Int) : Int := row.foldl (fun f p => if p.1 ≤ d then p.2 else f) 0
theorem rateOf_snoc (row : Pairs) (p : Int × Int) (d : Int) : rateOf (row ++ [p]) d = if p.1 ≤ d then p.2 else rateOf row d := by
  unfold rateOf; rw [List.foldl_append]; rfl
theorem take_snoc {α : Type} {l : List α} {i : Nat} {x : α} (h : l[i]? = some x) : l.take (i + 1) = l.take i ++ [x] := by
  rw [List.take_succ, h]; rfl
theorem rateOf_take {row : Pairs} {i : Nat} {p : Int × Int} (h : row[i]? = some p) (d : Int) : rateOf (row.take (i + 1)) d = if p.1 ≤ d then p.2 else rateOf (row.take i) d := by
  rw [take_snoc h, rateOf_snoc]
/-- from the last pair back: all pairs from the n-th on are later -/
theorem rateOf_back {row : Pairs} (h : row.Pairwise fun p q => p.1 < q.1) {d : Int} : ∀ (k n : Nat), n + k = row.length → (∀ j p, n ≤ j → row[j]? = some p → d < p.1) → rateOf row d = rateOf (row.take n) d
  | 0, n, e, _ => by
    have e2 : row.take n = row := by rw [List.take_of_length_le (by omega)]
    rw [e2]
  | k + 1, n, e, hl => by
    have hn : n < row.length := by omega
    have ih := rateOf_back h k (n + 1) (by omega) (fun j p hj hp => hl j p (by omega) hp)
    rw [ih, rateOf_take (List.getElem?_eq_getElem hn)]
    have := hl n _ (Nat.le_refl _) (List.getElem?_eq_getElem hn)
    rw [if_neg (by omega)]
end Lp
namespace Lp
theorem rowBy_len {c m w : Int} (h : 1 ≤ m) : ((rowBy c m w).length : Int) = m := by
  unfold rowBy; rw [rowN_len]; omega
theorem rowBy_ok {c m w : Int} (h : 0 < w) : RowOk (rowBy c m w) := rowN_ok c h _
theorem row_at {row : Pairs} {i : Int} (h0 : 0 ≤ i) (h1 : i < row.length) : ∃ d r, row[i.toNat]? = some (d, r) ∧ i = (i.toNat : Int) :=
  ⟨_, _, List.getElem?_eq_getElem (by omega), by omega⟩
theorem row_0 {row : Pairs} (h : RowOk row) : ∃ r, row[0]? = some (0, r) := by
  obtain ⟨r, t, e⟩ := h.head; rw [e]; exact ⟨r, rfl⟩
end Lp
namespace Lp
theorem rowN_days (c : Int) {w : Int} (hw : 0 < w) (n : Nat) : ∀ p ∈ rowN c w n, 0 ≤ p.1 ∧ p.1 ≤ (n : Int) * w := by
  intro p hp
  have ok := rowN_ok c hw n
  have h1 := RowOk.le_last ok.asc p hp
  have h2 := rowN_day c hw n
  refine ⟨?_, by omega⟩
  obtain ⟨r, t, e⟩ := ok.head
  rw [e] at hp
  rcases List.mem_cons.mp hp with z | z
  · rw [z]; exact Int.le_refl _
  · have := ok.asc
    rw [e] at this
    exact Int.le_of_lt ((List.pairwise_cons.mp this).1 p z)
theorem rowBy_day {c m w : Int} (hw : 0 < w) (hm : 1 ≤ m) : ∀ p ∈ rowBy c m w, 0 ≤ p.1 ∧ p.1 ≤ (m - 1) * w := by
  intro p hp
  have h := rowN_days c hw (m - 1).toNat p hp
  have e : ((m - 1).toNat : Int) = m - 1 := by omega
  rw [e] at h
  exact h
theorem RowOk.nonneg {row : Pairs} (ok : RowOk row) : ∀ p ∈ row, 0 ≤ p.1 := by
  intro p hp
  obtain ⟨r, t, e⟩ := ok.head
  rw [e] at hp
  rcases List.mem_cons.mp hp with z | z
  · rw [z]; exact Int.le_refl _
  · have := ok.asc
    rw [e] at this
    exact Int.le_of_lt ((List.pairwise_cons.mp this).1 p z)
end Lp
namespace Lp
/-! ## stretches of days -/
def sumDays (row : Pairs) (s : Int) : Nat → Int
  | 0 => 0
  | n + 1 => sumDays row s n + rateOf row (s + 1 + (n : Int))
def grownF (row : Pairs) (s e : Int) : Int := sumDays row s (e - s).toNat
theorem sumDays_add (row : Pairs) (s : Int) (m : Nat) : ∀ n, sumDays row s (m + n) = sumDays row s m + sumDays row (s + m) n
  | 0 => by simp [sumDays]
  | n + 1 => by
    have ih := sumDays_add row s m n
    show sumDays row s (m + n) + rateOf row (s + 1 + ((m + n : Nat) : Int)) = sumDays row s m + (sumDays row (s + m) n + rateOf row (s + m + 1 + (n : Int)))
    have e : s + 1 + ((m + n : Nat) : Int) = s + m + 1 + (n : Int) := by omega
    rw [ih, e]; omega
theorem sumDays_congr {r1 r2 : Pairs} {s : Int} : ∀ {n : Nat}, (∀ d, s < d → d ≤ s + n → rateOf r1 d = rateOf r2 d) → sumDays r1 s n = sumDays r2 s n
  | 0, _ => rfl
  | n + 1, h => by
    show sumDays r1 s n + _ = sumDays r2 s n + _
    rw [sumDays_congr (n := n) (fun d h1 h2 => h d h1 (by omega)), h (s + 1 + n) (by omega) (by omega)]
theorem sumDays_const {r : Pairs} {s c : Int} : ∀ {n : Nat}, (∀ d, s < d → d ≤ s + n → rateOf r d = c) → sumDays r s n = c * n
  | 0, _ => by simp [sumDays]
  | n + 1, h => by
    show sumDays r s n + _ = _
    rw [sumDays_const (n := n) (fun d h1 h2 => h d h1 (by omega)), h (s + 1 + n) (by omega) (by omega), Int.natCast_succ, Int.mul_add, Int.mul_one]
theorem grownF_same (row : Pairs) (s : Int) : grownF row s s = 0 := by unfold grownF; rw [Int.sub_self]; rfl
theorem grownF_split (row : Pairs) {s m e : Int} (h1 : s ≤ m) (h2 : m ≤ e) : grownF row s e = grownF row s m + grownF row m e := by
  unfold grownF
  have e1 : (e - s).toNat = (m - s).toNat + (e - m).toNat := by omega
  have e2 : s + ((m - s).toNat : Int) = m := by omega
  rw [e1, sumDays_add, e2]
theorem grownF_congr {r1 r2 : Pairs} {s e : Int} (h : ∀ d, s < d → d ≤ e → rateOf r1 d = rateOf r2 d) : grownF r1 s e = grownF r2 s e := by
  unfold grownF
  by_cases c : s ≤ e
  · exact sumDays_congr fun d h1 h2 => h d h1 (by omega)
  · have z : (e - s).toNat = 0 := by omega
    rw [z]; rfl
theorem grownF_const {r : Pairs} {s e c : Int} (hs : s ≤ e) (h : ∀ d, s < d → d ≤ e → rateOf r d = c) : grownF r s e = c * (e - s) := by
  unfold grownF
  rw [sumDays_const (c := c) fun d h1 h2 => h d h1 (by omega)]
  have e1 : ((e - s).toNat : Int) = e - s := by omega
  rw [e1]
theorem grownF_nil (s e : Int) : grownF [] s e = 0 := by
  by_cases c : s ≤ e
  · rw [grownF_const (c := 0) c fun d _ _ => rfl, Int.zero_mul]
  · unfold grownF
    have z : (e - s).toNat = 0 := by omega
    rw [z]; rfl
/-- one more pair behind: the days from its own on are its -/
theorem grownF_snoc (l : Pairs) (p : Int × Int) {s u : Int} (h : s ≤ u) : grownF (l ++ [p]) s u = if max s (p.1 - 1) < u then grownF l s (max s (p.1 - 1)) + p.2 * (u - max s (p.1 - 1)) else grownF l s u := by
  split
  · rename_i c
    rw [grownF_split (l ++ [p]) (m := max s (p.1 - 1)) (by omega) (by omega)]
    have a1 : grownF (l ++ [p]) s (max s (p.1 - 1)) = grownF l s (max s (p.1 - 1)) := grownF_congr fun d h1 h2 => by rw [rateOf_snoc, if_neg (by omega)]
    have a2 : grownF (l ++ [p]) (max s (p.1 - 1)) u = p.2 * (u - max s (p.1 - 1)) := grownF_const (by omega) fun d h1 h2 => by rw [rateOf_snoc, if_pos (by omega)]
    rw [a1, a2]
  · rename_i c
    exact grownF_congr fun d h1 h2 => by rw [rateOf_snoc, if_neg (by omega)]
theorem rateOf_late {row : Pairs} (h : row.Pairwise fun p q => p.1 < q.1) (hn : row ≠ []) {d : Int} (hd : lastDay row ≤ d) : rateOf row d = lastRate row := by
  rcases List.eq_nil_or_concat row with e | ⟨l, x, e⟩
  · exact absurd e hn
  · rw [List.concat_eq_append] at e
    subst e
    rw [lastDay_snoc] at hd
    rw [rateOf_snoc, if_pos hd, lastRate_snoc]
/-- .. told by how much its rate is more -/
theorem grownF_more {l : Pairs} (ha : l.Pairwise fun p q => p.1 < q.1) (hn : l ≠ []) {p : Int × Int} (hp : lastDay l < p.1) {s e : Int} (h : s ≤ e) :
    grownF (l ++ [p]) s e = if 0 < e - max s (p.1 - 1) then grownF l s e + (p.2 - lastRate l) * (e - max s (p.1 - 1)) else grownF l s e := by
  rw [grownF_snoc l p h]
  by_cases c : max s (p.1 - 1) < e
  · rw [if_pos c, if_pos (by omega), grownF_split l (m := max s (p.1 - 1)) (by omega) (by omega) (e := e)]
    have a1 : grownF l (max s (p.1 - 1)) e = lastRate l * (e - max s (p.1 - 1)) := grownF_const (by omega) fun d h1 h2 => rateOf_late ha hn (by omega)
    rw [a1, Int.sub_mul]
    omega
  · rw [if_neg c, if_neg (by omega)]
theorem grownF_one {r s e : Int} (h0 : 0 ≤ s) (h : s ≤ e) : grownF [(0, r)] s e = r * (e - s) := grownF_const h fun d h1 h2 => by
  show (if (0 : Int) ≤ d then r else 0) = r
  rw [if_pos (by omega)]
theorem rateOf_bounds {row : Pairs} (h : ∀ p ∈ row, 0 ≤ p.2 ∧ p.2 ≤ 100000) (d : Int) : 0 ≤ rateOf row d ∧ rateOf row d ≤ 100000 := by
  rcases List.eq_nil_or_concat row with e | ⟨l, x, e⟩
  · subst e; exact ⟨Int.le_refl _, show (0 : Int) ≤ 100000 by decide⟩
  · rw [List.concat_eq_append] at e
    subst e
    rw [rateOf_snoc]
    split
    · exact h x (by simp)
    · exact rateOf_bounds (fun p hp => h p (by simp [hp])) d
termination_by row.length
decreasing_by subst e; simp
theorem sumDays_bounds {row : Pairs} (h : ∀ p ∈ row, 0 ≤ p.2 ∧ p.2 ≤ 100000) (s : Int) : ∀ n : Nat, 0 ≤ sumDays row s n ∧ sumDays row s n ≤ 100000 * n
  | 0 => by simp [sumDays]
  | n + 1 => by
    have ih := sumDays_bounds h s n
    have b := rateOf_bounds h (s + 1 + n)
    show 0 ≤ sumDays row s n + _ ∧ sumDays row s n + _ ≤ _
    omega
theorem grownF_bounds {row : Pairs} (h : ∀ p ∈ row, 0 ≤ p.2 ∧ p.2 ≤ 100000) {s e : Int} (hs : s ≤ e) : 0 ≤ grownF row s e ∧ grownF row s e ≤ 100000 * (e - s) := by
  have b := sumDays_bounds h s (e - s).toNat
  unfold grownF
  omega
theorem lastRate_take {row : Pairs} {i : Nat} {p : Int × Int} (h : row[i]? = some p) : lastRate (row.take (i + 1)) = p.2 := by rw [take_snoc h, lastRate_snoc]
theorem lastDay_take {row : Pairs} {i : Nat} {p : Int × Int} (h : row[i]? = some p) : lastDay (row.take (i + 1)) = p.1 := by rw [take_snoc h, lastDay_snoc]
/-- the k-th pair behind the k first -/
theorem grownF_take {row : Pairs} (ok : RowOk row) {k : Nat} {p q : Int × Int} (hp : row[k]? = some p) (hq : row[k + 1]? = some q) {s e : Int} (h : s ≤ e) :
    grownF (row.take (k + 2)) s e = if 0 < e - max s (q.1 - 1) then grownF (row.take (k + 1)) s e + (q.2 - p.2) * (e - max s (q.1 - 1)) else grownF (row.take (k + 1)) s e := by
  have a : (row.take (k + 1)).Pairwise fun p q => p.1 < q.1 := ok.asc.sublist (List.take_sublist _ _)
  have n : row.take (k + 1) ≠ [] := by rw [take_snoc hp]; simp
  have l : lastDay (row.take (k + 1)) < q.1 := by
    rw [lastDay_take hp]
    obtain ⟨h1, e1⟩ := List.getElem?_eq_some_iff.mp hp
    obtain ⟨h2, e2⟩ := List.getElem?_eq_some_iff.mp hq
    have := List.pairwise_iff_getElem.mp ok.asc k (k + 1) h1 h2 (by omega)
    rw [e1, e2] at this
    exact this
  rw [take_snoc hq, grownF_more a n l h, lastRate_take hp]
theorem grownF_succ (row : Pairs) {s e : Int} (h : s ≤ e) : grownF row s (e + 1) = grownF row s e + rateOf row (e + 1) := by
  rw [grownF_split row h (show e ≤ e + 1 by omega), grownF_const (r := row) (s := e) (e := e + 1) (c := rateOf row (e + 1)) (by omega) fun d h1 h2 => by rw [show d = e + 1 by omega]]
  rw [show e + 1 - e = 1 by omega, Int.mul_one]
end Lp
namespace Lp
open PySem L2
section
variable {σ : L2.St} {H : Hp} {Q : VK} {E : XK} {D : Ends} {K : PySem.W.Frag} {te ta tb : TE} {tt tu : TT} {t u w : TS}
/-! ## objects that are made, lists that grow -/
theorem g_tyL {l : Addr} {xs : List V} {R : Prop} (h : H l = some (.lst xs)) (q : R) : tyV K "list" (.ref l) H ∧ R := ⟨.inl ⟨rfl, _, SqL.of h⟩, q⟩
theorem g_append {l : Addr} {xs : List V} {y : V} (h : H l = some (.lst xs)) (hz : xs.length ≤ 100000) (q : Q .non (upd H l (.lst (xs ++ [y])))) : rAppend (.ref l) [y] H Q :=
  ⟨l, xs, y, rfl, rfl, h, Nat.lt_of_le_of_lt hz (by decide), q⟩
theorem g_cat {l b : Addr} {xs zs : List V} (h1 : H l = some (.lst xs)) (h2 : H b = some (.lst zs)) (hz : xs.length + zs.length ≤ 100000) (q : ∀ p H', H p = none → Same H H' → H' p = some (.lst (xs ++ zs)) → Q (.ref p) H') : rCat (.ref l) (.ref b) H Q :=
  ⟨l, b, xs, zs, rfl, rfl, h1, h2, Nat.le_trans hz (by decide), fun p hp => q p _ hp (same_new hp) upd_same⟩
theorem g_sorted {l : Addr} {ns : List Int} (h : SqL K H l (ns.map V.int)) (hz : ns.length < 64) (q : ∀ (ms : List Int) p H', ms.Perm ns → ms.Pairwise (· ≤ ·) → H p = none → Same H H' → H' p = some (.lst (ms.map V.int)) → Q (.ref p) H') : rSorted K [.ref l] H Q :=
  ⟨l, ns, rfl, h, hz, fun ms p h1 h2 h3 => q ms p _ h1 h2 h3 (same_new h3) upd_same⟩
theorem g_intB {b : Bool} (q : Q (.int (if b = true then 1 else 0)) H) : rInt1 [.bl b] H Q := .inr ⟨b, rfl, q⟩
theorem g_intI {i : Int} (q : Q (.int i) H) : rInt1 [.int i] H Q := .inl ⟨i, rfl, q⟩
/-! ## loops -/
theorem g_forL {i : Nat} {a : Addr} {xs : List V} {g : TG} (hv : σ[i]? = some (some (.ref a))) (hx : SqL K H a xs) (Pv : L2.St → Nat → L2.St → Hp → Prop) (h0 : Pv σ 0 σ H) (hl : ∀ i σ' H', i ≤ xs.length → Pv σ i σ' H' → SqL K H' a xs)
    (hs : ∀ i x σ' H', xs[i]? = some x → Pv σ i σ' H' → g x σ' H' fun σ2 H2 => t { D with nx := Pv σ (i + 1), ct := Pv σ (i + 1), bk := D.nx } σ2 H2) (hd : ∀ σ' H', Pv σ xs.length σ' H' → D.nx σ' H') : tFor (iList K (tVar i)) g t D σ H :=
  ⟨_, hv, a, rfl, ⟨xs, hx⟩, for_list (Pv σ) h0 hl hs hd⟩
/-- for over reversed(name) -/
theorem g_forRev {i : Nat} {a : Addr} {xs : List V} {g : TG} (hv : σ[i]? = some (some (.ref a))) (hx : SqL K H a xs) (Pv : L2.St → Nat → L2.St → Hp → Prop) (h0 : Pv σ 0 σ H) (hl : ∀ i σ' H', Pv σ i σ' H' → SqL K H' a xs)
    (hs : ∀ i x σ' H', i < xs.length → xs[xs.length - 1 - i]? = some x → Pv σ i σ' H' → g x σ' H' fun σ2 H2 => t { D with nx := Pv σ (i + 1), ct := Pv σ (i + 1), bk := D.nx } σ2 H2) (hd : ∀ σ' H', Pv σ xs.length σ' H' → D.nx σ' H') : tFor (iRev K (tCons (tVar i) tNil)) g t D σ H :=
  ⟨_, hv, a, xs, rfl, hx, RT.for_Itv (Pv σ) h0 hl hs hd⟩
theorem g_for2 {tr : TA} {g : TG} (h : tr σ H fun vs H1 => ∃ lo hi : Int, vs = [.int lo, .int hi] ∧ (-(2 ^ 62) ≤ lo ∧ lo < 2 ^ 62 ∧ -(2 ^ 62) ≤ hi ∧ hi < 2 ^ 62) ∧
    ∃ W : Nat → Nat → L2.St → Hp → Prop, (∃ m, W 0 m σ H1) ∧ ∀ i m σ H, W i m σ H →
      ((Itr lo (hi - lo).toNat).stop i H ∧ D.nx σ H) ∨ ((Itr lo (hi - lo).toNat).go i H ∧ ∃ N : L2.St → Hp → Prop, (∀ σ' H', N σ' H' → ∃ m', m' < m ∧ W (i + 1) m' σ' H') ∧ ∀ x H', (Itr lo (hi - lo).toNat).yld i H x H' → g x σ H' fun σ2 H2 => t { D with nx := N, ct := N, bk := D.nx } σ2 H2)) :
    tFor (iRng2 tr) g t D σ H := h
theorem g_for1 {tr : TA} {g : TG} (h : tr σ H fun vs H1 => ∃ j : Int, vs = [.int j] ∧ -(2 ^ 62) ≤ j ∧ j < 2 ^ 62 ∧
    ∃ W : Nat → Nat → L2.St → Hp → Prop, (∃ m, W 0 m σ H1) ∧ ∀ i m σ H, W i m σ H →
      ((Itr 0 j.toNat).stop i H ∧ D.nx σ H) ∨ ((Itr 0 j.toNat).go i H ∧ ∃ N : L2.St → Hp → Prop, (∀ σ' H', N σ' H' → ∃ m', m' < m ∧ W (i + 1) m' σ' H') ∧ ∀ x H', (Itr 0 j.toNat).yld i H x H' → g x σ H' fun σ2 H2 => t { D with nx := N, ct := N, bk := D.nx } σ2 H2)) :
    tFor (iRng1 tr) g t D σ H := h
theorem g_rg2 {g : TG} {lo hi : Int} (hb : -(2 ^ 62) ≤ lo ∧ lo < 2 ^ 62 ∧ -(2 ^ 62) ≤ hi ∧ hi < 2 ^ 62) (Pv : L2.St → Nat → L2.St → Hp → Prop) (h0 : Pv σ 0 σ H)
    (hs : ∀ i σ' H', i < (hi - lo).toNat → Pv σ i σ' H' → g (.int (lo + i)) σ' H' fun σ2 H2 => t { D with nx := Pv σ (i + 1), ct := Pv σ (i + 1), bk := D.nx } σ2 H2) (hd : ∀ σ' H', Pv σ (hi - lo).toNat σ' H' → D.nx σ' H') :
    ∃ lo' hi' : Int, [V.int lo, V.int hi] = [.int lo', .int hi'] ∧ (-(2 ^ 62) ≤ lo' ∧ lo' < 2 ^ 62 ∧ -(2 ^ 62) ≤ hi' ∧ hi' < 2 ^ 62) ∧
    ∃ W : Nat → Nat → L2.St → Hp → Prop, (∃ m, W 0 m σ H) ∧ ∀ i m σ H, W i m σ H →
      ((Itr lo' (hi' - lo').toNat).stop i H ∧ D.nx σ H) ∨ ((Itr lo' (hi' - lo').toNat).go i H ∧ ∃ N : L2.St → Hp → Prop, (∀ σ' H', N σ' H' → ∃ m', m' < m ∧ W (i + 1) m' σ' H') ∧ ∀ x H', (Itr lo' (hi' - lo').toNat).yld i H x H' → g x σ H' fun σ2 H2 => t { D with nx := N, ct := N, bk := D.nx } σ2 H2) :=
  ⟨lo, hi, rfl, hb, for_range (Pv σ) h0 hs hd⟩
theorem g_rg1 {g : TG} {hi : Int} (hb : -(2 ^ 62) ≤ hi ∧ hi < 2 ^ 62) (Pv : L2.St → Nat → L2.St → Hp → Prop) (h0 : Pv σ 0 σ H)
    (hs : ∀ (i : Nat) σ' H', i < hi.toNat → Pv σ i σ' H' → g (.int (i : Int)) σ' H' fun σ2 H2 => t { D with nx := Pv σ (i + 1), ct := Pv σ (i + 1), bk := D.nx } σ2 H2) (hd : ∀ σ' H', Pv σ hi.toNat σ' H' → D.nx σ' H') :
    ∃ j : Int, [V.int hi] = [.int j] ∧ -(2 ^ 62) ≤ j ∧ j < 2 ^ 62 ∧
    ∃ W : Nat → Nat → L2.St → Hp → Prop, (∃ m, W 0 m σ H) ∧ ∀ i m σ H, W i m σ H →
      ((Itr 0 j.toNat).stop i H ∧ D.nx σ H) ∨ ((Itr 0 j.toNat).go i H ∧ ∃ N : L2.St → Hp → Prop, (∀ σ' H', N σ' H' → ∃ m', m' < m ∧ W (i + 1) m' σ' H') ∧ ∀ x H', (Itr 0 j.toNat).yld i H x H' → g x σ H' fun σ2 H2 => t { D with nx := N, ct := N, bk := D.nx } σ2 H2) :=
  ⟨hi, rfl, hb.1, hb.2, for_range (lo := 0) (Pv σ) h0 (fun i σ' H' hi p => by rw [Int.zero_add]; exact hs i σ' H' hi p) hd⟩
/-- a word between a statement and the rest -/
theorem g_cutM (M : L2.St → L2.St → Hp → Prop) (ht : t { D with nx := M σ } σ H) (k : ∀ σ' H', M σ σ' H' → u D σ' H') : Evl.tCut t u D σ H := ⟨M σ, ht, k⟩
/-- if c: x = e, both ways in one: z is what x holds behind it -/
theorem g_cutif {i : Nat} (z : V) (ht : tt σ H fun b H1 => if b = true then te σ H1 (fun y H2 => σ.set i (some y) = σ.set i (some z) ∧ H2 = H) else (σ = σ.set i (some z) ∧ H1 = H)) (k : u D (σ.set i (some z)) H) :
    Evl.tCut (tIfS tt (tAsg te (gName i)) tNext) u D σ H := ⟨fun σ' H' => σ' = σ.set i (some z) ∧ H' = H, ht, fun σ' H' ⟨e1, e2⟩ => by subst e1 e2; exact k⟩
theorem g_cutifS {i : Nat} (z : V) (ht : tt σ H fun b H1 => if b = true then te σ H1 (fun y H2 => σ.set i (some y) = σ.set i (some z) ∧ Same H H2) else (σ = σ.set i (some z) ∧ Same H H1)) (k : ∀ H', Same H H' → u D (σ.set i (some z)) H') :
    Evl.tCut (tIfS tt (tAsg te (gName i)) tNext) u D σ H := ⟨fun σ' H' => σ' = σ.set i (some z) ∧ Same H H', ht, fun σ' H' ⟨e1, e2⟩ => by subst e1; exact k H' e2⟩

/-! ## promises of the helpers -/
def sp_cell_at (K : PySem.W.Frag) : Sp := fun vs H Q _ => ∃ a ns k, vs = [.ref a, .int k] ∧ SqL K H a (ns.map V.int) ∧ 0 ≤ k ∧ Q (.int (cellAt ns k)) H
theorem g_cell {a : Addr} {ns : List Int} {k : Int} (hS : SqL K H a (ns.map V.int)) (h0 : 0 ≤ k) (q : Q (.int (cellAt ns k)) H) : sp_cell_at K ([.ref a, .int k] ++ []) H Q E := ⟨a, ns, k, rfl, hS, h0, q⟩
def sp_whole : Sp := fun vs H Q _ => ∃ i, vs = [.int i] ∧ Q (.bl true) H
theorem g_whole {i : Int} (q : Q (.bl true) H) : sp_whole ([.int i] ++ []) H Q E := ⟨i, rfl, q⟩
def sp_mixed : Sp := fun vs H Q _ => ∃ c m, vs = [.int c, .int m] ∧ 0 < m ∧ Q (.int (mixed c m)) H
theorem g_mixed {c m : Int} (h : 0 < m) (q : Q (.int (mixed c m)) H) : sp_mixed ([.int c, .int m] ++ []) H Q E := ⟨c, m, rfl, h, q⟩
def sp_rate_by : Sp := fun vs H Q _ => ∃ c, vs = [.int c] ∧ ∀ H', Same H H' → Q (.int (rateBy c)) H'
theorem g_rate_by {c : Int} (q : ∀ H', Same H H' → Q (.int (rateBy c)) H') : sp_rate_by ([.int c] ++ []) H Q E := ⟨c, rfl, q⟩
def sp_row_by : Sp := fun vs H Q _ => ∃ c m w, vs = [.int c, .int m, .int w] ∧ 1 ≤ m ∧ m ≤ 60 ∧ 0 < w ∧ ∀ l H', H l = none → Same H H' → RowAt H' l (rowBy c m w) → Q (.ref l) H'
theorem g_row_by {c m w : Int} (h1 : 1 ≤ m) (h2 : m ≤ 60) (h3 : 0 < w) (q : ∀ l H', H l = none → Same H H' → RowAt H' l (rowBy c m w) → Q (.ref l) H') : sp_row_by ([.int c, .int m, .int w] ++ []) H Q E := ⟨c, m, w, rfl, h1, h2, h3, q⟩
def sp_rate_on : Sp := fun vs H Q _ => ∃ l d row, vs = [.ref l, .int d] ∧ RowAt H l row ∧ Q (.int (rateOf row d)) H
def sp_rate_of : Sp := fun vs H Q _ => ∃ l d row, vs = [.ref l, .int d] ∧ RowAt H l row ∧ Q (.int (rateOf row d)) H
theorem g_rate_of {l : Addr} {d : Int} {row : Row} (h : RowAt H l row) (q : Q (.int (rateOf row d)) H) : sp_rate_of ([.ref l, .int d] ++ []) H Q E := ⟨l, d, row, rfl, h, q⟩
def sp_grown : Sp := fun vs H Q _ => ∃ l s e row, vs = [.ref l, .int s, .int e] ∧ RowAt H l row ∧ s ≤ e ∧ -(2 ^ 60) < s ∧ e < 2 ^ 60 ∧ Q (.int (grownF row s e)) H
theorem g_grown {l : Addr} {s e : Int} {row : Row} (h : RowAt H l row) (h1 : s ≤ e) (h2 : -(2 ^ 60) < s) (h3 : e < 2 ^ 60) (q : Q (.int (grownF row s e)) H) : sp_grown ([.ref l, .int s, .int e] ++ []) H Q E := ⟨l, s, e, row, rfl, h, h1, h2, h3, q⟩
def sp_sum_by : Sp := fun vs H Q _ => ∃ l s e row, vs = [.ref l, .int s, .int e] ∧ RowAt H l row ∧ RowOk row ∧ row.length ≤ 100 ∧ 0 ≤ s ∧ s ≤ e ∧ e < 2 ^ 60 ∧ Q (.int (grownF row s e)) H
theorem g_sum_by {l : Addr} {s e : Int} {row : Row} (h : RowAt H l row) (ok : RowOk row) (hl : row.length ≤ 100) (h1 : 0 ≤ s) (h2 : s ≤ e) (h3 : e < 2 ^ 60) (q : Q (.int (grownF row s e)) H) : sp_sum_by ([.ref l, .int s, .int e] ++ []) H Q E := ⟨l, s, e, row, rfl, h, ok, hl, h1, h2, h3, q⟩
theorem g_seq_aug {i : Nat} {ti : TIp} {x : V} (hx : σ[i]? = some (some x)) (h : te σ H fun y H1 => ti x y H1 fun z H2 => u D (σ.set i (some z)) H2) : tSeq (tAug i te ti) u D σ H := ⟨x, hx, h⟩
theorem g_aug {i : Nat} {ti : TIp} {x : V} (hx : σ[i]? = some (some x)) (h : te σ H fun y H1 => ti x y H1 fun z H2 => D.nx (σ.set i (some z)) H2) : tAug i te ti D σ H := ⟨x, hx, h⟩
theorem g_ip {f : Int → Int → Int} {a b : Int} (q : Q (.int (f a b)) H) : ipI f (.int a) (.int b) H Q := ⟨a, b, rfl, rfl, q⟩
def sp_law (K : PySem.W.Frag) : Sp := fun vs H Q _ => ∃ (a : Addr) (ns : List Int), vs = [.ref a] ∧ SqL K H a (ns.map V.int) ∧ ns.length ≤ 63 ∧ (∀ z ∈ ns, Builtin.Int.intBits z ≤ 1048576) ∧ ∀ H', Q (.bl true) H'
end
end Lp
namespace Lp
open PySem L2
def topS (i : Nat) : Stmt := PySem.Challenge.pw_loanplan_k02_days_added_up.main.body.getD i (.Pass ⟨0, 0, 0, 0⟩)
abbrev s_grown : Stmt := topS 1
abbrev s_cell_at : Stmt := topS 3
abbrev s_whole : Stmt := topS 4
abbrev s_mixed : Stmt := topS 5
abbrev s_rate_by : Stmt := topS 6
abbrev s_row_by : Stmt := topS 7
abbrev s_rate_of : Stmt := topS 8
abbrev s_law : Stmt := topS 9

structure Ad where
  a_grown : Addr
  d_grown : FuncData
  a_cell_at : Addr
  d_cell_at : FuncData
  a_whole : Addr
  d_whole : FuncData
  a_mixed : Addr
  d_mixed : FuncData
  a_rate_by : Addr
  d_rate_by : FuncData
  a_row_by : Addr
  d_row_by : FuncData
  a_rate_of : Addr
  d_rate_of : FuncData
  a_law : Addr
  d_law : FuncData
structure Txt (K : PySem.W.Frag) (mg : Str → Option Value) (A : Ad) : Prop where
  F_grown : Fun K "grown" "grown" s_grown A.a_grown A.d_grown
  B_grown : Binds K A.d_grown ["rates", "start", "end"] []
  g_grown : mg "grown" = some (.ref A.a_grown)
  F_cell_at : Fun K "_law_cell_at" "_law_cell_at" s_cell_at A.a_cell_at A.d_cell_at
  B_cell_at : Binds K A.d_cell_at ["_law_script", "_law_k"] []
  g_cell_at : mg "_law_cell_at" = some (.ref A.a_cell_at)
  F_whole : Fun K "_law_whole" "_law_whole" s_whole A.a_whole A.d_whole
  B_whole : Binds K A.d_whole ["_law_found"] []
  g_whole : mg "_law_whole" = some (.ref A.a_whole)
  F_mixed : Fun K "_law_mixed" "_law_mixed" s_mixed A.a_mixed A.d_mixed
  B_mixed : Binds K A.d_mixed ["_law_cell", "_law_many"] []
  g_mixed : mg "_law_mixed" = some (.ref A.a_mixed)
  F_rate_by : Fun K "_law_rate_by" "_law_rate_by" s_rate_by A.a_rate_by A.d_rate_by
  B_rate_by : Binds K A.d_rate_by ["_law_cell"] []
  g_rate_by : mg "_law_rate_by" = some (.ref A.a_rate_by)
  F_row_by : Fun K "_law_row_by" "_law_row_by" s_row_by A.a_row_by A.d_row_by
  B_row_by : Binds K A.d_row_by ["_law_cell", "_law_many", "_law_wide"] []
  g_row_by : mg "_law_row_by" = some (.ref A.a_row_by)
  F_rate_of : Fun K "_law_rate_of" "_law_rate_of" s_rate_of A.a_rate_of A.d_rate_of
  B_rate_of : Binds K A.d_rate_of ["_law_row", "_law_day"] []
  g_rate_of : mg "_law_rate_of" = some (.ref A.a_rate_of)
  F_law : Fun K "law" "law" s_law A.a_law A.d_law
  B_law : Binds K A.d_law ["_law_script"] []
  g_law : mg "law" = some (.ref A.a_law)
  n_bool : mg "bool" = none
  n_int : mg "int" = none
  n_isinstance : mg "isinstance" = none
  n_len : mg "len" = none
  n_list : mg "list" = none
  n_max : mg "max" = none
  n_range : mg "range" = none
  n_reversed : mg "reversed" = none

local macro_rules | `(tactic| walk_at "z") => `(tactic| first | with_reducible rfl | (simp only [List.set_cons_succ, List.set_cons_zero]; done) | (simp only [List.set_cons_succ, List.set_cons_zero]; rfl) | rfl)
local macro_rules | `(tactic| walk_at "side") => `(tactic| first
  | ((with_reducible show CMul _ _); first
      | exact Or.inr ⟨by decide, by decide⟩ | exact Or.inl ⟨by decide, by decide⟩ | exact Or.inr ⟨by omega, by omega⟩ | exact Or.inl ⟨by omega, by omega⟩)
  | ((with_reducible show CDiv _ _); first | exact ⟨by decide, by decide⟩ | exact ⟨by omega, by omega⟩)
  | ((with_reducible show CPow _ _); exact ⟨by decide, by decide, by decide⟩)
  | (show (0 : Int) < _; first | decide | omega))
local macro_rules | `(tactic| walk_at "v1") => `(tactic| first
  | ((with_reducible refine' g_var ?g1 ?_); (case g1 => (first | (simp only [List.set_cons_succ, List.set_cons_zero]; exact rfl) | exact rfl)))
  | with_reducible refine g_c ?_
  | with_reducible refine g_op ?_
  | with_reducible refine g_i0 ?_
  | ((with_reducible refine' g_i ?g1 ?_); (case g1 => walk_at "side"))
  | with_reducible refine g_eqI ?_
  | with_reducible refine g_neI ?_
  | with_reducible refine g_eqS ?_
  | with_reducible refine g_neS ?_
  | with_reducible refine g_call ?_
  | with_reducible refine g_cons ?_
  | with_reducible refine g_nil ?_
  | with_reducible refine g_seq_asg ?_
  | with_reducible refine g_asg ?_
  | with_reducible refine g_seq_if ?_
  | with_reducible refine g_if ?_
  | with_reducible refine g_isNT ?_
  | with_reducible refine g_isNI ?_
  | with_reducible refine g_notNT ?_
  | with_reducible refine g_notNI ?_
  | with_reducible refine g_test ?_
  | with_reducible refine g_tB ?_
  | with_reducible refine g_bl ?_
  | with_reducible refine g_blV ?_
  | with_reducible refine g_and ?_
  | with_reducible refine g_or ?_
  | with_reducible refine g_not ?_
  | with_reducible refine g_andV ?_
  | with_reducible refine g_orV ?_
  | with_reducible refine g_notV ?_
  | with_reducible refine g_un ?_
  | with_reducible refine g_u ?_
  | with_reducible refine g_cb ?_
  | with_reducible refine g_bm ?_
  | with_reducible refine g_tup ?_
  | with_reducible refine g_lst ?_
  | with_reducible refine g_meth ?_
  | with_reducible refine g_fld ?_
  | with_reducible refine g_chain ?_
  | with_reducible refine g_seq_next ?_
  | with_reducible refine g_next ?_
  | with_reducible refine g_seq_ret ?_
  | with_reducible refine g_ret ?_
  | with_reducible refine g_seq_seq ?_
  | with_reducible refine g_seq_drop ?_
  | with_reducible refine g_drop ?_
  | with_reducible refine g_seq_par ?_
  | with_reducible refine g_par ?_
  | with_reducible refine g_seq_asgT ?_
  | with_reducible refine g_asgT ?_
  | with_reducible refine g_seq_bk ?_
  | with_reducible refine g_bk ?_
  | with_reducible refine g_seq_ct ?_
  | with_reducible refine g_ct ?_
  | with_reducible refine g_max2 ?_
  | with_reducible refine g_intB ?_
  | with_reducible refine g_intI ?_
  | with_reducible refine g_min2 ?_
  | with_reducible refine g_isInt ?_
  | with_reducible refine g_isBool ?_
  | ((with_reducible refine' g_cell ?g1 ?g2 ?_); (case g1 => first | assumption | exact SqL.same (by assumption) (by assumption)); (case g2 => first | decide | omega))
  | with_reducible refine g_whole ?_
  | ((with_reducible refine' g_mixed ?g1 ?_); (case g1 => first | decide | omega))
  | with_reducible refine g_seq_for ?_
  | with_reducible refine g_gn ?_
  | with_reducible refine g_for1 ?_
  | with_reducible refine g_for2 ?_
  | ((with_reducible refine' g_seq_aug ?g1 ?_); (case g1 => (first | (simp only [List.set_cons_succ, List.set_cons_zero]; exact rfl) | exact rfl)))
  | ((with_reducible refine' g_aug ?g1 ?_); (case g1 => (first | (simp only [List.set_cons_succ, List.set_cons_zero]; exact rfl) | exact rfl)))
  | with_reducible refine g_ip ?_
  | with_reducible refine g_iteT' ?_
  | with_reducible refine g_iteF' ?_
  | with_reducible refine g_iteTT ?_
  | with_reducible refine g_iteFF ?_
  | with_reducible refine g_iteNT ?_
  | with_reducible refine g_iteNF ?_)
local macro_rules | `(tactic| walk_at "v") => `(tactic| ((try simp only [List.set_cons_succ, List.set_cons_zero]); repeat walk_at "v1"))
local macro_rules | `(tactic| walk_at "i") => `(tactic| (simp only [cxOf, L2.start, List.map_cons, List.map_nil, List.length_cons, List.length_nil, Nat.reduceAdd, Nat.reduceSub, List.replicate_succ, List.replicate_zero, List.cons_append, List.nil_append, List.append_nil]; walk_at "v"))
local macro_rules | `(tactic| walk_at "cut") => `(tactic| (walk_at "v"; refine g_ite (fun hc => ?_) (fun hc => ?_); (walk_at "v"; rw [if_pos hc]; exact ⟨by walk_at "z", rfl⟩); (rw [if_neg hc]; exact ⟨by walk_at "z", rfl⟩)))
local macro_rules | `(tactic| walk_at "cutv") => `(tactic| (refine g_ite (fun hc => ?_) (fun hc => ?_); (walk_at "v"; rw [if_pos hc]; exact ⟨by walk_at "z", rfl⟩); (rw [if_neg hc]; exact ⟨by walk_at "z", rfl⟩)))

section
variable {P : Program} {w : World} {K : PySem.W.Frag} {mg : Str → Option Value} {base : Heap} {A : Ad}

theorem sc_cell_at : FnScope ["_law_script", "_law_k"] ["_law_script", "_law_k"] (defScope s_cell_at) := ⟨rfl, rfl, rfl, by decide +kernel, rfl, by decide +kernel, by decide +kernel⟩
theorem ok_cell_at (T : Txt K mg A) : FnOk P w K mg base CX0 1 A.a_cell_at A.d_cell_at ["_law_script", "_law_k"] (sp_cell_at K) := by
  refine T.F_cell_at.ok sc_cell_at (fun vs H Q E h => ?_) (fun cdv Ar outer s H vs Q E hr h => ?_)
  · obtain ⟨a, ns, k, rfl, _⟩ := h
    rfl
  ·
    obtain ⟨a, ns, k, rfl, hS, h0, q⟩ := h
    refine ⟨_, (pss_cons (ps_if (pt_cmpR op_lt (pv 1) (pe_callB c_len rfl T.n_len (by decide +kernel) (pa_cons (pv 0) pa_nil)) (nomark _)) (pss_one (ps_ret (pe_ix ix_list (pv 0) (pv 1) (fun _ _ => rfl))))
 pss_nil)
 (pss_one (ps_ret pe_int))), ?_⟩
    walk_at "i"
    refine g_len hS rfl ?_
    rw [List.length_map]
    walk_at "v"
    refine g_ite (fun hc => ?_) (fun hc => ?_)
    · walk_at "v"
      have hk : k.toNat < ns.length := by omega
      refine g_ixL hS (show k = (k.toNat : Int) by omega) (v := .int (ns[k.toNat])) ?_ ?_
      · rw [List.getElem?_map, List.getElem?_eq_getElem hk]; rfl
      · have e : cellAt ns k = ns[k.toNat] := by unfold cellAt; rw [List.getD_eq_getElem?_getD, List.getElem?_eq_getElem hk]; rfl
        rw [e] at q
        exact q
    · walk_at "v"
      have e : cellAt ns k = 0 := by unfold cellAt; rw [List.getD_eq_getElem?_getD, List.getElem?_eq_none (by omega)]; rfl
      rw [e] at q
      exact q
theorem sc_whole : FnScope ["_law_found"] ["_law_found"] (defScope s_whole) := ⟨rfl, rfl, rfl, by decide +kernel, rfl, by decide +kernel, by decide +kernel⟩
theorem ok_whole (T : Txt K mg A) : FnOk P w K mg base CX0 1 A.a_whole A.d_whole ["_law_found"] sp_whole := by
  refine T.F_whole.ok sc_whole (fun vs H Q E h => ?_) (fun cdv Ar outer s H vs Q E hr h => ?_)
  · obtain ⟨i, rfl, _⟩ := h
    rfl
  ·
    obtain ⟨i, rfl, q⟩ := h
    refine ⟨_, (pss_one (ps_ret (pe_and (pe_callB call_isi rfl T.n_isinstance (by decide +kernel) (pa_cons (pv 0) (pa_cons (pe_bltn (v := .ty "int") rfl T.n_int (by decide +kernel) rfl) pa_nil))) (pe_one (pe_not (pe_callB call_isi rfl T.n_isinstance (by decide +kernel) (pa_cons (pv 0) (pa_cons (pe_bltn (v := .ty "bool") rfl T.n_bool (by decide +kernel) rfl) pa_nil)))))))), ?_⟩
    walk_at "i"
    exact q
theorem sc_mixed : FnScope ["_law_cell", "_law_many"] ["_law_cell", "_law_many"] (defScope s_mixed) := ⟨rfl, rfl, rfl, by decide +kernel, rfl, by decide +kernel, by decide +kernel⟩
theorem ok_mixed (T : Txt K mg A) : FnOk P w K mg base CX0 1 A.a_mixed A.d_mixed ["_law_cell", "_law_many"] sp_mixed := by
  refine T.F_mixed.ok sc_mixed (fun vs H Q E h => ?_) (fun cdv Ar outer s H vs Q E hr h => ?_)
  · obtain ⟨c, m, rfl, _⟩ := h
    rfl
  ·
    obtain ⟨c, m, rfl, h0, q⟩ := h
    refine ⟨_, (pss_one (ps_ret (pe_op op_mod (pe_op op_mod (pe_op op_add (pe_op op_mul (pv 0) pe_int) pe_int) pe_int) (pv 1)))), ?_⟩
    walk_at "i"
    exact q
theorem sc_rate_by : FnScope ["_law_cell"] ["_law_cell"] (defScope s_rate_by) := ⟨rfl, rfl, rfl, by decide +kernel, rfl, by decide +kernel, by decide +kernel⟩
theorem ok_rate_by (T : Txt K mg A) : FnOk P w K mg base CX0 2 A.a_rate_by A.d_rate_by ["_law_cell"] sp_rate_by := by
  refine T.F_rate_by.ok sc_rate_by (fun vs H Q E h => ?_) (fun cdv Ar outer s H vs Q E hr h => ?_)
  · obtain ⟨c, rfl, _⟩ := h
    rfl
  ·
    obtain ⟨c, rfl, q⟩ := h
    refine ⟨_, (pss_cons (ps_if (pt_cmpR op_eq (pe_op op_mod (pv 0) pe_int) pe_int (nomark _)) (pss_one (ps_ret (pe_ix ix_list (pe_lst (pa_cons pe_int (pa_cons pe_int (pa_cons pe_int (pa_cons pe_int pa_nil))))) (pe_op op_mod (pe_op op_fdiv (pv 0) pe_int) pe_int) (fun _ _ => rfl))))
 pss_nil)
 (pss_cons (ps_if (pt_cmpR op_eq (pe_op op_mod (pv 0) pe_int) pe_int (nomark _)) (pss_one (ps_ret (pe_op op_mod (pe_op op_fdiv (pv 0) pe_int) pe_int)))
 pss_nil)
 (pss_one (ps_ret (pe_call (ok_mixed T) (hr.mono (by decide)) rfl T.g_mixed T.F_mixed.kp T.B_mixed .nil pass0 (pa_cons (pv 0) (pa_cons pe_int pa_nil))))))), ?_⟩
    walk_at "i"
    refine g_ite (fun hc => ?_) (fun hc => ?_)
    · walk_at "v"
      refine g_newL (by show 4 ≤ 100; decide) fun p H1 hp s1 h1 => ?_
      walk_at "v"
      have h4 : c / 5 % 4 = 0 ∨ c / 5 % 4 = 1 ∨ c / 5 % 4 = 2 ∨ c / 5 % 4 = 3 := by omega
      have e : rateBy c = [0, 1, 99999, 100000].getD (c / 5 % 4).toNat 0 := by unfold rateBy; rw [if_pos hc]
      have q1 := q H1 s1
      rw [e] at q1
      rcases h4 with h4 | h4 | h4 | h4
      all_goals
        rw [h4] at q1 ⊢
        refine g_ixL (SqL.of h1) rfl rfl ?_
        exact q1
    · walk_at "v"
      refine g_ite (fun hd => ?_) (fun hd => ?_)
      · walk_at "v"
        have e : rateBy c = c / 5 % 400 := by unfold rateBy; rw [if_neg hc, if_pos hd]
        have q1 := q H (Same.refl _)
        rw [e] at q1
        exact q1
      · walk_at "v"
        have e : rateBy c = mixed c 100001 := by unfold rateBy; rw [if_neg hc, if_neg hd]
        have q1 := q H (Same.refl _)
        rw [e] at q1
        exact q1
theorem sc_row_by : FnScope ["_law_cell", "_law_many", "_law_wide", "_law_row", "_law_k", "_law_day"] ["_law_cell", "_law_many", "_law_wide"] (defScope s_row_by) := ⟨rfl, rfl, rfl, by decide +kernel, rfl, by decide +kernel, by decide +kernel⟩
theorem ok_row_by (T : Txt K mg A) : FnOk P w K mg base CX0 3 A.a_row_by A.d_row_by ["_law_cell", "_law_many", "_law_wide"] sp_row_by := by
  refine T.F_row_by.ok sc_row_by (fun vs H Q E h => ?_) (fun cdv Ar outer s H vs Q E hr h => ?_)
  · obtain ⟨c, m, wd, rfl, _⟩ := h
    rfl
  ·
    obtain ⟨c, m, wd, rfl, h1, h2, h3, q⟩ := h
    refine ⟨_, (pss_cons (ps_set (i := 3) sc_row_by.nd rfl (Or.inl rfl) (pe_lst (pa_cons (pe_tup (pa_cons pe_int (pa_cons (pe_call (ok_rate_by T) (hr.mono (by decide)) rfl T.g_rate_by T.F_rate_by.kp T.B_rate_by .nil pass0 (pa_cons (pv 0) pa_nil)) pa_nil))) pa_nil)))
 (pss_cons (ps_for PassesOwn.never rfl (pi_range2 rfl T.n_range (pa_cons pe_int (pa_cons (pv 1) pa_nil))) (pg_name (i := 4) sc_row_by.nd rfl (Or.inl rfl))
 (pss_cons (ps_set (i := 5) sc_row_by.nd rfl (Or.inl rfl) (pe_op op_add (pe_op op_add (pe_ix ix_tup (pe_ix ix_list (pv 3) (pe_un un_neg pe_int) (fun _ _ => rfl)) pe_int (fun _ _ => rfl)) pe_int) (pe_call (ok_mixed T) (hr.mono (by decide)) rfl T.g_mixed T.F_mixed.kp T.B_mixed .nil pass0 (pa_cons (pe_op op_add (pv 0) (pe_op op_mul pe_int (pv 4))) (pa_cons (pv 2) pa_nil)))))
 (pss_one (ps_expr (pe_bm PySem.F.plainAttrs_list PySem.F.slot_list_append PySem.F.type_list_append mt_append (pv 3) (pa_cons (pe_tup (pa_cons (pv 5) (pa_cons (pe_call (ok_rate_by T) (hr.mono (by decide)) rfl T.g_rate_by T.F_rate_by.kp T.B_rate_by .nil pass0 (pa_cons (pe_op op_add (pe_op op_fdiv (pv 0) pe_int) (pe_op op_mul pe_int (pv 4))) pa_nil)) pa_nil))) pa_nil))))))
 (pss_one (ps_ret (pv 3))))), ?_⟩
    walk_at "i"
    refine g_rate_by fun H1 s1 => ?_
    walk_at "v"
    refine g_newT (by show 2 ≤ 100; decide) fun p H2 hp s2 ht => ?_
    walk_at "v"
    refine g_newL (by show 1 ≤ 100; decide) fun l H3 hl s3 hL => ?_
    walk_at "v"
    have sm : Same H H3 := (s1.trans s2).trans s3
    have lH : H l = none := (s1.trans s2).free hl
    refine g_rg2 ⟨by decide, by decide, by omega, by omega⟩ (fun σ0 i σ' H' => Same H H' ∧ RowAt H' l (rowN c wd i) ∧ ∃ v1 v2, σ' = (σ0.set 4 v1).set 5 v2) ⟨sm, ⟨_, hL, .cons (s3 _ _ ht) .nil⟩, none, none, by walk_at "z"⟩ ?_ ?_
    · rintro i σ' H' hi ⟨s4, hR, v1, v2, rfl⟩
      obtain ⟨ld, lr, hlast, hd, hr'⟩ := rowN_last c wd i
      walk_at "v"
      refine g_ixLast hR rfl hlast fun t0 ht0 => ?_
      walk_at "v"
      refine g_ixT (j := 0) ht0 rfl ?_
      walk_at "v"
      obtain ⟨xs, hx1, hx2⟩ := hR
      refine g_tyL hx1 ?_
      walk_at "v"
      refine g_rate_by fun H4 s5 => ?_
      walk_at "v"
      refine g_newT (by show 2 ≤ 100; decide) fun p4 H5 hp4 s6 ht4 => ?_
      walk_at "v"
      have s7 := s5.trans s6
      have n1 := hx2.len
      have n2 := rowN_len c wd i
      refine g_append (s7 _ _ hx1) (by omega) ?_
      refine ⟨same_upd (s4.trans s7) lH, ?_, _, _, rfl⟩
      rw [rowN, hd]
      exact RowAt.snoc (hx2.mono fun q ps e => s7 _ _ e) (s7 _ _ hx1) ht4
    · rintro σ' H' ⟨s4, hR, v1, v2, rfl⟩
      walk_at "v"
      exact q l H' lH s4 hR

theorem sc_rate_of : FnScope ["_law_row", "_law_day", "_law_found", "_law_pair"] ["_law_row", "_law_day"] (defScope s_rate_of) := ⟨rfl, rfl, rfl, by decide +kernel, rfl, by decide +kernel, by decide +kernel⟩
theorem ok_rate_of (T : Txt K mg A) : FnOk P w K mg base CX0 1 A.a_rate_of A.d_rate_of ["_law_row", "_law_day"] sp_rate_of := by
  refine T.F_rate_of.ok sc_rate_of (fun vs H Q E h => ?_) (fun cdv Ar outer s H vs Q E hr h => ?_)
  · obtain ⟨l, d, row, rfl, _⟩ := h
    rfl
  ·
    obtain ⟨l, d, row, rfl, ⟨xs, h1, h2⟩, q⟩ := h
    refine ⟨_, (pss_cons (ps_set (i := 2) sc_rate_of.nd rfl (Or.inl rfl) pe_int)
 (pss_cons (ps_for PassesOwn.never rfl (pi_list (pv 0)) (pg_name (i := 3) sc_rate_of.nd rfl (Or.inl rfl))
 (pss_one (ps_if (pt_cmpR op_le (pe_ix ix_tup (pv 3) pe_int (fun _ _ => rfl)) (pv 1) (nomark _)) (pss_one (ps_set (i := 2) sc_rate_of.nd rfl (Or.inl rfl) (pe_ix ix_tup (pv 3) pe_int (fun _ _ => rfl))))
 pss_nil)))
 (pss_one (ps_ret (pv 2))))), ?_⟩
    walk_at "i"
    refine g_forL rfl (SqL.of h1) (fun σ0 i σ' H' => H' = H ∧ ∃ v1, σ' = (σ0.set 2 (some (.int (rateOf (row.take i) d)))).set 3 v1) ⟨rfl, none, rfl⟩ (fun i σ' H' _ ⟨e, _⟩ => by rw [e]; exact SqL.of h1) ?_ ?_
    · rintro i x σ' H' hx ⟨rfl, v1, rfl⟩
      obtain ⟨p, t, hp, rfl, ht⟩ := h2.got hx
      walk_at "v"
      refine g_ixT (j := 0) ht rfl ?_
      walk_at "v"
      refine g_ite (fun hc => ?_) (fun hc => ?_)
      · walk_at "v"
        refine g_ixT (j := 1) ht rfl ?_
        refine ⟨rfl, some (.ref t), ?_⟩
        rw [rateOf_take hp, if_pos hc]
        all_goals (try walk_at "z")
      · walk_at "v"
        refine ⟨rfl, some (.ref t), ?_⟩
        rw [rateOf_take hp, if_neg hc]
        all_goals (try walk_at "z")
    · rintro σ' H' ⟨rfl, v1, rfl⟩
      walk_at "v"
      rw [h2.len, List.take_length]
      exact q

theorem sc_grown : FnScope ["rates", "start", "end", "total", "untaken", "first", "rate", "before"] ["rates", "start", "end"] (defScope s_grown) := ⟨rfl, rfl, rfl, by decide +kernel, rfl, by decide +kernel, by decide +kernel⟩
theorem ok_grown (T : Txt K mg A) : FnOk P w K mg base CX0 1 A.a_grown A.d_grown ["rates", "start", "end"] sp_grown := by
  refine T.F_grown.ok sc_grown (fun vs H Q E h => ?_) (fun cdv Ar outer s H vs Q E hr h => ?_)
  · obtain ⟨l, s, e, row, rfl, _⟩ := h
    rfl
  ·
    obtain ⟨l, st, en, row, rfl, ⟨xs, h1, h2⟩, hse, hs, he, q⟩ := h
    refine ⟨_, (pss_cons (ps_set (i := 3) sc_grown.nd rfl (Or.inl rfl) pe_int)
 (pss_cons (ps_set (i := 4) sc_grown.nd rfl (Or.inl rfl) (pv 2))
 (pss_cons (ps_for PassesOwn.never rfl (pi_reversed rfl T.n_reversed (pa_cons (pv 0) pa_nil)) (pg_tup rfl (pgs_cons (pg_name (i := 5) sc_grown.nd rfl (Or.inl rfl)) (pgs_cons (pg_name (i := 6) sc_grown.nd rfl (Or.inl rfl)) pgs_nil)))
 (pss_cons (ps_set (i := 7) sc_grown.nd rfl (Or.inl rfl) (pe_callB (c_max rfl) rfl T.n_max (by decide +kernel) (pa_cons (pv 1) (pa_cons (pe_op op_sub (pv 5) pe_int) pa_nil))))
 (pss_one (ps_if (pt_cmpR op_lt (pv 7) (pv 4) (nomark _)) (pss_cons (ps_aug (i := 3) sc_grown.nd rfl (Or.inl rfl) (pe_op op_mul (pv 6) (pe_op op_sub (pv 4) (pv 7))) ip_add)
 (pss_one (ps_set (i := 4) sc_grown.nd rfl (Or.inl rfl) (pv 7))))
 pss_nil))))
 (pss_one (ps_ret (pv 3)))))), ?_⟩
    walk_at "i"
    have nn := h2.len
    refine g_forRev rfl (SqL.of h1) (fun σ0 i σ' H' => H' = H ∧ ∃ tot un v1 v2 v3, σ' = ((((σ0.set 3 (some (.int tot))).set 4 (some (.int un))).set 5 v1).set 6 v2).set 7 v3 ∧ st ≤ un ∧ un ≤ en ∧ tot + grownF (row.take (row.length - i)) st un = grownF row st en) ?_ (fun i σ' H' ⟨e, _⟩ => by rw [e]; exact SqL.of h1) ?_ ?_
    · exact ⟨rfl, 0, en, none, none, none, by walk_at "z", hse, Int.le_refl _, by rw [Nat.sub_zero, List.take_length, Int.zero_add]⟩
    · rintro i x σ' H' hi hx ⟨rfl, tot, un, v1, v2, v3, rfl, hu1, hu2, ht⟩
      obtain ⟨p, t, hp, rfl, htu⟩ := h2.got hx
      rw [nn] at hi hp
      have e1 : row.length - i = row.length - 1 - i + 1 := by omega
      rw [e1, take_snoc hp, grownF_snoc _ p hu1] at ht
      refine g_unp2 htu ?_
      walk_at "v"
      refine g_ite (fun hc => ?_) (fun hc => ?_)
      · walk_at "v"
        rw [if_pos hc] at ht
        refine ⟨rfl, tot + p.2 * (un - max st (p.1 - 1)), max st (p.1 - 1), _, _, _, by walk_at "z", by omega, by omega, ?_⟩
        rw [show row.length - (i + 1) = row.length - 1 - i by omega]
        omega
      · walk_at "v"
        rw [if_neg hc] at ht
        refine ⟨rfl, tot, un, _, _, _, by walk_at "z", hu1, hu2, ?_⟩
        rw [show row.length - (i + 1) = row.length - 1 - i by omega]
        exact ht
    · rintro σ' H' ⟨rfl, tot, un, v1, v2, v3, rfl, hu1, hu2, ht⟩
      walk_at "v"
      rw [nn, Nat.sub_self, List.take_zero, grownF_nil] at ht
      have e2 : tot = grownF row st en := by omega
      rw [e2]
      exact q

theorem sc_law : FnScope ["_law_script", "_law_head", "_law_many", "_law_row", "_law_start", "_law_end", "_law_due", "_law_day", "_law_handed", "_law_found"] ["_law_script"] (defScope s_law) := ⟨rfl, rfl, rfl, by decide +kernel, rfl, by decide +kernel, by decide +kernel⟩
theorem ok_law (T : Txt K mg A) : FnOk P w K mg base CX0 4 A.a_law A.d_law ["_law_script"] (sp_law K) := by
  refine T.F_law.ok sc_law (fun vs H Q E h => ?_) (fun cdv Ar outer s H vs Q E hr h => ?_)
  · obtain ⟨a, ns, rfl, _⟩ := h
    rfl
  ·
    obtain ⟨a, ns, rfl, hS, hlen, hbits, q⟩ := h
    refine ⟨_, (pss_cons (ps_set (i := 1) sc_law.nd rfl (Or.inl rfl) (pe_call (ok_cell_at T) (hr.mono (by decide)) rfl T.g_cell_at T.F_cell_at.kp T.B_cell_at .nil pass0 (pa_cons (pv 0) (pa_cons pe_int pa_nil))))
 (pss_cons (ps_set (i := 2) sc_law.nd rfl (Or.inl rfl) (pe_op op_add pe_int (pe_op op_mod (pv 1) pe_int)))
 (Evl.pss_cut (ps_if (pt_cmpR op_eq (pe_op op_mod (pe_op op_fdiv (pv 1) pe_int) pe_int) pe_int (nomark _)) (pss_one (ps_set (i := 2) sc_law.nd rfl (Or.inl rfl) (pe_op op_add pe_int (pe_op op_mod (pe_op op_fdiv (pv 1) pe_int) pe_int))))
 pss_nil)
 (pss_cons (ps_set (i := 3) sc_law.nd rfl (Or.inl rfl) (pe_call (ok_row_by T) (hr.mono (by decide)) rfl T.g_row_by T.F_row_by.kp T.B_row_by .nil pass0 (pa_cons (pe_call (ok_cell_at T) (hr.mono (by decide)) rfl T.g_cell_at T.F_cell_at.kp T.B_cell_at .nil pass0 (pa_cons (pv 0) (pa_cons pe_int pa_nil))) (pa_cons (pv 2) (pa_cons pe_int pa_nil)))))
 (pss_cons (ps_set (i := 4) sc_law.nd rfl (Or.inl rfl) (pe_op op_mod (pe_call (ok_cell_at T) (hr.mono (by decide)) rfl T.g_cell_at T.F_cell_at.kp T.B_cell_at .nil pass0 (pa_cons (pv 0) (pa_cons pe_int pa_nil))) pe_int))
 (Evl.pss_cut (ps_if (pt_cmpR op_eq (pe_op op_mod (pe_call (ok_cell_at T) (hr.mono (by decide)) rfl T.g_cell_at T.F_cell_at.kp T.B_cell_at .nil pass0 (pa_cons (pv 0) (pa_cons pe_int pa_nil))) pe_int) pe_int (nomark _)) (pss_one (ps_set (i := 4) sc_law.nd rfl (Or.inl rfl) (pe_callB (c_max rfl) rfl T.n_max (by decide +kernel) (pa_cons pe_int (pa_cons (pe_op op_sub (pe_op op_add (pe_ix ix_tup (pe_ix ix_list (pv 3) (pe_op op_mod (pe_call (ok_cell_at T) (hr.mono (by decide)) rfl T.g_cell_at T.F_cell_at.kp T.B_cell_at .nil pass0 (pa_cons (pv 0) (pa_cons pe_int pa_nil))) (pv 2)) (fun _ _ => rfl)) pe_int (fun _ _ => rfl)) (pe_op op_mod (pe_op op_fdiv (pe_call (ok_cell_at T) (hr.mono (by decide)) rfl T.g_cell_at T.F_cell_at.kp T.B_cell_at .nil pass0 (pa_cons (pv 0) (pa_cons pe_int pa_nil))) pe_int) pe_int)) pe_int) pa_nil)))))
 pss_nil)
 (pss_cons (ps_set (i := 5) sc_law.nd rfl (Or.inl rfl) (pe_op op_add (pv 4) (pe_op op_mod (pe_call (ok_cell_at T) (hr.mono (by decide)) rfl T.g_cell_at T.F_cell_at.kp T.B_cell_at .nil pass0 (pa_cons (pv 0) (pa_cons pe_int pa_nil))) pe_int)))
 (pss_cons (ps_set (i := 6) sc_law.nd rfl (Or.inl rfl) pe_int)
 (pss_cons (ps_for PassesOwn.never rfl (pi_range2 rfl T.n_range (pa_cons (pe_op op_add (pv 4) pe_int) (pa_cons (pe_op op_add (pv 5) pe_int) pa_nil))) (pg_name (i := 7) sc_law.nd rfl (Or.inl rfl))
 (pss_one (ps_set (i := 6) sc_law.nd rfl (Or.inl rfl) (pe_op op_add (pv 6) (pe_call (ok_rate_of T) (hr.mono (by decide)) rfl T.g_rate_of T.F_rate_of.kp T.B_rate_of .nil pass0 (pa_cons (pv 3) (pa_cons (pv 7) pa_nil)))))))
 (pss_cons (ps_set (i := 8) sc_law.nd rfl (Or.inl rfl) (pe_callTy c_list rfl T.n_list (by decide +kernel) (pa_cons (pv 3) pa_nil)))
 (pss_cons (ps_set (i := 9) sc_law.nd rfl (Or.inl rfl) (pe_call (ok_grown T) (hr.mono (by decide)) rfl T.g_grown T.F_grown.kp T.B_grown .nil pass0 (pa_cons (pv 8) (pa_cons (pv 4) (pa_cons (pv 5) pa_nil)))))
 (pss_one (ps_ret (pe_and (pe_call (ok_whole T) (hr.mono (by decide)) rfl T.g_whole T.F_whole.kp T.B_whole .nil pass0 (pa_cons (pv 9) pa_nil)) (pe_and (pe_cmpR op_eq (pv 9) (pv 6) (nomark _)) (pe_one (pe_cmpR (op_eqD hr.units) (pv 8) (pv 3) (nomark _)))))))))))))))))), ?_⟩
    walk_at "i"
    refine g_cutif (.int (if cellAt ns 0 / 6 % 5 = 1 then 1 + cellAt ns 0 / 30 % 60 else 1 + cellAt ns 0 % 6)) (by walk_at "cut") ?_
    generalize hM : (if cellAt ns 0 / 6 % 5 = 1 then 1 + cellAt ns 0 / 30 % 60 else 1 + cellAt ns 0 % 6) = many
    have hm : 1 ≤ many ∧ many ≤ 60 := by rw [← hM]; split <;> omega
    walk_at "v"
    refine g_row_by hm.1 hm.2 (by decide) fun l H1 hl s1 hR => ?_
    have ok := rowBy_ok (c := cellAt ns 1) (m := many) (w := 9) (by decide)
    have len := rowBy_len (c := cellAt ns 1) (w := 9) hm.1
    have dayb := rowBy_day (c := cellAt ns 1) (m := many) (w := 9) (by decide) hm.1
    generalize rowBy (cellAt ns 1) many 9 = row at hR ok len dayb
    have hx0 : 0 ≤ cellAt ns 2 % many := Int.emod_nonneg _ (by omega)
    have hx1 : cellAt ns 2 % many < many := Int.emod_lt_of_pos _ (by omega)
    obtain ⟨d, r, hd, ed⟩ := row_at (row := row) (i := cellAt ns 2 % many) hx0 (by omega)
    have hdb := dayb _ (List.mem_of_getElem? hd)
    walk_at "v"
    refine g_cutif (.int (if cellAt ns 3 % 2 = 1 then max 0 (d + cellAt ns 3 / 2 % 3 - 1) else cellAt ns 2 % 30)) (by
      walk_at "v"
      refine g_ite (fun hc => ?_) (fun hc => ?_)
      · walk_at "v"
        refine g_ixRow hR ed hd fun t1 ht1 => ?_
        walk_at "v"
        refine g_ixT (j := 0) ht1 rfl ?_
        walk_at "v"
        rw [if_pos hc]
        exact ⟨by walk_at "z", rfl⟩
      · rw [if_neg hc]
        exact ⟨by walk_at "z", rfl⟩) ?_
    have hs0 : 0 ≤ (if cellAt ns 3 % 2 = 1 then max 0 (d + cellAt ns 3 / 2 % 3 - 1) else cellAt ns 2 % 30) ∧ (if cellAt ns 3 % 2 = 1 then max 0 (d + cellAt ns 3 / 2 % 3 - 1) else cellAt ns 2 % 30) ≤ 100000 := by
      have := hdb
      split <;> omega
    generalize (if cellAt ns 3 % 2 = 1 then max 0 (d + cellAt ns 3 / 2 % 3 - 1) else cellAt ns 2 % 30) = st at hs0
    walk_at "v"
    have hn : 0 ≤ cellAt ns 4 % 41 ∧ cellAt ns 4 % 41 < 41 := by omega
    generalize cellAt ns 4 % 41 = n at hn
    refine g_rg2 ⟨by omega, by omega, by omega, by omega⟩ (fun σ0 i σ' H' => H' = H1 ∧ ∃ v1, σ' = (σ0.set 6 (some (.int (sumDays row st i)))).set 7 v1) ⟨rfl, none, by walk_at "z"⟩ ?_ ?_
    · rintro i σ' H' hi ⟨rfl, v1, rfl⟩
      walk_at "v"
      refine g_rate_of hR ?_
      walk_at "v"
      exact ⟨rfl, some (.int (st + 1 + (i : Int))), by walk_at "z"⟩
    · rintro σ' H' ⟨rfl, v1, rfl⟩
      walk_at "v"
      refine g_listOf hR fun lh H2 hlh s2 hR2 => ?_
      walk_at "v"
      refine g_grown hR2 (by omega) (by omega) (by omega) ?_
      walk_at "v"
      have e2 : grownF row st (st + n) = sumDays row st (st + n + 1 - (st + 1)).toNat := by
        unfold grownF
        rw [show (st + n - st).toNat = (st + n + 1 - (st + 1)).toNat by omega]
      refine g_ite (fun hc2 => ?_) (fun hc2 => absurd e2 hc2)
      walk_at "v"
      exact g_eqRow hR2 (hR.same s2) (q _)
end
theorem walk {l : PySem.W.OpenLaw} {q : Program} {loose : List Str} {XP : (Str → Option Value) → Heap → Prop} {YP : World → Heap → Prop} {d : DefRec} {K : Params → PySem.W.Frag} (hn : l.most = some 63) (hdf : d.params.defaults = [])
    (hY : ∀ (w : World) (h : Heap), YP w h → (K w.params).In h)
    (F : ∀ (w : World) (mg : Str → Option Value) (fa : Addr) (h : Heap), (K w.params).In h → h.Ns mainGlobals mg → mg d.name = some (.ref fa) →
      ∃ fd : FuncData, (∀ (s : Shared) (u : Value), BindsTo s fd ⟨[u], []⟩ [("_law_script", u)]) ∧ ∀ base : Heap, (K w.params).In base → base.Ns mainGlobals mg → FnOk l.prog w (K w.params) mg base CX0 4 fa fd ["_law_script"] (sp_law (K w.params))) :
    PySem.W.WalkO q loose XP YP l.row.toRowW d [] (fun f vs => PySem.call f vs) :=
  L2.walk_ofB (n := 63) (k := 4) (x := "_law_script") (CX := fun _ => CX0) (sp := fun w => sp_law (K w.params)) hn (by decide) hdf ⟨rfl, by decide, by decide⟩ hY F (fun _ _ a ns hl hb _ hS => ⟨a, ns, rfl, hS, hl, hb, fun _ => rfl⟩) fun _ _ _ _ _ z => z
def adOf (f0 : Addr) (d0 : FuncData) (f1 : Addr) (d1 : FuncData) (f2 : Addr) (d2 : FuncData) (f3 : Addr) (d3 : FuncData) (f4 : Addr) (d4 : FuncData) (f5 : Addr) (d5 : FuncData) (f6 : Addr) (d6 : FuncData) (f7 : Addr) (d7 : FuncData) : Ad :=
  { a_grown := f0, d_grown := d0, a_cell_at := f1, d_cell_at := d1, a_whole := f2, d_whole := d2, a_mixed := f3, d_mixed := d3, a_rate_by := f4, d_rate_by := d4, a_row_by := f5, d_row_by := d5, a_rate_of := f6, d_rate_of := d6, a_law := f7, d_law := d7 }
theorem all_mk {l : PySem.W.OpenLaw} {w : World} {K : PySem.W.Frag} {h : Heap} {mg : Str → Option Value} {fa : Addr} (X : K.In h) (G : h.Ns mainGlobals mg) (hfa : mg "law" = some (.ref fa))
    {f0 : Addr} {od0 an0 : Option Addr} {sl0 : Array (Option Value)} {oc0 kV0 dc0 pm0 cd0 ct0 : Value}
    {f1 : Addr} {od1 an1 : Option Addr} {sl1 : Array (Option Value)} {oc1 kV1 dc1 pm1 cd1 ct1 : Value}
    {f2 : Addr} {od2 an2 : Option Addr} {sl2 : Array (Option Value)} {oc2 kV2 dc2 pm2 cd2 ct2 : Value}
    {f3 : Addr} {od3 an3 : Option Addr} {sl3 : Array (Option Value)} {oc3 kV3 dc3 pm3 cd3 ct3 : Value}
    {f4 : Addr} {od4 an4 : Option Addr} {sl4 : Array (Option Value)} {oc4 kV4 dc4 pm4 cd4 ct4 : Value}
    {f5 : Addr} {od5 an5 : Option Addr} {sl5 : Array (Option Value)} {oc5 kV5 dc5 pm5 cd5 ct5 : Value}
    {f6 : Addr} {od6 an6 : Option Addr} {sl6 : Array (Option Value)} {oc6 kV6 dc6 pm6 cd6 ct6 : Value}
    {f7 : Addr} {od7 an7 : Option Addr} {sl7 : Array (Option Value)} {oc7 kV7 dc7 pm7 cd7 ct7 : Value}
    (a0 : PySem.W.nsIn K mainGlobals "grown" = some (some (.ref f0)))
    (l0 : K.lookup f0 = some ⟨oc0, od0, .func (PySem.W.fnOf "grown" "grown" (defArgs s_grown) (defBody s_grown) (defScope s_grown) .none kV0 dc0 pm0 an0 cd0 ct0), sl0⟩)
    (q0 : PySem.W.codeIn K cd0 "grown" = true)
    (k0 : PySem.W.keepIn K (.ref f0) = true)
    (a1 : PySem.W.nsIn K mainGlobals "_law_cell_at" = some (some (.ref f1)))
    (l1 : K.lookup f1 = some ⟨oc1, od1, .func (PySem.W.fnOf "_law_cell_at" "_law_cell_at" (defArgs s_cell_at) (defBody s_cell_at) (defScope s_cell_at) .none kV1 dc1 pm1 an1 cd1 ct1), sl1⟩)
    (q1 : PySem.W.codeIn K cd1 "_law_cell_at" = true)
    (k1 : PySem.W.keepIn K (.ref f1) = true)
    (a2 : PySem.W.nsIn K mainGlobals "_law_whole" = some (some (.ref f2)))
    (l2 : K.lookup f2 = some ⟨oc2, od2, .func (PySem.W.fnOf "_law_whole" "_law_whole" (defArgs s_whole) (defBody s_whole) (defScope s_whole) .none kV2 dc2 pm2 an2 cd2 ct2), sl2⟩)
    (q2 : PySem.W.codeIn K cd2 "_law_whole" = true)
    (k2 : PySem.W.keepIn K (.ref f2) = true)
    (a3 : PySem.W.nsIn K mainGlobals "_law_mixed" = some (some (.ref f3)))
    (l3 : K.lookup f3 = some ⟨oc3, od3, .func (PySem.W.fnOf "_law_mixed" "_law_mixed" (defArgs s_mixed) (defBody s_mixed) (defScope s_mixed) .none kV3 dc3 pm3 an3 cd3 ct3), sl3⟩)
    (q3 : PySem.W.codeIn K cd3 "_law_mixed" = true)
    (k3 : PySem.W.keepIn K (.ref f3) = true)
    (a4 : PySem.W.nsIn K mainGlobals "_law_rate_by" = some (some (.ref f4)))
    (l4 : K.lookup f4 = some ⟨oc4, od4, .func (PySem.W.fnOf "_law_rate_by" "_law_rate_by" (defArgs s_rate_by) (defBody s_rate_by) (defScope s_rate_by) .none kV4 dc4 pm4 an4 cd4 ct4), sl4⟩)
    (q4 : PySem.W.codeIn K cd4 "_law_rate_by" = true)
    (k4 : PySem.W.keepIn K (.ref f4) = true)
    (a5 : PySem.W.nsIn K mainGlobals "_law_row_by" = some (some (.ref f5)))
    (l5 : K.lookup f5 = some ⟨oc5, od5, .func (PySem.W.fnOf "_law_row_by" "_law_row_by" (defArgs s_row_by) (defBody s_row_by) (defScope s_row_by) .none kV5 dc5 pm5 an5 cd5 ct5), sl5⟩)
    (q5 : PySem.W.codeIn K cd5 "_law_row_by" = true)
    (k5 : PySem.W.keepIn K (.ref f5) = true)
    (a6 : PySem.W.nsIn K mainGlobals "_law_rate_of" = some (some (.ref f6)))
    (l6 : K.lookup f6 = some ⟨oc6, od6, .func (PySem.W.fnOf "_law_rate_of" "_law_rate_of" (defArgs s_rate_of) (defBody s_rate_of) (defScope s_rate_of) .none kV6 dc6 pm6 an6 cd6 ct6), sl6⟩)
    (q6 : PySem.W.codeIn K cd6 "_law_rate_of" = true)
    (k6 : PySem.W.keepIn K (.ref f6) = true)
    (a7 : PySem.W.nsIn K mainGlobals "law" = some (some (.ref f7)))
    (l7 : K.lookup f7 = some ⟨oc7, od7, .func (PySem.W.fnOf "law" "law" (defArgs s_law) (defBody s_law) (defScope s_law) .none kV7 dc7 pm7 an7 cd7 ct7), sl7⟩)
    (q7 : PySem.W.codeIn K cd7 "law" = true)
    (k7 : PySem.W.keepIn K (.ref f7) = true)
    (z_bool : PySem.W.nsIn K mainGlobals "bool" = some none)
    (z_int : PySem.W.nsIn K mainGlobals "int" = some none)
    (z_isinstance : PySem.W.nsIn K mainGlobals "isinstance" = some none)
    (z_len : PySem.W.nsIn K mainGlobals "len" = some none)
    (z_list : PySem.W.nsIn K mainGlobals "list" = some none)
    (z_max : PySem.W.nsIn K mainGlobals "max" = some none)
    (z_range : PySem.W.nsIn K mainGlobals "range" = some none)
    (z_reversed : PySem.W.nsIn K mainGlobals "reversed" = some none)
    : ∃ fd : FuncData, (∀ (s : Shared) (v : Value), BindsTo s fd ⟨[v], []⟩ [("_law_script", v)]) ∧ ∀ base : Heap, K.In base → base.Ns mainGlobals mg → FnOk l.prog w K mg base CX0 4 fa fd ["_law_script"] (sp_law K) := by
  have e := hfa.symm.trans (PySem.W.mg_of X G a7)
  cases e
  have F0 := fun_mk (st := s_grown) l0 q0 k0
  have b0 := F0.binds (ps := ["rates", "start", "end"]) fun _ _ _ _ _ _ us hl => match us, hl with | [_, _, _], _ => rfl
  have F1 := fun_mk (st := s_cell_at) l1 q1 k1
  have b1 := F1.binds (ps := ["_law_script", "_law_k"]) fun _ _ _ _ _ _ us hl => match us, hl with | [_, _], _ => rfl
  have F2 := fun_mk (st := s_whole) l2 q2 k2
  have b2 := F2.binds (ps := ["_law_found"]) fun _ _ _ _ _ _ us hl => match us, hl with | [_], _ => rfl
  have F3 := fun_mk (st := s_mixed) l3 q3 k3
  have b3 := F3.binds (ps := ["_law_cell", "_law_many"]) fun _ _ _ _ _ _ us hl => match us, hl with | [_, _], _ => rfl
  have F4 := fun_mk (st := s_rate_by) l4 q4 k4
  have b4 := F4.binds (ps := ["_law_cell"]) fun _ _ _ _ _ _ us hl => match us, hl with | [_], _ => rfl
  have F5 := fun_mk (st := s_row_by) l5 q5 k5
  have b5 := F5.binds (ps := ["_law_cell", "_law_many", "_law_wide"]) fun _ _ _ _ _ _ us hl => match us, hl with | [_, _, _], _ => rfl
  have F6 := fun_mk (st := s_rate_of) l6 q6 k6
  have b6 := F6.binds (ps := ["_law_row", "_law_day"]) fun _ _ _ _ _ _ us hl => match us, hl with | [_, _], _ => rfl
  have F7 := fun_mk (st := s_law) l7 q7 k7
  have b7 := F7.binds (ps := ["_law_script"]) fun _ _ _ _ _ _ us hl => match us, hl with | [_], _ => rfl
  have T : Txt K mg (adOf f0 _ f1 _ f2 _ f3 _ f4 _ f5 _ f6 _ fa _) :=
    { F_grown := F0, B_grown := b0,
      g_grown := PySem.W.mg_of X G a0,
      F_cell_at := F1, B_cell_at := b1,
      g_cell_at := PySem.W.mg_of X G a1,
      F_whole := F2, B_whole := b2,
      g_whole := PySem.W.mg_of X G a2,
      F_mixed := F3, B_mixed := b3,
      g_mixed := PySem.W.mg_of X G a3,
      F_rate_by := F4, B_rate_by := b4,
      g_rate_by := PySem.W.mg_of X G a4,
      F_row_by := F5, B_row_by := b5,
      g_row_by := PySem.W.mg_of X G a5,
      F_rate_of := F6, B_rate_of := b6,
      g_rate_of := PySem.W.mg_of X G a6,
      F_law := F7, B_law := b7,
      g_law := PySem.W.mg_of X G a7,
      n_bool := PySem.W.mg_none_of X G z_bool,
      n_int := PySem.W.mg_none_of X G z_int,
      n_isinstance := PySem.W.mg_none_of X G z_isinstance,
      n_len := PySem.W.mg_none_of X G z_len,
      n_list := PySem.W.mg_none_of X G z_list,
      n_max := PySem.W.mg_none_of X G z_max,
      n_range := PySem.W.mg_none_of X G z_range,
      n_reversed := PySem.W.mg_none_of X G z_reversed }
  exact ⟨_, fun s v => .of_eq rfl, fun base _ _ => ok_law T⟩
end Lp
open PySem PySem.W PyProof.Rows in
set_option maxRecDepth 100000 in
set_option maxHeartbeats 0 in
theorem PySem.Challenge.cw_loanplan_k02_days_added_up_holds : PySem.Challenge.rw_loanplan_k02_days_added_up.Holds := by
  w_on; o_law; k_head; (case hw => w_witness2)
  k_fill
  refine Lp.walk (l := PySem.Challenge.rw_loanplan_k02_days_added_up) rfl rfl (fun w h Y => PySem.W.kIn_of Y) ?F
  case F =>
    intro w mg fa h KX G hmg
    refine' Lp.all_mk KX G hmg ?a0 ?l0 ?q0 ?k0 ?a1 ?l1 ?q1 ?k1 ?a2 ?l2 ?q2 ?k2 ?a3 ?l3 ?q3 ?k3 ?a4 ?l4 ?q4 ?k4 ?a5 ?l5 ?q5 ?k5 ?a6 ?l6 ?q6 ?k6 ?a7 ?l7 ?q7 ?k7 ?z_bool ?z_int ?z_isinstance ?z_len ?z_list ?z_max ?z_range ?z_reversed
    (case a0 => k_is)
    (case l0 => k_is)
    (case q0 => k_is)
    (case k0 => k_is)
    (case a1 => k_is)
    (case l1 => k_is)
    (case q1 => k_is)
    (case k1 => k_is)
    (case a2 => k_is)
    (case l2 => k_is)
    (case q2 => k_is)
    (case k2 => k_is)
    (case a3 => k_is)
    (case l3 => k_is)
    (case q3 => k_is)
    (case k3 => k_is)
    (case a4 => k_is)
    (case l4 => k_is)
    (case q4 => k_is)
    (case k4 => k_is)
    (case a5 => k_is)
    (case l5 => k_is)
    (case q5 => k_is)
    (case k5 => k_is)
    (case a6 => k_is)
    (case l6 => k_is)
    (case q6 => k_is)
    (case k6 => k_is)
    (case a7 => k_is)
    (case l7 => k_is)
    (case q7 => k_is)
    (case k7 => k_is)
    (case z_bool => k_is)
    (case z_int => k_is)
    (case z_isinstance => k_is)
    (case z_len => k_is)
    (case z_list => k_is)
    (case z_max => k_is)
    (case z_range => k_is)
    (case z_reversed => k_is)
#print axioms PySem.Challenge.cw_loanplan_k02_days_added_up_holds
