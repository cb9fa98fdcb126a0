import PyProof.Rows.All
import Wide.All
import OpenK.AllK
import Wide.FinOn
import HandS.ForMost
import HandS.ForExc
import HandS.IsInst
import HandS.Style
import HandS.Rev
import HandS.TryMany
import HandS.Evl
import HandS.FStr
import HandS.Small
import HandS.TryOnly
import HandS.ExcIs
import HandS.HotCalls
import HandS.Walk
import HandS.EndBits
import PySem.Challenge.RW_loanplan_k11_whole_early_pays
set_option Elab.async false
set_option linter.all false
set_option maxRecDepth 100000
set_option maxHeartbeats 4000000
namespace Lp
open PySem L2

/-! ## readings by name -/
def NewT (xs : List V) (H : Hp) (Q : VK) : Prop := xs.length ≤ sizeLine ∧ ∀ p, H p = none → Q (.ref p) (upd H p (.tup xs))
def NewL (xs : List V) (H : Hp) (Q : VK) : Prop := xs.length ≤ sizeLine ∧ ∀ p, H p = none → Q (.ref p) (upd H p (.lst xs))
def rLen (K : PySem.W.Frag) : List V → Hp → VK → Prop := fun xs H Q => ∃ p ys, xs = [.ref p] ∧ (SqL K H p ys ∨ SqT K H p ys) ∧ Q (.int ys.length) H
theorem c_len {X : Cx} : CallR X (.builtin "len") (rLen X.K) := call_len_seq
def rListOf (K : PySem.W.Frag) : List V → Hp → VK → Prop := fun xs H Q => ∃ p ys, xs = [.ref p] ∧ (SqL K H p ys ∨ SqT K H p ys) ∧ ∀ l, H l = none → Q (.ref l) (upd H l (.lst ys))
theorem c_list {X : Cx} : CallR X (.type "list") (rListOf X.K) := call_list_of
def rMax2 : List V → Hp → VK → Prop := fun xs H Q => ∃ i j, xs = [.int i, .int j] ∧ Q (.int (if j > i then j else i)) H
theorem c_max {X : Cx} (hc : X.calm = true) : CallR X (.builtin "max") rMax2 := call_max2 hc
def rMin2 : List V → Hp → VK → Prop := fun xs H Q => ∃ i j, xs = [.int i, .int j] ∧ Q (.int (if j < i then j else i)) H
theorem c_min {X : Cx} (hc : X.calm = true) : CallR X (.builtin "min") rMin2 := call_min2 hc
def rInt1 : List V → Hp → VK → Prop := fun xs H Q => (∃ i, xs = [.int i] ∧ Q (.int i) H) ∨ ∃ k, xs = [.bl k] ∧ Q (.int (if k then 1 else 0)) H
theorem c_int {X : Cx} : CallR X (.type "int") rInt1 := call_int1
def rIsN0 : R2 := fun x y H Q => y = .non ∧ Q (.bl (decide (x = .non))) H
theorem c_isN {X : Cx} : OpR X (compareOp .Is) rIsN0 := op_isN
def rNotN0 : R2 := fun x y H Q => y = .non ∧ Q (.bl (!decide (x = .non))) H
theorem c_notN {X : Cx} : OpR X (compareOp .IsNot) rNotN0 := op_notN
def rFld (K : PySem.W.Frag) (f : Str) (x : V) (H : Hp) (Q : VK) : Prop := ∃ a C dx fs v, x = .ref a ∧ H a = some (.ins C dx fs) ∧ Cls K C ∧ NoAttr K C f ∧ fs.lookup f = some v ∧ Q v H
def rMeth (C : Addr) (m : Str) (x : V) (H : Hp) (R : Prop) : Prop := ∃ a dx fs, x = .ref a ∧ H a = some (.ins C dx fs) ∧ fs.lookup m = none ∧ R
/-! ## a reading, step by step -/
section
variable {σ : L2.St} {H : Hp} {Q : VK} {D : Ends} {K : PySem.W.Frag} {te ta tb : TE} {tt tu : TT} {t u w : TS}
theorem g_var {i : Nat} {v : V} (h : σ[i]? = some (some v)) (q : Q v H) : tVar i σ H Q := ⟨v, h, q⟩
theorem g_c {v : V} (q : Q v H) : tC v σ H Q := q
theorem g_op {r : R2} (h : ta σ H fun x H1 => tb σ H1 fun y H2 => r x y H2 Q) : tOp r ta tb σ H Q := h
theorem g_un {r : V → Hp → VK → Prop} (h : ta σ H fun x H1 => r x H1 Q) : tUn r ta σ H Q := h
theorem g_i0 {g : Int → Int → V} {a b : Int} (q : Q (g a b) H) : rI0 g (.int a) (.int b) H Q := ⟨a, b, rfl, rfl, q⟩
theorem g_i {C : Int → Int → Prop} {g : Int → Int → V} {a b : Int} (c : C a b) (q : Q (g a b) H) : rI C g (.int a) (.int b) H Q := ⟨a, b, rfl, rfl, c, q⟩
theorem g_u {g : Int → V} {a : Int} (q : Q (g a) H) : rU g (.int a) H Q := ⟨a, rfl, q⟩
theorem g_eqI {a b : Int} (q : Q (.bl (decide (a = b))) H) : rEq (.int a) (.int b) H Q := by
  refine ⟨rfl, ?_⟩
  have e : decide (V.int a = V.int b) = decide (a = b) := by
    by_cases h : a = b
    · rw [decide_eq_true h, h]; exact decide_eq_true rfl
    · rw [decide_eq_false h]; exact decide_eq_false fun q => h (V.int.inj q)
  rw [e]; exact q
theorem g_neI {a b : Int} (q : Q (.bl (decide (a ≠ b))) H) : rNe (.int a) (.int b) H Q := by
  refine ⟨rfl, ?_⟩
  have e : (!decide (V.int a = V.int b)) = decide (a ≠ b) := by
    by_cases h : a = b
    · subst h; simp
    · have h2 : ¬ V.int a = V.int b := fun q => h (V.int.inj q)
      rw [decide_eq_false h2, decide_eq_true h]; rfl
  rw [e]; exact q
theorem g_eqS {a b : Str} (q : Q (.bl (decide (a = b))) H) : rEq (.str a) (.str b) H Q := by
  refine ⟨rfl, ?_⟩
  have e : decide (V.str a = V.str b) = decide (a = b) := by
    by_cases h : a = b
    · rw [decide_eq_true h, h]; exact decide_eq_true rfl
    · rw [decide_eq_false h]; exact decide_eq_false fun q => h (V.str.inj q)
  rw [e]; exact q
theorem g_neS {a b : Str} (q : Q (.bl (decide (a ≠ b))) H) : rNe (.str a) (.str b) H Q := by
  refine ⟨rfl, ?_⟩
  have e : (!decide (V.str a = V.str b)) = decide (a ≠ b) := by
    by_cases h : a = b
    · subst h; simp
    · have h2 : ¬ V.str a = V.str b := fun q => h (V.str.inj q)
      rw [decide_eq_false h2, decide_eq_true h]; rfl
  rw [e]; exact q
theorem g_isNT (q : Q (.bl true) H) : rIsN0 .non .non H Q := ⟨rfl, by rw [decide_eq_true rfl]; exact q⟩
theorem g_isNI {i : Int} (q : Q (.bl false) H) : rIsN0 (.int i) .non H Q := ⟨rfl, by rw [decide_eq_false (by intro z; cases z)]; exact q⟩
theorem g_notNT (q : Q (.bl false) H) : rNotN0 .non .non H Q := ⟨rfl, by rw [decide_eq_true rfl]; exact q⟩
theorem g_notNI {i : Int} (q : Q (.bl true) H) : rNotN0 (.int i) .non H Q := ⟨rfl, by rw [decide_eq_false (by intro z; cases z)]; exact q⟩
theorem g_test {Q : Bool → Hp → Prop} (h : te σ H fun x H' => ∃ k, x = .bl k ∧ Q k H') : tTest te σ H Q := h
theorem g_tB {Q : Bool → Hp → Prop} (h : te σ H fun x H' => ∃ k, x = .bl k ∧ Q k H') : tB te σ H Q := h
theorem g_bl {Q : Bool → Hp → Prop} {b : Bool} (h : Q b H) : ∃ k, V.bl b = .bl k ∧ Q k H := ⟨b, rfl, h⟩
theorem g_and {Q : Bool → Hp → Prop} (h : tt σ H fun c H1 => if c = true then tu σ H1 Q else Q false H1) : tAnd tt tu σ H Q := h
theorem g_or {Q : Bool → Hp → Prop} (h : tt σ H fun c H1 => if c = true then Q true H1 else tu σ H1 Q) : tOr tt tu σ H Q := h
theorem g_not {Q : Bool → Hp → Prop} (h : tt σ H fun c H1 => Q (!c) H1) : tNot tt σ H Q := h
theorem g_andV (h : ta σ H fun x H1 => ∃ c, x = .bl c ∧ if c = true then tb σ H1 Q else Q (.bl false) H1) : tAndV ta tb σ H Q := h
theorem g_orV (h : ta σ H fun x H1 => ∃ c, x = .bl c ∧ if c = true then Q (.bl true) H1 else tb σ H1 Q) : tOrV ta tb σ H Q := h
theorem g_notV (h : ta σ H fun x H1 => ∃ c, x = .bl c ∧ Q (.bl (!c)) H1) : tNotV ta σ H Q := h
theorem g_blV {b : Bool} {P : Bool → Prop} (h : P b) : ∃ c, V.bl b = .bl c ∧ P c := ⟨b, rfl, h⟩
theorem g_chain {r r' : R2} {tc : TE} (h : ta σ H fun x H1 => tb σ H1 fun y H2 => r x y H2 fun z H3 => ∃ k, z = .bl k ∧
  (if k = true then tc σ H3 fun w' H4 => r' y w' H4 Q else Q (.bl false) H3)) : tChain r r' ta tb tc σ H Q := h
theorem g_ite {c A B : Prop} [Decidable c] (h1 : c → A) (h2 : ¬ c → B) : if decide c = true then A else B := by
  by_cases h : c
  · rw [decide_eq_true h]; exact iteT (h1 h)
  · rw [decide_eq_false h]; exact iteF (h2 h)
theorem g_iteN {c A B : Prop} [Decidable c] (h1 : ¬ c → A) (h2 : c → B) : if (!decide c) = true then A else B := by
  by_cases h : c
  · rw [decide_eq_true h]; exact iteF (h2 h)
  · rw [decide_eq_false h]; exact iteT (h1 h)
theorem g_iteT' {A B : Prop} (h : A) : if true = true then A else B := iteT h
theorem g_iteF' {A B : Prop} (h : B) : if false = true then A else B := iteF h
theorem g_iteTT {A B : Prop} [Decidable True] (h : A) : if True then A else B := by rw [if_pos True.intro]; exact h
theorem g_iteFF {A B : Prop} [Decidable False] (h : B) : if False then A else B := by rw [if_neg not_false]; exact h
theorem g_iteNT {A B : Prop} (h : B) : if (!true) = true then A else B := iteF h
theorem g_iteNF {A B : Prop} (h : A) : if (!false) = true then A else B := iteT h
theorem g_nil {Q : List V → Hp → Prop} (h : Q [] H) : tNil σ H Q := h
theorem g_cons {tr : TA} {Q : List V → Hp → Prop} (h : ta σ H fun x H1 => tr σ H1 fun xs H2 => Q (x :: xs) H2) : tCons ta tr σ H Q := h
theorem g_tup {tr : TA} (h : tr σ H fun xs H1 => NewT xs H1 Q) : tTup tr σ H Q := h
theorem g_lst {tr : TA} (h : tr σ H fun xs H1 => NewL xs H1 Q) : tLst tr σ H Q := h
theorem g_cb {r : List V → Hp → VK → Prop} {tr : TA} (h : tr σ H fun vs H1 => r vs H1 Q) : tCB r tr σ H Q := h
theorem g_bm {r : V → List V → Hp → VK → Prop} {T : String} {tr : TA} (h : ta σ H fun x H1 => tyV K T x H1 ∧ tr σ H1 fun xs H2 => r x xs H2 Q) : tBM K T r ta tr σ H Q := h
theorem g_call {sp : Sp} {dvs : List V} {E : XK} {tr : TA} (h : tr σ H fun vs H1 => sp (vs ++ dvs) H1 Q E) : tCall sp dvs E tr σ H Q := h
theorem g_meth {C : Addr} {m : Str} {sp : Sp} {dvs : List V} {E : XK} {tr : TA} (h : ta σ H fun x H1 => rMeth C m x H1 (tr σ H1 fun vs H2 => sp (x :: (vs ++ dvs)) H2 Q E)) : tMeth C m sp dvs E ta tr σ H Q := h
theorem g_fld {f : Str} (h : ta σ H fun x H1 => rFld K f x H1 Q) : tFld K ta f σ H Q := h
theorem g_make {C : Addr} {sp : Sp} {dvs : List V} {E : XK} {tr : TA} (h : tr σ H fun vs H1 => ∀ x dx, H1 x = none → H1 dx = none → dx ≠ x →
  sp (.ref x :: (vs ++ dvs)) (upd (upd H1 dx (.own x)) x (.ins C dx [])) (fun v H2 => v = .non ∧ Q (.ref x) H2) E) : tMake C sp dvs E tr σ H Q := h
/-! statements -/
theorem g_seq_asg {i : Nat} (h : te σ H fun x H1 => u D (σ.set i (some x)) H1) : tSeq (tAsg te (gName i)) u D σ H := h
theorem g_asg {i : Nat} (h : te σ H fun x H1 => D.nx (σ.set i (some x)) H1) : tAsg te (gName i) D σ H := h
theorem g_seq_asgT {g : TGs} {n : Nat} (h : te σ H fun x H1 => gTup K n g x σ H1 (u D)) : tSeq (tAsg te (gTup K n g)) u D σ H := h
theorem g_asgT {g : TGs} {n : Nat} (h : te σ H fun x H1 => gTup K n g x σ H1 D.nx) : tAsg te (gTup K n g) D σ H := h
theorem g_seq_if (h : tt σ H fun b H1 => if b = true then tSeq t u D σ H1 else tSeq w u D σ H1) : tSeq (tIfS tt t w) u D σ H := h
theorem g_if (h : tt σ H fun b H1 => if b = true then t D σ H1 else u D σ H1) : tIfS tt t u D σ H := h
theorem g_seq_next (h : u D σ H) : tSeq tNext u D σ H := h
theorem g_next (h : D.nx σ H) : tNext D σ H := h
theorem g_seq_ret (h : te σ H D.rt) : tSeq (tRet te) u D σ H := h
theorem g_ret (h : te σ H D.rt) : tRet te D σ H := h
theorem g_seq_seq (h : tSeq t (tSeq u w) D σ H) : tSeq (tSeq t u) w D σ H := h
theorem g_seq_drop (h : te σ H fun _ H1 => u D σ H1) : tSeq (tDrop te) u D σ H := h
theorem g_drop (h : te σ H fun _ H1 => D.nx σ H1) : tDrop te D σ H := h
theorem g_seq_par {i j : Nat} {tr : TA} (h : tr σ H fun vs H1 => ∃ v w, vs = [v, w] ∧ u D ((σ.set i (some v)).set j (some w)) H1) : tSeq (tPar i j tr) u D σ H := h
theorem g_par {i j : Nat} {tr : TA} (h : tr σ H fun vs H1 => ∃ v w, vs = [v, w] ∧ D.nx ((σ.set i (some v)).set j (some w)) H1) : tPar i j tr D σ H := h
theorem g_seq_bk (h : D.bk σ H) : tSeq tBreak u D σ H := h
theorem g_bk (h : D.bk σ H) : tBreak D σ H := h
theorem g_seq_ct (h : D.ct σ H) : tSeq tCont u D σ H := h
theorem g_ct (h : D.ct σ H) : tCont D σ H := h
theorem g_gn {i : Nat} {v : V} {R : L2.St → Hp → Prop} (h : R (σ.set i (some v)) H) : gName i v σ H R := h
theorem g_seq_for {wi : TI} {g : TG} (h : tFor wi g t { D with nx := u D } σ H) : tSeq (tFor wi g t) u D σ H := h
end
end Lp
namespace Lp
open PySem L2
/-! ## heaps that grow -/
theorem same_new {H : Hp} {p : Addr} {o : HO} (h : H p = none) : Same H (upd H p o) := fun b u e => by
  rw [upd_ne (ne_of_none e h)]; exact e
theorem same_upd {H H' : Hp} {p : Addr} {o : HO} (s : Same H H') (h : H p = none) : Same H (upd H' p o) := fun b u e => by
  rw [upd_ne (ne_of_none e h)]; exact s b u e
theorem same_to_new {H H' : Hp} {p : Addr} {o : HO} (s : Same H H') (h : H' p = none) : Same H (upd H' p o) := s.trans (same_new h)
/-- all but x is as it was -/
def But (x : Addr) (H H' : Hp) : Prop := ∀ b o, b ≠ x → H b = some o → H' b = some o
theorem But.same {x : Addr} {H H' : Hp} (s : Same H H') : But x H H' := fun b o _ e => s b o e
theorem But.trans {x : Addr} {H H1 H2 : Hp} (a : But x H H1) (b : But x H1 H2) : But x H H2 := fun c o n h => b c o n (a c o n h)
theorem but_upd {x : Addr} {H : Hp} {o : HO} : But x H (upd H x o) := fun b u n e => by rw [upd_ne n]; exact e
theorem SqL.same {K : PySem.W.Frag} {H H' : Hp} {a : Addr} {xs : List V} (h : SqL K H a xs) (e : Same H H') : SqL K H' a xs := e.seq h

/-! ## rows of pairs -/
abbrev Row := List (Int × Int)
inductive PairsAt (H : Hp) : List V → Row → Prop
  | nil : PairsAt H [] []
  | cons {q : Addr} {d r : Int} {xs : List V} {row : Row} : H q = some (.tup [.int d, .int r]) → PairsAt H xs row → PairsAt H (.ref q :: xs) ((d, r) :: row)
theorem PairsAt.len {H : Hp} : ∀ {xs : List V} {row : Row}, PairsAt H xs row → xs.length = row.length
  | _, _, .nil => rfl
  | _, _, .cons _ t => by rw [List.length_cons, List.length_cons, t.len]
theorem PairsAt.mono {H H' : Hp} (s : ∀ q ps, H q = some (.tup ps) → H' q = some (.tup ps)) : ∀ {xs : List V} {row : Row}, PairsAt H xs row → PairsAt H' xs row
  | _, _, .nil => .nil
  | _, _, .cons h t => .cons (s _ _ h) (t.mono s)
theorem PairsAt.app {H : Hp} : ∀ {xs ys : List V} {row row' : Row}, PairsAt H xs row → PairsAt H ys row' → PairsAt H (xs ++ ys) (row ++ row')
  | _, _, _, _, .nil, t => t
  | _, _, _, _, .cons h t, u => .cons h (t.app u)
theorem PairsAt.get {H : Hp} : ∀ {xs : List V} {row : Row} {i : Nat} {p : Int × Int}, PairsAt H xs row → row[i]? = some p → ∃ q, xs[i]? = some (.ref q) ∧ H q = some (.tup [.int p.1, .int p.2])
  | _, _, i, _, .nil, e => by simp at e
  | _, _, 0, _, .cons h t, e => by simp at e; subst e; exact ⟨_, rfl, h⟩
  | _, _, i + 1, _, .cons h t, e => by
    obtain ⟨q, h1, h2⟩ := t.get (i := i) (by simpa using e)
    exact ⟨q, by simpa using h1, h2⟩
theorem PairsAt.got {H : Hp} {xs : List V} {row : Row} {i : Nat} {v : V} (h : PairsAt H xs row) (e : xs[i]? = some v) : ∃ p q, row[i]? = some p ∧ v = .ref q ∧ H q = some (.tup [.int p.1, .int p.2]) := by
  have l : i < row.length := by rw [← h.len]; exact (List.getElem?_eq_some_iff.mp e).1
  obtain ⟨q, h1, h2⟩ := h.get (List.getElem?_eq_getElem l)
  rw [h1] at e
  exact ⟨_, q, List.getElem?_eq_getElem l, (Option.some.inj e).symm, h2⟩
theorem PairsAt.take {H : Hp} : ∀ {xs : List V} {row : Row} (n : Nat), PairsAt H xs row → PairsAt H (xs.take n) (row.take n)
  | _, _, 0, _ => .nil
  | _, _, _ + 1, .nil => .nil
  | _, _, n + 1, .cons h t => .cons h (t.take n)
theorem PairsAt.drop {H : Hp} : ∀ {xs : List V} {row : Row} (n : Nat), PairsAt H xs row → PairsAt H (xs.drop n) (row.drop n)
  | _, _, 0, h => h
  | _, _, _ + 1, .nil => .nil
  | _, _, n + 1, .cons h t => t.drop n
/-- a list at l of the row's pairs -/
def RowAt (H : Hp) (l : Addr) (row : Row) : Prop := ∃ xs, H l = some (.lst xs) ∧ PairsAt H xs row
theorem RowAt.same {H H' : Hp} {l : Addr} {row : Row} (h : RowAt H l row) (s : Same H H') : RowAt H' l row := by
  obtain ⟨xs, h1, h2⟩ := h
  exact ⟨xs, s _ _ h1, h2.mono fun q ps e => s _ _ e⟩
theorem RowAt.but {H H' : Hp} {l x : Addr} {row : Row} (h : RowAt H l row) (s : But x H H') (hl : l ≠ x) (hx : ∀ ps, H x ≠ some (.tup ps)) : RowAt H' l row := by
  obtain ⟨xs, h1, h2⟩ := h
  exact ⟨xs, s _ _ hl h1, h2.mono fun q ps e => s _ _ (fun z => hx ps (by rw [← z]; exact e)) e⟩
/-- one more pair at the list's end -/
theorem RowAt.snoc {H : Hp} {l q : Addr} {row : Row} {xs : List V} {d r : Int} (h2 : PairsAt H xs row) (hl : H l = some (.lst xs)) (hq : H q = some (.tup [.int d, .int r])) : RowAt (upd H l (.lst (xs ++ [.ref q]))) l (row ++ [(d, r)]) := by
  refine ⟨_, upd_same, ?_⟩
  have k : ∀ q ps, H q = some (.tup ps) → upd H l (.lst (xs ++ [.ref q])) q = some (.tup ps) := fun q ps e => by
    rw [upd_ne (ne_of e hl (by intro z; cases z))]; exact e
  refine PairsAt.app (h2.mono fun q ps e => ?_) (.cons ?_ .nil)
  · rw [upd_ne (ne_of e hl (by intro z; cases z))]; exact e
  · rw [upd_ne (ne_of hq hl (by intro z; cases z))]; exact hq
/-- the data that a row is -/
def rowD (row : Row) : PyData := .list (row.map fun p => .tuple [.int p.1, .int p.2])
theorem PairsAt.dp {K : PySem.W.Frag} {H : Hp} : ∀ {xs : List V} {row : Row}, PairsAt H xs row → DpAll K H xs (row.map fun p => .tuple [.int p.1, .int p.2])
  | _, _, .nil => .nil
  | _, _, .cons h t => .cons (.tup (SqT.of h) (.cons (.int _) (.cons (.int _) .nil))) t.dp
theorem RowAt.dp {K : PySem.W.Frag} {H : Hp} {l : Addr} {row : Row} (h : RowAt H l row) : Dp K H (.ref l) (rowD row) := by
  obtain ⟨xs, h1, h2⟩ := h
  exact .lst (SqL.of h1) h2.dp
theorem rowD_lay : ∀ row : Row, PyData.canLayAll0 (row.map fun p => PyData.tuple [.int p.1, .int p.2]) = true
  | [] => by simp [PyData.canLayAll0]
  | p :: r => by simp [PyData.canLayAll0, PyData.canLay0, rowD_lay r]
theorem rowD_dep : ∀ row : Row, PyData.depthAll (row.map fun p => PyData.tuple [.int p.1, .int p.2]) ≤ 3
  | [] => by simp [PyData.depthAll]
  | p :: r => by
    have := rowD_dep r
    simp only [List.map_cons, PyData.depthAll, PyData.depth]
    omega
theorem rowD_lay0 (row : Row) : (rowD row).canLay0 = true := by
  unfold rowD; simp only [PyData.canLay0]; exact rowD_lay row
theorem rowD_shaped (row : Row) : SeqAt.shaped (rowD row) = true := by
  have h1 := rowD_dep row
  have h2 : PyData.depth (rowD row) ≤ 64 := by unfold rowD; simp only [PyData.depth]; omega
  unfold SeqAt.shaped
  rw [Bool.and_eq_true]
  exact ⟨rowD_lay0 row, decide_eq_true h2⟩
section
variable {K : PySem.W.Frag} {H : Hp} {Q : VK}
theorem g_eqRow {a b : Addr} {row : Row} (ha : RowAt H a row) (hb : RowAt H b row) (q : Q (.bl true) H) : rEqD K (.ref a) (.ref b) H Q :=
  ⟨_, _, ha.dp, hb.dp, rowD_shaped _, rowD_shaped _, by rw [SeqAt.eqv_refl _ (rowD_lay0 _)]; exact q⟩
theorem g_neRow {a b : Addr} {row : Row} (ha : RowAt H a row) (hb : RowAt H b row) (q : Q (.bl false) H) : rNeD K (.ref a) (.ref b) H Q :=
  ⟨_, _, ha.dp, hb.dp, rowD_shaped _, rowD_shaped _, by rw [SeqAt.eqv_refl _ (rowD_lay0 _)]; exact q⟩
/-- len(list), list(list) -/
theorem g_len {p : Addr} {ys : List V} {n : Int} (h : SqL K H p ys) (e : (ys.length : Int) = n) (q : Q (.int n) H) : rLen K [.ref p] H Q := ⟨p, ys, rfl, .inl h, by rw [e]; exact q⟩
theorem g_lenT {p : Addr} {ys : List V} {n : Int} (h : SqT K H p ys) (e : (ys.length : Int) = n) (q : Q (.int n) H) : rLen K [.ref p] H Q := ⟨p, ys, rfl, .inr h, by rw [e]; exact q⟩
theorem g_listOf {p : Addr} {row : Row} (h : RowAt H p row) (q : ∀ l H', H l = none → Same H H' → RowAt H' l row → Q (.ref l) H') : rListOf K [.ref p] H Q := by
  obtain ⟨xs, h1, h2⟩ := h
  refine ⟨p, xs, rfl, .inl (SqL.of h1), fun l hl => q l _ hl (same_new hl) ⟨xs, upd_same, h2.mono fun q ps e => same_new hl _ _ e⟩⟩
theorem g_newT {xs : List V} (hl : xs.length ≤ 100) (h : ∀ p H', H p = none → Same H H' → H' p = some (.tup xs) → Q (.ref p) H') : NewT xs H Q :=
  ⟨Nat.le_trans hl (by decide), fun p hp => h p _ hp (same_new hp) upd_same⟩
theorem g_newL {xs : List V} (hl : xs.length ≤ 100) (h : ∀ p H', H p = none → Same H H' → H' p = some (.lst xs) → Q (.ref p) H') : NewL xs H Q :=
  ⟨Nat.le_trans hl (by decide), fun p hp => h p _ hp (same_new hp) upd_same⟩
theorem g_ixT {p : Addr} {xs : List V} {j : Nat} {v : V} (h : H p = some (.tup xs)) (e : xs[j]? = some v) (q : Q v H) : rIxT K (.ref p) (.int (j : Int)) H Q := ⟨p, xs, _, v, rfl, rfl, SqT.of h, atI_nat e, q⟩
theorem g_ixL {p : Addr} {xs : List V} {i : Int} {j : Nat} {v : V} (h : SqL K H p xs) (ei : i = (j : Int)) (e : xs[j]? = some v) (q : Q v H) : rIxL K (.ref p) (.int i) H Q := ⟨p, xs, _, v, rfl, rfl, h, by rw [ei]; exact atI_nat e, q⟩
/-- row[i] -/
theorem g_ixRow {p : Addr} {row : Row} {i : Int} {j : Nat} {d r : Int} (h : RowAt H p row) (ei : i = (j : Int)) (e : row[j]? = some (d, r)) (q : ∀ t, H t = some (.tup [.int d, .int r]) → Q (.ref t) H) : rIxL K (.ref p) (.int i) H Q := by
  obtain ⟨xs, h1, h2⟩ := h
  obtain ⟨t, e1, e2⟩ := h2.get e
  exact g_ixL (SqL.of h1) ei e1 (q t e2)
/-- row[-1] -/
theorem g_ixLast {p : Addr} {row : Row} {i : Int} {d r : Int} (h : RowAt H p row) (ei : i = -1) (e : row.getLast? = some (d, r)) (q : ∀ t, H t = some (.tup [.int d, .int r]) → Q (.ref t) H) : rIxL K (.ref p) (.int i) H Q := by
  obtain ⟨xs, h1, h2⟩ := h
  rw [List.getLast?_eq_getElem?] at e
  obtain ⟨t, e1, e2⟩ := h2.get e
  have n := h2.len
  have hn : row.length - 1 < row.length := by
    have := (List.getElem?_eq_some_iff.mp e).1; exact this
  have e3 : xs.getLast? = some (.ref t) := by rw [List.getLast?_eq_getElem?, n]; exact e1
  obtain ⟨ys, ex⟩ := List.getLast?_eq_some_iff.mp e3
  refine ⟨p, xs, i, .ref t, rfl, rfl, SqL.of h1, ?_, q t e2⟩
  rw [ei, ex]
  exact atI_last _ _
/-- len(row) -/
theorem g_lenRow {p : Addr} {row : Row} {n : Int} (h : RowAt H p row) (e : (row.length : Int) = n) (q : Q (.int n) H) : rLen K [.ref p] H Q := by
  obtain ⟨xs, h1, h2⟩ := h
  exact g_len (SqL.of h1) (by rw [h2.len]; exact e) q
theorem g_max2 {a b : Int} (q : Q (.int (max a b)) H) : rMax2 [.int a, .int b] H Q := ⟨a, b, rfl, by
  have e : (if b > a then b else a) = max a b := by split <;> omega
  rw [e]; exact q⟩
theorem g_min2 {a b : Int} (q : Q (.int (min a b)) H) : rMin2 [.int a, .int b] H Q := ⟨a, b, rfl, by
  have e : (if b < a then b else a) = min a b := by split <;> omega
  rw [e]; exact q⟩
/-- for a, b in a pair's tuple -/
theorem g_unp2 {σ : L2.St} {i j : Nat} {p : Addr} {v w : V} {R : L2.St → Hp → Prop} (h : H p = some (.tup [v, w])) (q : R ((σ.set i (some v)).set j (some w)) H) : gTup K 2 (gCons (gName i) (gCons (gName j) gNil)) (.ref p) σ H R :=
  ⟨p, [v, w], rfl, SqT.of h, rfl, v, [w], rfl, w, [], rfl, rfl, q⟩
/-- isinstance(int, int), (int, bool) -/
theorem g_isInt {a : Int} (q : Q (.bl true) H) : rIsi K [.int a, .ty "int"] H Q := ⟨_, _, _, _, true, rfl, .ty _, .base (.int a), kit_ty (by decide +kernel), q⟩
theorem g_isBool {a : Int} (q : Q (.bl false) H) : rIsi K [.int a, .ty "bool"] H Q := ⟨_, _, _, _, false, rfl, .ty _, .base (.int a), kit_ty (by decide +kernel), q⟩
theorem g_isTup {p : Addr} {xs : List V} (h : H p = some (.tup xs)) (q : Q (.bl true) H) : rIsi K [.ref p, .ty "tuple"] H Q := ⟨_, _, _, _, true, rfl, .ty _, .base (.tup h), kit_ty (by decide +kernel), q⟩
theorem g_isLst {p : Addr} {xs : List V} (h : H p = some (.lst xs)) (q : Q (.bl true) H) : rIsi K [.ref p, .ty "list"] H Q := ⟨_, _, _, _, true, rfl, .ty _, .base (.lst h), kit_ty (by decide +kernel), q⟩
end
/-! ## an int's product of any size within the script's bits -/
section
variable {X : Cx}
theorem op_mulX : OpR X (binaryOp .Mult) (rI IntMulOk fun i j => .int (i * j)) := opI fun _ _ _ _ _ _ _ hc q => PyProof.Rows.mul_int q hc
end
end Lp
namespace Lp
/-! ## the numbers: plain Lean -/
abbrev Pairs := List (Int × Int)
def cellAt (ns : List Int) (k : Int) : Int := ns.getD k.toNat 0
def mixed (c m : Int) : Int := (c * 48271 + 12345) % 2147483647 % m
def rateBy (c : Int) : Int := if c % 5 = 0 then [0, 1, 99999, 100000].getD (c / 5 % 4).toNat 0 else if c % 5 = 1 then c / 5 % 400 else mixed c 100001
theorem mixed_lo {c m : Int} (h : 0 < m) : 0 ≤ mixed c m := Int.emod_nonneg _ (by omega)
theorem mixed_hi {c m : Int} (h : 0 < m) : mixed c m < m := Int.emod_lt_of_pos _ h
theorem rateBy_ok (c : Int) : 0 ≤ rateBy c ∧ rateBy c ≤ 100000 := by
  unfold rateBy
  split
  · have h : c / 5 % 4 = 0 ∨ c / 5 % 4 = 1 ∨ c / 5 % 4 = 2 ∨ c / 5 % 4 = 3 := by omega
    rcases h with h | h | h | h <;> rw [h] <;> decide
  · split
    · omega
    · have := mixed_lo (c := c) (m := 100001) (by decide)
      have := mixed_hi (c := c) (m := 100001) (by decide)
      omega
def lastDay (row : Pairs) : Int := (row.getLast?.getD (0, 0)).1
def lastRate (row : Pairs) : Int := (row.getLast?.getD (0, 0)).2
/-- the row with n more pairs behind the first -/
def rowN (c w : Int) : Nat → Pairs
  | 0 => [(0, rateBy c)]
  | n + 1 => rowN c w n ++ [(lastDay (rowN c w n) + 1 + mixed (c + 13 * (1 + (n : Int))) w, rateBy (c / 7 + 31 * (1 + (n : Int))))]
def rowBy (c m w : Int) : Pairs := rowN c w (m - 1).toNat
theorem last_snoc {α : Type} (l : List α) (x : α) : (l ++ [x]).getLast? = some x := by simp
theorem rowN_len (c w : Int) : ∀ n, (rowN c w n).length = n + 1
  | 0 => rfl
  | n + 1 => by rw [rowN, List.length_append, rowN_len c w n]; rfl
theorem rowN_last (c w : Int) (n : Nat) : ∃ d r, (rowN c w n).getLast? = some (d, r) ∧ lastDay (rowN c w n) = d ∧ lastRate (rowN c w n) = r := by
  cases n with
  | zero => exact ⟨0, rateBy c, rfl, rfl, rfl⟩
  | succ n =>
    refine ⟨_, _, by rw [rowN]; exact last_snoc _ _, ?_, ?_⟩
    · unfold lastDay; rw [rowN, last_snoc]; rfl
    · unfold lastRate; rw [rowN, last_snoc]; rfl
/-- a good row: it begins with day 0, days grow, rates are in bounds -/
structure RowOk (row : Pairs) : Prop where
  head : ∃ r t, row = (0, r) :: t
  asc : row.Pairwise fun p q => p.1 < q.1
  rate : ∀ p ∈ row, 0 ≤ p.2 ∧ p.2 ≤ 100000
theorem RowOk.ne {row : Pairs} (h : RowOk row) : row ≠ [] := by obtain ⟨r, t, e⟩ := h.head; rw [e]; simp
theorem RowOk.pos {row : Pairs} (h : RowOk row) : 0 < row.length := List.length_pos_iff.mpr h.ne
theorem lastDay_snoc (row : Pairs) (p : Int × Int) : lastDay (row ++ [p]) = p.1 := by unfold lastDay; rw [last_snoc]; rfl
theorem lastRate_snoc (row : Pairs) (p : Int × Int) : lastRate (row ++ [p]) = p.2 := by unfold lastRate; rw [last_snoc]; rfl
theorem RowOk.le_last {row : Pairs} (h : row.Pairwise fun p q => p.1 < q.1) : ∀ p ∈ row, p.1 ≤ lastDay row := by
  rcases List.eq_nil_or_concat row with e | ⟨l, x, e⟩
  · subst e; intro p hp; cases hp
  · rw [List.concat_eq_append] at e
    subst e
    intro p hp
    rw [lastDay_snoc]
    rcases List.mem_append.mp hp with hp | hp
    · exact Int.le_of_lt ((List.pairwise_append.mp h).2.2 p hp x (by simp))
    · have e : p = x := by simpa using hp
      rw [e]; exact Int.le_refl _
theorem RowOk.snoc {row : Pairs} (h : RowOk row) {d r : Int} (hd : lastDay row < d) (h0 : 0 ≤ r) (h1 : r ≤ 100000) : RowOk (row ++ [(d, r)]) := by
  obtain ⟨a, t, e⟩ := h.head
  refine ⟨⟨a, t ++ [(d, r)], by rw [e]; rfl⟩, ?_, ?_⟩
  · refine List.pairwise_append.mpr ⟨h.asc, by simp, fun p hp q hq => ?_⟩
    have e : q = (d, r) := by simpa using hq
    rw [e]
    exact Int.lt_of_le_of_lt (RowOk.le_last h.asc p hp) hd
  · intro p hp
    rcases List.mem_append.mp hp with hp | hp
    · exact h.rate p hp
    · have e : p = (d, r) := by simpa using hp
      rw [e]; exact ⟨h0, h1⟩
theorem rowN_ok (c : Int) {w : Int} (hw : 0 < w) : ∀ n, RowOk (rowN c w n)
  | 0 => ⟨⟨_, _, rfl⟩, by simp [rowN], fun p hp => by
      have e : p = (0, rateBy c) := by simpa [rowN] using hp
      rw [e]; exact rateBy_ok c⟩
  | n + 1 => by
    rw [rowN]
    have := mixed_lo (c := c + 13 * (1 + (n : Int))) hw
    exact (rowN_ok c hw n).snoc (by omega) (rateBy_ok _).1 (rateBy_ok _).2
theorem rowN_day (c : Int) {w : Int} (hw : 0 < w) : ∀ n : Nat, 0 ≤ lastDay (rowN c w n) ∧ lastDay (rowN c w n) ≤ (n : Int) * w
  | 0 => by simp [rowN, lastDay]
  | n + 1 => by
    have ih := rowN_day c hw n
    rw [rowN, lastDay_snoc]
    have h1 := mixed_lo (c := c + 13 * (1 + (n : Int))) hw
    have h2 := mixed_hi (c := c + 13 * (1 + (n : Int))) hw
    have e : ((n + 1 : Nat) : Int) * w = (n : Int) * w + w := by
      rw [Int.natCast_succ, Int.add_mul, Int.one_mul]
    constructor
    · show 0 ≤ lastDay (rowN c w n) + 1 + mixed (c + 13 * (1 + (n : Int))) w
      omega
    · show lastDay (rowN c w n) + 1 + mixed (c + 13 * (1 + (n : Int))) w ≤ ((n + 1 : Nat) : Int) * w
      rw [e]; omega
/-! ### the rate of a day -/
def rateOf (row : Pairs) (d : Int) : Int := row.foldl (fun f p => if p.1 ≤ d then p.2 else f) 0
theorem rateOf_snoc (row : Pairs) (p : Int × Int) (d : Int) : rateOf (row ++ [p]) d = if p.1 ≤ d then p.2 else rateOf row d := by
  unfold rateOf; rw [List.foldl_append]; rfl
theorem take_snoc {α : Type} {l : List α} {i : Nat} {x : α} (h : l[i]? = some x) : l.take (i + 1) = l.take i ++ [x] := by
  rw [List.take_succ, h]; rfl
theorem rateOf_take {row : Pairs} {i : Nat} {p : Int × Int} (h : row[i]? = some p) (d : Int) : rateOf (row.take (i + 1)) d = if p.1 ≤ d then p.2 else rateOf (row.take i) d := by
  rw [take_snoc h, rateOf_snoc]
/-- from the last pair back: all pairs from the n-th on are later -/
theorem rateOf_back {row : Pairs} (h : row.Pairwise fun p q => p.1 < q.1) {d : Int} : ∀ (k n : Nat), n + k = row.length → (∀ j p, n ≤ j → row[j]? = some p → d < p.1) → rateOf row d = rateOf (row.take n) d
  | 0, n, e, _ => by
    have e2 : row.take n = row := by rw [List.take_of_length_le (by omega)]
    rw [e2]
  | k + 1, n, e, hl => by
    have hn : n < row.length := by omega
    have ih := rateOf_back h k (n + 1) (by omega) (fun j p hj hp => hl j p (by omega) hp)
    rw [ih, rateOf_take (List.getElem?_eq_getElem hn)]
    have := hl n _ (Nat.le_refl _) (List.getElem?_eq_getElem hn)
    rw [if_neg (by omega)]
end Lp
namespace Lp
theorem rowBy_len {c m w : Int} (h : 1 ≤ m) : ((rowBy c m w).length : Int) = m := by
  unfold rowBy; rw [rowN_len]; omega
theorem rowBy_ok {c m w : Int} (h : 0 < w) : RowOk (rowBy c m w) := rowN_ok c h _
theorem row_at {row : Pairs} {i : Int} (h0 : 0 ≤ i) (h1 : i < row.length) : ∃ d r, row[i.toNat]? = some (d, r) ∧ i = (i.toNat : Int) :=
  ⟨_, _, List.getElem?_eq_getElem (by omega), by omega⟩
theorem row_0 {row : Pairs} (h : RowOk row) : ∃ r, row[0]? = some (0, r) := by
  obtain ⟨r, t, e⟩ := h.head; rw [e]; exact ⟨r, rfl⟩
end Lp
namespace Lp
theorem rowN_days (c : Int) {w : Int} (hw : 0 < w) (n : Nat) : ∀ p ∈ rowN c w n, 0 ≤ p.1 ∧ p.1 ≤ (n : Int) * w := by
  intro p hp
  have ok := rowN_ok c hw n
  have h1 := RowOk.le_last ok.asc p hp
  have h2 := rowN_day c hw n
  refine ⟨?_, by omega⟩
  obtain ⟨r, t, e⟩ := ok.head
  rw [e] at hp
  rcases List.mem_cons.mp hp with z | z
  · rw [z]; exact Int.le_refl _
  · have := ok.asc
    rw [e] at this
    exact Int.le_of_lt ((List.pairwise_cons.mp this).1 p z)
theorem rowBy_day {c m w : Int} (hw : 0 < w) (hm : 1 ≤ m) : ∀ p ∈ rowBy c m w, 0 ≤ p.1 ∧ p.1 ≤ (m - 1) * w := by
  intro p hp
  have h := rowN_days c hw (m - 1).toNat p hp
  have e : ((m - 1).toNat : Int) = m - 1 := by omega
  rw [e] at h
  exact h
theorem RowOk.nonneg {row : Pairs} (ok : RowOk row) : ∀ p ∈ row, 0 ≤ p.1 := by
  intro p hp
  obtain ⟨r, t, e⟩ := ok.head
  rw [e] at hp
  rcases List.mem_cons.mp hp with z | z
  · rw [z]; exact Int.le_refl _
  · have := ok.asc
    rw [e] at this
    exact Int.le_of_lt ((List.pairwise_cons.mp this).1 p z)
end Lp
namespace Lp
/-! ## stretches of days -/
def sumDays (row : Pairs) (s : Int) : Nat → Int
  | 0 => 0
  | n + 1 => sumDays row s n + rateOf row (s + 1 + (n : Int))
def grownF (row : Pairs) (s e : Int) : Int := sumDays row s (e - s).toNat
theorem sumDays_add (row : Pairs) (s : Int) (m : Nat) : ∀ n, sumDays row s (m + n) = sumDays row s m + sumDays row (s + m) n
  | 0 => by simp [sumDays]
  | n + 1 => by
    have ih := sumDays_add row s m n
    show sumDays row s (m + n) + rateOf row (s + 1 + ((m + n : Nat) : Int)) = sumDays row s m + (sumDays row (s + m) n + rateOf row (s + m + 1 + (n : Int)))
    have e : s + 1 + ((m + n : Nat) : Int) = s + m + 1 + (n : Int) := by omega
    rw [ih, e]; omega
theorem sumDays_congr {r1 r2 : Pairs} {s : Int} : ∀ {n : Nat}, (∀ d, s < d → d ≤ s + n → rateOf r1 d = rateOf r2 d) → sumDays r1 s n = sumDays r2 s n
  | 0, _ => rfl
  | n + 1, h => by
    show sumDays r1 s n + _ = sumDays r2 s n + _
    rw [sumDays_congr (n := n) (fun d h1 h2 => h d h1 (by omega)), h (s + 1 + n) (by omega) (by omega)]
theorem sumDays_const {r : Pairs} {s c : Int} : ∀ {n : Nat}, (∀ d, s < d → d ≤ s + n → rateOf r d = c) → sumDays r s n = c * n
  | 0, _ => by simp [sumDays]
  | n + 1, h => by
    show sumDays r s n + _ = _
    rw [sumDays_const (n := n) (fun d h1 h2 => h d h1 (by omega)), h (s + 1 + n) (by omega) (by omega), Int.natCast_succ, Int.mul_add, Int.mul_one]
theorem grownF_same (row : Pairs) (s : Int) : grownF row s s = 0 := by unfold grownF; rw [Int.sub_self]; rfl
theorem grownF_split (row : Pairs) {s m e : Int} (h1 : s ≤ m) (h2 : m ≤ e) : grownF row s e = grownF row s m + grownF row m e := by
  unfold grownF
  have e1 : (e - s).toNat = (m - s).toNat + (e - m).toNat := by omega
  have e2 : s + ((m - s).toNat : Int) = m := by omega
  rw [e1, sumDays_add, e2]
theorem grownF_congr {r1 r2 : Pairs} {s e : Int} (h : ∀ d, s < d → d ≤ e → rateOf r1 d = rateOf r2 d) : grownF r1 s e = grownF r2 s e := by
  unfold grownF
  by_cases c : s ≤ e
  · exact sumDays_congr fun d h1 h2 => h d h1 (by omega)
  · have z : (e - s).toNat = 0 := by omega
    rw [z]; rfl
theorem grownF_const {r : Pairs} {s e c : Int} (hs : s ≤ e) (h : ∀ d, s < d → d ≤ e → rateOf r d = c) : grownF r s e = c * (e - s) := by
  unfold grownF
  rw [sumDays_const (c := c) fun d h1 h2 => h d h1 (by omega)]
  have e1 : ((e - s).toNat : Int) = e - s := by omega
  rw [e1]
theorem grownF_nil (s e : Int) : grownF [] s e = 0 := by
  by_cases c : s ≤ e
  · rw [grownF_const (c := 0) c fun d _ _ => rfl, Int.zero_mul]
  · unfold grownF
    have z : (e - s).toNat = 0 := by omega
    rw [z]; rfl
/-- one more pair behind: the days from its own on are its -/
theorem grownF_snoc (l : Pairs) (p : Int × Int) {s u : Int} (h : s ≤ u) : grownF (l ++ [p]) s u = if max s (p.1 - 1) < u then grownF l s (max s (p.1 - 1)) + p.2 * (u - max s (p.1 - 1)) else grownF l s u := by
  split
  · rename_i c
    rw [grownF_split (l ++ [p]) (m := max s (p.1 - 1)) (by omega) (by omega)]
    have a1 : grownF (l ++ [p]) s (max s (p.1 - 1)) = grownF l s (max s (p.1 - 1)) := grownF_congr fun d h1 h2 => by rw [rateOf_snoc, if_neg (by omega)]
    have a2 : grownF (l ++ [p]) (max s (p.1 - 1)) u = p.2 * (u - max s (p.1 - 1)) := grownF_const (by omega) fun d h1 h2 => by rw [rateOf_snoc, if_pos (by omega)]
    rw [a1, a2]
  · rename_i c
    exact grownF_congr fun d h1 h2 => by rw [rateOf_snoc, if_neg (by omega)]
theorem rateOf_late {row : Pairs} (h : row.Pairwise fun p q => p.1 < q.1) (hn : row ≠ []) {d : Int} (hd : lastDay row ≤ d) : rateOf row d = lastRate row := by
  rcases List.eq_nil_or_concat row with e | ⟨l, x, e⟩
  · exact absurd e hn
  · rw [List.concat_eq_append] at e
    subst e
    rw [lastDay_snoc] at hd
    rw [rateOf_snoc, if_pos hd, lastRate_snoc]
/-- .. told by how much its rate is more -/
theorem grownF_more {l : Pairs} (ha : l.Pairwise fun p q => p.1 < q.1) (hn : l ≠ []) {p : Int × Int} (hp : lastDay l < p.1) {s e : Int} (h : s ≤ e) :
    grownF (l ++ [p]) s e = if 0 < e - max s (p.1 - 1) then grownF l s e + (p.2 - lastRate l) * (e - max s (p.1 - 1)) else grownF l s e := by
  rw [grownF_snoc l p h]
  by_cases c : max s (p.1 - 1) < e
  · rw [if_pos c, if_pos (by omega), grownF_split l (m := max s (p.1 - 1)) (by omega) (by omega) (e := e)]
    have a1 : grownF l (max s (p.1 - 1)) e = lastRate l * (e - max s (p.1 - 1)) := grownF_const (by omega) fun d h1 h2 => rateOf_late ha hn (by omega)
    rw [a1, Int.sub_mul]
    omega
  · rw [if_neg c, if_neg (by omega)]
theorem grownF_one {r s e : Int} (h0 : 0 ≤ s) (h : s ≤ e) : grownF [(0, r)] s e = r * (e - s) := grownF_const h fun d h1 h2 => by
  show (if (0 : Int) ≤ d then r else 0) = r
  rw [if_pos (by omega)]
theorem rateOf_bounds {row : Pairs} (h : ∀ p ∈ row, 0 ≤ p.2 ∧ p.2 ≤ 100000) (d : Int) : 0 ≤ rateOf row d ∧ rateOf row d ≤ 100000 := by
  rcases List.eq_nil_or_concat row with e | ⟨l, x, e⟩
  · subst e; exact ⟨Int.le_refl _, show (0 : Int) ≤ 100000 by decide⟩
  · rw [List.concat_eq_append] at e
    subst e
    rw [rateOf_snoc]
    split
    · exact h x (by simp)
    · exact rateOf_bounds (fun p hp => h p (by simp [hp])) d
termination_by row.length
decreasing_by subst e; simp
theorem sumDays_bounds {row : Pairs} (h : ∀ p ∈ row, 0 ≤ p.2 ∧ p.2 ≤ 100000) (s : Int) : ∀ n : Nat, 0 ≤ sumDays row s n ∧ sumDays row s n ≤ 100000 * n
  | 0 => by simp [sumDays]
  | n + 1 => by
    have ih := sumDays_bounds h s n
    have b := rateOf_bounds h (s + 1 + n)
    show 0 ≤ sumDays row s n + _ ∧ sumDays row s n + _ ≤ _
    omega
theorem grownF_bounds {row : Pairs} (h : ∀ p ∈ row, 0 ≤ p.2 ∧ p.2 ≤ 100000) {s e : Int} (hs : s ≤ e) : 0 ≤ grownF row s e ∧ grownF row s e ≤ 100000 * (e - s) := by
  have b := sumDays_bounds h s (e - s).toNat
  unfold grownF
  omega
theorem lastRate_take {row : Pairs} {i : Nat} {p : Int × Int} (h : row[i]? = some p) : lastRate (row.take (i + 1)) = p.2 := by rw [take_snoc h, lastRate_snoc]
theorem lastDay_take {row : Pairs} {i : Nat} {p : Int × Int} (h : row[i]? = some p) : lastDay (row.take (i + 1)) = p.1 := by rw [take_snoc h, lastDay_snoc]
/-- the k-th pair behind the k first -/
theorem grownF_take {row : Pairs} (ok : RowOk row) {k : Nat} {p q : Int × Int} (hp : row[k]? = some p) (hq : row[k + 1]? = some q) {s e : Int} (h : s ≤ e) :
    grownF (row.take (k + 2)) s e = if 0 < e - max s (q.1 - 1) then grownF (row.take (k + 1)) s e + (q.2 - p.2) * (e - max s (q.1 - 1)) else grownF (row.take (k + 1)) s e := by
  have a : (row.take (k + 1)).Pairwise fun p q => p.1 < q.1 := ok.asc.sublist (List.take_sublist _ _)
  have n : row.take (k + 1) ≠ [] := by rw [take_snoc hp]; simp
  have l : lastDay (row.take (k + 1)) < q.1 := by
    rw [lastDay_take hp]
    obtain ⟨h1, e1⟩ := List.getElem?_eq_some_iff.mp hp
    obtain ⟨h2, e2⟩ := List.getElem?_eq_some_iff.mp hq
    have := List.pairwise_iff_getElem.mp ok.asc k (k + 1) h1 h2 (by omega)
    rw [e1, e2] at this
    exact this
  rw [take_snoc hq, grownF_more a n l h, lastRate_take hp]
theorem grownF_succ (row : Pairs) {s e : Int} (h : s ≤ e) : grownF row s (e + 1) = grownF row s e + rateOf row (e + 1) := by
  rw [grownF_split row h (show e ≤ e + 1 by omega), grownF_const (r := row) (s := e) (e := e + 1) (c := rateOf row (e + 1)) (by omega) fun d h1 h2 => by rw [show d = e + 1 by omega]]
  rw [show e + 1 - e = 1 by omega, Int.mul_one]
end Lp
namespace Lp
/-! ## rows looked at, loans, payments -/
/-- the first fault behind a day: some true: the day, some false: the rate -/
def chk : Int → Pairs → Option Bool
  | _, [] => none
  | a, (d, r) :: t => if d ≤ a ∨ 100000 < d then some true else if r < 0 ∨ 100000 < r then some false else chk d t
def checkF (row : Pairs) : Option Bool := match row with
  | [] => some true
  | (d, r) :: t => if d ≠ 0 then some true else chk (-1) ((d, r) :: t)
theorem chk_ok : ∀ {row : Pairs} {a : Int}, (∀ p ∈ row, a < p.1 ∧ p.1 ≤ 100000 ∧ 0 ≤ p.2 ∧ p.2 ≤ 100000) → row.Pairwise (fun p q => p.1 < q.1) → chk a row = none
  | [], _, _, _ => rfl
  | (d, r) :: t, a, h, hp => by
    have h1 := h (d, r) (by simp)
    dsimp only at h1
    rw [chk, if_neg (by omega), if_neg (by omega)]
    have hq := List.pairwise_cons.mp hp
    exact chk_ok (fun p m => ⟨hq.1 p m, (h p (by simp [m])).2⟩) hq.2
theorem checkF_ok {row : Pairs} (ok : RowOk row) (hl : lastDay row ≤ 100000) : checkF row = none := by
  obtain ⟨r, t, e⟩ := ok.head
  have h : chk (-1) row = none := chk_ok (fun p m => ⟨by have := ok.nonneg p m; omega, Int.le_trans (RowOk.le_last ok.asc p m) hl, ok.rate p m⟩) ok.asc
  rw [e] at h ⊢
  show (if (0 : Int) ≠ 0 then some true else chk (-1) ((0, r) :: t)) = none
  rw [if_neg (by simp)]
  exact h
/-- cents owed -/
def owedF (l b : Int) : Int := l + (b + 999999) / 1000000
theorem owedF_eq (l b : Int) : l + (b + 1000000 - 1) / 1000000 = owedF l b := by unfold owedF; rw [show b + 1000000 - 1 = b + 999999 by omega]
/-- the parts of a payment: interest, off, what is left, what is begun -/
def pInt (l b c : Int) : Int := if c = owedF l b then owedF l b - l else min c (b / 1000000)
def pOff (l b c : Int) : Int := if c = owedF l b then l else c - min c (b / 1000000)
def pLeft (l b c : Int) : Int := if c = owedF l b then 0 else l - (c - min c (b / 1000000))
def pBegun (l b c : Int) : Int := if c = owedF l b then 0 else b - 1000000 * min c (b / 1000000)
theorem pSum (l b c : Int) : pInt l b c + pOff l b c = c := by unfold pInt pOff; split <;> omega
theorem pLeft_off (l b c : Int) : pLeft l b c = l - pOff l b c := by unfold pLeft pOff; split <;> omega
theorem pBegun_ok {l b c : Int} (hb : 0 ≤ b) (hc : 0 ≤ c) : 0 ≤ pBegun l b c ∧ pBegun l b c ≤ b := by unfold pBegun; split <;> omega
theorem pLeft_ok {l b c : Int} (hl : 0 ≤ l) (hb : 0 ≤ b) (h1 : 1 ≤ c) (h2 : c ≤ owedF l b) : 0 ≤ pLeft l b c ∧ pLeft l b c ≤ l := by
  unfold owedF at h2
  unfold pLeft owedF
  split <;> omega
/-! ### amounts -/
def amountBy (c : Int) : Int := if c % 4 = 0 then [1, 2, 999999999999, 1000000000000].getD (c / 4 % 4).toNat 0 else if c % 4 = 1 then 1 + c / 4 % 5000 else 1 + (mixed c 2147483647 * 467 + 5) % 1000000000000
theorem amountBy_ok (c : Int) : 1 ≤ amountBy c ∧ amountBy c ≤ 1000000000000 := by
  unfold amountBy
  split
  · have h : c / 4 % 4 = 0 ∨ c / 4 % 4 = 1 ∨ c / 4 % 4 = 2 ∨ c / 4 % 4 = 3 := by omega
    rcases h with h | h | h | h <;> rw [h] <;> decide
  · split <;> omega
def centsBy (c l b : Int) : Int := if c % 8 < 7 then min (max 1 ([1, b / 1000000, b / 1000000 - 1, b / 1000000 + 1, owedF l b - 1, owedF l b, l].getD (c % 8).toNat 0)) (owedF l b) else 1 + mixed c 2147483647 * 467 % owedF l b
theorem centsBy_ok {c l b : Int} (ho : 1 ≤ owedF l b) : 1 ≤ centsBy c l b ∧ centsBy c l b ≤ owedF l b := by
  unfold centsBy
  split
  · omega
  · have h1 := Int.emod_nonneg (mixed c 2147483647 * 467) (b := owedF l b) (by omega)
    have h2 := Int.emod_lt_of_pos (mixed c 2147483647 * 467) (b := owedF l b) (by omega)
    omega
end Lp
namespace Lp
/-- the days of the first rate at once -/
theorem walk_first {row : Pairs} (ok : RowOk row) {r0 : Int} {t : Pairs} (e : row = (0, r0) :: t) {d f : Int} (h0 : 0 ≤ d) (h : d ≤ f) (hf : ∀ p ∈ t, f < p.1) : grownF row d f = r0 * (f - d) := by
  refine grownF_const h fun k h1 h2 => ?_
  have e2 : row = row.take 1 ++ t := by rw [e]; rfl
  have h3 := rateOf_back ok.asc (d := k) t.length 1 (by rw [e]; simp; omega) (fun j p hj hp => by
    have m : p ∈ t := by
      obtain ⟨m, rfl⟩ : ∃ m, j = m + 1 := ⟨j - 1, by omega⟩
      rw [e] at hp
      exact List.mem_of_getElem? (show t[m]? = some p from hp)
    have := hf p m
    omega)
  rw [h3, e]
  show (if (0 : Int) ≤ k then r0 else 0) = r0
  rw [if_pos (by omega)]
def cents8 (c l b : Int) : Int := if c % 9 < 5 then min (max 1 ([1, owedF l b, b / 1000000, owedF l b / 2, owedF l b - 1].getD (c % 9).toNat 0)) (owedF l b) else 1 + mixed c 2147483647 * 467 % max 1 (owedF l b / (1 + c % 7))
theorem cents8_ok {c l b : Int} (ho : 1 ≤ owedF l b) : 1 ≤ cents8 c l b ∧ cents8 c l b ≤ owedF l b := by
  unfold cents8
  split
  · omega
  · generalize owedF l b = o at ho
    have h1 := Int.emod_nonneg (mixed c 2147483647 * 467) (b := max 1 (o / (1 + c % 7))) (by omega)
    have h2 := Int.emod_lt_of_pos (mixed c 2147483647 * 467) (b := max 1 (o / (1 + c % 7))) (by omega)
    have h3 : o / (1 + c % 7) ≤ o := Int.ediv_le_self _ (by omega)
    omega
end Lp
namespace Lp
open PySem L2
section
variable {σ : L2.St} {H : Hp} {Q : VK} {E : XK} {D : Ends} {K : PySem.W.Frag} {te ta tb : TE} {tt tu : TT} {t u w : TS}
/-! ## objects that are made, lists that grow -/
theorem g_tyL {l : Addr} {xs : List V} {R : Prop} (h : H l = some (.lst xs)) (q : R) : tyV K "list" (.ref l) H ∧ R := ⟨.inl ⟨rfl, _, SqL.of h⟩, q⟩
theorem g_append {l : Addr} {xs : List V} {y : V} (h : H l = some (.lst xs)) (hz : xs.length ≤ 100000) (q : Q .non (upd H l (.lst (xs ++ [y])))) : rAppend (.ref l) [y] H Q :=
  ⟨l, xs, y, rfl, rfl, h, Nat.lt_of_le_of_lt hz (by decide), q⟩
theorem g_cat {l b : Addr} {xs zs : List V} (h1 : H l = some (.lst xs)) (h2 : H b = some (.lst zs)) (hz : xs.length + zs.length ≤ 100000) (q : ∀ p H', H p = none → Same H H' → H' p = some (.lst (xs ++ zs)) → Q (.ref p) H') : rCat (.ref l) (.ref b) H Q :=
  ⟨l, b, xs, zs, rfl, rfl, h1, h2, Nat.le_trans hz (by decide), fun p hp => q p _ hp (same_new hp) upd_same⟩
theorem g_sorted {l : Addr} {ns : List Int} (h : SqL K H l (ns.map V.int)) (hz : ns.length < 64) (q : ∀ (ms : List Int) p H', ms.Perm ns → ms.Pairwise (· ≤ ·) → H p = none → Same H H' → H' p = some (.lst (ms.map V.int)) → Q (.ref p) H') : rSorted K [.ref l] H Q :=
  ⟨l, ns, rfl, h, hz, fun ms p h1 h2 h3 => q ms p _ h1 h2 h3 (same_new h3) upd_same⟩
theorem g_intB {b : Bool} (q : Q (.int (if b = true then 1 else 0)) H) : rInt1 [.bl b] H Q := .inr ⟨b, rfl, q⟩
theorem g_intI {i : Int} (q : Q (.int i) H) : rInt1 [.int i] H Q := .inl ⟨i, rfl, q⟩
/-! ## loops -/
theorem g_forL {i : Nat} {a : Addr} {xs : List V} {g : TG} (hv : σ[i]? = some (some (.ref a))) (hx : SqL K H a xs) (Pv : L2.St → Nat → L2.St → Hp → Prop) (h0 : Pv σ 0 σ H) (hl : ∀ i σ' H', i ≤ xs.length → Pv σ i σ' H' → SqL K H' a xs)
    (hs : ∀ i x σ' H', xs[i]? = some x → Pv σ i σ' H' → g x σ' H' fun σ2 H2 => t { D with nx := Pv σ (i + 1), ct := Pv σ (i + 1), bk := D.nx } σ2 H2) (hd : ∀ σ' H', Pv σ xs.length σ' H' → D.nx σ' H') : tFor (iList K (tVar i)) g t D σ H :=
  ⟨_, hv, a, rfl, ⟨xs, hx⟩, for_list (Pv σ) h0 hl hs hd⟩
/-- for over reversed(name) -/
theorem g_forRev {i : Nat} {a : Addr} {xs : List V} {g : TG} (hv : σ[i]? = some (some (.ref a))) (hx : SqL K H a xs) (Pv : L2.St → Nat → L2.St → Hp → Prop) (h0 : Pv σ 0 σ H) (hl : ∀ i σ' H', Pv σ i σ' H' → SqL K H' a xs)
    (hs : ∀ i x σ' H', i < xs.length → xs[xs.length - 1 - i]? = some x → Pv σ i σ' H' → g x σ' H' fun σ2 H2 => t { D with nx := Pv σ (i + 1), ct := Pv σ (i + 1), bk := D.nx } σ2 H2) (hd : ∀ σ' H', Pv σ xs.length σ' H' → D.nx σ' H') : tFor (iRev K (tCons (tVar i) tNil)) g t D σ H :=
  ⟨_, hv, a, xs, rfl, hx, RT.for_Itv (Pv σ) h0 hl hs hd⟩
theorem g_for2 {tr : TA} {g : TG} (h : tr σ H fun vs H1 => ∃ lo hi : Int, vs = [.int lo, .int hi] ∧ (-(2 ^ 62) ≤ lo ∧ lo < 2 ^ 62 ∧ -(2 ^ 62) ≤ hi ∧ hi < 2 ^ 62) ∧
    ∃ W : Nat → Nat → L2.St → Hp → Prop, (∃ m, W 0 m σ H1) ∧ ∀ i m σ H, W i m σ H →
      ((Itr lo (hi - lo).toNat).stop i H ∧ D.nx σ H) ∨ ((Itr lo (hi - lo).toNat).go i H ∧ ∃ N : L2.St → Hp → Prop, (∀ σ' H', N σ' H' → ∃ m', m' < m ∧ W (i + 1) m' σ' H') ∧ ∀ x H', (Itr lo (hi - lo).toNat).yld i H x H' → g x σ H' fun σ2 H2 => t { D with nx := N, ct := N, bk := D.nx } σ2 H2)) :
    tFor (iRng2 tr) g t D σ H := h
theorem g_for1 {tr : TA} {g : TG} (h : tr σ H fun vs H1 => ∃ j : Int, vs = [.int j] ∧ -(2 ^ 62) ≤ j ∧ j < 2 ^ 62 ∧
    ∃ W : Nat → Nat → L2.St → Hp → Prop, (∃ m, W 0 m σ H1) ∧ ∀ i m σ H, W i m σ H →
      ((Itr 0 j.toNat).stop i H ∧ D.nx σ H) ∨ ((Itr 0 j.toNat).go i H ∧ ∃ N : L2.St → Hp → Prop, (∀ σ' H', N σ' H' → ∃ m', m' < m ∧ W (i + 1) m' σ' H') ∧ ∀ x H', (Itr 0 j.toNat).yld i H x H' → g x σ H' fun σ2 H2 => t { D with nx := N, ct := N, bk := D.nx } σ2 H2)) :
    tFor (iRng1 tr) g t D σ H := h
theorem g_rg2 {g : TG} {lo hi : Int} (hb : -(2 ^ 62) ≤ lo ∧ lo < 2 ^ 62 ∧ -(2 ^ 62) ≤ hi ∧ hi < 2 ^ 62) (Pv : L2.St → Nat → L2.St → Hp → Prop) (h0 : Pv σ 0 σ H)
    (hs : ∀ i σ' H', i < (hi - lo).toNat → Pv σ i σ' H' → g (.int (lo + i)) σ' H' fun σ2 H2 => t { D with nx := Pv σ (i + 1), ct := Pv σ (i + 1), bk := D.nx } σ2 H2) (hd : ∀ σ' H', Pv σ (hi - lo).toNat σ' H' → D.nx σ' H') :
    ∃ lo' hi' : Int, [V.int lo, V.int hi] = [.int lo', .int hi'] ∧ (-(2 ^ 62) ≤ lo' ∧ lo' < 2 ^ 62 ∧ -(2 ^ 62) ≤ hi' ∧ hi' < 2 ^ 62) ∧
    ∃ W : Nat → Nat → L2.St → Hp → Prop, (∃ m, W 0 m σ H) ∧ ∀ i m σ H, W i m σ H →
      ((Itr lo' (hi' - lo').toNat).stop i H ∧ D.nx σ H) ∨ ((Itr lo' (hi' - lo').toNat).go i H ∧ ∃ N : L2.St → Hp → Prop, (∀ σ' H', N σ' H' → ∃ m', m' < m ∧ W (i + 1) m' σ' H') ∧ ∀ x H', (Itr lo' (hi' - lo').toNat).yld i H x H' → g x σ H' fun σ2 H2 => t { D with nx := N, ct := N, bk := D.nx } σ2 H2) :=
  ⟨lo, hi, rfl, hb, for_range (Pv σ) h0 hs hd⟩
theorem g_rg1 {g : TG} {hi : Int} (hb : -(2 ^ 62) ≤ hi ∧ hi < 2 ^ 62) (Pv : L2.St → Nat → L2.St → Hp → Prop) (h0 : Pv σ 0 σ H)
    (hs : ∀ (i : Nat) σ' H', i < hi.toNat → Pv σ i σ' H' → g (.int (i : Int)) σ' H' fun σ2 H2 => t { D with nx := Pv σ (i + 1), ct := Pv σ (i + 1), bk := D.nx } σ2 H2) (hd : ∀ σ' H', Pv σ hi.toNat σ' H' → D.nx σ' H') :
    ∃ j : Int, [V.int hi] = [.int j] ∧ -(2 ^ 62) ≤ j ∧ j < 2 ^ 62 ∧
    ∃ W : Nat → Nat → L2.St → Hp → Prop, (∃ m, W 0 m σ H) ∧ ∀ i m σ H, W i m σ H →
      ((Itr 0 j.toNat).stop i H ∧ D.nx σ H) ∨ ((Itr 0 j.toNat).go i H ∧ ∃ N : L2.St → Hp → Prop, (∀ σ' H', N σ' H' → ∃ m', m' < m ∧ W (i + 1) m' σ' H') ∧ ∀ x H', (Itr 0 j.toNat).yld i H x H' → g x σ H' fun σ2 H2 => t { D with nx := N, ct := N, bk := D.nx } σ2 H2) :=
  ⟨hi, rfl, hb.1, hb.2, for_range (lo := 0) (Pv σ) h0 (fun i σ' H' hi p => by rw [Int.zero_add]; exact hs i σ' H' hi p) hd⟩
/-- a word between a statement and the rest -/
theorem g_cutM (M : L2.St → L2.St → Hp → Prop) (ht : t { D with nx := M σ } σ H) (k : ∀ σ' H', M σ σ' H' → u D σ' H') : Evl.tCut t u D σ H := ⟨M σ, ht, k⟩
/-- if c: x = e, both ways in one: z is what x holds behind it -/
theorem g_cutif {i : Nat} (z : V) (ht : tt σ H fun b H1 => if b = true then te σ H1 (fun y H2 => σ.set i (some y) = σ.set i (some z) ∧ H2 = H) else (σ = σ.set i (some z) ∧ H1 = H)) (k : u D (σ.set i (some z)) H) :
    Evl.tCut (tIfS tt (tAsg te (gName i)) tNext) u D σ H := ⟨fun σ' H' => σ' = σ.set i (some z) ∧ H' = H, ht, fun σ' H' ⟨e1, e2⟩ => by subst e1 e2; exact k⟩
theorem g_cutifS {i : Nat} (z : V) (ht : tt σ H fun b H1 => if b = true then te σ H1 (fun y H2 => σ.set i (some y) = σ.set i (some z) ∧ Same H H2) else (σ = σ.set i (some z) ∧ Same H H1)) (k : ∀ H', Same H H' → u D (σ.set i (some z)) H') :
    Evl.tCut (tIfS tt (tAsg te (gName i)) tNext) u D σ H := ⟨fun σ' H' => σ' = σ.set i (some z) ∧ Same H H', ht, fun σ' H' ⟨e1, e2⟩ => by subst e1; exact k H' e2⟩

/-! ## promises of the helpers -/
def sp_cell_at (K : PySem.W.Frag) : Sp := fun vs H Q _ => ∃ a ns k, vs = [.ref a, .int k] ∧ SqL K H a (ns.map V.int) ∧ 0 ≤ k ∧ Q (.int (cellAt ns k)) H
theorem g_cell {a : Addr} {ns : List Int} {k : Int} (hS : SqL K H a (ns.map V.int)) (h0 : 0 ≤ k) (q : Q (.int (cellAt ns k)) H) : sp_cell_at K ([.ref a, .int k] ++ []) H Q E := ⟨a, ns, k, rfl, hS, h0, q⟩
def sp_whole : Sp := fun vs H Q _ => ∃ i, vs = [.int i] ∧ Q (.bl true) H
theorem g_whole {i : Int} (q : Q (.bl true) H) : sp_whole ([.int i] ++ []) H Q E := ⟨i, rfl, q⟩
def sp_mixed : Sp := fun vs H Q _ => ∃ c m, vs = [.int c, .int m] ∧ 0 < m ∧ Q (.int (mixed c m)) H
theorem g_mixed {c m : Int} (h : 0 < m) (q : Q (.int (mixed c m)) H) : sp_mixed ([.int c, .int m] ++ []) H Q E := ⟨c, m, rfl, h, q⟩
def sp_rate_by : Sp := fun vs H Q _ => ∃ c, vs = [.int c] ∧ ∀ H', Same H H' → Q (.int (rateBy c)) H'
theorem g_rate_by {c : Int} (q : ∀ H', Same H H' → Q (.int (rateBy c)) H') : sp_rate_by ([.int c] ++ []) H Q E := ⟨c, rfl, q⟩
def sp_row_by : Sp := fun vs H Q _ => ∃ c m w, vs = [.int c, .int m, .int w] ∧ 1 ≤ m ∧ m ≤ 60 ∧ 0 < w ∧ ∀ l H', H l = none → Same H H' → RowAt H' l (rowBy c m w) → Q (.ref l) H'
theorem g_row_by {c m w : Int} (h1 : 1 ≤ m) (h2 : m ≤ 60) (h3 : 0 < w) (q : ∀ l H', H l = none → Same H H' → RowAt H' l (rowBy c m w) → Q (.ref l) H') : sp_row_by ([.int c, .int m, .int w] ++ []) H Q E := ⟨c, m, w, rfl, h1, h2, h3, q⟩
def sp_rate_on : Sp := fun vs H Q _ => ∃ l d row, vs = [.ref l, .int d] ∧ RowAt H l row ∧ Q (.int (rateOf row d)) H
def sp_rate_of : Sp := fun vs H Q _ => ∃ l d row, vs = [.ref l, .int d] ∧ RowAt H l row ∧ Q (.int (rateOf row d)) H
theorem g_rate_of {l : Addr} {d : Int} {row : Row} (h : RowAt H l row) (q : Q (.int (rateOf row d)) H) : sp_rate_of ([.ref l, .int d] ++ []) H Q E := ⟨l, d, row, rfl, h, q⟩
def sp_grown : Sp := fun vs H Q _ => ∃ l s e row, vs = [.ref l, .int s, .int e] ∧ RowAt H l row ∧ s ≤ e ∧ -(2 ^ 60) < s ∧ e < 2 ^ 60 ∧ Q (.int (grownF row s e)) H
theorem g_grown {l : Addr} {s e : Int} {row : Row} (h : RowAt H l row) (h1 : s ≤ e) (h2 : -(2 ^ 60) < s) (h3 : e < 2 ^ 60) (q : Q (.int (grownF row s e)) H) : sp_grown ([.ref l, .int s, .int e] ++ []) H Q E := ⟨l, s, e, row, rfl, h, h1, h2, h3, q⟩
def sp_sum_by : Sp := fun vs H Q _ => ∃ l s e row, vs = [.ref l, .int s, .int e] ∧ RowAt H l row ∧ RowOk row ∧ row.length ≤ 100 ∧ 0 ≤ s ∧ s ≤ e ∧ e < 2 ^ 60 ∧ Q (.int (grownF row s e)) H
theorem g_sum_by {l : Addr} {s e : Int} {row : Row} (h : RowAt H l row) (ok : RowOk row) (hl : row.length ≤ 100) (h1 : 0 ≤ s) (h2 : s ≤ e) (h3 : e < 2 ^ 60) (q : Q (.int (grownF row s e)) H) : sp_sum_by ([.ref l, .int s, .int e] ++ []) H Q E := ⟨l, s, e, row, rfl, h, ok, hl, h1, h2, h3, q⟩
theorem g_seq_aug {i : Nat} {ti : TIp} {x : V} (hx : σ[i]? = some (some x)) (h : te σ H fun y H1 => ti x y H1 fun z H2 => u D (σ.set i (some z)) H2) : tSeq (tAug i te ti) u D σ H := ⟨x, hx, h⟩
theorem g_aug {i : Nat} {ti : TIp} {x : V} (hx : σ[i]? = some (some x)) (h : te σ H fun y H1 => ti x y H1 fun z H2 => D.nx (σ.set i (some z)) H2) : tAug i te ti D σ H := ⟨x, hx, h⟩
theorem g_ip {f : Int → Int → Int} {a b : Int} (q : Q (.int (f a b)) H) : ipI f (.int a) (.int b) H Q := ⟨a, b, rfl, rfl, q⟩
def sp_law (K : PySem.W.Frag) : Sp := fun vs H Q _ => ∃ (a : Addr) (ns : List Int), vs = [.ref a] ∧ SqL K H a (ns.map V.int) ∧ ns.length ≤ 63 ∧ (∀ z ∈ ns, Builtin.Int.intBits z ≤ 1048576) ∧ ∀ H', Q (.bl true) H'
end
end Lp
namespace Lp
open PySem L2
section
variable {σ : L2.St} {H : Hp} {Q : VK} {E : XK} {D : Ends} {K : PySem.W.Frag} {te ta tb : TE} {tt tu : TT} {t u w : TS}
/-! ## a text of parts; what it says is not told -/
def tFs (ts : List TE) : TE := fun σ H Q => tJs ts Str.empty σ H fun out H1 => Q (.str out) H1
theorem pe_fs {X : Cx} {v1 v2 : Expr} {rest : List Expr} {ts : List TE} {pos : Pos} (h : PJ X (v1 :: v2 :: rest) ts) : PE X (.JoinedStr (v1 :: v2 :: rest) pos) (tFs ts) := pe_joined h
def FmtV (x : V) (H : Hp) (Q : VK) : Prop := (∃ y : Str, x = .str y ∧ y.length ≤ sizeLine ∧ Q (.str y) H) ∨ ∃ i : Int, x = .int i ∧ i.natAbs.log2 < 1920 ∧ Q (.str (toString i)) H
def JsV (n : Nat) (acc : Str) (ts : List TE) (σ : L2.St) (Q : Str → Hp → Prop) (x : V) (H : Hp) : Prop := ∃ y : Str, x = .str y ∧ (acc ++ y).length ≤ sizeLine ∧ tJs ts (acc ++ y) σ H Q
theorem g_fs {ts : List TE} (q : ∀ acc : Str, acc.length ≤ 0 → tJs ts acc σ H fun out H1 => Q (.str out) H1) : tFs ts σ H Q := q _ (Nat.le_refl _)
theorem g_jsN {acc : Str} {Q : Str → Hp → Prop} (q : Q acc H) : tJs [] acc σ H Q := q
theorem g_js {n : Nat} {acc : Str} {ts : List TE} {Q : Str → Hp → Prop} (hn : acc.length ≤ n) (h : te σ H fun x H1 => JsV n acc ts σ Q x H1) : tJs (te :: ts) acc σ H Q := h
theorem str_app_len (a b : Str) : (a ++ b).length = a.length + b.length := by
  show (a.cps ++ b.cps).size = _
  rw [Array.size_append]; rfl
theorem g_jsC {n : Nat} {acc y : Str} {ts : List TE} {Q : Str → Hp → Prop} (ha : acc.length ≤ n) (hy : y.length ≤ 3000) (hn : n ≤ 1000000) (q : ∀ acc' : Str, acc'.length ≤ n + 3000 → tJs ts acc' σ H Q) : JsV n acc ts σ Q (.str y) H :=
  ⟨y, rfl, Nat.le_trans (Nat.le_of_eq (str_app_len _ _)) (Nat.le_trans (Nat.add_le_add ha hy) (Nat.le_trans (Nat.add_le_add_right hn 3000) (by decide))), q _ (by rw [str_app_len]; omega)⟩
theorem g_fmt (h : te σ H fun x H1 => FmtV x H1 Q) : tFmt te σ H Q := h
theorem log2_of {n : Nat} (h : n < 2 ^ 1900) : n.log2 < 1920 := Nat.lt_of_lt_of_le (PySem.Flt.log2_lt_of (by decide) h) (by decide)
theorem g_fmtI {i : Int} (b : i.natAbs < 2 ^ 1900) (q : ∀ y : Str, y.length ≤ 3000 → Q (.str y) H) : FmtV (.int i) H Q :=
  .inr ⟨i, rfl, log2_of b, q _ (Nat.le_trans (PyProof.Rows.int_text_len_1921 (log2_of b)) (by decide))⟩
theorem small_nat {i : Int} (h1 : -(10 ^ 61) ≤ i) (h2 : i ≤ 10 ^ 61) : i.natAbs < 2 ^ 1900 := Nat.lt_of_le_of_lt (show i.natAbs ≤ 10 ^ 61 by omega) (by decide +kernel)
/-! ## raise X(text) -/
def RzV (C : Addr) (W : WX) (σ : L2.St) (vs : List V) (H : Hp) : Prop := vs.length ≤ sizeLine ∧ W (.ref C) none σ H
def tRz (C : Addr) (ta : TA) (W : WX) : TS := fun _ σ H => ta σ H fun vs H1 => RzV C W σ vs H1
theorem ps_rz {X : Cx} {C : Addr} {x : Str} {p pos rp : Pos} {e : Expr} {t : TA} {W : WX} (hc : X.calm = true) (tk : Takes X W) (q : PySem.W.excIn X.K C [.type "ValueError", .type "Exception", .type "BaseException", .type "object"] "ValueError.__new__" = true) (gC : X.mg x = some (.ref C))
    (kC : PySem.W.keepIn X.K (.ref C) = true) (r : Raises X (.ref C)) (hg : Gl X x) (ha : PA X [e] t) (hdb : (x == ("__debug__" : Str)) = false := by decide)
    (he : starEach (e :: []) X.env = (false, eval e X.env) :: starEach [] X.env := by rfl) (hpl : (backTo pos (starEach [] X.env)).any (·.1) = false := by rfl) :
    PS X (.Raise (some (.Call (.Name x p) [e] [] pos)) none rp) (tRz C t W) := ps_raise hc tk (pmk_ownA PySem.F.excBase_ValueError q gC kC r hg ha hdb he hpl)
theorem g_seq_rz {C : Addr} {tr : TA} {W : WX} (h : tr σ H fun vs H1 => RzV C W σ vs H1) : tSeq (tRz C tr W) u D σ H := h
theorem g_rz {C : Addr} {tr : TA} {W : WX} (h : tr σ H fun vs H1 => RzV C W σ vs H1) : tRz C tr W D σ H := h
theorem g_rzV {C : Addr} {W : WX} {x : V} (q : W (.ref C) none σ H) : RzV C W σ [x] H := ⟨by show 1 ≤ sizeLine; decide, q⟩
/-! ## a loan in the heap -/
def flds (l b d : Int) (r : Addr) : List (Str × V) := [("left", .int l), ("begun", .int b), ("day", .int d), ("rates", .ref r)]
theorem ne_lb : ¬ (("left" : Str) = "begun") := by decide +kernel
theorem ne_ld : ¬ (("left" : Str) = "day") := by decide +kernel
theorem ne_lr : ¬ (("left" : Str) = "rates") := by decide +kernel
theorem ne_bd : ¬ (("begun" : Str) = "day") := by decide +kernel
theorem ne_br : ¬ (("begun" : Str) = "rates") := by decide +kernel
theorem ne_dr : ¬ (("day" : Str) = "rates") := by decide +kernel
theorem put_left {l b d l' : Int} {r : Addr} : putF "left" (.int l') (flds l b d r) = flds l' b d r := by
  unfold flds; rw [putF, if_pos rfl]
theorem put_begun {l b d b' : Int} {r : Addr} : putF "begun" (.int b') (flds l b d r) = flds l b' d r := by
  unfold flds; rw [putF, if_neg ne_lb, putF, if_pos rfl]
theorem put_day {l b d d' : Int} {r : Addr} : putF "day" (.int d') (flds l b d r) = flds l b d' r := by
  unfold flds; rw [putF, if_neg ne_ld, putF, if_neg ne_bd, putF, if_pos rfl]
theorem put_rates {l b d : Int} {r r' : Addr} : putF "rates" (.ref r') (flds l b d r) = flds l b d r' := by
  unfold flds; rw [putF, if_neg ne_lr, putF, if_neg ne_br, putF, if_neg ne_dr, putF, if_pos rfl]
theorem put_all {a b d : Int} {r : Addr} : putF "rates" (.ref r) (putF "day" (.int d) (putF "begun" (.int b) (putF "left" (.int a) []))) = flds a b d r := by
  simp only [putF, flds, if_neg ne_lb, if_neg ne_ld, if_neg ne_lr, if_neg ne_bd, if_neg ne_br, if_neg ne_dr]
theorem fl_left {l b d : Int} {r : Addr} : (flds l b d r).lookup ("left" : Str) = some (.int l) := by rw [← put_left (l := 0), lookup_putF, if_pos rfl]
theorem fl_begun {l b d : Int} {r : Addr} : (flds l b d r).lookup ("begun" : Str) = some (.int b) := by rw [← put_begun (b := 0), lookup_putF, if_pos rfl]
theorem fl_day {l b d : Int} {r : Addr} : (flds l b d r).lookup ("day" : Str) = some (.int d) := by rw [← put_day (d := 0), lookup_putF, if_pos rfl]
theorem fl_rates {l b d : Int} {r : Addr} : (flds l b d r).lookup ("rates" : Str) = some (.ref r) := by rw [← put_rates (r := 0), lookup_putF, if_pos rfl]
theorem fl_no {l b d : Int} {r : Addr} {m : Str} (h1 : ¬ m = "left") (h2 : ¬ m = "begun") (h3 : ¬ m = "day") (h4 : ¬ m = "rates") : (flds l b d r).lookup m = none := by
  rw [← put_left (l := 0), lookup_putF, if_neg h1, ← put_begun (b := 0), lookup_putF, if_neg h2, ← put_day (d := 0), lookup_putF, if_neg h3, ← put_rates (r := 0), lookup_putF, if_neg h4]
  unfold flds
  have e : ∀ a : Str, ¬ m = a → (m == a) = false := fun a h => by simpa using h
  simp only [List.lookup, e _ h1, e _ h2, e _ h3, e _ h4]
theorem fl_len {l b d : Int} {r : Addr} : (flds l b d r).length < 1000 := by show 4 < 1000; decide
/-- a loan at x: its fields, its row -/
def LoanAt (C : Addr) (H : Hp) (x : Addr) (l b d : Int) (r : Addr) (row : Row) : Prop := (∃ dx, H x = some (.ins C dx (flds l b d r))) ∧ RowAt H r row
theorem LoanAt.same {C : Addr} {H H' : Hp} {x r : Addr} {l b d : Int} {row : Row} (h : LoanAt C H x l b d r row) (s : Same H H') : LoanAt C H' x l b d r row := ⟨let ⟨dx, e⟩ := h.1; ⟨dx, s _ _ e⟩, h.2.same s⟩
/-- the numbers of a loan are in bounds: no day brings more than a hundred thousand millionths of ten to the twelve -/
structure NumOk (l b d : Int) : Prop where
  l0 : 0 ≤ l
  l1 : l ≤ 1000000000000
  b0 : 0 ≤ b
  b1 : b ≤ 100000000000000000 * d
  d0 : 0 ≤ d
  d1 : d ≤ 100000
def RatesOk (row : Row) : Prop := ∀ p ∈ row, 0 ≤ p.2 ∧ p.2 ≤ 100000
/-- begun on a later day -/
def thenF (l b d : Int) (row : Row) (D : Int) : Int := b + l * grownF row d D
theorem NumOk.walk {l b d D : Int} {row : Row} (n : NumOk l b d) (hr : RatesOk row) (h1 : d ≤ D) (h2 : D ≤ 100000) : NumOk l (thenF l b d row D) D := by
  have g := grownF_bounds hr h1
  have a1 : 0 ≤ l * grownF row d D := Int.mul_nonneg n.l0 g.1
  have a2 : l * grownF row d D ≤ 1000000000000 * (100000 * (D - d)) := Int.mul_le_mul n.l1 g.2 g.1 (by decide)
  have := n.b1; have := n.b0; have := n.d0
  unfold thenF
  exact ⟨n.l0, n.l1, by omega, by omega, by omega, h2⟩
theorem NumOk.pay {l b d c : Int} (n : NumOk l b d) (h1 : 1 ≤ c) (h2 : c ≤ owedF l b) : NumOk (pLeft l b c) (pBegun l b c) d := by
  have a := pLeft_ok n.l0 n.b0 h1 h2
  have b := pBegun_ok (l := l) n.b0 (show 0 ≤ c by omega)
  exact ⟨a.1, Int.le_trans a.2 n.l1, b.1, Int.le_trans b.2 n.b1, n.d0, n.d1⟩
/-! ## fields and methods by name -/
theorem g_fl {C x dx : Addr} {fs : List (Str × V)} {f : Str} {v : V} (h : H x = some (.ins C dx fs)) (c : Cls K C) (n : NoAttr K C f) (hl : fs.lookup f = some v) (q : Q v H) : rFld K f (.ref x) H Q := ⟨x, C, dx, fs, v, rfl, h, c, n, hl, q⟩
theorem g_mt {C x dx : Addr} {fs : List (Str × V)} {m : Str} {R : Prop} (h : H x = some (.ins C dx fs)) (hl : fs.lookup m = none) (q : R) : rMeth C m (.ref x) H R := ⟨x, dx, fs, rfl, h, hl, q⟩
def rSetF (K : PySem.W.Frag) (f : Str) (x y : V) (H : Hp) (R : Hp → Prop) : Prop := ∃ a C dx fs, x = .ref a ∧ H a = some (.ins C dx fs) ∧ Cls K C ∧ NoAttr K C f ∧ fs.length < 1000 ∧ R (upd H a (.ins C dx (putF f y fs)))
theorem g_seq_fld {f : Str} (h : tb σ H fun y H1 => ta σ H1 fun x H2 => rSetF K f x y H2 fun H3 => u D σ H3) : tSeq (sFld K ta tb f) u D σ H := h
theorem g_sfld {f : Str} (h : tb σ H fun y H1 => ta σ H1 fun x H2 => rSetF K f x y H2 fun H3 => D.nx σ H3) : sFld K ta tb f D σ H := h
theorem g_sf {C x dx : Addr} {fs : List (Str × V)} {f : Str} {y : V} {R : Hp → Prop} (h : H x = some (.ins C dx fs)) (c : Cls K C) (n : NoAttr K C f) (hl : fs.length < 1000) (q : ∀ H', But x H H' → H' x = some (.ins C dx (putF f y fs)) → R H') : rSetF K f (.ref x) y H R :=
  ⟨x, C, dx, fs, rfl, h, c, n, hl, q _ but_upd upd_same⟩
/-! ## o.f, o.g = a pair -/
def gFld (K : PySem.W.Frag) (ta : TE) (f : Str) : TG := fun v σ H Q => ta σ H fun x H1 => rSetF K f x v H1 fun H2 => Q σ H2
theorem pg_fld {X : Cx} {o : Expr} {f : Str} {pos : Pos} {ta : TE} (ho : PE X o ta) : PG X (.Attribute o f pos) (gFld X.K ta f) := by
  refine ⟨fun pins s σ H v u Q I r h => ?_⟩
  rw [PySem.assign_Attribute]
  refine wpAny_bind (wpAny_holding (thn (ho.run pins s σ H _ I h) fun ov s1 ⟨x, H1, I1, r1, q1⟩ => ?_))
  obtain ⟨a, C, dx, fs, ex, ea, c, n, l, q2⟩ := q1
  subst ex
  obtain rfl : ov = Value.ref a := r1
  refine wpAny_bind (wpAny_standAt (wpAny_bind (wpAny_holding (setattr_ok I1 ea c n l r fun s3 I3 => ?_))))
  exact wpAny_release ⟨σ, _, I3, q2⟩
theorem g_unpF {p : Addr} {v w : V} {f g : Str} {t1 t2 : TE} {R : L2.St → Hp → Prop} (h : H p = some (.tup [v, w])) (q : t1 σ H fun x H2 => rSetF K f x v H2 fun H3 => gCons (gFld K t2 g) gNil [w] σ H3 R) :
    gTup K 2 (gCons (gFld K t1 f) (gCons (gFld K t2 g) gNil)) (.ref p) σ H R := ⟨p, _, rfl, SqT.of h, rfl, v, _, rfl, q⟩
theorem g_lastF {w : V} {g : Str} {t2 : TE} {R : L2.St → Hp → Prop} (q : t2 σ H fun y H4 => rSetF K g y w H4 fun H5 => ([] : List V) = [] ∧ R σ H5) : gCons (gFld K t2 g) gNil [w] σ H R := ⟨w, [], rfl, q⟩
/-! ## promises of the program -/
def sp_check_day (BD : Addr) : Sp := fun vs H Q E => ∃ d f, vs = [.int d, .int f] ∧ -(10 ^ 61) ≤ f ∧ f ≤ 10 ^ 61 ∧ (d < f ∨ 100000 < d → E (.ref BD) none H) ∧ (¬ (d < f ∨ 100000 < d) → Q .non H)
theorem g_check_day {BD : Addr} {d f : Int} (h1 : -(10 ^ 61) ≤ f) (h2 : f ≤ 10 ^ 61) (q1 : d < f ∨ 100000 < d → E (.ref BD) none H) (q2 : ¬ (d < f ∨ 100000 < d) → Q .non H) : sp_check_day BD ([.int d, .int f] ++ []) H Q E := ⟨d, f, rfl, h1, h2, q1, q2⟩
def sp_cents_owed : Sp := fun vs H Q _ => ∃ l b, vs = [.int l, .int b] ∧ Q (.int (owedF l b)) H
theorem g_cents_owed {l b : Int} (q : Q (.int (owedF l b)) H) : sp_cents_owed ([.int l, .int b] ++ []) H Q E := ⟨l, b, rfl, q⟩
def sp_paid_down : Sp := fun vs H Q _ => ∃ l b c, vs = [.int l, .int b, .int c] ∧ ∀ t H', H t = none → Same H H' → H' t = some (.tup [.int (pLeft l b c), .int (pBegun l b c)]) → Q (.ref t) H'
theorem g_paid_down {l b c : Int} (q : ∀ t H', H t = none → Same H H' → H' t = some (.tup [.int (pLeft l b c), .int (pBegun l b c)]) → Q (.ref t) H') : sp_paid_down ([.int l, .int b, .int c] ++ []) H Q E := ⟨l, b, c, rfl, q⟩
def sp_check_pair (BD BR : Addr) : Sp := fun vs H Q E => ∃ d r a, vs = [.int d, .int r, .int a] ∧ -(10 ^ 60) ≤ a ∧ a ≤ 10 ^ 60 ∧
  (d ≤ a ∨ 100000 < d → E (.ref BD) none H) ∧ (¬ (d ≤ a ∨ 100000 < d) → (r < 0 ∨ 100000 < r → E (.ref BR) none H) ∧ (¬ (r < 0 ∨ 100000 < r) → Q .non H))
def sp_checked (BD BR : Addr) : Sp := fun vs H Q E => ∃ l row, vs = [.ref l] ∧ RowAt H l row ∧ row.length ≤ 1000 ∧
  (checkF row = some true → E (.ref BD) none H) ∧ (checkF row = some false → E (.ref BR) none H) ∧ (checkF row = none → ∀ l' H', H l' = none → Same H H' → RowAt H' l' row → Q (.ref l') H')
def sp_init (C BA BD BR : Addr) : Sp := fun vs H Q E => ∃ x a l dx row, vs = [.ref x, .int a, .ref l] ∧ H x = some (.ins C dx []) ∧ RowAt H l row ∧ row.length ≤ 1000 ∧
  (a < 1 ∨ 1000000000000 < a → E (.ref BA) none H) ∧ (¬ (a < 1 ∨ 1000000000000 < a) → (checkF row = some true → ∀ H', But x H H' → E (.ref BD) none H') ∧ (checkF row = some false → ∀ H', But x H H' → E (.ref BR) none H') ∧
    (checkF row = none → ∀ r H', H r = none → But x H H' → H' x = some (.ins C dx (flds a 0 0 r)) → RowAt H' r row → Q .non H'))
def sp_stand (C BD : Addr) : Sp := fun vs H Q E => ∃ x D l b d r row, vs = [.ref x, .int D] ∧ LoanAt C H x l b d r row ∧ NumOk l b d ∧
  (D < d ∨ 100000 < D → E (.ref BD) none H) ∧ (¬ (D < d ∨ 100000 < D) → ∀ t H', H t = none → Same H H' → H' t = some (.tup [.int l, .int (thenF l b d row D)]) → Q (.ref t) H')
def sp_owedL (C BD : Addr) : Sp := fun vs H Q E => ∃ x D l b d r row, vs = [.ref x, .int D] ∧ LoanAt C H x l b d r row ∧ NumOk l b d ∧
  (D < d ∨ 100000 < D → E (.ref BD) none H) ∧ (¬ (D < d ∨ 100000 < D) → ∀ H', Same H H' → Q (.int (owedF l (thenF l b d row D))) H')
def sp_pay (C BD BP : Addr) : Sp := fun vs H Q E => ∃ x D c l b d r row, vs = [.ref x, .int D, .int c] ∧ LoanAt C H x l b d r row ∧ NumOk l b d ∧ RatesOk row ∧
  (D < d ∨ 100000 < D → E (.ref BD) none H) ∧ (¬ (D < d ∨ 100000 < D) → (c < 1 ∨ owedF l (thenF l b d row D) < c → ∀ H', Same H H' → E (.ref BP) none H') ∧
    (¬ (c < 1 ∨ owedF l (thenF l b d row D) < c) → ∀ t H', H t = none → But x H H' → LoanAt C H' x (pLeft l (thenF l b d row D) c) (pBegun l (thenF l b d row D) c) D r row →
      H' t = some (.tup [.int (pInt l (thenF l b d row D) c), .int (pOff l (thenF l b d row D) c)]) → Q (.ref t) H'))
def sp_change (C BD BR : Addr) : Sp := fun vs H Q E => ∃ x D rt l b d r row, vs = [.ref x, .int D, .int rt] ∧ LoanAt C H x l b d r row ∧ NumOk l b d ∧ row ≠ [] ∧ row.length ≤ 1000 ∧ lastDay row ≤ 100000 ∧
  (D ≤ max d (lastDay row) ∨ 100000 < D → E (.ref BD) none H) ∧ (¬ (D ≤ max d (lastDay row) ∨ 100000 < D) → (rt < 0 ∨ 100000 < rt → E (.ref BR) none H) ∧
    (¬ (rt < 0 ∨ 100000 < rt) → ∀ r' H', H r' = none → But x H H' → LoanAt C H' x l b d r' (row ++ [(D, rt)]) → Q .non H'))
def sp_twin (C : Addr) : Sp := fun vs H Q _ => ∃ x l b d r row, vs = [.ref x] ∧ LoanAt C H x l b d r row ∧ checkF row = none ∧ row.length ≤ 1000 ∧
  ∀ y r' H', H y = none → H r' = none → Same H H' → LoanAt C H' y l b d r' row → Q (.ref y) H'
/-! ## their calls -/
def MkV (C : Addr) (sp : Sp) (dvs : List V) (E : XK) (vs : List V) (H : Hp) (Q : VK) : Prop := ∀ x dx, H x = none → H dx = none → dx ≠ x →
  sp (.ref x :: (vs ++ dvs)) (upd (upd H dx (.own x)) x (.ins C dx [])) (fun v H2 => v = .non ∧ Q (.ref x) H2) E
theorem g_mk {C : Addr} {sp : Sp} {dvs : List V} {tr : TA} (h : tr σ H fun vs H1 => MkV C sp dvs E vs H1 Q) : tMake C sp dvs E tr σ H Q := h
theorem g_mkLoan {C BA BD BR l : Addr} {a : Int} {row : Row} (hR : RowAt H l row) (hl : row.length ≤ 1000) (h1 : 1 ≤ a) (h2 : a ≤ 1000000000000) (hc : checkF row = none)
    (q : ∀ x r H', H x = none → H r = none → Same H H' → LoanAt C H' x a 0 0 r row → Q (.ref x) H') : MkV C (sp_init C BA BD BR) [] E [.int a, .ref l] H Q := by
  intro x dx nx nd ne
  have s1 : Same H (upd (upd H dx (.own x)) x (.ins C dx [])) := fun b o e => by
    rw [upd_ne (ne_of_none e nx), upd_ne (ne_of_none e nd)]; exact e
  refine ⟨x, a, l, dx, row, rfl, upd_same, hR.same s1, hl, fun h => absurd h (by omega), fun _ => ⟨(fun h => by rw [hc] at h; cases h), (fun h => by rw [hc] at h; cases h), fun _ r H' hr bt hx hrow => ⟨rfl, q x r H' nx (s1.free hr) ?_ ⟨⟨dx, hx⟩, hrow⟩⟩⟩⟩
  intro b o e
  exact bt b o (ne_of_none e nx) (s1 b o e)
end
end Lp
namespace Lp
open PySem L2
section
variable {σ : L2.St} {H : Hp} {Q : VK} {E : XK} {D : Ends} {K : PySem.W.Frag} {te ta tb : TE} {tt tu : TT} {t u w : TS}
/-! ## slices -/
theorem cut_to (xs : List V) {k : Int} (h0 : 0 ≤ k) (h1 : k ≤ xs.length) : cutV xs none (some k) = xs.take k.toNat := by
  obtain ⟨n, rfl⟩ : ∃ n : Nat, k = (n : Int) := ⟨k.toNat, by omega⟩
  unfold cutV
  rw [HT.sIx_none, HT.sIx_nat, List.drop_zero, Int.toNat_natCast, Nat.min_eq_left (by omega)]
  rfl
theorem cut_from (xs : List V) {k : Int} (h0 : 0 ≤ k) (h1 : k ≤ xs.length) : cutV xs (some k) none = xs.drop k.toNat := by
  obtain ⟨n, rfl⟩ : ∃ n : Nat, k = (n : Int) := ⟨k.toNat, by omega⟩
  unfold cutV
  rw [HT.sIx_none, HT.sIx_nat, Int.toNat_natCast, Nat.min_eq_left (by omega), List.take_of_length_le (by rw [List.length_drop]; exact Nat.le_refl _)]
theorem g_sl {r : V → Option Int → Option Int → Hp → VK → Prop} {tl th : TO} (h : te σ H fun x H1 => tl σ H1 fun l H2 => th σ H2 fun u H3 => r x l u H3 Q) : tSl r te tl th σ H Q := h
theorem g_noPart {Q : Option Int → Hp → Prop} (h : Q none H) : tNoPart σ H Q := h
def PartV (x : V) (H : Hp) (Q : Option Int → Hp → Prop) : Prop := ∃ i, x = .int i ∧ Q (some i) H
theorem g_part {Q : Option Int → Hp → Prop} (h : te σ H fun x H1 => PartV x H1 Q) : tPart te σ H Q := h
theorem g_partI {i : Int} {Q : Option Int → Hp → Prop} (h : Q (some i) H) : PartV (.int i) H Q := ⟨i, rfl, h⟩
theorem g_slTo {l : Addr} {row : Row} {k : Int} (hR : RowAt H l row) (h0 : 0 ≤ k) (h1 : k ≤ row.length) (q : ∀ p H', H p = none → Same H H' → RowAt H' p (row.take k.toNat) → Q (.ref p) H') : rSlL K (.ref l) none (some k) H Q := by
  obtain ⟨xs, e, hp⟩ := hR
  refine ⟨l, xs, rfl, SqL.of e, fun p np => q p _ np (same_new np) ⟨_, upd_same, ?_⟩⟩
  rw [cut_to xs h0 (by rw [hp.len]; exact h1)]
  exact (hp.mono fun _ _ z => same_new np _ _ z).take _
theorem g_slFrom {l : Addr} {row : Row} {k : Int} (hR : RowAt H l row) (h0 : 0 ≤ k) (h1 : k ≤ row.length) (q : ∀ p H', H p = none → Same H H' → RowAt H' p (row.drop k.toNat) → Q (.ref p) H') : rSlL K (.ref l) (some k) none H Q := by
  obtain ⟨xs, e, hp⟩ := hR
  refine ⟨l, xs, rfl, SqL.of e, fun p np => q p _ np (same_new np) ⟨_, upd_same, ?_⟩⟩
  rw [cut_from xs h0 (by rw [hp.len]; exact h1)]
  exact (hp.mono fun _ _ z => same_new np _ _ z).drop _
/-- for over a list that is made here -/
def ForL (K : PySem.W.Frag) (g : TG) (t : TS) (D : Ends) (σ : L2.St) (x : V) (H : Hp) : Prop := ∃ a, x = .ref a ∧ (∃ xs, SqL K H a xs) ∧ ∃ W : Nat → Nat → L2.St → Hp → Prop, (∃ m, W 0 m σ H) ∧ ∀ i m σ H, W i m σ H →
  ((Itl K a).stop i H ∧ D.nx σ H) ∨ ((Itl K a).go i H ∧ ∃ N : L2.St → Hp → Prop, (∀ σ' H', N σ' H' → ∃ m', m' < m ∧ W (i + 1) m' σ' H') ∧ ∀ x H', (Itl K a).yld i H x H' → g x σ H' fun σ2 H2 => t { D with nx := N, ct := N, bk := D.nx } σ2 H2)
theorem g_forE {g : TG} (h : te σ H fun x H1 => ForL K g t D σ x H1) : tFor (iList K te) g t D σ H := h
theorem g_forEL {a : Addr} {xs : List V} {g : TG} (hx : SqL K H a xs) (Pv : L2.St → Nat → L2.St → Hp → Prop) (h0 : Pv σ 0 σ H) (hl : ∀ i σ' H', i ≤ xs.length → Pv σ i σ' H' → SqL K H' a xs)
    (hs : ∀ i x σ' H', xs[i]? = some x → Pv σ i σ' H' → g x σ' H' fun σ2 H2 => t { D with nx := Pv σ (i + 1), ct := Pv σ (i + 1), bk := D.nx } σ2 H2) (hd : ∀ σ' H', Pv σ xs.length σ' H' → D.nx σ' H') : ForL K g t D σ (.ref a) H :=
  ⟨a, rfl, ⟨xs, hx⟩, for_list (Pv σ) h0 hl hs hd⟩
/-! ## promises of the law's helpers about loans -/
def sp_amount_by : Sp := fun vs H Q _ => ∃ c, vs = [.int c] ∧ ∀ H', Same H H' → Q (.int (amountBy c)) H'
theorem g_amount_by {c : Int} (q : ∀ H', Same H H' → Q (.int (amountBy c)) H') : sp_amount_by ([.int c] ++ []) H Q E := ⟨c, rfl, q⟩
def sp_owed : Sp := fun vs H Q _ => ∃ l b, vs = [.int l, .int b] ∧ Q (.int (owedF l b)) H
theorem g_owed {l b : Int} (q : Q (.int (owedF l b)) H) : sp_owed ([.int l, .int b] ++ []) H Q E := ⟨l, b, rfl, q⟩
def sp_parts : Sp := fun vs H Q _ => ∃ l b c, vs = [.int l, .int b, .int c] ∧ ∀ t H', H t = none → Same H H' → H' t = some (.tup [.int (pInt l b c), .int (pOff l b c), .int (pLeft l b c), .int (pBegun l b c)]) → Q (.ref t) H'
theorem g_parts {l b c : Int} (q : ∀ t H', H t = none → Same H H' → H' t = some (.tup [.int (pInt l b c), .int (pOff l b c), .int (pLeft l b c), .int (pBegun l b c)]) → Q (.ref t) H') : sp_parts ([.int l, .int b, .int c] ++ []) H Q E := ⟨l, b, c, rfl, q⟩
def sp_two : Sp := fun vs H Q _ => ∃ t a b, vs = [.ref t, .int a, .int b] ∧ H t = some (.tup [.int a, .int b]) ∧ Q (.bl true) H
theorem g_two {t : Addr} {a b : Int} (h : H t = some (.tup [.int a, .int b])) (q : Q (.bl true) H) : sp_two ([.ref t, .int a, .int b] ++ []) H Q E := ⟨t, a, b, rfl, h, q⟩
def sp_cents_by : Sp := fun vs H Q _ => ∃ c l b, vs = [.int c, .int l, .int b] ∧ 1 ≤ owedF l b ∧ ∀ H', Same H H' → Q (.int (centsBy c l b)) H'
theorem g_cents_by {c l b : Int} (h : 1 ≤ owedF l b) (q : ∀ H', Same H H' → Q (.int (centsBy c l b)) H') : sp_cents_by ([.int c, .int l, .int b] ++ []) H Q E := ⟨c, l, b, rfl, h, q⟩
def sp_made (C : Addr) : Sp := fun vs H Q _ => ∃ a l c row, vs = [.int a, .ref l, .int c] ∧ RowAt H l row ∧ RowOk row ∧ lastDay row ≤ 100000 ∧ row.length ≤ 900 ∧ 1 ≤ a ∧ a ≤ 1000000000000 ∧
  ∀ x r H', H x = none → H r = none → Same H H' → LoanAt C H' x a 0 0 r row → Q (.ref x) H'
theorem g_made {C l : Addr} {a c : Int} {row : Row} (hR : RowAt H l row) (ok : RowOk row) (hd : lastDay row ≤ 100000) (hl : row.length ≤ 900) (h1 : 1 ≤ a) (h2 : a ≤ 1000000000000)
    (q : ∀ x r H', H x = none → H r = none → Same H H' → LoanAt C H' x a 0 0 r row → Q (.ref x) H') : sp_made C ([.int a, .ref l, .int c] ++ []) H Q E := ⟨a, l, c, row, rfl, hR, ok, hd, hl, h1, h2, q⟩
theorem RowOk.take {row : Row} (ok : RowOk row) {n : Nat} (h : 1 ≤ n) : RowOk (row.take n) := by
  obtain ⟨r, t, e⟩ := ok.head
  refine ⟨⟨r, t.take (n - 1), ?_⟩, ok.asc.sublist (List.take_sublist _ _), fun p hp => ok.rate p (List.take_subset _ _ hp)⟩
  rw [e]
  obtain ⟨m, rfl⟩ : ∃ m, n = m + 1 := ⟨n - 1, by omega⟩
  rfl
theorem RowOk.day_le {row : Row} (ok : RowOk row) {i : Nat} {p : Int × Int} (h : row[i]? = some p) : p.1 ≤ lastDay row := RowOk.le_last ok.asc p (List.mem_of_getElem? h)
theorem RowOk.last_take {row : Row} (ok : RowOk row) (n : Nat) : lastDay (row.take n) ≤ lastDay row := by
  rcases List.eq_nil_or_concat (row.take n) with e | ⟨ys, p, e⟩
  · rw [e]
    have h := ok.head
    obtain ⟨r, t, e2⟩ := h
    exact RowOk.le_last ok.asc (0, r) (by rw [e2]; simp)
  · rw [List.concat_eq_append] at e
    rw [e, lastDay_snoc]
    exact RowOk.le_last ok.asc p (List.take_subset n _ (by rw [e]; simp))
theorem RowOk.next {row : Row} (ok : RowOk row) {n : Nat} {p : Int × Int} (h : row[n]? = some p) (h1 : 1 ≤ n) : lastDay (row.take n) < p.1 := by
  obtain ⟨hl, e⟩ := List.getElem?_eq_some_iff.mp h
  obtain ⟨m, rfl⟩ : ∃ m, n = m + 1 := ⟨n - 1, by omega⟩
  have hm : row[m]? = some (row[m]'(by omega)) := List.getElem?_eq_getElem (by omega)
  rw [lastDay_take hm]
  have := List.pairwise_iff_getElem.mp ok.asc m (m + 1) (by omega) hl (by omega)
  rw [e] at this
  exact this
end
end Lp
namespace Lp
open PySem L2
section
variable {σ : L2.St} {H : Hp} {Q : VK} {E : XK} {D : Ends} {K : PySem.W.Frag} {te ta tb : TE} {tt tu : TT} {t u w : TS}
/-! ## calls whose errors a try takes -/
def tMethW (C : Addr) (m : Str) (sp : Sp) (W : WX) (ta : TE) (t : TA) : TE := fun σ H Q => ta σ H fun x H1 => rMeth C m x H1 (t σ H1 fun vs H2 => sp (x :: vs) H2 Q (WE W σ))
theorem pe_methW {X : Cx} {k : Nat} {f C : Addr} {fd : FuncData} {ps : List Str} {sp : Sp} {W : WX} {m : Str} {pos apos : Pos} {e o : Expr} {es : List Expr} {ta : TE} {t : TA} {pl : Sem Bool} (tk : Takes X W)
    (ho : PE X o ta) (c : Cls X.K C) (hm : Meth X.K C m f) (F : FnOk X.prog X.w X.K X.mg X.base (L2.CX X.prog X.w) k f fd ps sp) (hr : Room k X.A) (hb : Binds X.K fd ps []) (ha : PA X (e :: es) t)
    (h1 : starEach (e :: es) X.env = (false, eval e X.env) :: starEach es X.env := by rfl) (h2 : (backTo pos (starEach es X.env)).any (·.1) = false := by rfl)
    (h3 : eval (.Call (.Attribute o m apos) (e :: es) [] pos) X.env = (do
      let recv ← eval o X.env
      standAt apos.atName
      let (fn, bound) ← holding [recv] (getMethod recv m pl)
      callWith pos fn bound (backTo pos (starEach (e :: es) X.env))
        (backToKw pos (keywordEach [] X.env))) := by rfl) :
    PE X (.Call (.Attribute o m apos) (e :: es) [] pos) (tMethW C m sp W ta t) := by
  constructor
  intro pins s σ H Q I h
  refine PySem.W.methodCall_KW (pl := pl) ?_ h3
  apply thn (ho.run pins s σ H _ I h)
  rintro u s1 ⟨x, H1, I1, rx, a, dx, fs, rfl, ea, l, q⟩
  cases rx
  apply getmeth_ok I1 ea c hm l
  refine PySem.W.callWith_K (first := [.ref a]) (h₀ := X.base) I.ok.mod.kin hm.kp ?_ h1 h2
  apply thn (ha.run pos pins s1 σ H1 _ I1 q)
  rintro us s2 ⟨vs, H2, I2, r, q2⟩
  exact ⟨I2.kIn, run_fnS (us := .ref a :: us) (vs := .ref a :: vs) (E := WE W) F hr hb (passAt tk σ) I2 (.cons rfl r) q2⟩
theorem g_methW {C : Addr} {m : Str} {sp : Sp} {W : WX} {tr : TA} (h : ta σ H fun x H1 => rMeth C m x H1 (tr σ H1 fun vs H2 => sp (x :: vs) H2 Q (WE W σ))) : tMethW C m sp W ta tr σ H Q := h
/-! ## try, one clause without a name -/
def tTry1 (K : PySem.W.Frag) (c : Value) (ts : Addr → Value → Option Addr → TS) (Wout : WX) (tb : WX → TS) : TS := fun D σ H => tb (wOnly K c ts Wout D) D σ H
theorem ps_try1 {X : Cx} {x : Str} {c : Value} {body suite : List Stmt} {b₀ : Stmt} {np pos pos' : Pos} {tb : WX → TS} {ts : Addr → Value → Option Addr → TS} {Wout : WX} (hs : X.stack = X.env :: X.outer) (hf : X.env.frame = some X.env.locals) (hc : Names X x c) (tk : Takes X Wout)
    (hb : ∀ (W : WX) (pn : List (Addr × Obj)) (xe : Value → Shared → Prop), Takes (X.tr pn xe) W → PassesOwn (model X.prog X.w) X.A X.env xe → PSs (X.tr pn xe) body (tb W))
    (hsu : ∀ (a : Addr) (oe : Obj) (cls : Value) (d : Option Addr) (pn : List (Addr × Obj)), Zc cls d oe → (∃ vs, oe.data = .fields vs) → PSs (X.suite a ((a, oe) :: pn)) (b₀ :: suite) (ts a cls d)) :
    PS X (.Try body [.ExceptHandler (some (.Name x np)) none (b₀ :: suite) pos'] [] [] pos) (tTry1 X.K c ts Wout tb) := ps_try_only hs hf hc tk hb hsu
theorem g_seq_try1 {c : Value} {ts : Addr → Value → Option Addr → TS} {Wout : WX} {tb : WX → TS} (h : tb (wOnly K c ts Wout { D with nx := u D }) { D with nx := u D } σ H) : tSeq (tTry1 K c ts Wout tb) u D σ H := h
/-- the error is the clause's -/
theorem g_hit {c cls : Value} {ts : Addr → Value → Option Addr → TS} {Wout : WX} {d : Option Addr} (h : PySem.W.exmOne K cls c = some true) (q : ∀ a, H a = none → ts a cls d D σ H) : WE (wOnly K c ts Wout D) σ cls d H :=
  ⟨true, h, fun _ => q, fun z => nomatch z⟩
/-! ## a list of a loan's numbers and its row -/
def StoodAt (H : Hp) (s : Addr) (l b d : Int) (row : Row) : Prop := ∃ lr, H s = some (.lst [.int l, .int b, .int d, .ref lr]) ∧ RowAt H lr row
theorem StoodAt.same {H H' : Hp} {s : Addr} {l b d : Int} {row : Row} (h : StoodAt H s l b d row) (e : Same H H') : StoodAt H' s l b d row := by
  obtain ⟨lr, h1, h2⟩ := h
  exact ⟨lr, e _ _ h1, h2.same e⟩
theorem StoodAt.but {H H' : Hp} {s x C dx : Addr} {l b d : Int} {row : Row} {fs : List (Str × V)} (h : StoodAt H s l b d row) (k : But x H H') (hx : H x = some (.ins C dx fs)) : StoodAt H' s l b d row := by
  obtain ⟨lr, h1, h2⟩ := h
  obtain ⟨ys, h3, _⟩ := id h2
  exact ⟨lr, k _ _ (ne_of h1 hx (by intro z; cases z)) h1, h2.but k (ne_of h3 hx (by intro z; cases z)) (fun ps e => by rw [hx] at e; cases e)⟩
theorem RowAt.butI {H H' : Hp} {l x C dx : Addr} {row : Row} {fs : List (Str × V)} (h : RowAt H l row) (k : But x H H') (hx : H x = some (.ins C dx fs)) : RowAt H' l row := by
  obtain ⟨ys, h3, _⟩ := id h
  exact h.but k (ne_of h3 hx (by intro z; cases z)) (fun ps e => by rw [hx] at e; cases e)
theorem LoanAt.butI {H H' : Hp} {x y C D2 r : Addr} {l b d : Int} {row : Row} {fs : List (Str × V)} {dx : Addr} (h : LoanAt C H y l b d r row) (k : But x H H') (hy : y ≠ x) (hx : H x = some (.ins D2 dx fs)) : LoanAt C H' y l b d r row := by
  obtain ⟨⟨dy, h1⟩, h2⟩ := h
  exact ⟨⟨dy, k _ _ hy h1⟩, h2.butI k hx⟩
/-- a, b, c, d = a list of four -/
theorem g_unpL4 {i1 i2 i3 i4 : Nat} {p : Addr} {a b c d : V} {R : L2.St → Hp → Prop} (h : H p = some (.lst [a, b, c, d])) (q : R ((((σ.set i1 (some a)).set i2 (some b)).set i3 (some c)).set i4 (some d)) H) :
    gLst K 4 (gCons (gName i1) (gCons (gName i2) (gCons (gName i3) (gCons (gName i4) gNil)))) (.ref p) σ H R :=
  ⟨p, _, rfl, SqL.of h, rfl, a, _, rfl, b, _, rfl, c, _, rfl, d, _, rfl, rfl, q⟩
theorem g_seq_asgL {g : TGs} {n : Nat} (h : te σ H fun x H1 => gLst K n g x σ H1 (u D)) : tSeq (tAsg te (gLst K n g)) u D σ H := h
theorem g_slL {l : Addr} {xs : List V} {k : Int} (h : SqL K H l xs) (h0 : 0 ≤ k) (h1 : k ≤ xs.length) (q : ∀ p H', H p = none → Same H H' → H' p = some (.lst (xs.take k.toNat)) → Q (.ref p) H') : rSlL K (.ref l) none (some k) H Q :=
  ⟨l, xs, rfl, h, fun p np => q p _ np (same_new np) (by rw [cut_to xs h0 h1]; exact upd_same)⟩
theorem g_slLF {l : Addr} {xs : List V} {k : Nat} (h : SqL K H l xs) (q : ∀ p H', H p = none → Same H H' → H' p = some (.lst (xs.drop k)) → Q (.ref p) H') : rSlL K (.ref l) (some (k : Int)) none H Q := by
  refine ⟨l, xs, rfl, h, fun p np => q p _ np (same_new np) ?_⟩
  have e : cutV xs (some (k : Int)) none = xs.drop k := by
    unfold cutV
    rw [HT.sIx_none, HT.sIx_nat, List.take_of_length_le (by rw [List.length_drop]; exact Nat.le_refl _)]
    rcases Nat.le_total k xs.length with z | z
    · rw [Nat.min_eq_left z]
    · rw [Nat.min_eq_right z, List.drop_length, List.drop_of_length_le z]
  rw [e]; exact upd_same
/-- a, xs[i] = a pair -/
theorem g_unpS {i : Nat} {p : Addr} {v w : V} {tl ti : TE} {R : L2.St → Hp → Prop} (h : H p = some (.tup [v, w]))
    (q : tl (σ.set i (some v)) H fun o H1 => ti (σ.set i (some v)) H1 fun k H2 => rSetL o k w H2 fun H3 => ([] : List V) = [] ∧ R (σ.set i (some v)) H3) : gTup K 2 (gCons (gName i) (gCons (gSub tl ti rSetL) gNil)) (.ref p) σ H R := by
  exact ⟨p, [v, w], rfl, SqT.of h, rfl, v, [w], rfl, w, [], rfl, q⟩
theorem g_setL {l : Addr} {xs : List V} {k : Int} {j : Nat} {v : V} {R : Hp → Prop} (h : H l = some (.lst xs)) (hk : ixN xs.length k = some j) (q : R (upd H l (.lst (xs.set j v)))) : rSetL (.ref l) (.int k) v H R := ⟨l, xs, k, j, rfl, rfl, h, hk, q⟩
theorem g_seq_asgSub {tv to ti : TE} {t : TSet} (h : tv σ H fun v H1 => to σ H1 fun o H2 => ti σ H2 fun i H3 => t o i v H3 fun H4 => u D σ H4) : tSeq (tAsg tv (gSub to ti t)) u D σ H := h
theorem g_asgSub {tv to ti : TE} {t : TSet} (h : tv σ H fun v H1 => to σ H1 fun o H2 => ti σ H2 fun i H3 => t o i v H3 fun H4 => D.nx σ H4) : tAsg tv (gSub to ti t) D σ H := h
/-! ## promises -/
def sp_walked : Sp := fun vs H Q _ => ∃ s D l b d row, vs = [.ref s, .int D] ∧ StoodAt H s l b d row ∧ RowOk row ∧ row.length ≤ 100 ∧ NumOk l b d ∧ d ≤ D ∧ D ≤ 100000 ∧ Q (.int (thenF l b d row D)) H
theorem g_walked {s : Addr} {D l b d : Int} {row : Row} (h : StoodAt H s l b d row) (ok : RowOk row) (hl : row.length ≤ 100) (n : NumOk l b d) (h1 : d ≤ D) (h2 : D ≤ 100000) (q : Q (.int (thenF l b d row D)) H) : sp_walked ([.ref s, .int D] ++ []) H Q E := ⟨s, D, l, b, d, row, rfl, h, ok, hl, n, h1, h2, q⟩
def sp_cents8 : Sp := fun vs H Q _ => ∃ c l b, vs = [.int c, .int l, .int b] ∧ 1 ≤ owedF l b ∧ ∀ H', Same H H' → Q (.int (cents8 c l b)) H'
theorem g_cents8 {c l b : Int} (h : 1 ≤ owedF l b) (q : ∀ H', Same H H' → Q (.int (cents8 c l b)) H') : sp_cents8 ([.int c, .int l, .int b] ++ []) H Q E := ⟨c, l, b, rfl, h, q⟩
/-- what a deed tells: a truth and the numbers as they are then -/
def Deed (C : Addr) (H : Hp) (x : Addr) (row0 : Row) (Q : VK) : Prop := ∀ t s H' l b d r row, row.take 1 = row0.take 1 → H t = none → But x H H' → H' t = some (.tup [.bl true, .ref s]) → LoanAt C H' x l b d r row → StoodAt H' s l b d row → RowOk row → lastDay row ≤ 100000 → row.length ≤ 60 → NumOk l b d → Q (.ref t) H'
/-- the loan, its numbers, and a day -/
structure At8 (C : Addr) (H : Hp) (x s : Addr) (l b d : Int) (r : Addr) (row : Row) : Prop where
  L : LoanAt C H x l b d r row
  S : StoodAt H s l b d row
  ok : RowOk row
  last : lastDay row ≤ 100000
  len : row.length ≤ 60
  n : NumOk l b d
def sp_pay8 (C : Addr) : Sp := fun vs H Q _ => ∃ x s D z l b d r row, vs = [.ref x, .ref s, .int D, .int z] ∧ At8 C H x s l b d r row ∧ d ≤ D ∧ D ≤ 100000 ∧ 1 ≤ owedF l (thenF l b d row D) ∧ Deed C H x row Q
def sp_no_pay8 (C : Addr) : Sp := fun vs H Q _ => ∃ x s D z l b d r row, vs = [.ref x, .ref s, .int D, .int z] ∧ At8 C H x s l b d r row ∧ d ≤ D ∧ D ≤ 100000 ∧ ∀ H', Same H H' → Q (.bl true) H'
def sp_change8 (C : Addr) : Sp := fun vs H Q _ => ∃ x s D z l b d r row, vs = [.ref x, .ref s, .int D, .int z] ∧ At8 C H x s l b d r row ∧ row.length < 60 ∧ -(10 ^ 50) ≤ D ∧ D ≤ 10 ^ 50 ∧ Deed C H x row Q
def sp_look8 (C : Addr) : Sp := fun vs H Q _ => ∃ x s D l b d r row, vs = [.ref x, .ref s, .int D] ∧ At8 C H x s l b d r row ∧ d ≤ D ∧ D ≤ 100000 ∧ ∀ H', Same H H' → Q (.bl true) H'
def sp_deed8 (C : Addr) : Sp := fun vs H Q _ => ∃ x s D z l b d r row, vs = [.ref x, .ref s, .int D, .int z] ∧ At8 C H x s l b d r row ∧ d ≤ D ∧ D ≤ 100000 ∧ Deed C H x row Q
def sp_as_told8 (C : Addr) : Sp := fun vs H Q _ => ∃ x s l b d r row, vs = [.ref x, .ref s] ∧ LoanAt C H x l b d r row ∧ StoodAt H s l b d row ∧ ∀ H', Same H H' → Q (.bl true) H'
/-! ## a list of objects is changed: rows, loans and their numbers stay -/
/-- at p a list that begins with a thing that is no pair -/
structure Objs (H : Hp) (p : Addr) : Prop where
  h : ∃ y ys, H p = some (.lst (.ref y :: ys)) ∧ ∀ ps, H y ≠ some (.tup ps)
theorem Objs.lst {H : Hp} {p y : Addr} {ys zs : List V} (h : H p = some (.lst (.ref y :: ys))) (hy : H y = some (.lst zs)) : Objs H p := ⟨y, ys, h, fun ps e => by rw [hy] at e; cases e⟩
theorem Objs.ins {H : Hp} {p y C dx : Addr} {ys : List V} {fs : List (Str × V)} (h : H p = some (.lst (.ref y :: ys))) (hy : H y = some (.ins C dx fs)) : Objs H p := ⟨y, ys, h, fun ps e => by rw [hy] at e; cases e⟩
theorem RowAt.butP {H H' : Hp} {r p : Addr} {row : Row} (h : RowAt H r row) (o : Objs H p) (k : But p H H') : RowAt H' r row := by
  obtain ⟨y, ys, h1, h2⟩ := o.h
  obtain ⟨xs, h3, h4⟩ := id h
  refine h.but k (fun z => ?_) fun ps e => by rw [h1] at e; cases e
  rw [z, h1] at h3
  cases h3
  cases h4 with
  | cons e _ => exact h2 _ e
theorem StoodAt.butP {H H' : Hp} {s p : Addr} {l b d : Int} {row : Row} (h : StoodAt H s l b d row) (o : Objs H p) (k : But p H H') : StoodAt H' s l b d row := by
  obtain ⟨y, ys, h1, _⟩ := id o.h
  obtain ⟨lr, h3, h4⟩ := h
  exact ⟨lr, k _ _ (ne_of h3 h1 (by intro z; cases z)) h3, h4.butP o k⟩
theorem LoanAt.butP {C : Addr} {H H' : Hp} {x p r : Addr} {l b d : Int} {row : Row} (h : LoanAt C H x l b d r row) (o : Objs H p) (k : But p H H') : LoanAt C H' x l b d r row := by
  obtain ⟨y, ys, h1, _⟩ := id o.h
  obtain ⟨⟨dx, h3⟩, h4⟩ := h
  exact ⟨⟨dx, k _ _ (ne_of h3 h1 (by intro z; cases z)) h3⟩, h4.butP o k⟩
theorem At8.same {C : Addr} {H H' : Hp} {x s r : Addr} {l b d : Int} {row : Row} (h : At8 C H x s l b d r row) (e : Same H H') : At8 C H' x s l b d r row := ⟨h.L.same e, h.S.same e, h.ok, h.last, h.len, h.n⟩
theorem At8.butP {C : Addr} {H H' : Hp} {x s r p : Addr} {l b d : Int} {row : Row} (h : At8 C H x s l b d r row) (o : Objs H p) (k : But p H H') : At8 C H' x s l b d r row := ⟨h.L.butP o k, h.S.butP o k, h.ok, h.last, h.len, h.n⟩
theorem At8.butI {C : Addr} {H H' : Hp} {x s r y D dy : Addr} {l b d : Int} {row : Row} {fs : List (Str × V)} (h : At8 C H x s l b d r row) (k : But y H H') (n : x ≠ y) (hy : H y = some (.ins D dy fs)) : At8 C H' x s l b d r row :=
  ⟨h.L.butI k n hy, h.S.but k hy, h.ok, h.last, h.len, h.n⟩
/-- the two loans, their lists, as they stand between two deeds -/
structure Pair8 (C : Addr) (rr : Int) (lrow ll ss : Addr) (H : Hp) (x0 x1 s0 s1 : Addr) : Prop where
  hll : H ll = some (.lst [.ref x0, .ref x1])
  hss : H ss = some (.lst [.ref s0, .ref s1])
  ne : x0 ≠ x1
  hR : RowAt H lrow [(0, rr)]
  a0 : ∃ l b d r row, At8 C H x0 s0 l b d r row ∧ row.take 1 = [(0, rr)]
  a1 : ∃ l b d r row, At8 C H x1 s1 l b d r row ∧ row.take 1 = [(0, rr)]
theorem Pair8.same {C : Addr} {rr : Int} {lrow ll ss : Addr} {H H' : Hp} {x0 x1 s0 s1 : Addr} (h : Pair8 C rr lrow ll ss H x0 x1 s0 s1) (e : Same H H') : Pair8 C rr lrow ll ss H' x0 x1 s0 s1 :=
  ⟨e _ _ h.hll, e _ _ h.hss, h.ne, h.hR.same e, let ⟨l, b, d, r, row, a, t⟩ := h.a0; ⟨l, b, d, r, row, a.same e, t⟩, let ⟨l, b, d, r, row, a, t⟩ := h.a1; ⟨l, b, d, r, row, a.same e, t⟩⟩
end
end Lp
namespace Lp
open PySem L2
/-! ## a caught error handed to a def that raises nothing -/
/-- the error's object, its class and its dict -/
structure ErrOk (cls : Value) (d : Option Addr) (p : Addr × Obj) : Prop where
  z : Zc cls d p.2
  f : ∃ vs, p.2.data = .fields vs
abbrev SpE := Addr → Value → Option Addr → Sp
structure FnE (P : Program) (w : World) (K : PySem.W.Frag) (mg : Str → Option Value) (base : Heap) (k : Nat) (f : Addr) (fd : FuncData) (ps : List Str) (sp : SpE) : Prop where
  len : ∀ a cls d vs H Q E, sp a cls d vs H Q E → vs.length = ps.length
  go : ∀ (A : Around) (outer : List Env) (s : Shared) (H : Hp) (args : Args) (us : List Value) (vs : List V) (Q : VK) (p : Addr × Obj) (cls : Value) (d : Option Addr), L2H.RoomH k A → L2H.PinOk outer H s p → ErrOk cls d p →
    Env0 P w K mg base A outer s H → BindsTo s fd args (ps.zip us) → Vals vs us → sp p.1 cls d vs H Q E0 → codeAny (model P w) A (.call (.ref f) args) (CR CX0 outer P w H s Q E0) s
section
variable {P : Program} {w : World} {K : PySem.W.Frag} {mg : Str → Option Value} {base : Heap}
theorem Fun.okE {x qual : Str} {st : Stmt} {f : Addr} {fd : FuncData} {N ps : List Str} {k : Nat} {sp : SpE} (F : L2.Fun K x qual st f fd) (S : FnScope N ps (defScope st)) (len : ∀ a cls d vs H Q E, sp a cls d vs H Q E → vs.length = ps.length)
    (body : ∀ (cdv : Value) (A : Around) (outer : List Env) (s : Shared) (H : Hp) (vs : List V) (Q : VK) (p : Addr × Obj) (cls : Value) (d : Option Addr), ErrOk cls d p → sp p.1 cls d vs H Q E0 →
      ∃ t, PSs (L2H.cxH CX0 P w K mg base N qual (defScope st) f cdv A outer s H E0 p) (defBody st) t ∧ t { nx := fun _ H' => Q .non H', rt := Q } (L2.start N vs) H) : FnE P w K mg base (k + 1) f fd ps sp := by
  obtain ⟨oc, od, kV, doc, pm, an, cdv, ct, osl, rfl, lk, hcd⟩ := F.ex
  constructor
  · exact len
  intro A outer s H args us vs Q p cls d hr pin err e0 hb rv hsp
  have same0 : ∀ b o, base.get? b = some o → s.heap.get? b = some o := fun b o e => (e0.bs b o e).1
  have KX : K.In s.heap := e0.mod.kin.keeps same0
  have zipk : ∀ y ∈ ps.zip us, (defScope st).names.lookup y.1 = some .local ∨ ((defScope st).names.lookup y.1 = some .cell ∧ ((cellsFrom (s.heap.objs.size + 1) (defScope st).names []).lookup y.1).isSome = true) := by
    intro y hy
    rcases S.par y.1 (List.of_mem_zip hy).1 with q | q
    · left; exact q
    · right; exact ⟨q, PySem.W.cellsFrom_some _ _ _ (Or.inl q)⟩
  apply codeAny_call_function hr.depth (KX _ _ lk) rfl S.co S.gen rfl (PySem.W.codeRec_of KX hcd)
  apply hb
  apply wpAny_newFunctionEnv_cells S.kind zipk
  intro env he s1 x
  subst he
  constructor
  · exact (e0.mod.nolimit.keeps same0).keeps x.toInCall.keep
  apply codeAny_func
  obtain ⟨t, ht, q⟩ := body cdv A outer s H vs Q p cls d err hsp
  have I := L2H.inv_startH (CX := CX0) (E := E0) (N := N) (qual := qual) (f := f) (cd := cdv) S pin e0 (len _ _ _ _ _ _ _ hsp) rv x
  apply wpAny_mono (ht.run [] s1 (L2.start N vs) H _ I q)
  · intro fl s' hs
    cases fl with
    | ret u =>
      obtain ⟨v, _, H', J, r2, q2⟩ := hs
      exact ⟨v, H', J.os, J.bare, J.base, J.hok, r2, q2⟩
    | next =>
      obtain ⟨_, H', J, q2⟩ := hs
      exact ⟨V.non, H', J.os, J.bare, J.base, J.hok, rfl, q2⟩
    | brk =>
      rcases hs with ⟨_, _, _, no⟩
      cases no
    | cont =>
      rcases hs with ⟨_, _, _, no⟩
      cases no
  · intro e s' hs; exact hs
end
/-- f(e), e the error of the suite -/
def tCallE (sp : SpE) (a : Addr) (cls : Value) (d : Option Addr) (t : TA) : TE := fun σ H Q => t σ H fun vs H1 => sp a cls d vs H1 Q E0
theorem pe_callE {X : Cx} {k : Nat} {f a : Addr} {oe : Obj} {pn : List (Addr × Obj)} {cls : Value} {d : Option Addr} {fd : FuncData} {ps : List Str} {sp : SpE} {x : Str} {p pos : Pos} {e : Expr} {es : List Expr} {t : TA} (hz : Zc cls d oe) (hf : ∃ vs, oe.data = .fields vs)
    (F : FnE X.prog X.w X.K X.mg X.base k f fd ps sp) (hr : L2H.RoomH k (X.suite a ((a, oe) :: pn)).A) (hg : Gl (X.suite a ((a, oe) :: pn)) x) (hm : X.mg x = some (.ref f)) (hk : PySem.W.keepIn X.K (.ref f) = true) (hb : Binds X.K fd ps [])
    (ha : PA (X.suite a ((a, oe) :: pn)) (e :: es) t) (hdb : (x == ("__debug__" : Str)) = false := by decide) (he : starEach (e :: es) X.env = (false, eval e X.env) :: starEach es X.env := by rfl) (hpl : (backTo pos (starEach es X.env)).any (·.1) = false := by rfl) :
    PE (X.suite a ((a, oe) :: pn)) (.Call (.Name x p) (e :: es) [] pos) (tCallE sp a cls d t) := by
  constructor
  intro pins s σ H Q I h
  apply wpAny_Call_Name_kw
  apply ld_glob I hg hm (hd := hdb)
  refine PySem.W.callWith_K (h₀ := X.base) I.ok.mod.kin hk ?_ he hpl
  apply thn (ha.run pos pins s σ H _ I h)
  rintro us s1 ⟨vs, H1, I1, r, q⟩
  refine ⟨I1.kIn, ?_⟩
  have hl : us.length = ps.length := by rw [← r.length]; exact F.len _ _ _ _ _ _ _ q
  have b := hb s1 us I1.kIn (by rw [List.append_nil]; exact hl)
  rw [List.append_nil] at b
  have p1 := I1.pin (a, oe) (List.mem_append.mpr (.inl List.mem_cons_self))
  have pin : L2H.PinOk (X.suite a ((a, oe) :: pn)).stack H1 s1 (a, oe) := by
    refine ⟨p1.1, p1.2.1, ?_, p1.2.2.2.2⟩
    intro hm
    rcases List.mem_cons.mp (I1.stkSub _ hm) with z | z
    · exact p1.2.2.1 z
    · exact p1.2.2.2.1 z
  apply wpAny_call
  apply codeAny_mono (F.go _ _ s1 H1 ⟨us, []⟩ us vs Q (a, oe) cls d hr pin ⟨hz, hf⟩ I1.env0 b r q)
  intro r' s' hq
  cases r' with
  | error _ => exact hq.elim
  | ok fl =>
    cases fl with
    | ret u => exact I1.after hq
    | next => exact hq.elim
    | brk => exact hq.elim
    | cont => exact hq.elim
/-- isinstance(e, c) in such a def -/
theorem call_isX {X : Cx} {a D : Addr} {oe : Obj} (hp : (a, oe) ∈ X.pn) (C : ExcC X.K D) (hz : Zc (.ref D) none oe) (hf : ∃ vs, oe.data = .fields vs) : CallR X (.builtin "isinstance") (rIsE X.K D a) := by
  intro pins s σ H xs us Q I r h
  obtain ⟨c, cv, b, rfl, hcv, e, q⟩ := h
  obtain ⟨u1, u2, rfl, rx, rt⟩ := vals2 r
  cases rx
  obtain rfl := hcv _ rt
  have hget := (I.pin (a, oe) (List.mem_append.mpr (.inl hp))).1
  obtain ⟨vs, hv⟩ := hf
  obtain ⟨oc, od, oda, osl⟩ := oe
  obtain ⟨z1, z2⟩ := hz
  dsimp only at z1 z2 hv
  subst z1 z2 hv
  have J : PySem.W.InstAt s.heap a ⟨.ref D, none, .fields vs, osl⟩ D none := ⟨hget, rfl, rfl, trivial⟩
  apply PySem.W.kia_one (PySem.W.handS_kitx_exc C.hg C.hk C.hs C.hd C.ha C.hn C.ht C.hm) I.kIn J e (fun z => nomatch z)
  intro tk
  exact ⟨.bl b, H, I.kept (t' := tk) fun _ _ z => z, rfl, q⟩
theorem roomE {k j : Nat} {A : Around} {v : Option Value} (hr : Room k A) (h : j ≤ k) : L2H.RoomH j (A.mark v) :=
  ⟨by have := hr.dp; show A.depth + 3 * j + 5 < _; omega, by have := hr.un; show A.units + 16 * j + 200 < _; omega⟩
section
variable {σ : L2.St} {H : Hp} {Q : VK} {E : XK} {D : Ends} {K : PySem.W.Frag} {te ta tb : TE} {tt tu : TT} {t u w : TS}
/-! ## more tries -/
def tTryM (K : PySem.W.Frag) (Wout : WX) (l : List (Value × (Addr → Value → Option Addr → TS))) (tb : WX → TS) : TS := fun D σ H => tb (wMany K Wout D l) D σ H
theorem ps_tryM {X : Cx} {body : List Stmt} {h₀ : ExceptHandler} {hds : List ExceptHandler} {l : List (Value × (Addr → Value → Option Addr → TS))} {pos : Pos} {tb : WX → TS} {Wout : WX} (hs : X.stack = X.env :: X.outer) (hf : X.env.frame = some X.env.locals) (tk : Takes X Wout)
    (hb : ∀ (W : WX) (pn : List (Addr × Obj)) (xe : Value → Shared → Prop), Takes (X.tr pn xe) W → PassesOwn (model X.prog X.w) X.A X.env xe → PSs (X.tr pn xe) body (tb W)) (hh : HdsOk X (h₀ :: hds) l) :
    PS X (.Try body (h₀ :: hds) [] [] pos) (tTryM X.K Wout l tb) := ps_try_many hs hf tk hb hh
theorem g_seq_tryM {Wout : WX} {l : List (Value × (Addr → Value → Option Addr → TS))} {tb : WX → TS} (h : tb (wMany K Wout { D with nx := u D } l) { D with nx := u D } σ H) : tSeq (tTryM K Wout l tb) u D σ H := h
theorem g_hitM {c cls : Value} {ts : Addr → Value → Option Addr → TS} {Wout : WX} {l : List (Value × (Addr → Value → Option Addr → TS))} {d : Option Addr} (h : PySem.W.exmOne K cls c = some true) (q : ∀ a, H a = none → ts a cls d D σ H) : WE (wMany K Wout D ((c, ts) :: l)) σ cls d H :=
  ⟨true, h, fun _ => q, fun z => nomatch z⟩
theorem g_missM {c cls : Value} {ts : Addr → Value → Option Addr → TS} {Wout : WX} {l : List (Value × (Addr → Value → Option Addr → TS))} {d : Option Addr} (h : PySem.W.exmOne K cls c = some false) (q : WE (wMany K Wout D l) σ cls d H) : WE (wMany K Wout D ((c, ts) :: l)) σ cls d H :=
  ⟨false, h, (fun z => nomatch z), fun _ => q⟩
def tTryAs (K : PySem.W.Frag) (c : Value) (i : Nat) (ts : Addr → Value → Option Addr → TS) (Wout : WX) (tb : WX → TS) : TS := fun D σ H => tb (wAs K c i ts Wout D) D σ H
theorem ps_tryAs {X : Cx} {x n : Str} {c : Value} {i : Nat} {body suite : List Stmt} {b₀ : Stmt} {np pos pos' : Pos} {tb : WX → TS} {ts : Addr → Value → Option Addr → TS} {Wout : WX} (hs : X.stack = X.env :: X.outer) (hf : X.env.frame = some X.env.locals) (hN : X.N.Nodup) (hi : X.N[i]? = some n) (hln : X.env.kindOf n = some .local) (hc : Names X x c) (tk : Takes X Wout)
    (hb : ∀ (W : WX) (pn : List (Addr × Obj)) (xe : Value → Shared → Prop), Takes (X.tr pn xe) W → PassesOwn (model X.prog X.w) X.A X.env xe → PSs (X.tr pn xe) body (tb W))
    (hsu : ∀ (a : Addr) (oe : Obj) (cls : Value) (d : Option Addr) (pn : List (Addr × Obj)), Zc cls d oe → (∃ vs, oe.data = .fields vs) → PSs (X.suite a ((a, oe) :: pn)) (b₀ :: suite) (ts a cls d)) :
    PS X (.Try body [.ExceptHandler (some (.Name x np)) (some n) (b₀ :: suite) pos'] [] [] pos) (tTryAs X.K c i ts Wout tb) := ps_try_as hs hf hN hi hln hc tk hb hsu
theorem g_seq_tryAs {c : Value} {i : Nat} {ts : Addr → Value → Option Addr → TS} {Wout : WX} {tb : WX → TS} (h : tb (wAs K c i ts Wout { D with nx := u D }) { D with nx := u D } σ H) : tSeq (tTryAs K c i ts Wout tb) u D σ H := h
theorem g_hitAs {c cls : Value} {i : Nat} {ts : Addr → Value → Option Addr → TS} {Wout : WX} {d : Option Addr} (h : PySem.W.exmOne K cls c = some true)
    (q : ∀ a, H a = none → ts a cls d { nx := fun σ' H' => D.nx (σ'.set i none) H', rt := D.rt, bk := fun σ' H' => D.bk (σ'.set i none) H', ct := fun σ' H' => D.ct (σ'.set i none) H' } (σ.set i (some (.ref a))) H) : WE (wAs K c i ts Wout D) σ cls d H :=
  ⟨true, h, fun _ => q, fun z => nomatch z⟩
theorem g_callS {sp : Sp} {E : L2.St → XK} {tr : TA} (h : tr σ H fun vs H1 => sp vs H1 Q (E σ)) : tCallS sp E tr σ H Q := h
theorem g_callE {sp : SpE} {a : Addr} {cls : Value} {d : Option Addr} {tr : TA} (h : tr σ H fun vs H1 => sp a cls d vs H1 Q E0) : tCallE sp a cls d tr σ H Q := h
/-! ## a class called in a try -/
def tMakeW (C : Addr) (sp : Sp) (W : WX) (t : TA) : TE := fun σ H Q => t σ H fun vs H1 => MkV C sp [] (WE W σ) vs H1 Q
theorem pe_makeW {X : Cx} {k : Nat} {f C : Addr} {fd : FuncData} {ps : List Str} {sp : Sp} {W : WX} {x : Str} {p pos : Pos} {e : Expr} {es : List Expr} {t : TA} (tk : Takes X W) (M : Mk X.K C f) (F : FnOk X.prog X.w X.K X.mg X.base (L2.CX X.prog X.w) k f fd ps sp) (hr : Room (k + 1) X.A)
    (hg : Gl X x) (hm : X.mg x = some (.ref C)) (hb : Binds X.K fd ps []) (ha : PA X (e :: es) t) (hdb : (x == ("__debug__" : Str)) = false := by decide)
    (he : starEach (e :: es) X.env = (false, eval e X.env) :: starEach es X.env := by rfl) (hpl : (backTo pos (starEach es X.env)).any (·.1) = false := by rfl) : PE X (.Call (.Name x p) (e :: es) [] pos) (tMakeW C sp W t) := by
  constructor
  intro pins s σ H Q I h
  apply wpAny_Call_Name_kw
  apply ld_glob I hg hm (hd := hdb)
  refine PySem.W.callWith_K (h₀ := X.base) I.ok.mod.kin M.kp ?_ he hpl
  apply thn (ha.run pos pins s σ H _ I h)
  rintro us s1 ⟨vs, H1, I1, r, q⟩
  refine ⟨I1.kIn, ?_⟩
  have q1 := q (s1.heap.objs.size + 1) s1.heap.objs.size (I1.hok.fresh (Nat.le_add_right _ 1)) (I1.hok.fresh (Nat.le_refl _)) (Nat.ne_of_lt (Nat.lt_succ_self _))
  have I2 := Inv.made (C := C) I1
  rw [List.append_nil] at q1
  have r2 : Vals (V.ref (s1.heap.objs.size + 1) :: vs) (Value.ref (s1.heap.objs.size + 1) :: us) := .cons rfl r
  have hl := r2.length.symm.trans (F.len _ _ _ _ q1)
  have b := hb _ (Value.ref (s1.heap.objs.size + 1) :: us) I2.kIn (by rw [List.append_nil]; exact hl)
  rw [List.append_nil] at b
  apply wpAny_call
  refine make_map (f := f) I1.kIn M.makes M.init (beq_iff_eq.mp M.fn) (codeAny_mono (F.run _ X.stack _ _ ⟨_, []⟩ _ _ _ (WE W σ) (hr.make C us []) (I2.env0.make C us []) b r2 q1) ?_)
  rintro (e | fl) s' hq
  · exact passAt tk σ pins _ _ e s' I2 hq
  · rcases fl with _ | _ | _ | v
    case ret =>
      obtain ⟨y, H', I3, rv, ey, q3⟩ := I2.after hq
      subst ey
      exact ⟨rv, V.ref (s1.heap.objs.size + 1), H', I3, rfl, q3⟩
    all_goals exact False.elim hq
theorem g_makeW {C : Addr} {sp : Sp} {W : WX} {tr : TA} (h : tr σ H fun vs H1 => MkV C sp [] (WE W σ) vs H1 Q) : tMakeW C sp W tr σ H Q := h
/-! ## the error alone -/
theorem kit_sub {K : PySem.W.Frag} {D C : Addr} {b : Bool} (h1 : PySem.W.subIn K (.ref D) (.ref D) = some true) (h2 : PySem.W.subIn K (.ref D) (.ref C) = some b) (hd : PySem.W.hasDictIn K C = true) (ht : PySem.W.typeIn K (.ref C) = some (.type "type")) : PySem.W.kitOne K (.ref D) (.ref C) = some b := by
  unfold PySem.W.kitOne
  by_cases e : D = C
  · subst e
    rw [h1] at h2
    cases h2
    simp
  · have ne : ((Value.ref D : Value) == Value.ref C) = false := by simpa using e
    have hs : (PySem.W.clsIn K C).isSome = true := by
      obtain ⟨cd, hc, _⟩ := PySem.W.any_some hd
      rw [hc]; rfl
    rw [ne]
    show (if ((PySem.W.clsIn K C).isSome && PySem.W.typeIn K (.ref C) == some (.type "type")) = true then PySem.W.subIn K (.ref D) (.ref C) else none) = some b
    rw [hs, ht]
    exact h2
theorem kit_ve {K : PySem.W.Frag} {D : Addr} (h : PySem.W.subIn K (.ref D) (.type "ValueError") = some true) : PySem.W.kitOne K (.ref D) (.type "ValueError") = some true := by
  show (if PySem.W.kitMeta "ValueError" = true then PySem.W.subIn K (.ref D) (.type "ValueError") else none) = some true
  rw [if_pos (by decide +kernel)]
  exact h
def b1 (b : Bool) : Int := if b = true then 1 else 0
structure AloneOk (K : PySem.W.Frag) (D cA cR cD cP cN : Addr) : Prop where
  c : ExcC K D
  k : ∃ x1 x2 x3 x4 x5 : Bool, PySem.W.kitOne K (.ref D) (.ref cA) = some x1 ∧ PySem.W.kitOne K (.ref D) (.ref cR) = some x2 ∧ PySem.W.kitOne K (.ref D) (.ref cD) = some x3 ∧ PySem.W.kitOne K (.ref D) (.ref cP) = some x4 ∧ PySem.W.kitOne K (.ref D) (.ref cN) = some x5 ∧ b1 x1 + b1 x2 + b1 x3 + (b1 x4) + b1 x5 = 1
  v : PySem.W.kitOne K (.ref D) (.type "ValueError") = some true
def sp_alone (K : PySem.W.Frag) (cA cR cD cP cN : Addr) : SpE := fun a cls d vs H Q _ => ∃ D, cls = .ref D ∧ d = none ∧ vs = [.ref a] ∧ AloneOk K D cA cR cD cP cN ∧ Q (.bl true) H
theorem g_isE {a D C : Addr} {b : Bool} (k : PySem.W.kitOne K (.ref D) (.ref C) = some b) (q : Q (.bl b) H) : rIsE K D a [.ref a, .ref C] H Q := ⟨.ref C, .ref C, b, rfl, fun _ r => r, k, q⟩
theorem g_isEV {a D : Addr} {n : String} {b : Bool} (k : PySem.W.kitOne K (.ref D) (.type n) = some b) (q : Q (.bl b) H) : rIsE K D a [.ref a, .ty n] H Q := ⟨.ty n, .type n, b, rfl, fun _ r => r, k, q⟩
def rIsS (K : PySem.W.Frag) (cls : Value) (d : Option Addr) (a : Addr) : List V → Hp → VK → Prop := fun xs H Q => ∃ D, cls = .ref D ∧ d = none ∧ ExcC K D ∧ rIsE K D a xs H Q
theorem call_isS {X : Cx} {a : Addr} {oe : Obj} {cls : Value} {d : Option Addr} (hp : (a, oe) ∈ X.pn) (hz : Zc cls d oe) (hf : ∃ vs, oe.data = .fields vs) : CallR X (.builtin "isinstance") (rIsS X.K cls d a) := by
  intro pins s σ H xs us Q I r h
  obtain ⟨D, rfl, rfl, c, q⟩ := h
  exact call_isX hp c hz hf pins s σ H xs us Q I r q
theorem g_isS {a D C : Addr} {b : Bool} (c : ExcC K D) (k : PySem.W.kitOne K (.ref D) (.ref C) = some b) (q : Q (.bl b) H) : rIsS K (.ref D) none a [.ref a, .ref C] H Q := ⟨D, rfl, rfl, c, g_isE k q⟩
theorem g_isSV {a D : Addr} {n : String} {b : Bool} (c : ExcC K D) (k : PySem.W.kitOne K (.ref D) (.type n) = some b) (q : Q (.bl b) H) : rIsS K (.ref D) none a [.ref a, .ty n] H Q := ⟨D, rfl, rfl, c, g_isEV k q⟩
/-! ## rows that may be none -/
def dueF (row : Row) : Str := match checkF row with
  | some true => "day"
  | some false => "rate"
  | none => ""
def sp_faulty : Sp := fun vs H Q _ => ∃ l c row, vs = [.ref l, .int c] ∧ RowAt H l row ∧ row.length ≤ 100 ∧ Builtin.Int.intBits c ≤ 1048576 ∧ ∀ l' H' row', row'.length = row.length → Same H H' → RowAt H' l' row' → Q (.ref l') H'
def sp_due : Sp := fun vs H Q _ => ∃ l row, vs = [.ref l] ∧ RowAt H l row ∧ Q (.str (dueF row)) H
def sp_any : Sp := fun vs H Q _ => ∃ l row, vs = [.ref l] ∧ RowAt H l row ∧ row.length ≤ 100 ∧ checkF row ≠ none ∧ ∀ H', Same H H' → Q (.bl true) H'
def sp_loaned : Sp := fun vs H Q _ => ∃ l row, vs = [.ref l] ∧ RowAt H l row ∧ row.length ≤ 100 ∧ ∀ H', Same H H' → Q (.str (dueF row)) H'
theorem same_of_make {H H' : Hp} {x dx C : Addr} (nx : H x = none) (nd : H dx = none) (b : But x (upd (upd H dx (.own x)) x (.ins C dx [])) H') : Same H H' := fun c o e =>
  b c o (ne_of_none e nx) (by rw [upd_ne (ne_of_none e nx), upd_ne (ne_of_none e nd)]; exact e)
theorem cell_bits {ns : List Int} (h : ∀ z ∈ ns, Builtin.Int.intBits z ≤ 1048576) (k : Int) : Builtin.Int.intBits (cellAt ns k) ≤ 1048576 := by
  unfold cellAt
  rw [List.getD_eq_getElem?_getD]
  cases e : ns[k.toNat]? with
  | none => exact (by decide : Builtin.Int.intBits 0 ≤ 1048576)
  | some z => exact h z (List.mem_of_getElem? e)
end
end Lp
namespace Lp
open PySem L2
section
variable {σ : L2.St} {H : Hp} {Q : VK} {E : XK} {D : Ends} {K : PySem.W.Frag} {te ta tb : TE} {tt tu : TT} {t u w : TS}
/-! ## three at once -/
theorem g_seq_par3 {i j l : Nat} {tr : TA} (h : tr σ H fun vs H1 => ∃ x y z, vs = [x, y, z] ∧ u D (((σ.set i (some x)).set j (some y)).set l (some z)) H1) : tSeq (tPar3 i j l tr) u D σ H := h
theorem g_unp3 {i1 i2 i3 : Nat} {p : Addr} {a b c : V} {R : L2.St → Hp → Prop} (h : H p = some (.tup [a, b, c])) (q : R (((σ.set i1 (some a)).set i2 (some b)).set i3 (some c)) H) :
    gTup K 3 (gCons (gName i1) (gCons (gName i2) (gCons (gName i3) gNil))) (.ref p) σ H R := ⟨p, _, rfl, SqT.of h, rfl, a, _, rfl, b, _, rfl, c, _, rfl, rfl, q⟩
theorem shaped3 (x y z : Int) : SeqAt.shaped (.tuple [.int x, .int y, .int z]) = true := by
  unfold SeqAt.shaped
  rw [Bool.and_eq_true]
  refine ⟨by simp [PyData.canLay0, PyData.canLayAll0], decide_eq_true ?_⟩
  simp [PyData.depth, PyData.depthAll]
theorem lay3 (x y z : Int) : PyData.canLay0 (.tuple [.int x, .int y, .int z]) = true := by simp [PyData.canLay0, PyData.canLayAll0]
theorem dp3 {a : Addr} {x y z : Int} (h : H a = some (.tup [.int x, .int y, .int z])) : Dp K H (.ref a) (.tuple [.int x, .int y, .int z]) := .tup (SqT.of h) (.cons (.int _) (.cons (.int _) (.cons (.int _) .nil)))
theorem g_ne3 {a b : Addr} {x y z : Int} (ha : H a = some (.tup [.int x, .int y, .int z])) (hb : H b = some (.tup [.int x, .int y, .int z])) (q : Q (.bl false) H) : rNeD K (.ref a) (.ref b) H Q :=
  ⟨_, _, dp3 ha, dp3 hb, shaped3 _ _ _, shaped3 _ _ _, by rw [SeqAt.eqv_refl _ (lay3 _ _ _)]; exact q⟩
theorem g_eq3 {a b : Addr} {x y z : Int} (ha : H a = some (.tup [.int x, .int y, .int z])) (hb : H b = some (.tup [.int x, .int y, .int z])) (q : Q (.bl true) H) : rEqD K (.ref a) (.ref b) H Q :=
  ⟨_, _, dp3 ha, dp3 hb, shaped3 _ _ _, shaped3 _ _ _, by rw [SeqAt.eqv_refl _ (lay3 _ _ _)]; exact q⟩
/-- t[2:] of four -/
theorem g_slT2 {p : Addr} {a b c d : V} (h : H p = some (.tup [a, b, c, d])) (q : ∀ p' H', H p' = none → Same H H' → H' p' = some (.tup [c, d]) → Q (.ref p') H') : rSlT K (.ref p) (some 2) none H Q :=
  ⟨p, _, rfl, SqT.of h, (show ¬ (HT.sIx 4 0 (some 2) = 0 ∧ HT.sIx 4 4 none = 4) by decide), fun p' np => q p' _ np (same_new np) upd_same⟩
theorem SqL.butI {H H' : Hp} {a x C dx : Addr} {xs : List V} {fs : List (Str × V)} (h : SqL K H a xs) (k : But x H H') (hx : H x = some (.ins C dx fs)) : SqL K H' a xs :=
  h.elim (fun h => .inl (h.elim (fun e => .inl (k _ _ (ne_of e hx (by intro z; cases z)) e)) fun ⟨o, e⟩ => .inr ⟨o, k _ _ (ne_of e hx (by intro z; cases z)) e⟩)) .inr
/-! ## days -/
def atBy (c : Int) : Int := if c / 2 % 6 = 5 then mixed c 3001 else c / 12 % 41
theorem atBy_lo (c : Int) : 0 ≤ atBy c := by
  have := mixed_lo (c := c) (m := 3001) (by decide)
  unfold atBy; split <;> omega
theorem atBy_hi (c : Int) : atBy c ≤ 3000 := by
  have := mixed_hi (c := c) (m := 3001) (by decide)
  unfold atBy; split <;> omega
def sp_at_by : Sp := fun vs H Q _ => ∃ c, vs = [.int c] ∧ Q (.int (atBy c)) H
theorem g_at_by {c : Int} (q : Q (.int (atBy c)) H) : sp_at_by ([.int c] ++ []) H Q E := ⟨c, rfl, q⟩
/-! ## promises -/
def sp_no_loan : Sp := fun vs H Q _ => ∃ a l row, vs = [.int a, .ref l] ∧ RowAt H l row ∧ row.length ≤ 1000 ∧ (a < 1 ∨ 1000000000000 < a) ∧ ∀ H', Same H H' → Q (.bl true) H'
def PaidBad (l b d : Int) (row : Row) (D c : Int) (s : Str) : Prop := ((D < d ∨ 100000 < D) ∧ s = "day") ∨ (¬ (D < d ∨ 100000 < D) ∧ (c < 1 ∨ owedF l (thenF l b d row D) < c) ∧ s = "pay")
def sp_paid (C : Addr) : Sp := fun vs H Q _ => ∃ x D c l b d r row s, vs = [.ref x, .int D, .int c] ∧ LoanAt C H x l b d r row ∧ NumOk l b d ∧ RatesOk row ∧ PaidBad l b d row D c s ∧ ∀ H', Same H H' → Q (.str s) H'
def sp_stood (C : Addr) : Sp := fun vs H Q _ => ∃ x D l b d r row, vs = [.ref x, .int D, .int l, .int (thenF l b d row D)] ∧ LoanAt C H x l b d r row ∧ NumOk l b d ∧ ¬ (D < d ∨ 100000 < D) ∧ ∀ H', Same H H' → Q (.bl true) H'
def sp_no_day (C : Addr) : Sp := fun vs H Q _ => ∃ x D l b d r row, vs = [.ref x, .int D] ∧ LoanAt C H x l b d r row ∧ NumOk l b d ∧ (D < d ∨ 100000 < D) ∧ ∀ H', Same H H' → Q (.bl true) H'
def sp_good_later (C : Addr) : Sp := fun vs H Q _ => ∃ x t q D l b d r row, vs = [.ref x, .ref t, .ref q, .int D] ∧ H t = some (.tup [.int l, .int b, .int d]) ∧ LoanAt C H x l b d r row ∧ RowAt H q row ∧ NumOk l b d ∧ RowOk row ∧ row.length ≤ 100 ∧ d ≤ D ∧ D ≤ 100000 ∧ ∀ H', Q (.bl true) H'
end
end Lp
namespace Lp
open PySem L2
/-! ## try with two clauses, the second one named; every error of the body is one of theirs -/
abbrev Suit := Addr → Value → Option Addr → TS
/-- the ends of a named suite: its name is gone behind it -/
def gone (D : Ends) (i : Nat) : Ends := { nx := fun τ G => D.nx (τ.set i none) G, rt := D.rt, bk := fun τ G => D.bk (τ.set i none) G, ct := fun τ G => D.ct (τ.set i none) G }
def wTwo (K : PySem.W.Frag) (c1 : Value) (t1 : Suit) (c2 : Value) (i : Nat) (t2 : Suit) (D : Ends) : WX := fun k d τ G =>
  (PySem.W.exmOne K k c1 = some true ∧ ∀ e, G e = none → t1 e k d D τ G) ∨ (PySem.W.exmOne K k c1 = some false ∧ PySem.W.exmOne K k c2 = some true ∧ ∀ e, G e = none → t2 e k d (gone D i) (τ.set i (some (.ref e))) G)
def tTryTwo (K : PySem.W.Frag) (c1 : Value) (t1 : Suit) (c2 : Value) (i : Nat) (t2 : Suit) (tb : WX → TS) : TS := fun D τ G => tb (wTwo K c1 t1 c2 i t2 D) D τ G
def AfterErr (X : Cx) (cs : List ExceptHandler) (Q : Flow → Shared → Prop) (e : Value) (s : Shared) : Prop :=
  wpAny (model X.prog X.w) X.A (noteFrame e X.env) (fun _ u => wpAny (model X.prog X.w) X.A (setFlight e none) (fun _ v => wpAny (model X.prog X.w) X.A (handleBy e X.env cs) Q X.xe v) X.xe u) X.xe s
section
variable {X : Cx} {x1 x2 n : Str} {c1 c2 : Value} {i : Nat} {body r1 r2 : List Stmt} {b1 b2 : Stmt} {p1 p2 q1 q2 pos : Pos} {tb : WX → TS} {t1 t2 : Suit}
theorem names_ld {s : Shared} {a : Addr} {oe : Obj} {pl : List (Addr × Obj)} {τ : L2.St} {G : Hp} {x : Str} {c : Value} {p : Pos} (S : Inv (X.suite a ((a, oe) :: pl)) [] τ G s) (hc : Names X x c) {Q E : Value → Shared → Prop} (q : Q c s) :
    wpAny (model X.prog X.w) (X.A.mark (some (.ref a))) (eval (.Name x p) X.env) Q E s := by
  rcases hc with ⟨g, nd, m | ⟨m, bv, nn⟩⟩
  · exact ld_glob (X := X.suite a ((a, oe) :: pl)) S g m q nd
  · exact ld_blt (X := X.suite a ((a, oe) :: pl)) S g m bv q nn nd
theorem caught {pins : List (Addr × Obj)} {D : Ends} {E : Value → Shared → Prop} {u : Value} {s : Shared} (ok : X.Ok) (hs : X.stack = X.env :: X.outer) (hf : X.env.frame = some X.env.locals) (hN : X.N.Nodup) (hi : X.N[i]? = some n) (hl : X.env.kindOf n = some .local)
    (h1 : Names X x1 c1) (h2 : Names X x2 c2)
    (k1 : ∀ (a : Addr) (oe : Obj) (k : Value) (d : Option Addr) (pl : List (Addr × Obj)), Zc k d oe → (∃ vs, oe.data = .fields vs) → PSs (X.suite a ((a, oe) :: pl)) (b1 :: r1) (t1 a k d))
    (k2 : ∀ (a : Addr) (oe : Obj) (k : Value) (d : Option Addr) (pl : List (Addr × Obj)), Zc k d oe → (∃ vs, oe.data = .fields vs) → PSs (X.suite a ((a, oe) :: pl)) (b2 :: r2) (t2 a k d))
    (x : XE (X.tr (X.pn ++ pins) E) (wTwo X.K c1 t1 c2 i t2 D) u s) :
    AfterErr X [.ExceptHandler (some (.Name x1 p1)) none (b1 :: r1) q1, .ExceptHandler (some (.Name x2 p2)) (some n) (b2 :: r2) q2] (SP X pins D) u s := by
  obtain ⟨ea, B, sB, pB, τ, G, k, d, rfl, IB, nbB, upB, skyB, new, osB, agB, wB⟩ := x
  have IX : Inv X pins τ G sB := IB.ofTry ok
  have fr0 : X.A.frames = some (X.env :: X.outer) := by rw [← hs]; exact ok.frames
  have skyX : Sky B (X.env :: X.outer) ea (Zc k d) X.env.locals s.heap := hs ▸ skyB
  unfold AfterErr
  apply Sky.land Zc.steady fr0 hf skyX
  intro hp fl up
  have J : Inv X pins τ G { s with heap := hp } := IX.landed nbB fl.1 (upB.trans up) osB agB
  obtain ⟨oe, ovs, got, zc, flds'⟩ := fl.there
  -- the error is no frame
  have nofr : ea ∉ frs (X.env :: X.outer) := by
    intro m
    obtain ⟨_, oz, ez, nz⟩ := fl.2.2.1.mem m
    rw [got] at ez
    cases ez
    exact nz _ flds'
  have nloc : ea ≠ X.env.locals := by
    intro z
    apply nofr
    rw [z]
    exact List.mem_filterMap.mpr ⟨X.env, .head _, hf⟩
  have nfs : ea ∉ X.fs := by
    intro m
    obtain ⟨e, me, fe⟩ := List.mem_filterMap.mp m
    exact nofr (List.mem_filterMap.mpr ⟨e, .tail _ me, fe⟩)
  have SS := J.suite got flds' new nloc nfs
  have looks : PySem.W.Looks (model X.prog X.w) hp (typeOf (.ref ea)) k := by
    intro A' Q' E' s' keep q'
    refine wpAny_typeOf_ref (keep _ _ got) ?_
    rw [zc.1]
    exact q'
  -- back in a suite, from the heap in which the clause was told
  have again : ∀ {A1 : Around} {E1 : Value → Shared → Prop} {R : Unit → Shared → Prop}, (∀ s4 oe4, Inv (X.suite ea ((ea, oe4) :: (X.pn ++ pins))) [] τ G s4 → Zc k d oe4 → (∃ vs, oe4.data = .fields vs) → R () s4) →
      wpAny (model X.prog X.w) A1 (setFlight (.ref ea) none) R E1 { s with heap := hp } := by
    intro A1 E1 R hR
    refine HandSPX.lands_againZ fl fun hp4 fl4 up4 => ?_
    have J4 : Inv X pins τ G { s with heap := hp4 } := IX.landed nbB fl4.1 ((upB.trans up).trans up4) osB agB
    obtain ⟨oe4, v4, got4, z4, f4⟩ := fl4.there
    exact hR _ oe4 (J4.suite got4 f4 new nloc nfs) z4 ⟨_, f4⟩
  rcases wB with ⟨m1, run⟩ | ⟨m1, m2, run⟩
  · refine wpAny_handleBy_cons (codeAny_handlers_test ?_) (by intro z; cases z)
    refine names_ld SS h1 ((PySem.W.exm_one (M := model X.prog X.w) J.kIn looks m1).here ?_)
    refine codeAny_handlers_suite (again fun s4 oe4 S4 z4 f4 => ?_)
    refine wpAny_mono ((k1 ea oe4 k d _ z4 f4).run [] s4 _ G _ S4 (run ea new)) (fun f s6 hsp => ?_) (fun _ _ z => z.elim)
    rcases f with _ | _ | _ | v
    case ret =>
      obtain ⟨y, τ6, G6, S6, ry, q6⟩ := hsp
      exact ⟨y, τ6, G6, S6.unsuite ok, ry, q6⟩
    all_goals
      obtain ⟨τ6, G6, S6, q6⟩ := hsp
      exact ⟨τ6, G6, S6.unsuite ok, q6⟩
  · refine wpAny_handleBy_cons (codeAny_handlers_test ?_) (by intro z; cases z)
    refine names_ld SS h1 ((PySem.W.exm_one (M := model X.prog X.w) J.kIn looks m1).here ?_)
    show wpAny _ X.A (handleBy (.ref ea) X.env [.ExceptHandler (some (.Name x2 p2)) (some n) (b2 :: r2) q2]) _ _ _
    refine wpAny_handleBy_cons (codeAny_handlers_test ?_) (by intro z; cases z)
    refine names_ld SS h2 ((PySem.W.exm_one (M := model X.prog X.w) J.kIn looks m2).here ?_)
    refine codeAny_handlers_suite_as (again fun s4 oe4 S4 z4 f4 => ?_)
    refine store_ok (X := X.suite ea ((ea, oe4) :: (X.pn ++ pins))) (v := V.ref ea) S4 hN hi (Or.inl hl) rfl (fun s5 S5 => ?_) (Or.inr hl)
    refine wpAny_mono ((k2 ea oe4 k d _ z4 f4).run [] s5 _ G _ S5 (run ea new)) (fun f s6 hsp => ?_) (fun _ _ z => z.elim)
    rcases f with _ | _ | _ | v
    case ret =>
      obtain ⟨y, τ6, G6, S6, ry, q6⟩ := hsp
      exact gone_ok (S6.unsuite ok) hN hi hl fun s7 J7 => ⟨y, _, G6, J7, ry, q6⟩
    all_goals
      obtain ⟨τ6, G6, S6, q6⟩ := hsp
      exact gone_ok (S6.unsuite ok) hN hi hl fun s7 J7 => ⟨_, G6, J7, q6⟩
theorem ps_tryTwo (hs : X.stack = X.env :: X.outer) (hf : X.env.frame = some X.env.locals) (hN : X.N.Nodup) (hi : X.N[i]? = some n) (hl : X.env.kindOf n = some .local) (h1 : Names X x1 c1) (h2 : Names X x2 c2)
    (hb : ∀ (W : WX) (pn : List (Addr × Obj)) (xe : Value → Shared → Prop), Takes (X.tr pn xe) W → PassesOwn (model X.prog X.w) X.A X.env xe → PSs (X.tr pn xe) body (tb W))
    (k1 : ∀ (a : Addr) (oe : Obj) (k : Value) (d : Option Addr) (pl : List (Addr × Obj)), Zc k d oe → (∃ vs, oe.data = .fields vs) → PSs (X.suite a ((a, oe) :: pl)) (b1 :: r1) (t1 a k d))
    (k2 : ∀ (a : Addr) (oe : Obj) (k : Value) (d : Option Addr) (pl : List (Addr × Obj)), Zc k d oe → (∃ vs, oe.data = .fields vs) → PSs (X.suite a ((a, oe) :: pl)) (b2 :: r2) (t2 a k d)) :
    PS X (.Try body [.ExceptHandler (some (.Name x1 p1)) none (b1 :: r1) q1, .ExceptHandler (some (.Name x2 p2)) (some n) (b2 :: r2) q2] [] [] pos) (tTryTwo X.K c1 t1 c2 i t2 tb) := by
  constructor
  intro pins s τ G D I hw
  have ok := I.ok
  apply wpAny_Try_except
  have run := (hb _ (X.pn ++ pins) (AfterErr X _ (SP X pins D)) (fun u s' xx => caught (p1 := p1) (p2 := p2) (q1 := q1) (q2 := q2) ok hs hf hN hi hl h1 h2 k1 k2 xx) PassesOwn.looking).run [] s τ G D (I.toTry _) hw
  refine wpAny_mono run (fun f s1 hsp => ?_) (fun _ _ z => z)
  rcases f with _ | _ | _ | v
  case ret =>
    obtain ⟨y, τ1, G1, J, ry, q⟩ := hsp
    exact ⟨y, τ1, G1, J.ofTry ok, ry, q⟩
  case next =>
    obtain ⟨τ1, G1, J, q⟩ := hsp
    exact wpAny_execs_nil ⟨τ1, G1, J.ofTry ok, q⟩
  all_goals
    obtain ⟨τ1, G1, J, q⟩ := hsp
    exact ⟨τ1, G1, J.ofTry ok, q⟩
end
end Lp
namespace Lp
open PySem L2
section
variable {σ : L2.St} {H : Hp} {Q : VK} {E : XK} {D : Ends} {K : PySem.W.Frag} {te ta tb : TE} {tt tu : TT} {t u w : TS}
theorem g_seq_tryTwo {c1 c2 : Value} {t1 t2 : Suit} {i : Nat} {tb : WX → TS} (h : tb (wTwo K c1 t1 c2 i t2 { D with nx := u D }) { D with nx := u D } σ H) : tSeq (tTryTwo K c1 t1 c2 i t2 tb) u D σ H := h
theorem g_hit1 {c1 c2 k : Value} {t1 t2 : Suit} {i : Nat} {d : Option Addr} (h : PySem.W.exmOne K k c1 = some true) (q : ∀ a, H a = none → t1 a k d D σ H) : WE (wTwo K c1 t1 c2 i t2 D) σ k d H := .inl ⟨h, q⟩
theorem g_hit2 {c1 c2 k : Value} {t1 t2 : Suit} {i : Nat} {d : Option Addr} (h1 : PySem.W.exmOne K k c1 = some false) (h2 : PySem.W.exmOne K k c2 = some true) (q : ∀ a, H a = none → t2 a k d (gone D i) (σ.set i (some (.ref a))) H) : WE (wTwo K c1 t1 c2 i t2 D) σ k d H := .inr ⟨h1, h2, q⟩
/-! ## promises -/
def dueC (d last D rt : Int) : Str := if D ≤ d ∨ D ≤ last ∨ 100000 < D then "day" else if rt < 0 ∨ 100000 < rt then "rate" else ""
def sp_due7 : Sp := fun vs H Q _ => ∃ m row d D rt, vs = [.ref m, .int d, .int D, .int rt] ∧ RowAt H m row ∧ row ≠ [] ∧ Q (.str (dueC d (lastDay row) D rt)) H
def sp_wanted : Sp := fun vs H Q _ => ∃ c la d, vs = [.int c, .int la, .int d] ∧ ∀ t H' D rt, Same H H' → H' t = some (.tup [.int D, .int rt]) → Q (.ref t) H'
def sp_changed (C : Addr) : Sp := fun vs H Q _ => ∃ x D rt l b d r row, vs = [.ref x, .int D, .int rt] ∧ LoanAt C H x l b d r row ∧ NumOk l b d ∧ row ≠ [] ∧ row.length ≤ 1000 ∧ lastDay row ≤ 100000 ∧
  (D ≤ max d (lastDay row) ∨ 100000 < D → ∀ H', Same H H' → Q (.str "day") H') ∧ (¬ (D ≤ max d (lastDay row) ∨ 100000 < D) → (rt < 0 ∨ 100000 < rt → ∀ H', Same H H' → Q (.str "rate") H') ∧
    (¬ (rt < 0 ∨ 100000 < rt) → ∀ r' H', H r' = none → But x H H' → LoanAt C H' x l b d r' (row ++ [(D, rt)]) → Q (.str "") H'))
/-- a loan, its numbers in a tuple, its row in a list of the law's own -/
structure At7 (C : Addr) (H : Hp) (x t q : Addr) (l b d : Int) (r : Addr) (row : Row) : Prop where
  L : LoanAt C H x l b d r row
  t : H t = some (.tup [.int l, .int b, .int d])
  q : RowAt H q row
  n : NumOk l b d
  ok : RowOk row
  len : row.length ≤ 60
  last : lastDay row ≤ 100000
  owe : 1 ≤ owedF l b
def sp_own_way (C : Addr) : Sp := fun vs H Q _ => ∃ y x t q l b d r r' row, vs = [.ref y, .ref x, .ref t, .ref q] ∧ At7 C H x t q l b d r row ∧ LoanAt C H y l b d r' row ∧ x ≠ y ∧ ∀ H', But y H H' → Q (.bl true) H'
def sp_left_alone (C : Addr) : Sp := fun vs H Q _ => ∃ x t q l b d r row, vs = [.ref x, .ref t, .ref q] ∧ At7 C H x t q l b d r row ∧ ∀ H', But x H H' → Q (.bl true) H'
theorem owed_then {l b d D : Int} {row : Row} (n : NumOk l b d) (hr : RatesOk row) (h : d ≤ D) (ho : 1 ≤ owedF l b) : 1 ≤ owedF l (thenF l b d row D) := by
  have g := (grownF_bounds hr h).1
  have a1 : 0 ≤ l * grownF row d D := Int.mul_nonneg n.l0 g
  unfold owedF thenF at *
  omega
theorem pay_all_left {l b : Int} : pLeft l b (owedF l b) = 0 := by unfold pLeft; rw [if_pos rfl]
theorem pay_all_begun {l b : Int} : pBegun l b (owedF l b) = 0 := by unfold pBegun; rw [if_pos rfl]
theorem but_updm {H H' : Hp} {x m : Addr} {o : HO} (k : But x H H') (hm : H m = none) : But x H (upd H' m o) := fun b u n e => by rw [upd_ne (ne_of_none e hm)]; exact k b u n e
theorem pay_one_left {l B : Int} (h0 : 0 ≤ B) (h : 1 < owedF l B) : pLeft l B 1 = l - (if decide (B < 1000000) = true then 1 else 0) := by
  unfold pLeft
  rw [if_neg (by omega)]
  unfold owedF at h
  by_cases hb : B < 1000000
  · rw [if_pos (decide_eq_true hb)]; omega
  · rw [if_neg (fun z => hb (of_decide_eq_true z))]; omega
theorem pay_one_begun {l B : Int} (h0 : 0 ≤ B) (h : 1 < owedF l B) : pBegun l B 1 = B - 1000000 * (if decide (B ≥ 1000000) = true then 1 else 0) := by
  unfold pBegun
  rw [if_neg (by omega)]
  unfold owedF at h
  by_cases hb : B ≥ 1000000
  · rw [if_pos (decide_eq_true hb)]; omega
  · rw [if_neg (fun z => hb (of_decide_eq_true z))]; omega
theorem pay_one_owe {l B : Int} (h0 : 0 ≤ B) (h : 1 < owedF l B) : 1 ≤ owedF (pLeft l B 1) (pBegun l B 1) := by
  rw [pay_one_left h0 h, pay_one_begun h0 h]
  unfold owedF at *
  by_cases hb : B < 1000000
  · rw [if_pos (decide_eq_true hb), if_neg (fun z => by have := of_decide_eq_true z; omega)]; omega
  · rw [if_neg (fun z => hb (of_decide_eq_true z)), if_pos (decide_eq_true (by omega))]; omega
theorem row_last {row : Row} (h : row ≠ []) : ∃ r, row.getLast? = some (lastDay row, r) := by
  rcases List.eq_nil_or_concat row with e | ⟨ys, p, e⟩
  · exact absurd e h
  · rw [List.concat_eq_append] at e
    refine ⟨p.2, ?_⟩
    rw [e, lastDay_snoc, last_snoc]
end
end Lp
namespace Lp
/-! ## a plan's run: paid so far, left, begun, day -/
structure Run where
  p : Int
  l : Int
  b : Int
  d : Int
/-- a due day with a part of c -/
def Run.due (row : Row) (c : Int) (s : Run) (D : Int) : Run :=
  ⟨s.p + min c (owedF s.l (thenF s.l s.b s.d row D)), pLeft s.l (thenF s.l s.b s.d row D) (min c (owedF s.l (thenF s.l s.b s.d row D))), pBegun s.l (thenF s.l s.b s.d row D) (min c (owedF s.l (thenF s.l s.b s.d row D))), D⟩
/-- what is paid and what is owed then -/
def Run.out (s : Run) : Int := s.p + owedF s.l s.b
theorem pay_out {l b c : Int} (hl : 0 ≤ l) (hb : 0 ≤ b) (h0 : 0 ≤ c) (h1 : c ≤ owedF l b) : owedF (pLeft l b c) (pBegun l b c) = owedF l b - c := by
  unfold pLeft pBegun
  split
  · rename_i e
    unfold owedF at *
    omega
  · rename_i e
    unfold owedF at *
    omega
theorem pay_left {l b c : Int} (hl : 0 ≤ l) (hb : 0 ≤ b) (h0 : 0 ≤ c) (h1 : c ≤ owedF l b) : 0 ≤ pLeft l b c ∧ pLeft l b c ≤ l := by
  unfold pLeft
  split
  · omega
  · rename_i e
    unfold owedF at *
    omega
/-- B has paid no less than A, and has no more left; B may be done -/
structure Ahead (A B : Run) : Prop where
  d : A.d = B.d
  a0 : 0 ≤ A.l
  a1 : 0 ≤ A.b
  b0 : 0 ≤ B.l
  b1 : 0 ≤ B.b
  l : B.l ≤ A.l
  w : (A.p ≤ B.p ∧ 1000000 * (B.p + B.l) + B.b ≤ 1000000 * (A.p + A.l) + A.b) ∨ (B.l = 0 ∧ B.b = 0 ∧ B.p ≤ A.out)
theorem Ahead.out {A B : Run} (h : Ahead A B) : B.out ≤ A.out := by
  have := h.a0; have := h.a1; have := h.b0; have := h.b1
  rcases h.w with ⟨h1, h2⟩ | ⟨h1, h2, h3⟩
  · unfold Run.out owedF; omega
  · have e : B.out = B.p := by unfold Run.out owedF; rw [h1, h2]; omega
    rw [e]; exact h3
theorem Ahead.owed {A B : Run} (h : Ahead A B) : owedF B.l B.b ≤ owedF A.l A.b := by
  have := h.a0; have := h.a1; have := h.b0; have := h.b1
  rcases h.w with ⟨h1, h2⟩ | ⟨h1, h2, h3⟩
  · unfold owedF; omega
  · rw [h1, h2]; unfold owedF; omega
/-- one payment each, of runs that stand on the same day -/
theorem Ahead.pay {A B : Run} {c e : Int} (h : Ahead A B) (h0 : 0 ≤ c) (hc : c ≤ e) :
    Ahead ⟨A.p + min c (owedF A.l A.b), pLeft A.l A.b (min c (owedF A.l A.b)), pBegun A.l A.b (min c (owedF A.l A.b)), A.d⟩ ⟨B.p + min e (owedF B.l B.b), pLeft B.l B.b (min e (owedF B.l B.b)), pBegun B.l B.b (min e (owedF B.l B.b)), B.d⟩ := by
  obtain ⟨hd, a0, a1, b0, b1, hl, w⟩ := h
  have oa : 0 ≤ owedF A.l A.b := by unfold owedF; omega
  have ob : 0 ≤ owedF B.l B.b := by unfold owedF; omega
  have pa := pay_left a0 a1 (c := min c (owedF A.l A.b)) (by omega) (by omega)
  have pb := pay_left b0 b1 (c := min e (owedF B.l B.b)) (by omega) (by omega)
  have qa := pBegun_ok (l := A.l) a1 (show 0 ≤ min c (owedF A.l A.b) by omega)
  have qb := pBegun_ok (l := B.l) b1 (show 0 ≤ min e (owedF B.l B.b) by omega)
  have outA := pay_out a0 a1 (c := min c (owedF A.l A.b)) (by omega) (by omega)
  have done : owedF B.l B.b ≤ e → B.p + owedF B.l B.b ≤ A.out → Ahead ⟨A.p + min c (owedF A.l A.b), pLeft A.l A.b (min c (owedF A.l A.b)), pBegun A.l A.b (min c (owedF A.l A.b)), A.d⟩ ⟨B.p + min e (owedF B.l B.b), pLeft B.l B.b (min e (owedF B.l B.b)), pBegun B.l B.b (min e (owedF B.l B.b)), B.d⟩ := by
    intro h1 h2
    have em : min e (owedF B.l B.b) = owedF B.l B.b := by omega
    have e1 : pLeft B.l B.b (owedF B.l B.b) = 0 := by unfold pLeft; rw [if_pos rfl]
    have e2 : pBegun B.l B.b (owedF B.l B.b) = 0 := by unfold pBegun; rw [if_pos rfl]
    rw [em, e1, e2]
    refine ⟨hd, pa.1, qa.1, Int.le_refl 0, Int.le_refl 0, pa.1, .inr ⟨rfl, rfl, ?_⟩⟩
    unfold Run.out at *
    dsimp only
    rw [outA]
    omega
  rcases w with ⟨h1, h2⟩ | ⟨h1, h2, h3⟩
  · by_cases ho : owedF B.l B.b ≤ e
    · refine done ho ?_
      unfold Run.out owedF
      omega
    · have em : min e (owedF B.l B.b) = e := by omega
      have hab : owedF B.l B.b ≤ owedF A.l A.b := by unfold owedF; omega
      have cm : min c (owedF A.l A.b) = c := by omega
      have e1 : pLeft B.l B.b e = B.l - (e - min e (B.b / 1000000)) := by unfold pLeft; rw [if_neg (by omega)]
      have e2 : pBegun B.l B.b e = B.b - 1000000 * min e (B.b / 1000000) := by unfold pBegun; rw [if_neg (by omega)]
      have e3 : pLeft A.l A.b c = A.l - (c - min c (A.b / 1000000)) := by unfold pLeft; rw [if_neg (by omega)]
      have e4 : pBegun A.l A.b c = A.b - 1000000 * min c (A.b / 1000000) := by unfold pBegun; rw [if_neg (by omega)]
      rw [em] at pb qb ⊢
      rw [cm] at pa qa ⊢
      refine ⟨hd, pa.1, qa.1, pb.1, qb.1, ?_, .inl ⟨?_, ?_⟩⟩
      · dsimp only
        rw [e1, e3]
        omega
      · dsimp only; omega
      · dsimp only
        rw [e1, e2, e3, e4]
        omega
  · have eo : owedF B.l B.b = 0 := by rw [h1, h2]; rfl
    refine done (by omega) ?_
    rw [eo, Int.add_zero]
    exact h3
theorem Ahead.go {A B : Run} {row : Row} {D : Int} (h : Ahead A B) (hr : RatesOk row) (hD : A.d ≤ D) : Ahead ⟨A.p, A.l, thenF A.l A.b A.d row D, D⟩ ⟨B.p, B.l, thenF B.l B.b B.d row D, D⟩ := by
  obtain ⟨hd, a0, a1, b0, b1, hl, w⟩ := h
  have g := (grownF_bounds hr hD).1
  have ga : 0 ≤ A.l * grownF row A.d D := Int.mul_nonneg a0 g
  have gb : 0 ≤ B.l * grownF row A.d D := Int.mul_nonneg b0 g
  have gl : B.l * grownF row A.d D ≤ A.l * grownF row A.d D := Int.mul_le_mul_of_nonneg_right hl g
  unfold thenF
  rw [← hd]
  refine ⟨rfl, a0, by dsimp only; omega, b0, by dsimp only; omega, hl, ?_⟩
  rcases w with ⟨h1, h2⟩ | ⟨h1, h2, h3⟩
  · exact .inl ⟨h1, by dsimp only; omega⟩
  · refine .inr ⟨h1, ?_, ?_⟩
    · dsimp only
      rw [h1, h2, Int.zero_mul]; rfl
    · unfold Run.out owedF at *
      dsimp only
      omega
theorem Ahead.due {A B : Run} {row : Row} {c e D : Int} (h : Ahead A B) (hr : RatesOk row) (hD : A.d ≤ D) (h0 : 0 ≤ c) (hc : c ≤ e) : Ahead (A.due row c D) (B.due row e D) := (h.go hr hD).pay h0 hc
/-- all due days -/
def Run.plan (row : Row) (c : Int) (s : Run) (days : List Int) : Run := days.foldl (Run.due row c) s
theorem Ahead.plan {row : Row} {c e : Int} (hr : RatesOk row) (h0 : 0 ≤ c) (hc : c ≤ e) : ∀ {days : List Int} {A B : Run}, Ahead A B → (∀ D ∈ days, A.d ≤ D) → days.Pairwise (· < ·) → Ahead (A.plan row c days) (B.plan row e days)
  | [], _, _, h, _, _ => h
  | D :: days, A, B, h, hd, hp => by
    have h1 := h.due hr (hd D (List.mem_cons_self)) h0 hc
    have hp2 := List.pairwise_cons.mp hp
    exact Ahead.plan (days := days) hr h0 hc h1 (fun F hF => Int.le_of_lt (hp2.1 F hF)) hp2.2
theorem Ahead.refl {A : Run} (h0 : 0 ≤ A.l) (h1 : 0 ≤ A.b) : Ahead A A := ⟨rfl, h0, h1, h0, h1, Int.le_refl _, .inl ⟨Int.le_refl _, Int.le_refl _⟩⟩
/-- what a part settles, a greater one settles -/
theorem settles_more {row : Row} {c e : Int} {days : List Int} {A : Run} (hr : RatesOk row) (h0 : 0 ≤ c) (hc : c ≤ e) (a0 : 0 ≤ A.l) (a1 : 0 ≤ A.b) (hd : ∀ D ∈ days, A.d ≤ D) (hp : days.Pairwise (· < ·)) :
    owedF (A.plan row e days).l (A.plan row e days).b ≤ owedF (A.plan row c days).l (A.plan row c days).b := (Ahead.plan hr h0 hc (.refl a0 a1) hd hp).owed
/-- an early payment costs no more than it saves -/
theorem early_saves {row : Row} {c e : Int} {days : List Int} {l b d : Int} (hr : RatesOk row) (h0 : 0 ≤ c) (he : 0 ≤ e) (ho : e ≤ owedF l b) (a0 : 0 ≤ l) (a1 : 0 ≤ b) (hd : ∀ D ∈ days, d ≤ D) (hp : days.Pairwise (· < ·)) :
    (Run.plan row c ⟨e, pLeft l b e, pBegun l b e, d⟩ days).out ≤ (Run.plan row c ⟨0, l, b, d⟩ days).out := by
  have oa : 0 ≤ owedF l b := by unfold owedF; omega
  have h := Ahead.pay (A := ⟨0, l, b, d⟩) (B := ⟨0, l, b, d⟩) (c := 0) (e := e) (.refl a0 a1) (Int.le_refl 0) he
  have e1 : min e (owedF l b) = e := by omega
  have e2 : min 0 (owedF l b) = 0 := by omega
  dsimp only at h
  rw [e1, e2, Int.zero_add, Int.zero_add] at h
  have hh : Ahead ⟨0, l, b, d⟩ ⟨e, pLeft l b e, pBegun l b e, d⟩ := by
    by_cases z : owedF l b = 0
    · have l0 : l = 0 ∧ b = 0 := by unfold owedF at z; omega
      have ez : e = 0 := by omega
      obtain ⟨rfl, rfl⟩ := l0
      subst ez
      exact .refl (A := ⟨0, 0, 0, d⟩) (Int.le_refl 0) (Int.le_refl 0)
    · have p1 : pLeft l b 0 = l := by unfold pLeft; rw [if_neg (by omega)]; omega
      have p2 : pBegun l b 0 = b := by unfold pBegun; rw [if_neg (by omega)]; omega
      rw [p1, p2] at h
      exact h
  exact (Ahead.plan hr h0 (Int.le_refl c) hh hd hp).out
end Lp
namespace Lp
/-! ## due days, plans -/
/-- days that rise, the first not ahead of f, none behind the last day of all -/
def daysOk : Int → List Int → Bool
  | _, [] => true
  | f, d :: t => if d < f ∨ 100000 < d then false else daysOk (d + 1) t
theorem daysOk_le : ∀ {days : List Int} {f : Int}, daysOk f days = true → ∀ D ∈ days, f ≤ D ∧ D ≤ 100000
  | [], _, _, D, h => by cases h
  | d :: t, f, e, D, h => by
    rw [daysOk] at e
    by_cases c : d < f ∨ 100000 < d
    · rw [if_pos c] at e; cases e
    · rw [if_neg c] at e
      rcases List.mem_cons.mp h with z | z
      · rw [z]; omega
      · have := daysOk_le e D z; omega
theorem daysOk_asc : ∀ {days : List Int} {f : Int}, daysOk f days = true → days.Pairwise (· < ·)
  | [], _, _ => List.Pairwise.nil
  | d :: t, f, e => by
    rw [daysOk] at e
    by_cases c : d < f ∨ 100000 < d
    · rw [if_pos c] at e; cases e
    · rw [if_neg c] at e
      exact List.pairwise_cons.mpr ⟨fun x hx => by have := daysOk_le e x hx; omega, daysOk_asc e⟩
theorem daysOk_cons {d f : Int} {t : List Int} (e : daysOk f (d :: t) = true) : f ≤ d ∧ d ≤ 100000 ∧ daysOk (d + 1) t = true := by
  rw [daysOk] at e
  by_cases c : d < f ∨ 100000 < d
  · rw [if_pos c] at e; cases e
  · rw [if_neg c] at e; exact ⟨by omega, by omega, e⟩
theorem daysOk_weak {f g : Int} (h : f ≤ g) : ∀ {days : List Int}, daysOk g days = true → daysOk f days = true
  | [], _ => rfl
  | d :: t, e => by
    have := daysOk_cons e
    rw [daysOk, if_neg (by omega)]
    exact this.2.2
/-- day, paid, interest, off, left -/
abbrev P5 := Int × Int × Int × Int × Int
def partF (p l B : Int) : Int := min p (owedF l B)
def planRows (row : Row) (p : Int) : Int → Int → Int → List Int → List P5
  | _, _, _, [] => []
  | l, b, d, D :: t => if partF p l (thenF l b d row D) = 0 then [] else
      (D, partF p l (thenF l b d row D), pInt l (thenF l b d row D) (partF p l (thenF l b d row D)), pOff l (thenF l b d row D) (partF p l (thenF l b d row D)), pLeft l (thenF l b d row D) (partF p l (thenF l b d row D))) ::
        planRows row p (pLeft l (thenF l b d row D) (partF p l (thenF l b d row D))) (pBegun l (thenF l b d row D) (partF p l (thenF l b d row D))) D t
def planEnd (row : Row) (p : Int) : Int → Int → Int → List Int → Int × Int × Int
  | l, b, d, [] => (l, b, d)
  | l, b, d, D :: t => if partF p l (thenF l b d row D) = 0 then (l, b, d) else
        planEnd row p (pLeft l (thenF l b d row D) (partF p l (thenF l b d row D))) (pBegun l (thenF l b d row D) (partF p l (thenF l b d row D))) D t
theorem planRows_len (row : Row) (p : Int) : ∀ (days : List Int) (l b d : Int), (planRows row p l b d days).length ≤ days.length
  | [], _, _, _ => Nat.le_refl _
  | D :: t, l, b, d => by
    rw [planRows]
    split
    · exact Nat.zero_le _
    · have := planRows_len row p t (pLeft l (thenF l b d row D) (partF p l (thenF l b d row D))) (pBegun l (thenF l b d row D) (partF p l (thenF l b d row D))) D
      simp only [List.length_cons]; omega
def lastOr : Int → List Int → Int
  | d, [] => d
  | _, D :: t => lastOr D t
theorem lastOr_get : ∀ {days : List Int} {d : Int}, days ≠ [] → days.getLast? = some (lastOr d days)
  | [], _, h => absurd rfl h
  | [D], _, _ => rfl
  | D :: E :: t, d, _ => by
    rw [List.getLast?_cons_cons]
    exact lastOr_get (days := E :: t) (d := D) (by simp)
theorem lastOr_le : ∀ {days : List Int} {d f : Int}, d ≤ f → daysOk f days = true → d ≤ lastOr d days
  | [], _, _, _, _ => Int.le_refl _
  | D :: t, d, f, h, e => by
    have := daysOk_cons e
    have := lastOr_le (days := t) (d := D) (f := D + 1) (by omega) this.2.2
    show d ≤ lastOr D t
    omega
theorem lastOr_hi : ∀ {days : List Int} {d f : Int}, d ≤ 100000 → daysOk f days = true → lastOr d days ≤ 100000
  | [], _, _, h, _ => h
  | D :: t, d, f, h, e => lastOr_hi (days := t) (d := D) (daysOk_cons e).2.1 (daysOk_cons e).2.2
def costF (row : Row) (p l b d : Int) (days : List Int) : Int := (Run.plan row p ⟨0, l, b, d⟩ days).out
def owedEnd (row : Row) (p l b d : Int) (days : List Int) : Int := owedF (Run.plan row p ⟨0, l, b, d⟩ days).l (Run.plan row p ⟨0, l, b, d⟩ days).b
theorem owed_zero {l b : Int} (hl : 0 ≤ l) (hb : 0 ≤ b) (h : owedF l b = 0) : l = 0 ∧ b = 0 := by unfold owedF at h; omega
theorem owed_00 : owedF 0 0 = 0 := rfl
theorem run_due (row : Row) (p s l b d D : Int) : Run.due row p ⟨s, l, b, d⟩ D = ⟨s + partF p l (thenF l b d row D), pLeft l (thenF l b d row D) (partF p l (thenF l b d row D)), pBegun l (thenF l b d row D) (partF p l (thenF l b d row D)), D⟩ := rfl
theorem run_cons (row : Row) (p : Int) (s : Run) (D : Int) (t : List Int) : Run.plan row p s (D :: t) = Run.plan row p (Run.due row p s D) t := rfl
theorem then_00 (d D : Int) (row : Row) : thenF 0 0 d row D = 0 := by unfold thenF; rw [Int.zero_mul]; rfl
theorem run_zero (row : Row) {p : Int} (hp : 0 ≤ p) : ∀ (days : List Int) (s d : Int), Run.plan row p ⟨s, 0, 0, d⟩ days = ⟨s, 0, 0, lastOr d days⟩
  | [], s, d => rfl
  | D :: t, s, d => by
    have e : partF p 0 0 = 0 := by unfold partF; rw [owed_00]; omega
    rw [run_cons, run_due, then_00, e, show pLeft 0 0 0 = 0 from rfl, show pBegun 0 0 0 = 0 from rfl, Int.add_zero]
    exact run_zero row hp t s D
theorem run_day (row : Row) (p : Int) : ∀ (days : List Int) (s : Run), (Run.plan row p s days).d = lastOr s.d days
  | [], _ => rfl
  | D :: t, s => by rw [run_cons]; exact run_day row p t _
/-- what is paid is told by the rows, and the loan stands as the run; but that an ended plan's loan stands at its own day -/
theorem plan_run (row : Row) {p : Int} (hr : RatesOk row) (hp : 0 ≤ p) : ∀ (days : List Int) (s l b d : Int), 0 ≤ l → 0 ≤ b → daysOk d days = true →
    s + ((planRows row p l b d days).map fun r => r.2.1).sum = (Run.plan row p ⟨s, l, b, d⟩ days).p ∧ (planEnd row p l b d days).1 = (Run.plan row p ⟨s, l, b, d⟩ days).l ∨ p = 0
  | [], s, l, b, d, _, _, _ => .inl ⟨by simp [planRows, Run.plan], rfl⟩
  | D :: t, s, l, b, d, hl, hb, hd => by
    by_cases p0 : p = 0
    · exact .inr p0
    obtain ⟨h1, h2, h3⟩ := daysOk_cons hd
    have g := (grownF_bounds hr h1).1
    have hB : 0 ≤ thenF l b d row D := by
      have : 0 ≤ l * grownF row d D := Int.mul_nonneg hl g
      unfold thenF; omega
    rw [planRows, planEnd, run_cons, run_due]
    generalize thenF l b d row D = B at hB
    have ho : 0 ≤ owedF l B := by unfold owedF; omega
    by_cases c : partF p l B = 0
    · rw [if_pos c, if_pos c]
      have z : owedF l B = 0 := by unfold partF at c; omega
      obtain ⟨e1, e2⟩ := owed_zero hl hB z
      rw [c, e1, e2, show pLeft 0 0 0 = 0 from rfl, show pBegun 0 0 0 = 0 from rfl, run_zero row hp]
      exact .inl ⟨by simp, rfl⟩
    · rw [if_neg c, if_neg c]
      have c1 : 1 ≤ partF p l B := by unfold partF at c ⊢; omega
      have c2 : partF p l B ≤ owedF l B := by unfold partF; omega
      have a1 := pLeft_ok hl hB c1 c2
      have a2 := pBegun_ok (l := l) hB (show 0 ≤ partF p l B by omega)
      rcases plan_run row hr hp t (s + partF p l B) _ _ D a1.1 a2.1 (daysOk_weak (by omega) h3) with ih | ih
      · refine .inl ⟨?_, ih.2⟩
        rw [← ih.1, List.map_cons, List.sum_cons]
        dsimp only
        omega
      · exact absurd ih p0
theorem planEnd_num {row : Row} (hr : RatesOk row) {p : Int} (hp : 1 ≤ p) : ∀ (days : List Int) (l b d : Int), NumOk l b d → daysOk d days = true →
    NumOk (planEnd row p l b d days).1 (planEnd row p l b d days).2.1 (planEnd row p l b d days).2.2 ∧ (planEnd row p l b d days).2.2 ≤ lastOr d days
  | [], l, b, d, n, _ => ⟨n, Int.le_refl _⟩
  | D :: t, l, b, d, n, hd => by
    obtain ⟨h1, h2, h3⟩ := daysOk_cons hd
    have n2 := n.walk hr h1 h2
    rw [planEnd]
    generalize thenF l b d row D = B at n2
    by_cases c : partF p l B = 0
    · rw [if_pos c]
      exact ⟨n, by show d ≤ lastOr D t; have := lastOr_le (days := t) (d := D) (f := D + 1) (by omega) h3; omega⟩
    · rw [if_neg c]
      have ho : 0 ≤ owedF l B := by have := n2.l0; have := n2.b0; unfold owedF; omega
      have c1 : 1 ≤ partF p l B := by unfold partF at c ⊢; omega
      have c2 : partF p l B ≤ owedF l B := by unfold partF; omega
      exact planEnd_num hr hp t _ _ D (n2.pay c1 c2) (daysOk_weak (by omega) h3)
/-- what is owed on the last due day behind the plan -/
theorem planEnd_owed {row : Row} (hr : RatesOk row) {p : Int} (hp : 1 ≤ p) : ∀ (days : List Int) (s l b d : Int), NumOk l b d → daysOk d days = true →
    owedF (planEnd row p l b d days).1 (thenF (planEnd row p l b d days).1 (planEnd row p l b d days).2.1 (planEnd row p l b d days).2.2 row (lastOr d days)) = owedF (Run.plan row p ⟨s, l, b, d⟩ days).l (Run.plan row p ⟨s, l, b, d⟩ days).b
  | [], s, l, b, d, n, _ => by
    show owedF l (thenF l b d row d) = owedF l b
    unfold thenF; rw [grownF_same, Int.mul_zero, Int.add_zero]
  | D :: t, s, l, b, d, n, hd => by
    obtain ⟨h1, h2, h3⟩ := daysOk_cons hd
    have n2 := n.walk hr h1 h2
    have hB0 : thenF l b d row D = 0 → l = 0 → b = 0 := fun e z => by
      unfold thenF at e; rw [z, Int.zero_mul] at e; omega
    rw [planEnd, run_cons, run_due]
    show owedF _ (thenF _ _ _ row (lastOr D t)) = _
    generalize hBe : thenF l b d row D = B at n2 hB0
    have ho : 0 ≤ owedF l B := by have := n2.l0; have := n2.b0; unfold owedF; omega
    by_cases c : partF p l B = 0
    · rw [if_pos c]
      have z : owedF l B = 0 := by unfold partF at c; omega
      obtain ⟨e1, e2⟩ := owed_zero n2.l0 n2.b0 z
      have e3 := hB0 e2 e1
      rw [c, e1, e2, e3, show pLeft 0 0 0 = 0 from rfl, show pBegun 0 0 0 = 0 from rfl, run_zero row (by omega)]
      show owedF 0 (thenF 0 0 d row (lastOr D t)) = owedF 0 0
      rw [then_00]
    · rw [if_neg c]
      have c1 : 1 ≤ partF p l B := by unfold partF at c ⊢; omega
      have c2 : partF p l B ≤ owedF l B := by unfold partF; omega
      exact planEnd_owed hr hp t (s + partF p l B) _ _ D (n2.pay c1 c2) (daysOk_weak (by omega) h3)
theorem cost_eq {row : Row} (hr : RatesOk row) {p l b d : Int} (hp : 1 ≤ p) {days : List Int} (n : NumOk l b d) (hd : daysOk d days = true) :
    ((planRows row p l b d days).map fun r => r.2.1).sum + owedF (planEnd row p l b d days).1 (thenF (planEnd row p l b d days).1 (planEnd row p l b d days).2.1 (planEnd row p l b d days).2.2 row (lastOr d days)) = costF row p l b d days := by
  have h1 := plan_run row hr (show 0 ≤ p by omega) days 0 l b d n.l0 n.b0 hd
  rw [planEnd_owed hr hp days 0 l b d n hd]
  rcases h1 with h1 | h1
  · unfold costF Run.out
    rw [← h1.1]; omega
  · omega
/-! ### the least part -/
structure LeastF (row : Row) (l b d : Int) (days : List Int) (v : Int) : Prop where
  lo : 0 ≤ v
  done : owedEnd row v l b d days = 0
  less : ∀ c, 0 ≤ c → c < v → owedEnd row c l b d days ≠ 0
/-- the sums of the stretches -/
def sumsOf (row : Row) : Int → List Int → List Int
  | _, [] => []
  | d, D :: t => grownF row d D :: sumsOf row D t
theorem sumsOf_len (row : Row) : ∀ (days : List Int) (d : Int), (sumsOf row d days).length = days.length
  | [], _ => rfl
  | D :: t, d => by rw [sumsOf, List.length_cons, List.length_cons, sumsOf_len row t D]
theorem sums_at {row : Row} : ∀ {days : List Int} {d f x y : Int} {i : Nat}, d ≤ f → daysOk f days = true → (d :: days.dropLast)[i]? = some x → days[i]? = some y → (sumsOf row d days)[i]? = some (grownF row x y) ∧ x ≤ y ∧ d ≤ x ∧ y ≤ 100000
  | [], _, _, _, _, _, _, _, _, e2 => by simp at e2
  | D :: t, d, f, x, y, 0, h, hd, e1, e2 => by
    have := daysOk_cons hd
    simp at e1 e2
    subst e1 e2
    exact ⟨rfl, by omega, Int.le_refl _, this.2.1⟩
  | D :: t, d, f, x, y, i + 1, h, hd, e1, e2 => by
    have h3 := daysOk_cons hd
    have e3 : (D :: t.dropLast)[i]? = some x := by
      cases t with
      | nil => simp at e2
      | cons E t' => simpa using e1
    have e4 : t[i]? = some y := by simpa using e2
    have ih := sums_at (row := row) (d := D) (f := D + 1) (by omega) h3.2.2 e3 e4
    exact ⟨by rw [sumsOf, List.getElem?_cons_succ]; exact ih.1, ih.2.1, by omega, ih.2.2.2⟩
theorem daysOk_head {f e D : Int} {t : List Int} (h : daysOk f (D :: t) = true) (he : e ≤ D) : daysOk e (D :: t) = true := by
  have := daysOk_cons h
  rw [daysOk, if_neg (by omega)]
  exact this.2.2
theorem owedEnd_num {row : Row} (hr : RatesOk row) {p : Int} (hp : 0 ≤ p) : ∀ (days : List Int) (s l b d : Int), NumOk l b d → daysOk d days = true →
    NumOk (Run.plan row p ⟨s, l, b, d⟩ days).l (Run.plan row p ⟨s, l, b, d⟩ days).b (Run.plan row p ⟨s, l, b, d⟩ days).d
  | [], s, l, b, d, n, _ => n
  | D :: t, s, l, b, d, n, hd => by
    obtain ⟨h1, h2, h3⟩ := daysOk_cons hd
    have n2 := n.walk hr h1 h2
    rw [run_cons, run_due]
    generalize thenF l b d row D = B at n2
    have ho : 0 ≤ owedF l B := by have := n2.l0; have := n2.b0; unfold owedF; omega
    have c2 : partF p l B ≤ owedF l B := by unfold partF; omega
    have c1 : 0 ≤ partF p l B := by unfold partF; omega
    refine owedEnd_num hr hp t _ _ _ D ?_ (daysOk_weak (by omega) h3)
    have a := pay_left n2.l0 n2.b0 c1 c2
    have b' := pBegun_ok (l := l) n2.b0 c1
    exact ⟨a.1, Int.le_trans a.2 n2.l1, b'.1, Int.le_trans b'.2 n2.b1, n2.d0, n2.d1⟩
/-- all that is owed on the first due day pays back all -/
theorem owed_settles {row : Row} (hr : RatesOk row) {l b d D : Int} {t : List Int} (n : NumOk l b d) (hd : daysOk d (D :: t) = true) : owedEnd row (owedF l (thenF l b d row D)) l b d (D :: t) = 0 := by
  obtain ⟨h1, h2, h3⟩ := daysOk_cons hd
  have n2 := n.walk hr h1 h2
  unfold owedEnd
  rw [run_cons, run_due]
  generalize thenF l b d row D = B at n2
  have ho : 0 ≤ owedF l B := by have := n2.l0; have := n2.b0; unfold owedF; omega
  have e : partF (owedF l B) l B = owedF l B := by unfold partF; omega
  have e1 : pLeft l B (owedF l B) = 0 := by unfold pLeft; rw [if_pos rfl]
  have e2 : pBegun l B (owedF l B) = 0 := by unfold pBegun; rw [if_pos rfl]
  rw [e, e1, e2, run_zero row ho]
  rfl
theorem owedEnd_more {row : Row} (hr : RatesOk row) {l b d c e : Int} {days : List Int} (n : NumOk l b d) (hd : daysOk d days = true) (h0 : 0 ≤ c) (hc : c ≤ e) : owedEnd row e l b d days ≤ owedEnd row c l b d days :=
  settles_more (A := ⟨0, l, b, d⟩) hr h0 hc n.l0 n.b0 (fun D hD => (daysOk_le hd D hD).1) (daysOk_asc hd)
theorem owedEnd_nonneg {row : Row} (hr : RatesOk row) {p l b d : Int} (hp : 0 ≤ p) {days : List Int} (n : NumOk l b d) (hd : daysOk d days = true) : 0 ≤ owedEnd row p l b d days := by
  have h := owedEnd_num hr hp days 0 l b d n hd
  have := h.l0; have := h.b0
  unfold owedEnd owedF
  omega
/-- nothing paid: no less is owed -/
theorem owed_none {row : Row} (hr : RatesOk row) : ∀ (days : List Int) (s l b d : Int), 0 ≤ l → 0 ≤ b → 1 ≤ owedF l b → daysOk d days = true → 1 ≤ owedF (Run.plan row 0 ⟨s, l, b, d⟩ days).l (Run.plan row 0 ⟨s, l, b, d⟩ days).b
  | [], s, l, b, d, _, _, h, _ => h
  | D :: t, s, l, b, d, hl, hb, h, hd => by
    obtain ⟨h1, h2, h3⟩ := daysOk_cons hd
    have g := (grownF_bounds hr h1).1
    have hB : b ≤ thenF l b d row D := by
      have : 0 ≤ l * grownF row d D := Int.mul_nonneg hl g
      unfold thenF; omega
    rw [run_cons, run_due]
    generalize thenF l b d row D = B at hB
    have ho : 1 ≤ owedF l B := by unfold owedF at *; omega
    have e : partF 0 l B = 0 := by unfold partF; omega
    have e1 : pLeft l B 0 = l := by unfold pLeft; rw [if_neg (by omega)]; omega
    have e2 : pBegun l B 0 = B := by unfold pBegun; rw [if_neg (by omega)]; omega
    rw [e, e1, e2]
    exact owed_none hr t _ l B D hl (by omega) ho (daysOk_weak (by omega) h3)
theorem LeastF.zero {row : Row} {l b d v : Int} {days : List Int} (h : LeastF row l b d days v) (hl : 0 ≤ l) (hb : 0 ≤ b) (ho : owedF l b = 0) : v = 0 := by
  obtain ⟨e1, e2⟩ := owed_zero hl hb ho
  subst e1 e2
  by_cases c : v = 0
  · exact c
  · have lo := h.lo
    refine absurd ?_ (h.less 0 (Int.le_refl 0) (by omega))
    unfold owedEnd
    rw [run_zero row (Int.le_refl 0)]
    rfl
theorem LeastF.pos {row : Row} (hr : RatesOk row) {l b d v : Int} {days : List Int} (h : LeastF row l b d days v) (hl : 0 ≤ l) (hb : 0 ≤ b) (ho : owedF l b ≠ 0) (hd : daysOk d days = true) : 1 ≤ v := by
  have h1 : 1 ≤ owedF l b := by unfold owedF at *; omega
  have lo := h.lo
  by_cases c : v = 0
  · have := owed_none hr days 0 l b d hl hb h1 hd
    have e := h.done
    rw [c] at e
    unfold owedEnd at e
    omega
  · omega
theorem early_out {row : Row} (hr : RatesOk row) {p c l b d : Int} {days : List Int} (hp : 0 ≤ p) (n : NumOk l b d) (hd : daysOk d days = true) (h1 : 0 ≤ c) (h2 : c ≤ owedF l b) :
    c + costF row p (pLeft l b c) (pBegun l b c) d days ≤ costF row p l b d days := by
  have h := early_saves hr hp h1 h2 n.l0 n.b0 (fun D hD => (daysOk_le hd D hD).1) (daysOk_asc hd) (row := row) (days := days) (d := d)
  have sh : ∀ (days : List Int) (s l b d : Int), (Run.plan row p ⟨s, l, b, d⟩ days).out = s + (Run.plan row p ⟨0, l, b, d⟩ days).out := by
    intro days
    induction days with
    | nil => intro s l b d; simp [Run.plan, Run.out]
    | cons D t ih =>
      intro s l b d
      rw [run_cons, run_cons, run_due, run_due, ih, ih (0 + _)]
      omega
  rw [sh] at h
  exact h
end Lp
namespace Lp
open PySem L2
section
variable {σ : L2.St} {H : Hp} {Q : VK} {E : XK} {D : Ends} {K : PySem.W.Frag} {te ta tb : TE} {tt tu : TT} {t u w : TS}
/-! ## lists of ints -/
def IntsAt (H : Hp) (a : Addr) (ns : List Int) : Prop := H a = some (.lst (ns.map V.int))
theorem IntsAt.same {H H' : Hp} {a : Addr} {ns : List Int} (h : IntsAt H a ns) (s : Same H H') : IntsAt H' a ns := s _ _ h
theorem IntsAt.sq {H : Hp} {a : Addr} {ns : List Int} (h : IntsAt H a ns) : SqL K H a (ns.map V.int) := SqL.of h
theorem IntsAt.butI {H H' : Hp} {a x C dx : Addr} {ns : List Int} {fs : List (Str × V)} (h : IntsAt H a ns) (k : But x H H') (hx : H x = some (.ins C dx fs)) : IntsAt H' a ns := k _ _ (ne_of h hx (by intro z; cases z)) h
theorem ints_at {ns : List Int} {i : Nat} {v : V} (e : (ns.map V.int)[i]? = some v) : ∃ n, ns[i]? = some n ∧ v = .int n := by
  rw [List.getElem?_map] at e
  cases h : ns[i]? with
  | none => rw [h] at e; cases e
  | some n => rw [h] at e; exact ⟨n, rfl, (Option.some.inj e).symm⟩
theorem drop_cons {α : Type} {l : List α} {i : Nat} {x : α} (h : l[i]? = some x) : l.drop i = x :: l.drop (i + 1) := by
  obtain ⟨hl, e⟩ := List.getElem?_eq_some_iff.mp h
  rw [List.drop_eq_getElem_cons hl, e]
theorem g_lenI {p : Addr} {ns : List Int} {n : Int} (h : IntsAt H p ns) (e : (ns.length : Int) = n) (q : Q (.int n) H) : rLen K [.ref p] H Q := g_len h.sq (by rw [List.length_map]; exact e) q
theorem g_ixI {p : Addr} {ns : List Int} {i v : Int} {j : Nat} (h : IntsAt H p ns) (ei : i = (j : Int)) (e : ns[j]? = some v) (q : Q (.int v) H) : rIxL K (.ref p) (.int i) H Q :=
  g_ixL h.sq ei (by rw [List.getElem?_map, e]; rfl) q
theorem g_ixIlast {p : Addr} {ns : List Int} {i v : Int} (h : IntsAt H p ns) (ei : i = -1) (e : ns.getLast? = some v) (q : Q (.int v) H) : rIxL K (.ref p) (.int i) H Q := by
  obtain ⟨ys, ex⟩ := List.getLast?_eq_some_iff.mp e
  refine ⟨p, _, i, .int v, rfl, rfl, h.sq, ?_, q⟩
  rw [ei, ex, List.map_append]
  exact atI_last _ _
theorem g_forI {i : Nat} {a : Addr} {ns : List Int} {g : TG} (hv : σ[i]? = some (some (.ref a))) (hx : IntsAt H a ns) (Pv : L2.St → Nat → L2.St → Hp → Prop) (h0 : Pv σ 0 σ H) (hl : ∀ i σ' H', Pv σ i σ' H' → IntsAt H' a ns)
    (hs : ∀ i n σ' H', ns[i]? = some n → Pv σ i σ' H' → g (.int n) σ' H' fun σ2 H2 => t { D with nx := Pv σ (i + 1), ct := Pv σ (i + 1), bk := D.nx } σ2 H2) (hd : ∀ σ' H', Pv σ ns.length σ' H' → D.nx σ' H') : tFor (iList K (tVar i)) g t D σ H :=
  g_forL hv hx.sq Pv h0 (fun i σ' H' _ p => (hl i σ' H' p).sq) (fun i x σ' H' e p => by
    obtain ⟨n, e1, rfl⟩ := ints_at e
    exact hs i n σ' H' e1 p) (fun σ' H' p => hd σ' H' (by rw [List.length_map] at p; exact p))
/-! ## while -/
def WhGo (W : Nat → L2.St → Hp → Prop) (m : Nat) (t : TS) (D : Ends) (σ : L2.St) (H : Hp) : Prop := ∃ N : L2.St → Hp → Prop, (∀ σ' H', N σ' H' → ∃ m', m' < m ∧ W m' σ' H') ∧ t { D with nx := N, ct := N, bk := D.nx } σ H
theorem g_go {W : Nat → L2.St → Hp → Prop} {m : Nat} (q : t { D with nx := fun σ' H' => ∃ m', m' < m ∧ W m' σ' H', ct := fun σ' H' => ∃ m', m' < m ∧ W m' σ' H', bk := D.nx } σ H) : WhGo W m t D σ H := ⟨_, fun _ _ h => h, q⟩
theorem g_while (W : L2.St → Nat → L2.St → Hp → Prop) (h0 : ∃ m, W σ m σ H) (hs : ∀ m σ' H', W σ m σ' H' → tt σ' H' fun b H1 => if b = true then WhGo (W σ) m t D σ' H1 else D.nx σ' H1) : tWhile tt t D σ H := ⟨W σ, h0, hs⟩
theorem g_seq_while (h : tWhile tt t { D with nx := u D } σ H) : tSeq (tWhile tt t) u D σ H := h
/-! ## comprehensions -/
theorem g_lcL {i : Nat} {a : Addr} {xs : List V} {g : TG} {vs : List Nat} (hv : σ[i]? = some (some (.ref a))) (hx : SqL K H a xs) (Pv : Addr → Nat → Hp → Prop) (h0 : ∀ D, H D = none → Pv D 0 (upd H D (.lst []))) (hl : ∀ D i H', Pv D i H' → SqL K H' a xs)
    (hs : ∀ D i x H', xs[i]? = some x → Pv D i H' → g x (wipe σ vs) H' fun σ2 H2 => wipe σ2 vs = wipe σ vs ∧ tt σ2 H2 fun b H3 =>
      if b = true then te σ2 H3 fun y H4 => ∃ acc, H4 D = some (.lst acc) ∧ acc.length < sizeLine ∧ Pv D (i + 1) (upd H4 D (.lst (acc ++ [y]))) else Pv D (i + 1) H3)
    (hd : ∀ D H', H D = none → Pv D xs.length H' → Q (.ref D) H') : tLc (iList K (tVar i)) g tt te vs σ H Q :=
  ⟨_, hv, a, rfl, ⟨xs, hx⟩, fun D hD => lc_list (Pv D) (h0 D hD) (fun i H' _ p => hl D i H' p) (hs D) (fun H' p => hd D H' hD p)⟩
theorem g_lcZ {i j : Nat} {a b : Addr} {xs ys : List V} {g : TG} {vs : List Nat} (hv : σ[i]? = some (some (.ref a))) (hw : σ[j]? = some (some (.ref b))) (hx : SqL K H a xs) (hy : SqL K H b ys) (Pv : Addr → Nat → Hp → Prop) (h0 : ∀ D, H D = none → Pv D 0 (upd H D (.lst [])))
    (hl : ∀ D i H', Pv D i H' → SqL K H' a xs ∧ SqL K H' b ys)
    (hs : ∀ D i x y T H', xs[i]? = some x → ys[i]? = some y → Pv D i H' → H' T = none → g (.ref T) (wipe σ vs) (upd H' T (.tup [x, y])) fun σ2 H2 => wipe σ2 vs = wipe σ vs ∧ tt σ2 H2 fun b H3 =>
      if b = true then te σ2 H3 fun y H4 => ∃ acc, H4 D = some (.lst acc) ∧ acc.length < sizeLine ∧ Pv D (i + 1) (upd H4 D (.lst (acc ++ [y]))) else Pv D (i + 1) H3)
    (hd : ∀ D H', H D = none → Pv D (min xs.length ys.length) H' → Q (.ref D) H') : tLc (iZip K (tCons (tVar i) (tCons (tVar j) tNil))) g tt te vs σ H Q :=
  ⟨_, hv, _, hw, a, b, xs, ys, rfl, hx, hy, fun D hD => lc_it (walk_zip rfl) (Pv D) (h0 D hD) (fun i H' _ p => hl D i H' p) (fun i v H1 H' _ p y => by
    obtain ⟨T, x, z, rfl, nT, rfl, e1, e2⟩ := y
    exact hs D i x z T H1 e1 e2 p nT) (fun H' p => hd D H' hD p)⟩
/-- the turn's end: an item more at the new list -/
theorem g_lcEnd {D' : Addr} {acc : List V} {y : V} {P : Hp → Prop} (h : H D' = some (.lst acc)) (hz : acc.length ≤ 100000) (q : P (upd H D' (.lst (acc ++ [y])))) : ∃ acc, H D' = some (.lst acc) ∧ acc.length < sizeLine ∧ P (upd H D' (.lst (acc ++ [y]))) := ⟨acc, h, Nat.lt_of_le_of_lt hz (by decide), q⟩
theorem g_yes {Q : Bool → Hp → Prop} (q : Q true H) : tYes σ H Q := q
theorem g_sum {l : Addr} {ns : List Int} (h : IntsAt H l ns) (q : Q (.int ns.sum) H) : rSum K [.ref l] H Q := ⟨l, ns, rfl, h.sq, q⟩
theorem cut_init (xs : List V) : cutV xs none (some (-1)) = xs.dropLast := by
  unfold cutV HT.sIx
  rw [List.dropLast_eq_take]
  simp
  omega
theorem g_slInit {l : Addr} {ns : List Int} {k : Int} (h : IntsAt H l ns) (hk : k = -1) (q : ∀ p H', H p = none → Same H H' → IntsAt H' p ns.dropLast → Q (.ref p) H') : rSlL K (.ref l) none (some k) H Q := by
  refine ⟨l, _, rfl, h.sq, fun p np => q p _ np (same_new np) ?_⟩
  rw [hk, cut_init, ← List.map_dropLast]
  exact upd_same
theorem g_slToI {l : Addr} {ns : List Int} {k : Int} (h : IntsAt H l ns) (h0 : 0 ≤ k) (h1 : k ≤ ns.length) (q : ∀ p H', H p = none → Same H H' → IntsAt H' p (ns.take k.toNat) → Q (.ref p) H') : rSlL K (.ref l) none (some k) H Q := by
  refine ⟨l, _, rfl, h.sq, fun p np => q p _ np (same_new np) ?_⟩
  rw [cut_to _ h0 (by rw [List.length_map]; exact h1), ← List.map_take]
  exact upd_same
theorem g_slFromI {l : Addr} {ns : List Int} {k : Int} (h : IntsAt H l ns) (h0 : 0 ≤ k) (h1 : k ≤ ns.length) (q : ∀ p H', H p = none → Same H H' → IntsAt H' p (ns.drop k.toNat) → Q (.ref p) H') : rSlL K (.ref l) (some k) none H Q := by
  refine ⟨l, _, rfl, h.sq, fun p np => q p _ np (same_new np) ?_⟩
  rw [cut_from _ h0 (by rw [List.length_map]; exact h1), ← List.map_drop]
  exact upd_same
theorem g_newI {ns : List Int} {xs : List V} (e : xs = ns.map V.int) (hl : ns.length ≤ 100) (h : ∀ p H', H p = none → Same H H' → IntsAt H' p ns → Q (.ref p) H') : NewL xs H Q := by
  subst e
  exact g_newL (by rw [List.length_map]; exact hl) h
theorem g_catI {l b : Addr} {ns ms : List Int} (h1 : IntsAt H l ns) (h2 : IntsAt H b ms) (hz : ns.length + ms.length ≤ 100000) (q : ∀ p H', H p = none → Same H H' → IntsAt H' p (ns ++ ms) → Q (.ref p) H') : rCat (.ref l) (.ref b) H Q :=
  g_cat h1 h2 (by rw [List.length_map, List.length_map]; exact hz) fun p H' hp s h => q p H' hp s (by unfold IntsAt; rw [List.map_append]; exact h)
theorem pe_fldK {X : Cx} {K : PySem.W.Frag} {e : Expr} {f : Str} {pos : Pos} {ta : TE} (hK : X.K = K) (he : PE X e ta) (hb : attributeBase e f X.env (eval e X.env) = eval e X.env) : PE X (.Attribute e f pos) (tFld K ta f) := by
  subst hK; exact pe_fld he hb
theorem pg_tupK {X : Cx} {K : PySem.W.Frag} {n : Nat} {es : List Expr} {k : Nat} {pos : Pos} {t : TGs} (hK : X.K = K) (hc : X.calm = true) (h : PGs X es t) (hn : (assignEach es X.env).length = n) (hst : (assignEach es X.env).findIdx? (·.1) = none) : PG X (.Tuple es k pos) (gTup K n t) := by
  subst hK; exact pg_tup hc h hn hst
/-! ## tuples of five -/
inductive FivesAt (H : Hp) : List V → List P5 → Prop
  | nil : FivesAt H [] []
  | cons {q : Addr} {r : P5} {xs : List V} {rows : List P5} : H q = some (.tup [.int r.1, .int r.2.1, .int r.2.2.1, .int r.2.2.2.1, .int r.2.2.2.2]) → FivesAt H xs rows → FivesAt H (.ref q :: xs) (r :: rows)
theorem FivesAt.len {H : Hp} : ∀ {xs : List V} {rows : List P5}, FivesAt H xs rows → xs.length = rows.length
  | _, _, .nil => rfl
  | _, _, .cons _ t => by rw [List.length_cons, List.length_cons, t.len]
theorem FivesAt.mono {H H' : Hp} (s : ∀ q ps, H q = some (.tup ps) → H' q = some (.tup ps)) : ∀ {xs : List V} {rows : List P5}, FivesAt H xs rows → FivesAt H' xs rows
  | _, _, .nil => .nil
  | _, _, .cons h t => .cons (s _ _ h) (t.mono s)
theorem FivesAt.app {H : Hp} : ∀ {xs ys : List V} {r1 r2 : List P5}, FivesAt H xs r1 → FivesAt H ys r2 → FivesAt H (xs ++ ys) (r1 ++ r2)
  | _, _, _, _, .nil, t => t
  | _, _, _, _, .cons h t, u => .cons h (t.app u)
theorem FivesAt.got {H : Hp} : ∀ {xs : List V} {rows : List P5} {i : Nat} {v : V}, FivesAt H xs rows → xs[i]? = some v → ∃ r q, rows[i]? = some r ∧ v = .ref q ∧ H q = some (.tup [.int r.1, .int r.2.1, .int r.2.2.1, .int r.2.2.2.1, .int r.2.2.2.2])
  | _, _, i, _, .nil, e => by simp at e
  | _, _, 0, _, .cons h t, e => by simp at e; subst e; exact ⟨_, _, rfl, rfl, h⟩
  | _, _, i + 1, _, .cons h t, e => by
    obtain ⟨r, q, h1, h2, h3⟩ := t.got (i := i) (by simpa using e)
    exact ⟨r, q, by simpa using h1, h2, h3⟩
def PlanAt (H : Hp) (l : Addr) (rows : List P5) : Prop := ∃ xs, H l = some (.lst xs) ∧ FivesAt H xs rows
theorem PlanAt.same {H H' : Hp} {l : Addr} {rows : List P5} (h : PlanAt H l rows) (s : Same H H') : PlanAt H' l rows := by
  obtain ⟨xs, h1, h2⟩ := h
  exact ⟨xs, s _ _ h1, h2.mono fun q ps e => s _ _ e⟩
theorem PlanAt.butI {H H' : Hp} {l x C dx : Addr} {rows : List P5} {fs : List (Str × V)} (h : PlanAt H l rows) (k : But x H H') (hx : H x = some (.ins C dx fs)) : PlanAt H' l rows := by
  obtain ⟨xs, h1, h2⟩ := h
  exact ⟨xs, k _ _ (ne_of h1 hx (by intro z; cases z)) h1, h2.mono fun q ps e => k _ _ (ne_of e hx (by intro z; cases z)) e⟩
theorem PlanAt.snoc {H : Hp} {l q : Addr} {rows : List P5} {xs : List V} {r : P5} (h2 : FivesAt H xs rows) (hl : H l = some (.lst xs)) (hq : H q = some (.tup [.int r.1, .int r.2.1, .int r.2.2.1, .int r.2.2.2.1, .int r.2.2.2.2])) : PlanAt (upd H l (.lst (xs ++ [.ref q]))) l (rows ++ [r]) := by
  refine ⟨_, upd_same, ?_⟩
  have k : ∀ q ps, H q = some (.tup ps) → upd H l (.lst (xs ++ [.ref q])) q = some (.tup ps) := fun q ps e => by
    rw [upd_ne (ne_of e hl (by intro z; cases z))]; exact e
  refine FivesAt.app (h2.mono fun q ps e => ?_) (.cons ?_ .nil)
  · rw [upd_ne (ne_of e hl (by intro z; cases z))]; exact e
  · rw [upd_ne (ne_of hq hl (by intro z; cases z))]; exact hq
/-! ## the plans' promises -/
/-- a loan under a good row -/
structure GoodL (C : Addr) (H : Hp) (x : Addr) (l b d : Int) (r : Addr) (row : Row) : Prop where
  L : LoanAt C H x l b d r row
  n : NumOk l b d
  ok : RowOk row
  last : lastDay row ≤ 100000
  len : row.length ≤ 1000
theorem GoodL.same {C : Addr} {H H' : Hp} {x : Addr} {l b d : Int} {r : Addr} {row : Row} (h : GoodL C H x l b d r row) (s : Same H H') : GoodL C H' x l b d r row := ⟨h.L.same s, h.n, h.ok, h.last, h.len⟩
def sp_check_days (C BD : Addr) : Sp := fun vs H Q E => ∃ x a l b d r row days, vs = [.ref x, .ref a] ∧ LoanAt C H x l b d r row ∧ NumOk l b d ∧ IntsAt H a days ∧ (daysOk d days = false → E (.ref BD) none H) ∧ (daysOk d days = true → Q .non H)
def sp_check_some (C BD : Addr) : Sp := fun vs H Q E => ∃ x a l b d r row days, vs = [.ref x, .ref a] ∧ LoanAt C H x l b d r row ∧ NumOk l b d ∧ IntsAt H a days ∧ (days = [] ∨ daysOk d days = false → E (.ref BD) none H) ∧ (days ≠ [] → daysOk d days = true → Q .non H)
def sp_check_part (BP : Addr) : Sp := fun vs H Q E => ∃ p, vs = [.int p] ∧ (p < 1 → E (.ref BP) none H) ∧ (1 ≤ p → Q .non H)
def sp_pay_parts (C : Addr) : Sp := fun vs H Q _ => ∃ x a p l b d r row days, vs = [.ref x, .ref a, .int p] ∧ LoanAt C H x l b d r row ∧ NumOk l b d ∧ RatesOk row ∧ IntsAt H a days ∧ daysOk d days = true ∧ days.length ≤ 1000 ∧ 1 ≤ p ∧
  ∀ o H', H o = none → But x H H' → LoanAt C H' x (planEnd row p l b d days).1 (planEnd row p l b d days).2.1 (planEnd row p l b d days).2.2 r row → PlanAt H' o (planRows row p l b d days) → Q (.ref o) H'
def sp_plan (C BD BP : Addr) : Sp := fun vs H Q E => ∃ x a p l b d r row days, vs = [.ref x, .ref a, .int p] ∧ GoodL C H x l b d r row ∧ IntsAt H a days ∧ days.length ≤ 1000 ∧ (daysOk d days = false → E (.ref BD) none H) ∧
  (daysOk d days = true → (p < 1 → E (.ref BP) none H) ∧ (1 ≤ p → ∀ o H', H o = none → Same H H' → PlanAt H' o (planRows row p l b d days) → Q (.ref o) H'))
def sp_cost (C BD BP : Addr) : Sp := fun vs H Q E => ∃ x a p l b d r row days, vs = [.ref x, .ref a, .int p] ∧ GoodL C H x l b d r row ∧ IntsAt H a days ∧ days.length ≤ 1000 ∧ (days = [] ∨ daysOk d days = false → E (.ref BD) none H) ∧
  (days ≠ [] → daysOk d days = true → (p < 1 → E (.ref BP) none H) ∧ (1 ≤ p → ∀ H', Same H H' → Q (.int (costF row p l b d days)) H'))
def savedF (row : Row) (p l b d : Int) (days : List Int) (e c : Int) : Int := costF row p l b d days - c - costF row p (pLeft l (thenF l b d row e) c) (pBegun l (thenF l b d row e) c) e days
def sp_saved (C BD BP : Addr) : Sp := fun vs H Q E => ∃ x a p e c l b d r row days, vs = [.ref x, .ref a, .int p, .int e, .int c] ∧ GoodL C H x l b d r row ∧ IntsAt H a days ∧ days.length ≤ 1000 ∧ (days = [] ∨ daysOk d days = false → E (.ref BD) none H) ∧
  (days ≠ [] → daysOk d days = true → (p < 1 → E (.ref BP) none H) ∧ (1 ≤ p → (e < d ∨ days.headD 0 < e → ∀ H', Same H H' → E (.ref BD) none H') ∧
    (¬ (e < d ∨ days.headD 0 < e) → (c < 1 ∨ owedF l (thenF l b d row e) < c → ∀ H', Same H H' → E (.ref BP) none H') ∧ (¬ (c < 1 ∨ owedF l (thenF l b d row e) < c) → ∀ H', Same H H' → Q (.int (savedF row p l b d days e c)) H'))))
def sp_stretches (C : Addr) : Sp := fun vs H Q _ => ∃ x a l b d r row days, vs = [.ref x, .ref a] ∧ LoanAt C H x l b d r row ∧ NumOk l b d ∧ IntsAt H a days ∧ days ≠ [] ∧ daysOk d days = true ∧ days.length ≤ 1000 ∧ ∀ o H', H o = none → Same H H' → IntsAt H' o (sumsOf row d days) → Q (.ref o) H'
def sp_pays_back (C : Addr) : Sp := fun vs H Q _ => ∃ x a p l b d r row days, vs = [.ref x, .ref a, .int p] ∧ LoanAt C H x l b d r row ∧ NumOk l b d ∧ RatesOk row ∧ IntsAt H a (sumsOf row d days) ∧ daysOk d days = true ∧ 0 ≤ p ∧ ∀ H', Same H H' → Q (.bl (decide (owedEnd row p l b d days = 0))) H'
def sp_least (C BD : Addr) : Sp := fun vs H Q E => ∃ x a l b d r row days, vs = [.ref x, .ref a] ∧ GoodL C H x l b d r row ∧ IntsAt H a days ∧ days.length ≤ 1000 ∧ (days = [] ∨ daysOk d days = false → E (.ref BD) none H) ∧
  (days ≠ [] → daysOk d days = true → ∀ v H', Same H H' → LeastF row l b d days v → Q (.int v) H')
end
end Lp
namespace Lp
open PySem L2
/-! ## a text some times -/
def repS (x : Str) (n : Int) : Str := if n < 1 then Str.empty else if (n == 1 || x.length == 0) = true then x else ⟨(List.replicate n.toNat x.cps).foldl (· ++ ·) #[]⟩
theorem fold_size {a : Array Nat} : ∀ (n : Nat) (acc : Array Nat), ((List.replicate n a).foldl (· ++ ·) acc).size = acc.size + n * a.size
  | 0, acc => by simp
  | n + 1, acc => by
    rw [List.replicate_succ, List.foldl_cons, fold_size n, Array.size_append, Nat.add_mul]
    omega
def rRepS : R2 := fun x y H Q => ∃ s n, x = .str s ∧ y = .int n ∧ -1000 ≤ n ∧ n ≤ 1000 ∧ s.length ≤ 1000 ∧ Q (.str (repS s n)) H
theorem op_rep_str {X : Cx} : OpR X (binaryOp .Mult) rRepS := by
  intro pins s σ H x y v u Q I rx ry h
  obtain ⟨z, n, rfl, rfl, n0, n1, hz, q⟩ := h
  obtain ⟨t, rfl⟩ := rx
  obtain ⟨t', rfl⟩ := ry
  have hmul : z.length * n.toNat ≤ 1000 * 1000 := Nat.mul_le_mul hz (by omega)
  refine PySem.P.mul_str (by rw [decide_eq_false (by omega), decide_eq_false (by omega)]; rfl) (fun h1 _ => ?_) (fun h1 _ => ?_) ?_
  · have : (z.length : Int) ≤ (2 ^ 63 - 1) / n := by
      refine Int.le_ediv_of_mul_le (by omega) ?_
      have e : n = (n.toNat : Int) := by omega
      rw [e]
      have : ((z.length * n.toNat : Nat) : Int) ≤ 1000 * 1000 := by omega
      rw [Int.natCast_mul] at this
      omega
    omega
  · unfold Builtin.Str.tooLong
    refine decide_eq_false ?_
    have : (1000 * 1000 : Nat) ≤ sizeLine := by decide
    omega
  · unfold repS at q
    split
    · rename_i c
      rw [if_pos c] at q
      exact ⟨by decide, .str Str.empty, H, I.tok _, ⟨_, rfl⟩, q⟩
    · rename_i c
      rw [if_neg c] at q
      split
      · rename_i c2
        rw [if_pos c2] at q
        exact ⟨.str z, H, I, ⟨_, rfl⟩, q⟩
      · rename_i c2
        rw [if_neg c2] at q
        refine ⟨?_, .str _, H, I.tok _, ⟨_, rfl⟩, q⟩
        show ((List.replicate n.toNat z.cps).foldl (· ++ ·) #[]).size ≤ sizeLine
        rw [fold_size]
        have e : z.cps.size = z.length := rfl
        have : (1000 * 1000 : Nat) ≤ sizeLine := by decide
        have e2 := Nat.mul_comm z.length n.toNat
        rw [e, ← e2]
        simp
        omega
/-! ## days of the law's own -/
theorem daysOk_snoc : ∀ {l : List Int} {f x : Int}, daysOk f (l ++ [x]) = true ↔ daysOk f l = true ∧ lastOr (f - 1) l < x ∧ x ≤ 100000
  | [], f, x => by
    show (if x < f ∨ 100000 < x then false else true) = true ↔ true = true ∧ f - 1 < x ∧ x ≤ 100000
    by_cases c : x < f ∨ 100000 < x
    · rw [if_pos c]; simp; omega
    · rw [if_neg c]; simp; omega
  | d :: t, f, x => by
    show (if d < f ∨ 100000 < d then false else daysOk (d + 1) (t ++ [x])) = true ↔ (if d < f ∨ 100000 < d then false else daysOk (d + 1) t) = true ∧ lastOr d t < x ∧ x ≤ 100000
    have ih := daysOk_snoc (l := t) (f := d + 1) (x := x)
    rw [show d + 1 - 1 = d by omega] at ih
    by_cases c : d < f ∨ 100000 < d
    · rw [if_pos c, if_pos c]; simp
    · rw [if_neg c, if_neg c]; exact ih
def daysN (c a w : Int) : Nat → List Int
  | 0 => [a + c % 4]
  | n + 1 => daysN c a w n ++ [(daysN c a w n).getLast?.getD 0 + 1 + mixed (c + 17 * (1 + (n : Int))) w]
def daysBy (c a m w : Int) : List Int := (daysN c a w (m - 1).toNat).take m.toNat
theorem daysN_len (c a w : Int) : ∀ n, (daysN c a w n).length = n + 1
  | 0 => rfl
  | n + 1 => by rw [daysN, List.length_append, daysN_len c a w n]; rfl
theorem daysN_last (c a w : Int) (n : Nat) : ∃ d, (daysN c a w n).getLast? = some d := by
  cases n with
  | zero => exact ⟨_, rfl⟩
  | succ n => exact ⟨_, by rw [daysN]; exact last_snoc _ _⟩
theorem daysN_ok (c a : Int) {w : Int} (hw : 0 < w) (f : Int) (hf : f ≤ a) : ∀ n : Nat, a + 3 + (n : Int) * w ≤ 100000 → daysOk f (daysN c a w n) = true ∧ lastOr (f - 1) (daysN c a w n) ≤ a + 3 + (n : Int) * w
  | 0, h => by
    have h0 := Int.emod_nonneg c (b := 4) (by decide)
    have h1 := Int.emod_lt_of_pos c (b := 4) (by decide)
    rw [show ((0 : Nat) : Int) * w = 0 by simp] at *
    constructor
    · show (if a + c % 4 < f ∨ 100000 < a + c % 4 then false else true) = true
      rw [if_neg (by omega)]
    · show a + c % 4 ≤ a + 3 + 0
      omega
  | n + 1, h => by
    have e : ((n + 1 : Nat) : Int) * w = (n : Int) * w + w := by rw [Int.natCast_succ, Int.add_mul, Int.one_mul]
    rw [e] at h ⊢
    have ih := daysN_ok c a hw f hf n (by omega)
    have lg : (daysN c a w n).getLast? = some (lastOr (f - 1) (daysN c a w n)) := lastOr_get (by
      intro z; have := daysN_len c a w n; rw [z] at this; cases this)
    have m0 := mixed_lo (c := c + 17 * (1 + (n : Int))) hw
    have m1 := mixed_hi (c := c + 17 * (1 + (n : Int))) hw
    have lo : lastOr (f - 1) (daysN c a w n ++ [(daysN c a w n).getLast?.getD 0 + 1 + mixed (c + 17 * (1 + (n : Int))) w]) = (daysN c a w n).getLast?.getD 0 + 1 + mixed (c + 17 * (1 + (n : Int))) w := by
      have z : (daysN c a w n ++ [(daysN c a w n).getLast?.getD 0 + 1 + mixed (c + 17 * (1 + (n : Int))) w]).getLast? = _ := lastOr_get (d := f - 1) (by simp)
      rw [last_snoc] at z
      exact (Option.some.inj z).symm
    rw [daysN, daysOk_snoc, lo, lg]
    show (_ ∧ lastOr (f - 1) (daysN c a w n) < lastOr (f - 1) (daysN c a w n) + 1 + _ ∧ lastOr (f - 1) (daysN c a w n) + 1 + _ ≤ _) ∧ lastOr (f - 1) (daysN c a w n) + 1 + _ ≤ _
    exact ⟨⟨ih.1, by omega, by omega⟩, by omega⟩
theorem daysBy_len {c a m w : Int} (h : 0 ≤ m) : ((daysBy c a m w).length : Int) = m := by
  unfold daysBy; rw [List.length_take, daysN_len]; omega
theorem daysBy_ok {c a m w : Int} (hw : 0 < w) {f : Int} (hf : f ≤ a) (h : a + 3 + (m - 1).toNat * w ≤ 100000) : daysOk f (daysBy c a m w) = true := by
  unfold daysBy
  by_cases hm : 1 ≤ m
  · rw [List.take_of_length_le (by rw [daysN_len]; omega)]
    exact (daysN_ok c a hw f hf _ h).1
  · rw [show m.toNat = 0 by omega, List.take_zero]; rfl
theorem pay_nothing {l B : Int} (hl : 0 ≤ l) (hB : 0 ≤ B) : pLeft l B 0 = l ∧ pBegun l B 0 = B := by
  by_cases c : 0 = owedF l B
  · obtain ⟨e1, e2⟩ := owed_zero hl hB c.symm
    rw [e1, e2]; exact ⟨rfl, rfl⟩
  · unfold pLeft pBegun
    rw [if_neg c, if_neg c]; omega
section
variable {σ : L2.St} {H : Hp} {Q : VK} {E : XK} {D : Ends} {K : PySem.W.Frag} {te ta tb : TE} {tt tu : TT} {t u w : TS}
theorem g_repS {s : Str} {n : Int} (h0 : -1000 ≤ n) (h1 : n ≤ 1000) (hs : s.length ≤ 1000) (q : Q (.str (repS s n)) H) : rRepS (.str s) (.int n) H Q := ⟨s, n, rfl, rfl, h0, h1, hs, q⟩
theorem g_revL {a : Addr} {xs : List V} {i : Nat} (hv : σ[i]? = some (some (.ref a))) (hx : SqL K H a xs) (q : ∀ p H', H p = none → Same H H' → H' p = some (.lst xs.reverse) → Q (.ref p) H') : tRevL K (tVar i) σ H Q := ⟨_, hv, a, xs, rfl, hx, fun p np => q p _ np (same_new np) upd_same⟩
/-! ## lists of ints, of words as data -/
def intsD (ns : List Int) : PyData := .list (ns.map .int)
theorem ints_dpAll {K : PySem.W.Frag} {H : Hp} : ∀ ns : List Int, DpAll K H (ns.map V.int) (ns.map PyData.int)
  | [] => .nil
  | n :: t => .cons (.int n) (ints_dpAll t)
theorem IntsAt.dp {K : PySem.W.Frag} {H : Hp} {a : Addr} {ns : List Int} (h : IntsAt H a ns) : Dp K H (.ref a) (intsD ns) := .lst h.sq (ints_dpAll ns)
theorem intsD_lay : ∀ ns : List Int, PyData.canLayAll0 (ns.map PyData.int) = true
  | [] => by simp [PyData.canLayAll0]
  | p :: r => by simp [PyData.canLayAll0, PyData.canLay0, intsD_lay r]
theorem intsD_dep : ∀ ns : List Int, PyData.depthAll (ns.map PyData.int) ≤ 3
  | [] => by simp [PyData.depthAll]
  | p :: r => by
    have := intsD_dep r
    simp only [List.map_cons, PyData.depthAll, PyData.depth]
    omega
theorem intsD_lay0 (ns : List Int) : (intsD ns).canLay0 = true := by
  unfold intsD; simp only [PyData.canLay0]; exact intsD_lay ns
theorem intsD_shaped (ns : List Int) : SeqAt.shaped (intsD ns) = true := by
  have h1 := intsD_dep ns
  have h2 : PyData.depth (intsD ns) ≤ 64 := by unfold intsD; simp only [PyData.depth]; omega
  unfold SeqAt.shaped
  rw [Bool.and_eq_true]
  exact ⟨intsD_lay0 ns, decide_eq_true h2⟩
theorem g_neInts {a b : Addr} {ns : List Int} (ha : IntsAt H a ns) (hb : IntsAt H b ns) (q : Q (.bl false) H) : rNeD K (.ref a) (.ref b) H Q :=
  ⟨_, _, ha.dp, hb.dp, intsD_shaped _, intsD_shaped _, by rw [SeqAt.eqv_refl _ (intsD_lay0 _)]; exact q⟩
theorem g_eqInts {a b : Addr} {ns : List Int} (ha : IntsAt H a ns) (hb : IntsAt H b ns) (q : Q (.bl true) H) : rEqD K (.ref a) (.ref b) H Q :=
  ⟨_, _, ha.dp, hb.dp, intsD_shaped _, intsD_shaped _, by rw [SeqAt.eqv_refl _ (intsD_lay0 _)]; exact q⟩
theorem g_listOfI {p : Addr} {ns : List Int} (h : IntsAt H p ns) (q : ∀ l H', H l = none → Same H H' → IntsAt H' l ns → Q (.ref l) H') : rListOf K [.ref p] H Q :=
  ⟨p, _, rfl, .inl h.sq, fun l hl => q l _ hl (same_new hl) upd_same⟩
def StrsAt (H : Hp) (a : Addr) (ws : List Str) : Prop := H a = some (.lst (ws.map V.str))
theorem strs_at {ns : List Str} {i : Nat} {v : V} (e : (ns.map V.str)[i]? = some v) : ∃ n, ns[i]? = some n ∧ v = .str n := by
  rw [List.getElem?_map] at e
  cases h : ns[i]? with
  | none => rw [h] at e; cases e
  | some n => rw [h] at e; exact ⟨n, rfl, (Option.some.inj e).symm⟩
theorem g_newS {ns : List Str} {xs : List V} (e : xs = ns.map V.str) (hl : ns.length ≤ 100) (h : ∀ p H', H p = none → Same H H' → StrsAt H' p ns → Q (.ref p) H') : NewL xs H Q := by
  subst e
  exact g_newL (by rw [List.length_map]; exact hl) h
/-! ## promises of the law's helpers about plans -/
def sp_days_by : Sp := fun vs H Q _ => ∃ c a m w, vs = [.int c, .int a, .int m, .int w] ∧ 0 ≤ m ∧ m ≤ 1000 ∧ 0 < w ∧ ∀ l H', H l = none → Same H H' → IntsAt H' l (daysBy c a m w) → Q (.ref l) H'
theorem g_days_by {c a m w : Int} (h1 : 0 ≤ m) (h2 : m ≤ 1000) (h3 : 0 < w) (q : ∀ l H', H l = none → Same H H' → IntsAt H' l (daysBy c a m w) → Q (.ref l) H') : sp_days_by ([.int c, .int a, .int m, .int w] ++ []) H Q E := ⟨c, a, m, w, rfl, h1, h2, h3, q⟩
def sp_loan_by (K : PySem.W.Frag) (C : Addr) : Sp := fun vs H Q _ => ∃ (a : Addr) (ns : List Int) (lr : Addr) (row : Row), vs = [.ref a, .ref lr] ∧ SqL K H a (ns.map V.int) ∧ RowAt H lr row ∧ RowOk row ∧ lastDay row ≤ 90000 ∧ row.length ≤ 60 ∧
  ∀ t x s q l b d r row' H', H x = none → Same H H' → H' t = some (.tup [.ref x, .ref s, .ref q]) → H' s = some (.tup [.int l, .int b, .int d]) → RowAt H' q row' → LoanAt C H' x l b d r row' → NumOk l b d → d ≤ 3000 → RowOk row' → lastDay row' ≤ 95000 → row'.length ≤ 60 → row.length ≤ row'.length → Q (.ref t) H'
def sp_behind : Sp := fun vs H Q _ => ∃ t lr a p l b d row days, vs = [.ref t, .ref lr, .ref a, .int p] ∧ H t = some (.tup [.int l, .int b, .int d]) ∧ RowAt H lr row ∧ RowOk row ∧ row.length ≤ 100 ∧ NumOk l b d ∧ IntsAt H a days ∧ daysOk d days = true ∧ 0 ≤ p ∧
  ∀ o H', Same H H' → H' o = some (.tup [.int (Run.plan row p ⟨0, l, b, d⟩ days).p, .int (owedEnd row p l b d days)]) → Q (.ref o) H'
theorem g_behind {t lr a : Addr} {p l b d : Int} {row : Row} {days : List Int} (h1 : H t = some (.tup [.int l, .int b, .int d])) (h2 : RowAt H lr row) (h3 : RowOk row) (h4 : row.length ≤ 100) (h5 : NumOk l b d) (h6 : IntsAt H a days) (h7 : daysOk d days = true) (h8 : 0 ≤ p)
  (q : ∀ o H', Same H H' → H' o = some (.tup [.int (Run.plan row p ⟨0, l, b, d⟩ days).p, .int (owedEnd row p l b d days)]) → Q (.ref o) H') : sp_behind ([.ref t, .ref lr, .ref a, .int p] ++ []) H Q E := ⟨t, lr, a, p, l, b, d, row, days, rfl, h1, h2, h3, h4, h5, h6, h7, h8, q⟩
/-- a loan that stands, its numbers in a tuple, its row in a list of the law's own -/
structure St9 (C : Addr) (H : Hp) (x t q : Addr) (l b d : Int) (r : Addr) (row : Row) : Prop where
  L : LoanAt C H x l b d r row
  t : H t = some (.tup [.int l, .int b, .int d])
  q : RowAt H q row
  n : NumOk l b d
  ok : RowOk row
  last : lastDay row ≤ 100000
  len : row.length ≤ 60
theorem St9.same {C : Addr} {H H' : Hp} {x t q : Addr} {l b d : Int} {r : Addr} {row : Row} (h : St9 C H x t q l b d r row) (s : Same H H') : St9 C H' x t q l b d r row := ⟨h.L.same s, s _ _ h.t, h.q.same s, h.n, h.ok, h.last, h.len⟩
theorem St9.good {C : Addr} {H : Hp} {x t q : Addr} {l b d : Int} {r : Addr} {row : Row} (h : St9 C H x t q l b d r row) : GoodL C H x l b d r row := ⟨h.L, h.n, h.ok, h.last, by have := h.len; omega⟩
def sp_days_good : Sp := fun vs H Q _ => ∃ a at' days, vs = [.ref a, .int at'] ∧ IntsAt H a days ∧ Q (.bl (daysOk at' days)) H
def sp_turned : Sp := fun vs H Q _ => ∃ a at' c days, vs = [.ref a, .int at', .int c] ∧ IntsAt H a days ∧ days.length ≤ 500 ∧ ∀ l H' days', Same H H' → IntsAt H' l days' → days'.length = days.length → Q (.ref l) H'
def dueW (w : Str) (days : List Int) (d p e c o : Int) : Str :=
  if daysOk d days = false ∨ (days = [] ∧ w ≠ "plan") then "day" else if w ≠ "least" ∧ p < 1 then "pay" else if w = "saved" ∧ ¬ (d ≤ e ∧ e ≤ days.headD 0) then "day" else if w = "saved" ∧ ¬ (1 ≤ c ∧ c ≤ o) then "pay" else ""
def IsWord (w : Str) : Prop := w = "plan" ∨ w = "least" ∨ w = "cost" ∨ w = "saved"
theorem dueW_day {w : Str} {days : List Int} {d p e c o : Int} (h : daysOk d days = false ∨ (days = [] ∧ w ≠ "plan")) : dueW w days d p e c o = "day" := if_pos h
theorem dueW_pay {w : Str} {days : List Int} {d p e c o : Int} (h1 : ¬ (daysOk d days = false ∨ (days = [] ∧ w ≠ "plan"))) (h : w ≠ "least" ∧ p < 1) : dueW w days d p e c o = "pay" := by unfold dueW; rw [if_neg h1, if_pos h]
theorem dueW_day2 {w : Str} {days : List Int} {d p e c o : Int} (h1 : ¬ (daysOk d days = false ∨ (days = [] ∧ w ≠ "plan"))) (h2 : ¬ (w ≠ "least" ∧ p < 1)) (h : w = "saved" ∧ ¬ (d ≤ e ∧ e ≤ days.headD 0)) : dueW w days d p e c o = "day" := by unfold dueW; rw [if_neg h1, if_neg h2, if_pos h]
theorem dueW_pay2 {w : Str} {days : List Int} {d p e c o : Int} (h1 : ¬ (daysOk d days = false ∨ (days = [] ∧ w ≠ "plan"))) (h2 : ¬ (w ≠ "least" ∧ p < 1)) (h3 : ¬ (w = "saved" ∧ ¬ (d ≤ e ∧ e ≤ days.headD 0))) (h : w = "saved" ∧ ¬ (1 ≤ c ∧ c ≤ o)) : dueW w days d p e c o = "pay" := by unfold dueW; rw [if_neg h1, if_neg h2, if_neg h3, if_pos h]
theorem dueW_ok {w : Str} {days : List Int} {d p e c o : Int} (h1 : ¬ (daysOk d days = false ∨ (days = [] ∧ w ≠ "plan"))) (h2 : ¬ (w ≠ "least" ∧ p < 1)) (h3 : ¬ (w = "saved" ∧ ¬ (d ≤ e ∧ e ≤ days.headD 0))) (h4 : ¬ (w = "saved" ∧ ¬ (1 ≤ c ∧ c ≤ o))) : dueW w days d p e c o = "" := by unfold dueW; rw [if_neg h1, if_neg h2, if_neg h3, if_neg h4]
def sp_due12 : Sp := fun vs H Q _ => ∃ w a d p t o e c days, vs = [.str w, .ref a, .int d, .int p, .ref t, .int o] ∧ IsWord w ∧ IntsAt H a days ∧ H t = some (.tup [.int e, .int c]) ∧ Q (.str (dueW w days d p e c o)) H
def sp_asked (C : Addr) : Sp := fun vs H Q _ => ∃ w x a p t o e c l b d r row days, vs = [.str w, .ref x, .ref a, .int p, .ref t] ∧ IsWord w ∧ GoodL C H x l b d r row ∧ IntsAt H a days ∧ days.length ≤ 1000 ∧ H t = some (.tup [.int e, .int c]) ∧ (d ≤ e → e ≤ 100000 → o = owedF l (thenF l b d row e)) ∧ ∀ H', Same H H' → Q (.str (dueW w days d p e c o)) H'
theorem dueW_good {w : Str} {days : List Int} {d p e c o : Int} (h1 : daysOk d days = true) (h2 : days ≠ []) (h3 : 1 ≤ p) (h4 : w ≠ "saved") : dueW w days d p e c o = "" :=
  dueW_ok (by rw [h1]; exact fun h => h.elim (fun h => nomatch h) (fun h => h2 h.1)) (fun h => by omega) (fun h => h4 h.1) (fun h => h4 h.1)
theorem dueW_now {days : List Int} {d p now : Int} (h1 : daysOk d days = true) (h2 : days ≠ []) (h3 : 1 ≤ p) (h4 : d ≤ days.headD 0) (h5 : 0 ≤ now) : dueW "saved" days d p d (max 1 now) now = repS "pay" (if decide (now = 0) = true then 1 else 0) := by
  have k1 : ¬ (daysOk d days = false ∨ (days = [] ∧ ("saved" : Str) ≠ "plan")) := by rw [h1]; exact fun h => h.elim (fun h => nomatch h) (fun h => h2 h.1)
  have k2 : ¬ (("saved" : Str) ≠ "least" ∧ p < 1) := fun h => by omega
  have k3 : ¬ (("saved" : Str) = "saved" ∧ ¬ (d ≤ d ∧ d ≤ days.headD 0)) := fun h => h.2 ⟨Int.le_refl _, h4⟩
  by_cases z : now = 0
  · rw [dueW_pay2 k1 k2 k3 ⟨rfl, by omega⟩, if_pos (decide_eq_true z)]
    rfl
  · rw [dueW_ok k1 k2 k3 (fun h => h.2 (by omega)), if_neg (fun h => z (of_decide_eq_true h))]
    rfl
def sp_good_then (C : Addr) : Sp := fun vs H Q _ => ∃ x t q f l b d r row, vs = [.ref x, .ref t, .ref q, .int f] ∧ St9 C H x t q l b d r row ∧ d ≤ f ∧ f ≤ 90000 ∧ ∀ H', Q (.bl true) H'
end
end Lp
namespace Lp
open PySem L2
/-! ## a plan's list as data -/
def fiveD (r : P5) : PyData := .tuple [.int r.1, .int r.2.1, .int r.2.2.1, .int r.2.2.2.1, .int r.2.2.2.2]
def planD (rows : List P5) : PyData := .list (rows.map fiveD)
theorem FivesAt.dp {K : PySem.W.Frag} {H : Hp} : ∀ {xs : List V} {rows : List P5}, FivesAt H xs rows → DpAll K H xs (rows.map fiveD)
  | _, _, .nil => .nil
  | _, _, .cons h t => .cons (.tup (SqT.of h) (.cons (.int _) (.cons (.int _) (.cons (.int _) (.cons (.int _) (.cons (.int _) .nil)))))) t.dp
theorem PlanAt.dp {K : PySem.W.Frag} {H : Hp} {l : Addr} {rows : List P5} (h : PlanAt H l rows) : Dp K H (.ref l) (planD rows) := by
  obtain ⟨xs, h1, h2⟩ := h
  exact .lst (SqL.of h1) h2.dp
theorem planD_lay : ∀ rows : List P5, PyData.canLayAll0 (rows.map fiveD) = true
  | [] => by simp [PyData.canLayAll0]
  | p :: r => by simp [PyData.canLayAll0, PyData.canLay0, fiveD, planD_lay r]
theorem planD_dep : ∀ rows : List P5, PyData.depthAll (rows.map fiveD) ≤ 3
  | [] => by simp [PyData.depthAll]
  | p :: r => by
    have := planD_dep r
    simp only [List.map_cons, fiveD, PyData.depthAll, PyData.depth]
    omega
theorem planD_lay0 (rows : List P5) : (planD rows).canLay0 = true := by
  unfold planD; simp only [PyData.canLay0]; exact planD_lay rows
theorem planD_shaped (rows : List P5) : SeqAt.shaped (planD rows) = true := by
  have h1 := planD_dep rows
  have h2 : PyData.depth (planD rows) ≤ 64 := by unfold planD; simp only [PyData.depth]; omega
  unfold SeqAt.shaped
  rw [Bool.and_eq_true]
  exact ⟨planD_lay0 rows, decide_eq_true h2⟩
section
variable {σ : L2.St} {H : Hp} {Q : VK} {E : XK} {D : Ends} {K : PySem.W.Frag} {te ta tb : TE} {tt tu : TT} {t u w : TS}
theorem g_nePlan {a b : Addr} {rows : List P5} (ha : PlanAt H a rows) (hb : PlanAt H b rows) (q : Q (.bl false) H) : rNeD K (.ref a) (.ref b) H Q :=
  ⟨_, _, ha.dp, hb.dp, planD_shaped _, planD_shaped _, by rw [SeqAt.eqv_refl _ (planD_lay0 _)]; exact q⟩
theorem g_listOfP {p : Addr} {rows : List P5} (h : PlanAt H p rows) (q : ∀ l H', H l = none → Same H H' → PlanAt H' l rows → Q (.ref l) H') : rListOf K [.ref p] H Q := by
  obtain ⟨xs, h1, h2⟩ := h
  exact ⟨p, xs, rfl, .inl (SqL.of h1), fun l hl => q l _ hl (same_new hl) ⟨xs, upd_same, h2.mono fun q ps e => same_new hl _ _ e⟩⟩
theorem g_lenP {p : Addr} {rows : List P5} {n : Int} (h : PlanAt H p rows) (e : (rows.length : Int) = n) (q : Q (.int n) H) : rLen K [.ref p] H Q := by
  obtain ⟨xs, h1, h2⟩ := h
  exact g_len (SqL.of h1) (by rw [h2.len]; exact e) q
theorem g_isPlan {p : Addr} {rows : List P5} (h : PlanAt H p rows) (q : Q (.bl true) H) : rIsi K [.ref p, .ty "list"] H Q := by
  obtain ⟨xs, h1, h2⟩ := h
  exact g_isLst h1 q
theorem FivesAt.get {H : Hp} : ∀ {xs : List V} {rows : List P5} {i : Nat} {r : P5}, FivesAt H xs rows → rows[i]? = some r → ∃ q, xs[i]? = some (.ref q) ∧ H q = some (.tup [.int r.1, .int r.2.1, .int r.2.2.1, .int r.2.2.2.1, .int r.2.2.2.2])
  | _, _, i, _, .nil, e => by simp at e
  | _, _, 0, _, .cons h t, e => by simp at e; subst e; exact ⟨_, rfl, h⟩
  | _, _, i + 1, _, .cons h t, e => by
    obtain ⟨q, h1, h2⟩ := t.get (i := i) (by simpa using e)
    exact ⟨q, by simpa using h1, h2⟩
theorem g_ixP {p : Addr} {rows : List P5} {i : Int} {j : Nat} {r : P5} (h : PlanAt H p rows) (ei : i = (j : Int)) (e : rows[j]? = some r) (q : ∀ t, H t = some (.tup [.int r.1, .int r.2.1, .int r.2.2.1, .int r.2.2.2.1, .int r.2.2.2.2]) → Q (.ref t) H) : rIxL K (.ref p) (.int i) H Q := by
  obtain ⟨xs, h1, h2⟩ := h
  obtain ⟨t, e1, e2⟩ := h2.get e
  exact g_ixL (SqL.of h1) ei e1 (q t e2)
theorem g_unpT4 {i1 i2 i3 i4 : Nat} {p : Addr} {a b c d : V} {R : L2.St → Hp → Prop} (h : H p = some (.tup [a, b, c, d])) (q : R ((((σ.set i1 (some a)).set i2 (some b)).set i3 (some c)).set i4 (some d)) H) :
    gTup K 4 (gCons (gName i1) (gCons (gName i2) (gCons (gName i3) (gCons (gName i4) gNil)))) (.ref p) σ H R := ⟨p, _, rfl, SqT.of h, rfl, a, _, rfl, b, _, rfl, c, _, rfl, d, _, rfl, rfl, q⟩
/-! ## promises -/
def sp_done_more (C : Addr) : Sp := fun vs H Q _ => ∃ x ts lq c l b d r row, vs = [.ref x, .ref ts, .ref lq, .int c] ∧ St9 C H x ts lq l b d r row ∧ lastDay row ≤ 95000 ∧ d ≤ 90000 ∧
  ∀ t ts' lq' l' b' r' row' H', But x H H' → H' t = some (.tup [.ref ts', .ref lq']) → St9 C H' x ts' lq' l' b' d r' row' → Q (.ref t) H'
def sp_row_of : Sp := fun vs H Q _ => ∃ c, vs = [.int c] ∧ ∀ l row H', Same H H' → RowAt H' l row → RowOk row → lastDay row ≤ 90000 → row.length ≤ 60 → Q (.ref l) H'
theorem g_row_of {c : Int} (q : ∀ l row H', Same H H' → RowAt H' l row → RowOk row → lastDay row ≤ 90000 → row.length ≤ 60 → Q (.ref l) H') : sp_row_of ([.int c] ++ []) H Q E := ⟨c, rfl, q⟩
def sp_dues (K : PySem.W.Frag) : Sp := fun vs H Q _ => ∃ (a : Addr) (ns : List Int) (at' : Int), vs = [.ref a, .int at'] ∧ SqL K H a (ns.map V.int) ∧ 0 ≤ at' ∧ at' ≤ 3000 ∧ ∀ l days H', Same H H' → IntsAt H' l days → daysOk at' days = true → days.length ≤ 401 → Q (.ref l) H'
def sp_dues1 (K : PySem.W.Frag) : Sp := fun vs H Q _ => ∃ (a : Addr) (ns : List Int) (at' : Int), vs = [.ref a, .int at'] ∧ SqL K H a (ns.map V.int) ∧ 0 ≤ at' ∧ at' ≤ 3000 ∧ ∀ l days H', Same H H' → IntsAt H' l days → daysOk at' days = true → days ≠ [] → days.length ≤ 401 → Q (.ref l) H'
def sp_dues2 (K : PySem.W.Frag) : Sp := fun vs H Q _ => ∃ (a : Addr) (ns : List Int) (at' : Int) (few : Bool), vs = [.ref a, .int at', .bl few] ∧ SqL K H a (ns.map V.int) ∧ 0 ≤ at' ∧ at' ≤ 3000 ∧ ∀ l days H', Same H H' → IntsAt H' l days → daysOk at' days = true → days ≠ [] → days.length ≤ 401 → Q (.ref l) H'
def sp_part_by : Sp := fun vs H Q _ => ∃ c o s, vs = [.int c, .int o, .int s] ∧ Builtin.Int.intBits c ≤ 1048576 ∧ 0 ≤ s ∧ ∀ p H', Same H H' → 1 ≤ p → Q (.int p) H'
def sp_five : Sp := fun vs H Q _ => ∃ t u a b c d e, vs = [.ref t, .ref u] ∧ H t = some (.tup [.int a, .int b, .int c, .int d, .int e]) ∧ H u = some (.tup [.int a, .int b, .int c, .int d, .int e]) ∧ Q (.bl true) H
theorem g_five {t u : Addr} {a b c d e : Int} (h1 : H t = some (.tup [.int a, .int b, .int c, .int d, .int e])) (h2 : H u = some (.tup [.int a, .int b, .int c, .int d, .int e])) (q : Q (.bl true) H) : sp_five ([.ref t, .ref u] ++ []) H Q E := ⟨t, u, a, b, c, d, e, rfl, h1, h2, q⟩
def sp_gone : Sp := fun vs H Q _ => ∃ o ts lq a p l b d row days, vs = [.ref o, .ref ts, .ref lq, .ref a, .int p] ∧ H ts = some (.tup [.int l, .int b, .int d]) ∧ RowAt H lq row ∧ RowOk row ∧ row.length ≤ 100 ∧ NumOk l b d ∧ IntsAt H a days ∧ days.length ≤ 1000 ∧ daysOk d days = true ∧ 1 ≤ p ∧ PlanAt H o (planRows row p l b d days) ∧ ∀ H', Same H H' → Q (.bl true) H'
end
end Lp
namespace Lp
open PySem L2
/-- a plan begins on any day up to the first due day -/
theorem cost_from {row : Row} {p l b d e D : Int} {t : List Int} (h1 : d ≤ e) (h2 : e ≤ D) : costF row p l b d (D :: t) = costF row p l (thenF l b d row e) e (D :: t) := by
  have h : thenF l (thenF l b d row e) e row D = thenF l b d row D := by
    unfold thenF
    rw [grownF_split row h1 h2, Int.mul_add]
    omega
  unfold costF
  rw [run_cons, run_cons, run_due, run_due, h]
theorem saved_nonneg {row : Row} (hr : RatesOk row) {p c l b d e D : Int} {t : List Int} (hp : 0 ≤ p) (n : NumOk l b d) (hd : daysOk d (D :: t) = true) (h1 : d ≤ e) (h2 : e ≤ D) (c1 : 0 ≤ c) (c2 : c ≤ owedF l (thenF l b d row e)) : 0 ≤ savedF row p l b d (D :: t) e c := by
  have hD := daysOk_le hd D (by simp)
  have nB := n.walk hr h1 (by omega)
  have := early_out hr hp nB (daysOk_head hd h2) c1 c2
  unfold savedF
  rw [cost_from h1 h2]
  omega
section
variable {σ : L2.St} {H : Hp} {Q : VK} {E : XK} {D : Ends} {K : PySem.W.Frag} {te ta tb : TE} {tt tu : TT} {t u w : TS}
def sp_without (C : Addr) : Sp := fun vs H Q _ => ∃ x l b d r row, vs = [.ref x] ∧ GoodL C H x l b d r row ∧ ∀ H', Q (.bl true) H'
def sp_least_l : Sp := fun vs H Q _ => ∃ v ts lq a l b d row days, vs = [.int v, .ref ts, .ref lq, .ref a] ∧ H ts = some (.tup [.int l, .int b, .int d]) ∧ RowAt H lq row ∧ RowOk row ∧ row.length ≤ 100 ∧ NumOk l b d ∧ IntsAt H a days ∧ daysOk d days = true ∧ LeastF row l b d days v ∧ ∀ H', Same H H' → Q (.bl true) H'
def sp_cost_l : Sp := fun vs H Q _ => ∃ ts lq a p l b d row days, vs = [.ref ts, .ref lq, .ref a, .int p] ∧ H ts = some (.tup [.int l, .int b, .int d]) ∧ RowAt H lq row ∧ RowOk row ∧ row.length ≤ 100 ∧ NumOk l b d ∧ IntsAt H a days ∧ daysOk d days = true ∧ 0 ≤ p ∧ ∀ H', Same H H' → Q (.int (costF row p l b d days)) H'
theorem g_cost_l {ts lq a : Addr} {p l b d : Int} {row : Row} {days : List Int} (h1 : H ts = some (.tup [.int l, .int b, .int d])) (h2 : RowAt H lq row) (h3 : RowOk row) (h4 : row.length ≤ 100) (h5 : NumOk l b d) (h6 : IntsAt H a days) (h7 : daysOk d days = true) (h8 : 0 ≤ p)
  (q : ∀ H', Same H H' → Q (.int (costF row p l b d days)) H') : sp_cost_l ([.ref ts, .ref lq, .ref a, .int p] ++ []) H Q E := ⟨ts, lq, a, p, l, b, d, row, days, rfl, h1, h2, h3, h4, h5, h6, h7, h8, q⟩
def sp_part_of : Sp := fun vs H Q _ => ∃ c s, vs = [.int c, .int s] ∧ Builtin.Int.intBits c ≤ 1048576 ∧ 0 ≤ s ∧ ∀ p H', Same H H' → 1 ≤ p → Q (.int p) H'
def sp_saved_again (C : Addr) : Sp := fun vs H Q _ => ∃ x ts lq a p l b d r row days, vs = [.ref x, .ref ts, .ref lq, .ref a, .int p, .int (costF row p l b d days)] ∧ St9 C H x ts lq l b d r row ∧ IntsAt H a days ∧ daysOk d days = true ∧ days ≠ [] ∧ days.length ≤ 1000 ∧ 1 ≤ p ∧ ∀ H', Same H H' → Q (.bl true) H'
end
end Lp
namespace Lp
open PySem L2
def topS (i : Nat) : Stmt := PySem.Challenge.pw_loanplan_k11_whole_early_pays.main.body.getD i (.Pass ⟨0, 0, 0, 0⟩)
abbrev s_checked : Stmt := topS 9
abbrev s_check_day : Stmt := topS 10
abbrev s_check_pair : Stmt := topS 11
abbrev s_grown : Stmt := topS 12
abbrev s_cents_owed : Stmt := topS 16
abbrev s_paid_down : Stmt := topS 17
abbrev s_Loan_init : Stmt := inClass (topS 18) 0
abbrev s_Loan_stand : Stmt := inClass (topS 18) 1
abbrev s_Loan_owed : Stmt := inClass (topS 18) 2
abbrev s_Loan_pay : Stmt := inClass (topS 18) 3
abbrev s_Loan_change : Stmt := inClass (topS 18) 4
abbrev s_Loan_twin : Stmt := inClass (topS 18) 5
abbrev s_cost : Stmt := topS 20
abbrev s_saved : Stmt := topS 21
abbrev s_check_days : Stmt := topS 22
abbrev s_check_some_days : Stmt := topS 23
abbrev s_check_part : Stmt := topS 24
abbrev s_pay_parts : Stmt := topS 25
abbrev s_cell_at : Stmt := topS 27
abbrev s_whole : Stmt := topS 28
abbrev s_mixed : Stmt := topS 29
abbrev s_rate_by : Stmt := topS 30
abbrev s_row_by : Stmt := topS 31
abbrev s_sum_by : Stmt := topS 32
abbrev s_amount_by : Stmt := topS 33
abbrev s_owed : Stmt := topS 34
abbrev s_parts : Stmt := topS 35
abbrev s_days_by : Stmt := topS 36
abbrev s_behind : Stmt := topS 37
abbrev s_at_by : Stmt := topS 38
abbrev s_made : Stmt := topS 39
abbrev s_loan_by : Stmt := topS 40
abbrev s_l_cost : Stmt := topS 41
abbrev s_done_more : Stmt := topS 42
abbrev s_row_of : Stmt := topS 43
abbrev s_dues : Stmt := topS 44
abbrev s_part_of : Stmt := topS 45
abbrev s_saved_again : Stmt := topS 46
abbrev s_law : Stmt := topS 47

structure Ad where
  a_checked : Addr
  d_checked : FuncData
  a_check_day : Addr
  d_check_day : FuncData
  a_check_pair : Addr
  d_check_pair : FuncData
  a_grown : Addr
  d_grown : FuncData
  a_cents_owed : Addr
  d_cents_owed : FuncData
  a_paid_down : Addr
  d_paid_down : FuncData
  a_Loan_init : Addr
  d_Loan_init : FuncData
  a_Loan_stand : Addr
  d_Loan_stand : FuncData
  a_Loan_owed : Addr
  d_Loan_owed : FuncData
  a_Loan_pay : Addr
  d_Loan_pay : FuncData
  a_Loan_change : Addr
  d_Loan_change : FuncData
  a_Loan_twin : Addr
  d_Loan_twin : FuncData
  a_cost : Addr
  d_cost : FuncData
  a_saved : Addr
  d_saved : FuncData
  a_check_days : Addr
  d_check_days : FuncData
  a_check_some_days : Addr
  d_check_some_days : FuncData
  a_check_part : Addr
  d_check_part : FuncData
  a_pay_parts : Addr
  d_pay_parts : FuncData
  a_cell_at : Addr
  d_cell_at : FuncData
  a_whole : Addr
  d_whole : FuncData
  a_mixed : Addr
  d_mixed : FuncData
  a_rate_by : Addr
  d_rate_by : FuncData
  a_row_by : Addr
  d_row_by : FuncData
  a_sum_by : Addr
  d_sum_by : FuncData
  a_amount_by : Addr
  d_amount_by : FuncData
  a_owed : Addr
  d_owed : FuncData
  a_parts : Addr
  d_parts : FuncData
  a_days_by : Addr
  d_days_by : FuncData
  a_behind : Addr
  d_behind : FuncData
  a_at_by : Addr
  d_at_by : FuncData
  a_made : Addr
  d_made : FuncData
  a_loan_by : Addr
  d_loan_by : FuncData
  a_l_cost : Addr
  d_l_cost : FuncData
  a_done_more : Addr
  d_done_more : FuncData
  a_row_of : Addr
  d_row_of : FuncData
  a_dues : Addr
  d_dues : FuncData
  a_part_of : Addr
  d_part_of : FuncData
  a_saved_again : Addr
  d_saved_again : FuncData
  a_law : Addr
  d_law : FuncData
  c_LoanError : Addr
  c_BadAmount : Addr
  c_BadRate : Addr
  c_BadDay : Addr
  c_BadPay : Addr
  c_Loan : Addr
  t_LAST_DAY : Tok
  t_HIGHEST_RATE : Tok
  t_HIGHEST_AMOUNT : Tok
  t_MILLION : Tok
structure Txt (K : PySem.W.Frag) (mg : Str → Option Value) (A : Ad) : Prop where
  F_checked : Fun K "checked" "checked" s_checked A.a_checked A.d_checked
  B_checked : Binds K A.d_checked ["rates"] []
  g_checked : mg "checked" = some (.ref A.a_checked)
  F_check_day : Fun K "check_day" "check_day" s_check_day A.a_check_day A.d_check_day
  B_check_day : Binds K A.d_check_day ["day", "first"] []
  g_check_day : mg "check_day" = some (.ref A.a_check_day)
  F_check_pair : Fun K "check_pair" "check_pair" s_check_pair A.a_check_pair A.d_check_pair
  B_check_pair : Binds K A.d_check_pair ["day", "rate", "ahead"] []
  g_check_pair : mg "check_pair" = some (.ref A.a_check_pair)
  F_grown : Fun K "grown" "grown" s_grown A.a_grown A.d_grown
  B_grown : Binds K A.d_grown ["rates", "start", "end"] []
  g_grown : mg "grown" = some (.ref A.a_grown)
  F_cents_owed : Fun K "cents_owed" "cents_owed" s_cents_owed A.a_cents_owed A.d_cents_owed
  B_cents_owed : Binds K A.d_cents_owed ["left", "begun"] []
  g_cents_owed : mg "cents_owed" = some (.ref A.a_cents_owed)
  F_paid_down : Fun K "paid_down" "paid_down" s_paid_down A.a_paid_down A.d_paid_down
  B_paid_down : Binds K A.d_paid_down ["left", "begun", "cents"] []
  g_paid_down : mg "paid_down" = some (.ref A.a_paid_down)
  F_Loan_init : Fun K "__init__" "Loan.__init__" s_Loan_init A.a_Loan_init A.d_Loan_init
  B_Loan_init : Binds K A.d_Loan_init ["self", "amount", "rates"] []
  F_Loan_stand : Fun K "stand" "Loan.stand" s_Loan_stand A.a_Loan_stand A.d_Loan_stand
  B_Loan_stand : Binds K A.d_Loan_stand ["self", "day"] []
  F_Loan_owed : Fun K "owed" "Loan.owed" s_Loan_owed A.a_Loan_owed A.d_Loan_owed
  B_Loan_owed : Binds K A.d_Loan_owed ["self", "day"] []
  F_Loan_pay : Fun K "pay" "Loan.pay" s_Loan_pay A.a_Loan_pay A.d_Loan_pay
  B_Loan_pay : Binds K A.d_Loan_pay ["self", "day", "cents"] []
  F_Loan_change : Fun K "change" "Loan.change" s_Loan_change A.a_Loan_change A.d_Loan_change
  B_Loan_change : Binds K A.d_Loan_change ["self", "day", "rate"] []
  F_Loan_twin : Fun K "twin" "Loan.twin" s_Loan_twin A.a_Loan_twin A.d_Loan_twin
  B_Loan_twin : Binds K A.d_Loan_twin ["self"] []
  F_cost : Fun K "cost" "cost" s_cost A.a_cost A.d_cost
  B_cost : Binds K A.d_cost ["loan", "days", "part"] []
  g_cost : mg "cost" = some (.ref A.a_cost)
  F_saved : Fun K "saved" "saved" s_saved A.a_saved A.d_saved
  B_saved : Binds K A.d_saved ["loan", "days", "part", "day", "cents"] []
  g_saved : mg "saved" = some (.ref A.a_saved)
  F_check_days : Fun K "check_days" "check_days" s_check_days A.a_check_days A.d_check_days
  B_check_days : Binds K A.d_check_days ["loan", "days"] []
  g_check_days : mg "check_days" = some (.ref A.a_check_days)
  F_check_some_days : Fun K "check_some_days" "check_some_days" s_check_some_days A.a_check_some_days A.d_check_some_days
  B_check_some_days : Binds K A.d_check_some_days ["loan", "days"] []
  g_check_some_days : mg "check_some_days" = some (.ref A.a_check_some_days)
  F_check_part : Fun K "check_part" "check_part" s_check_part A.a_check_part A.d_check_part
  B_check_part : Binds K A.d_check_part ["part"] []
  g_check_part : mg "check_part" = some (.ref A.a_check_part)
  F_pay_parts : Fun K "pay_parts" "pay_parts" s_pay_parts A.a_pay_parts A.d_pay_parts
  B_pay_parts : Binds K A.d_pay_parts ["loan", "days", "part"] []
  g_pay_parts : mg "pay_parts" = some (.ref A.a_pay_parts)
  F_cell_at : Fun K "_law_cell_at" "_law_cell_at" s_cell_at A.a_cell_at A.d_cell_at
  B_cell_at : Binds K A.d_cell_at ["_law_script", "_law_k"] []
  g_cell_at : mg "_law_cell_at" = some (.ref A.a_cell_at)
  F_whole : Fun K "_law_whole" "_law_whole" s_whole A.a_whole A.d_whole
  B_whole : Binds K A.d_whole ["_law_found"] []
  g_whole : mg "_law_whole" = some (.ref A.a_whole)
  F_mixed : Fun K "_law_mixed" "_law_mixed" s_mixed A.a_mixed A.d_mixed
  B_mixed : Binds K A.d_mixed ["_law_cell", "_law_many"] []
  g_mixed : mg "_law_mixed" = some (.ref A.a_mixed)
  F_rate_by : Fun K "_law_rate_by" "_law_rate_by" s_rate_by A.a_rate_by A.d_rate_by
  B_rate_by : Binds K A.d_rate_by ["_law_cell"] []
  g_rate_by : mg "_law_rate_by" = some (.ref A.a_rate_by)
  F_row_by : Fun K "_law_row_by" "_law_row_by" s_row_by A.a_row_by A.d_row_by
  B_row_by : Binds K A.d_row_by ["_law_cell", "_law_many", "_law_wide"] []
  g_row_by : mg "_law_row_by" = some (.ref A.a_row_by)
  F_sum_by : Fun K "_law_sum_by" "_law_sum_by" s_sum_by A.a_sum_by A.d_sum_by
  B_sum_by : Binds K A.d_sum_by ["_law_row", "_law_start", "_law_end"] []
  g_sum_by : mg "_law_sum_by" = some (.ref A.a_sum_by)
  F_amount_by : Fun K "_law_amount_by" "_law_amount_by" s_amount_by A.a_amount_by A.d_amount_by
  B_amount_by : Binds K A.d_amount_by ["_law_cell"] []
  g_amount_by : mg "_law_amount_by" = some (.ref A.a_amount_by)
  F_owed : Fun K "_law_owed" "_law_owed" s_owed A.a_owed A.d_owed
  B_owed : Binds K A.d_owed ["_law_left", "_law_begun"] []
  g_owed : mg "_law_owed" = some (.ref A.a_owed)
  F_parts : Fun K "_law_parts" "_law_parts" s_parts A.a_parts A.d_parts
  B_parts : Binds K A.d_parts ["_law_left", "_law_begun", "_law_cents"] []
  g_parts : mg "_law_parts" = some (.ref A.a_parts)
  F_days_by : Fun K "_law_days_by" "_law_days_by" s_days_by A.a_days_by A.d_days_by
  B_days_by : Binds K A.d_days_by ["_law_cell", "_law_at", "_law_many", "_law_wide"] []
  g_days_by : mg "_law_days_by" = some (.ref A.a_days_by)
  F_behind : Fun K "_law_behind" "_law_behind" s_behind A.a_behind A.d_behind
  B_behind : Binds K A.d_behind ["_law_stood", "_law_row", "_law_days", "_law_part"] []
  g_behind : mg "_law_behind" = some (.ref A.a_behind)
  F_at_by : Fun K "_law_at_by" "_law_at_by" s_at_by A.a_at_by A.d_at_by
  B_at_by : Binds K A.d_at_by ["_law_cell"] []
  g_at_by : mg "_law_at_by" = some (.ref A.a_at_by)
  F_made : Fun K "_law_made" "_law_made" s_made A.a_made A.d_made
  B_made : Binds K A.d_made ["_law_amount", "_law_row", "_law_cell"] []
  g_made : mg "_law_made" = some (.ref A.a_made)
  F_loan_by : Fun K "_law_loan_by" "_law_loan_by" s_loan_by A.a_loan_by A.d_loan_by
  B_loan_by : Binds K A.d_loan_by ["_law_script", "_law_row"] []
  g_loan_by : mg "_law_loan_by" = some (.ref A.a_loan_by)
  F_l_cost : Fun K "_law_cost" "_law_cost" s_l_cost A.a_l_cost A.d_l_cost
  B_l_cost : Binds K A.d_l_cost ["_law_stood", "_law_row", "_law_days", "_law_part"] []
  g_l_cost : mg "_law_cost" = some (.ref A.a_l_cost)
  F_done_more : Fun K "_law_done_more" "_law_done_more" s_done_more A.a_done_more A.d_done_more
  B_done_more : Binds K A.d_done_more ["_law_loan", "_law_stood", "_law_row", "_law_cell"] []
  g_done_more : mg "_law_done_more" = some (.ref A.a_done_more)
  F_row_of : Fun K "_law_row_of" "_law_row_of" s_row_of A.a_row_of A.d_row_of
  B_row_of : Binds K A.d_row_of ["_law_cell"] []
  g_row_of : mg "_law_row_of" = some (.ref A.a_row_of)
  F_dues : Fun K "_law_dues" "_law_dues" s_dues A.a_dues A.d_dues
  B_dues : Binds K A.d_dues ["_law_script", "_law_at"] []
  g_dues : mg "_law_dues" = some (.ref A.a_dues)
  F_part_of : Fun K "_law_part_of" "_law_part_of" s_part_of A.a_part_of A.d_part_of
  B_part_of : Binds K A.d_part_of ["_law_ways", "_law_share"] []
  g_part_of : mg "_law_part_of" = some (.ref A.a_part_of)
  F_saved_again : Fun K "_law_saved_again" "_law_saved_again" s_saved_again A.a_saved_again A.d_saved_again
  B_saved_again : Binds K A.d_saved_again ["_law_loan", "_law_stood", "_law_row", "_law_days", "_law_part", "_law_due"] []
  g_saved_again : mg "_law_saved_again" = some (.ref A.a_saved_again)
  F_law : Fun K "law" "law" s_law A.a_law A.d_law
  B_law : Binds K A.d_law ["_law_script"] []
  g_law : mg "law" = some (.ref A.a_law)
  n_bool : mg "bool" = none
  n_int : mg "int" = none
  n_isinstance : mg "isinstance" = none
  n_len : mg "len" = none
  n_list : mg "list" = none
  n_max : mg "max" = none
  n_min : mg "min" = none
  n_range : mg "range" = none
  n_reversed : mg "reversed" = none
  n_sum : mg "sum" = none
  g_LAST_DAY : mg "LAST_DAY" = some (.int 100000 A.t_LAST_DAY)
  g_HIGHEST_RATE : mg "HIGHEST_RATE" = some (.int 100000 A.t_HIGHEST_RATE)
  g_HIGHEST_AMOUNT : mg "HIGHEST_AMOUNT" = some (.int 1000000000000 A.t_HIGHEST_AMOUNT)
  g_MILLION : mg "MILLION" = some (.int 1000000 A.t_MILLION)
  g_LoanError : mg "LoanError" = some (.ref A.c_LoanError)
  x_LoanError : PySem.W.excIn K A.c_LoanError [.type "ValueError", .type "Exception", .type "BaseException", .type "object"] "ValueError.__new__" = true
  k_LoanError : PySem.W.keepIn K (.ref A.c_LoanError) = true
  b_LoanError : PySem.W.subIn K (.ref A.c_LoanError) (.type "BaseException") = some true
  t_LoanError : PySem.W.typeIn K (.ref A.c_LoanError) = some (.type "type")
  h_LoanError : PySem.W.hasDictIn K A.c_LoanError = true
  g_BadAmount : mg "BadAmount" = some (.ref A.c_BadAmount)
  x_BadAmount : PySem.W.excIn K A.c_BadAmount [.type "ValueError", .type "Exception", .type "BaseException", .type "object"] "ValueError.__new__" = true
  k_BadAmount : PySem.W.keepIn K (.ref A.c_BadAmount) = true
  b_BadAmount : PySem.W.subIn K (.ref A.c_BadAmount) (.type "BaseException") = some true
  t_BadAmount : PySem.W.typeIn K (.ref A.c_BadAmount) = some (.type "type")
  h_BadAmount : PySem.W.hasDictIn K A.c_BadAmount = true
  g_BadRate : mg "BadRate" = some (.ref A.c_BadRate)
  x_BadRate : PySem.W.excIn K A.c_BadRate [.type "ValueError", .type "Exception", .type "BaseException", .type "object"] "ValueError.__new__" = true
  k_BadRate : PySem.W.keepIn K (.ref A.c_BadRate) = true
  b_BadRate : PySem.W.subIn K (.ref A.c_BadRate) (.type "BaseException") = some true
  t_BadRate : PySem.W.typeIn K (.ref A.c_BadRate) = some (.type "type")
  h_BadRate : PySem.W.hasDictIn K A.c_BadRate = true
  g_BadDay : mg "BadDay" = some (.ref A.c_BadDay)
  x_BadDay : PySem.W.excIn K A.c_BadDay [.type "ValueError", .type "Exception", .type "BaseException", .type "object"] "ValueError.__new__" = true
  k_BadDay : PySem.W.keepIn K (.ref A.c_BadDay) = true
  b_BadDay : PySem.W.subIn K (.ref A.c_BadDay) (.type "BaseException") = some true
  t_BadDay : PySem.W.typeIn K (.ref A.c_BadDay) = some (.type "type")
  h_BadDay : PySem.W.hasDictIn K A.c_BadDay = true
  g_BadPay : mg "BadPay" = some (.ref A.c_BadPay)
  x_BadPay : PySem.W.excIn K A.c_BadPay [.type "ValueError", .type "Exception", .type "BaseException", .type "object"] "ValueError.__new__" = true
  k_BadPay : PySem.W.keepIn K (.ref A.c_BadPay) = true
  b_BadPay : PySem.W.subIn K (.ref A.c_BadPay) (.type "BaseException") = some true
  t_BadPay : PySem.W.typeIn K (.ref A.c_BadPay) = some (.type "type")
  h_BadPay : PySem.W.hasDictIn K A.c_BadPay = true
  u_LoanError_LoanError : PySem.W.subIn K (.ref A.c_LoanError) (.ref A.c_LoanError) = some true
  u_LoanError_BadAmount : PySem.W.subIn K (.ref A.c_LoanError) (.ref A.c_BadAmount) = some false
  u_LoanError_BadRate : PySem.W.subIn K (.ref A.c_LoanError) (.ref A.c_BadRate) = some false
  u_LoanError_BadDay : PySem.W.subIn K (.ref A.c_LoanError) (.ref A.c_BadDay) = some false
  u_LoanError_BadPay : PySem.W.subIn K (.ref A.c_LoanError) (.ref A.c_BadPay) = some false
  u_BadAmount_LoanError : PySem.W.subIn K (.ref A.c_BadAmount) (.ref A.c_LoanError) = some true
  u_BadAmount_BadAmount : PySem.W.subIn K (.ref A.c_BadAmount) (.ref A.c_BadAmount) = some true
  u_BadAmount_BadRate : PySem.W.subIn K (.ref A.c_BadAmount) (.ref A.c_BadRate) = some false
  u_BadAmount_BadDay : PySem.W.subIn K (.ref A.c_BadAmount) (.ref A.c_BadDay) = some false
  u_BadAmount_BadPay : PySem.W.subIn K (.ref A.c_BadAmount) (.ref A.c_BadPay) = some false
  u_BadRate_LoanError : PySem.W.subIn K (.ref A.c_BadRate) (.ref A.c_LoanError) = some true
  u_BadRate_BadAmount : PySem.W.subIn K (.ref A.c_BadRate) (.ref A.c_BadAmount) = some false
  u_BadRate_BadRate : PySem.W.subIn K (.ref A.c_BadRate) (.ref A.c_BadRate) = some true
  u_BadRate_BadDay : PySem.W.subIn K (.ref A.c_BadRate) (.ref A.c_BadDay) = some false
  u_BadRate_BadPay : PySem.W.subIn K (.ref A.c_BadRate) (.ref A.c_BadPay) = some false
  u_BadDay_LoanError : PySem.W.subIn K (.ref A.c_BadDay) (.ref A.c_LoanError) = some true
  u_BadDay_BadAmount : PySem.W.subIn K (.ref A.c_BadDay) (.ref A.c_BadAmount) = some false
  u_BadDay_BadRate : PySem.W.subIn K (.ref A.c_BadDay) (.ref A.c_BadRate) = some false
  u_BadDay_BadDay : PySem.W.subIn K (.ref A.c_BadDay) (.ref A.c_BadDay) = some true
  u_BadDay_BadPay : PySem.W.subIn K (.ref A.c_BadDay) (.ref A.c_BadPay) = some false
  u_BadPay_LoanError : PySem.W.subIn K (.ref A.c_BadPay) (.ref A.c_LoanError) = some true
  u_BadPay_BadAmount : PySem.W.subIn K (.ref A.c_BadPay) (.ref A.c_BadAmount) = some false
  u_BadPay_BadRate : PySem.W.subIn K (.ref A.c_BadPay) (.ref A.c_BadRate) = some false
  u_BadPay_BadDay : PySem.W.subIn K (.ref A.c_BadPay) (.ref A.c_BadDay) = some false
  u_BadPay_BadPay : PySem.W.subIn K (.ref A.c_BadPay) (.ref A.c_BadPay) = some true
  g_Loan : mg "Loan" = some (.ref A.c_Loan)
  C_Loan : Cls K A.c_Loan
  M_Loan : Mk K A.c_Loan A.a_Loan_init
  m_Loan_stand : Meth K A.c_Loan "stand" A.a_Loan_stand
  m_Loan_owed : Meth K A.c_Loan "owed" A.a_Loan_owed
  m_Loan_pay : Meth K A.c_Loan "pay" A.a_Loan_pay
  m_Loan_change : Meth K A.c_Loan "change" A.a_Loan_change
  m_Loan_twin : Meth K A.c_Loan "twin" A.a_Loan_twin
  na_left : NoAttr K A.c_Loan "left"
  na_begun : NoAttr K A.c_Loan "begun"
  na_day : NoAttr K A.c_Loan "day"
  na_rates : NoAttr K A.c_Loan "rates"

local macro_rules | `(tactic| walk_at "z") => `(tactic| first | with_reducible rfl | (simp only [List.set_cons_succ, List.set_cons_zero]; done) | (simp only [List.set_cons_succ, List.set_cons_zero]; rfl) | rfl)
local macro_rules | `(tactic| walk_at "side") => `(tactic| first
  | ((with_reducible show CMul _ _); first
      | exact Or.inr ⟨by decide, by decide⟩ | exact Or.inl ⟨by decide, by decide⟩ | exact Or.inr ⟨by omega, by omega⟩ | exact Or.inl ⟨by omega, by omega⟩)
  | ((with_reducible show CDiv _ _); first | exact ⟨by decide, by decide⟩ | exact ⟨by omega, by omega⟩)
  | ((with_reducible show CPow _ _); exact ⟨by decide, by decide, by decide⟩)
  | (show (0 : Int) < _; first | decide | omega))
local macro_rules | `(tactic| walk_at "v1") => `(tactic| first
  | ((with_reducible refine' g_var ?g1 ?_); (case g1 => (first | (simp only [List.set_cons_succ, List.set_cons_zero]; exact rfl) | exact rfl)))
  | with_reducible refine g_c ?_
  | with_reducible refine g_op ?_
  | with_reducible refine g_i0 ?_
  | ((with_reducible refine' g_i ?g1 ?_); (case g1 => walk_at "side"))
  | with_reducible refine g_eqI ?_
  | with_reducible refine g_neI ?_
  | with_reducible refine g_eqS ?_
  | with_reducible refine g_neS ?_
  | with_reducible refine g_call ?_
  | with_reducible refine g_cons ?_
  | with_reducible refine g_nil ?_
  | with_reducible refine g_seq_asg ?_
  | with_reducible refine g_asg ?_
  | with_reducible refine g_seq_if ?_
  | with_reducible refine g_if ?_
  | with_reducible refine g_isNT ?_
  | with_reducible refine g_isNI ?_
  | with_reducible refine g_notNT ?_
  | with_reducible refine g_notNI ?_
  | with_reducible refine g_test ?_
  | with_reducible refine g_tB ?_
  | with_reducible refine g_bl ?_
  | with_reducible refine g_blV ?_
  | with_reducible refine g_and ?_
  | with_reducible refine g_or ?_
  | with_reducible refine g_not ?_
  | with_reducible refine g_andV ?_
  | with_reducible refine g_orV ?_
  | with_reducible refine g_notV ?_
  | with_reducible refine g_un ?_
  | with_reducible refine g_u ?_
  | with_reducible refine g_cb ?_
  | with_reducible refine g_bm ?_
  | with_reducible refine g_tup ?_
  | with_reducible refine g_lst ?_
  | with_reducible refine g_meth ?_
  | with_reducible refine g_fld ?_
  | with_reducible refine g_chain ?_
  | with_reducible refine g_mk ?_
  | ((with_reducible refine' g_fl ?g1 ?g2 ?g3 ?g4 ?_); (case g1 => assumption); (case g2 => assumption); (case g3 => assumption); (case g4 => first | exact fl_left | exact fl_begun | exact fl_day | exact fl_rates))
  | ((with_reducible refine' g_mt ?g1 ?g2 ?_); (case g1 => assumption); (case g2 => exact fl_no (by decide +kernel) (by decide +kernel) (by decide +kernel) (by decide +kernel)))
  | with_reducible refine g_seq_fld ?_
  | with_reducible refine g_sfld ?_
  | with_reducible refine g_seq_rz ?_
  | with_reducible refine g_rz ?_
  | with_reducible refine g_rzV ?_
  | (with_reducible refine g_fs ?_; intro acc hacc)
  | ((with_reducible refine' g_js ?g1 ?_); (case g1 => assumption))
  | ((with_reducible refine' g_jsC ?g1 ?g2 ?g3 ?_); (case g1 => assumption); (case g2 => first | assumption | decide +kernel); (case g3 => decide); intro acc hacc)
  | with_reducible refine g_jsN ?_
  | with_reducible refine g_fmt ?_
  | ((with_reducible refine' g_fmtI ?g1 ?_); (case g1 => exact small_nat (by omega) (by omega)); intro y hy)
  | with_reducible refine g_sl ?_
  | with_reducible refine g_noPart ?_
  | with_reducible refine g_part ?_
  | with_reducible refine g_partI ?_
  | with_reducible refine g_owed ?_
  | with_reducible refine g_cents_owed ?_
  | ((with_reducible refine' g_two ?g1 ?_); (case g1 => assumption))
  | with_reducible refine g_methW ?_
  | with_reducible refine g_seq_try1 ?_
  | with_reducible refine g_seq_asgL ?_
  | with_reducible refine g_seq_asgSub ?_
  | with_reducible refine g_asgSub ?_
  | with_reducible refine g_seq_tryM ?_
  | with_reducible refine g_seq_tryAs ?_
  | with_reducible refine g_callS ?_
  | with_reducible refine g_callE ?_
  | with_reducible refine g_makeW ?_
  | with_reducible refine g_seq_par3 ?_
  | with_reducible refine g_at_by ?_
  | with_reducible refine g_seq_tryTwo ?_
  | with_reducible refine g_seq_while ?_
  | with_reducible refine g_yes ?_
  | ((with_reducible refine' g_repS ?g1 ?g2 ?g3 ?_); (case g1 => (first | omega | (split <;> decide))); (case g2 => (first | omega | (split <;> decide))); (case g3 => decide +kernel))
  | with_reducible refine g_seq_next ?_
  | with_reducible refine g_next ?_
  | with_reducible refine g_seq_ret ?_
  | with_reducible refine g_ret ?_
  | with_reducible refine g_seq_seq ?_
  | with_reducible refine g_seq_drop ?_
  | with_reducible refine g_drop ?_
  | with_reducible refine g_seq_par ?_
  | with_reducible refine g_par ?_
  | with_reducible refine g_seq_asgT ?_
  | with_reducible refine g_asgT ?_
  | with_reducible refine g_seq_bk ?_
  | with_reducible refine g_bk ?_
  | with_reducible refine g_seq_ct ?_
  | with_reducible refine g_ct ?_
  | with_reducible refine g_max2 ?_
  | with_reducible refine g_intB ?_
  | with_reducible refine g_intI ?_
  | with_reducible refine g_min2 ?_
  | with_reducible refine g_isInt ?_
  | with_reducible refine g_isBool ?_
  | ((with_reducible refine' g_cell ?g1 ?g2 ?_); (case g1 => first | assumption | exact SqL.same (by assumption) (by assumption)); (case g2 => first | decide | omega))
  | with_reducible refine g_whole ?_
  | ((with_reducible refine' g_mixed ?g1 ?_); (case g1 => first | decide | omega))
  | with_reducible refine g_seq_for ?_
  | with_reducible refine g_gn ?_
  | with_reducible refine g_for1 ?_
  | with_reducible refine g_for2 ?_
  | ((with_reducible refine' g_seq_aug ?g1 ?_); (case g1 => (first | (simp only [List.set_cons_succ, List.set_cons_zero]; exact rfl) | exact rfl)))
  | ((with_reducible refine' g_aug ?g1 ?_); (case g1 => (first | (simp only [List.set_cons_succ, List.set_cons_zero]; exact rfl) | exact rfl)))
  | with_reducible refine g_ip ?_
  | with_reducible refine g_iteT' ?_
  | with_reducible refine g_iteF' ?_
  | with_reducible refine g_iteTT ?_
  | with_reducible refine g_iteFF ?_
  | with_reducible refine g_iteNT ?_
  | with_reducible refine g_iteNF ?_)
local macro_rules | `(tactic| walk_at "v") => `(tactic| ((try simp only [List.set_cons_succ, List.set_cons_zero]); repeat walk_at "v1"))
local macro_rules | `(tactic| walk_at "i") => `(tactic| (simp only [cxOf, L2H.cxH, L2.start, List.map_cons, List.map_nil, List.length_cons, List.length_nil, Nat.reduceAdd, Nat.reduceSub, List.replicate_succ, List.replicate_zero, List.cons_append, List.nil_append, List.append_nil]; walk_at "v"))
local macro_rules | `(tactic| walk_at "cut") => `(tactic| (walk_at "v"; refine g_ite (fun hc => ?_) (fun hc => ?_); (walk_at "v"; rw [if_pos hc]; exact ⟨by walk_at "z", rfl⟩); (rw [if_neg hc]; exact ⟨by walk_at "z", rfl⟩)))
local macro_rules | `(tactic| walk_at "cutv") => `(tactic| (refine g_ite (fun hc => ?_) (fun hc => ?_); (walk_at "v"; rw [if_pos hc]; exact ⟨by walk_at "z", rfl⟩); (rw [if_neg hc]; exact ⟨by walk_at "z", rfl⟩)))

section
variable {P : Program} {w : World} {K : PySem.W.Frag} {mg : Str → Option Value} {base : Heap} {A : Ad}

theorem sc_cell_at : FnScope ["_law_script", "_law_k"] ["_law_script", "_law_k"] (defScope s_cell_at) := ⟨rfl, rfl, rfl, by decide +kernel, rfl, by decide +kernel, by decide +kernel⟩
theorem ok_cell_at (T : Txt K mg A) : FnOk P w K mg base CX0 1 A.a_cell_at A.d_cell_at ["_law_script", "_law_k"] (sp_cell_at K) := by
  refine T.F_cell_at.ok sc_cell_at (fun vs H Q E h => ?_) (fun cdv Ar outer s H vs Q E hr h => ?_)
  · obtain ⟨a, ns, k, rfl, _⟩ := h
    rfl
  ·
    obtain ⟨a, ns, k, rfl, hS, h0, q⟩ := h
    refine ⟨_, (pss_cons (ps_if (pt_cmpR op_lt (pv 1) (pe_callB c_len rfl T.n_len (by decide +kernel) (pa_cons (pv 0) pa_nil)) (nomark _)) (pss_one (ps_ret (pe_ix ix_list (pv 0) (pv 1) (fun _ _ => rfl))))
 pss_nil)
 (pss_one (ps_ret pe_int))), ?_⟩
    walk_at "i"
    refine g_len hS rfl ?_
    rw [List.length_map]
    walk_at "v"
    refine g_ite (fun hc => ?_) (fun hc => ?_)
    · walk_at "v"
      have hk : k.toNat < ns.length := by omega
      refine g_ixL hS (show k = (k.toNat : Int) by omega) (v := .int (ns[k.toNat])) ?_ ?_
      · rw [List.getElem?_map, List.getElem?_eq_getElem hk]; rfl
      · have e : cellAt ns k = ns[k.toNat] := by unfold cellAt; rw [List.getD_eq_getElem?_getD, List.getElem?_eq_getElem hk]; rfl
        rw [e] at q
        exact q
    · walk_at "v"
      have e : cellAt ns k = 0 := by unfold cellAt; rw [List.getD_eq_getElem?_getD, List.getElem?_eq_none (by omega)]; rfl
      rw [e] at q
      exact q
theorem sc_whole : FnScope ["_law_found"] ["_law_found"] (defScope s_whole) := ⟨rfl, rfl, rfl, by decide +kernel, rfl, by decide +kernel, by decide +kernel⟩
theorem ok_whole (T : Txt K mg A) : FnOk P w K mg base CX0 1 A.a_whole A.d_whole ["_law_found"] sp_whole := by
  refine T.F_whole.ok sc_whole (fun vs H Q E h => ?_) (fun cdv Ar outer s H vs Q E hr h => ?_)
  · obtain ⟨i, rfl, _⟩ := h
    rfl
  ·
    obtain ⟨i, rfl, q⟩ := h
    refine ⟨_, (pss_one (ps_ret (pe_and (pe_callB call_isi rfl T.n_isinstance (by decide +kernel) (pa_cons (pv 0) (pa_cons (pe_bltn (v := .ty "int") rfl T.n_int (by decide +kernel) rfl) pa_nil))) (pe_one (pe_not (pe_callB call_isi rfl T.n_isinstance (by decide +kernel) (pa_cons (pv 0) (pa_cons (pe_bltn (v := .ty "bool") rfl T.n_bool (by decide +kernel) rfl) pa_nil)))))))), ?_⟩
    walk_at "i"
    exact q
theorem sc_mixed : FnScope ["_law_cell", "_law_many"] ["_law_cell", "_law_many"] (defScope s_mixed) := ⟨rfl, rfl, rfl, by decide +kernel, rfl, by decide +kernel, by decide +kernel⟩
theorem ok_mixed (T : Txt K mg A) : FnOk P w K mg base CX0 1 A.a_mixed A.d_mixed ["_law_cell", "_law_many"] sp_mixed := by
  refine T.F_mixed.ok sc_mixed (fun vs H Q E h => ?_) (fun cdv Ar outer s H vs Q E hr h => ?_)
  · obtain ⟨c, m, rfl, _⟩ := h
    rfl
  ·
    obtain ⟨c, m, rfl, h0, q⟩ := h
    refine ⟨_, (pss_one (ps_ret (pe_op op_mod (pe_op op_mod (pe_op op_add (pe_op op_mul (pv 0) pe_int) pe_int) pe_int) (pv 1)))), ?_⟩
    walk_at "i"
    exact q
theorem sc_rate_by : FnScope ["_law_cell"] ["_law_cell"] (defScope s_rate_by) := ⟨rfl, rfl, rfl, by decide +kernel, rfl, by decide +kernel, by decide +kernel⟩
theorem ok_rate_by (T : Txt K mg A) : FnOk P w K mg base CX0 2 A.a_rate_by A.d_rate_by ["_law_cell"] sp_rate_by := by
  refine T.F_rate_by.ok sc_rate_by (fun vs H Q E h => ?_) (fun cdv Ar outer s H vs Q E hr h => ?_)
  · obtain ⟨c, rfl, _⟩ := h
    rfl
  ·
    obtain ⟨c, rfl, q⟩ := h
    refine ⟨_, (pss_cons (ps_if (pt_cmpR op_eq (pe_op op_mod (pv 0) pe_int) pe_int (nomark _)) (pss_one (ps_ret (pe_ix ix_list (pe_lst (pa_cons pe_int (pa_cons pe_int (pa_cons pe_int (pa_cons pe_int pa_nil))))) (pe_op op_mod (pe_op op_fdiv (pv 0) pe_int) pe_int) (fun _ _ => rfl))))
 pss_nil)
 (pss_cons (ps_if (pt_cmpR op_eq (pe_op op_mod (pv 0) pe_int) pe_int (nomark _)) (pss_one (ps_ret (pe_op op_mod (pe_op op_fdiv (pv 0) pe_int) pe_int)))
 pss_nil)
 (pss_one (ps_ret (pe_call (ok_mixed T) (hr.mono (by decide)) rfl T.g_mixed T.F_mixed.kp T.B_mixed .nil pass0 (pa_cons (pv 0) (pa_cons pe_int pa_nil))))))), ?_⟩
    walk_at "i"
    refine g_ite (fun hc => ?_) (fun hc => ?_)
    · walk_at "v"
      refine g_newL (by show 4 ≤ 100; decide) fun p H1 hp s1 h1 => ?_
      walk_at "v"
      have h4 : c / 5 % 4 = 0 ∨ c / 5 % 4 = 1 ∨ c / 5 % 4 = 2 ∨ c / 5 % 4 = 3 := by omega
      have e : rateBy c = [0, 1, 99999, 100000].getD (c / 5 % 4).toNat 0 := by unfold rateBy; rw [if_pos hc]
      have q1 := q H1 s1
      rw [e] at q1
      rcases h4 with h4 | h4 | h4 | h4
      all_goals
        rw [h4] at q1 ⊢
        refine g_ixL (SqL.of h1) rfl rfl ?_
        exact q1
    · walk_at "v"
      refine g_ite (fun hd => ?_) (fun hd => ?_)
      · walk_at "v"
        have e : rateBy c = c / 5 % 400 := by unfold rateBy; rw [if_neg hc, if_pos hd]
        have q1 := q H (Same.refl _)
        rw [e] at q1
        exact q1
      · walk_at "v"
        have e : rateBy c = mixed c 100001 := by unfold rateBy; rw [if_neg hc, if_neg hd]
        have q1 := q H (Same.refl _)
        rw [e] at q1
        exact q1
theorem sc_row_by : FnScope ["_law_cell", "_law_many", "_law_wide", "_law_row", "_law_k", "_law_day"] ["_law_cell", "_law_many", "_law_wide"] (defScope s_row_by) := ⟨rfl, rfl, rfl, by decide +kernel, rfl, by decide +kernel, by decide +kernel⟩
theorem ok_row_by (T : Txt K mg A) : FnOk P w K mg base CX0 3 A.a_row_by A.d_row_by ["_law_cell", "_law_many", "_law_wide"] sp_row_by := by
  refine T.F_row_by.ok sc_row_by (fun vs H Q E h => ?_) (fun cdv Ar outer s H vs Q E hr h => ?_)
  · obtain ⟨c, m, wd, rfl, _⟩ := h
    rfl
  ·
    obtain ⟨c, m, wd, rfl, h1, h2, h3, q⟩ := h
    refine ⟨_, (pss_cons (ps_set (i := 3) sc_row_by.nd rfl (Or.inl rfl) (pe_lst (pa_cons (pe_tup (pa_cons pe_int (pa_cons (pe_call (ok_rate_by T) (hr.mono (by decide)) rfl T.g_rate_by T.F_rate_by.kp T.B_rate_by .nil pass0 (pa_cons (pv 0) pa_nil)) pa_nil))) pa_nil)))
 (pss_cons (ps_for PassesOwn.never rfl (pi_range2 rfl T.n_range (pa_cons pe_int (pa_cons (pv 1) pa_nil))) (pg_name (i := 4) sc_row_by.nd rfl (Or.inl rfl))
 (pss_cons (ps_set (i := 5) sc_row_by.nd rfl (Or.inl rfl) (pe_op op_add (pe_op op_add (pe_ix ix_tup (pe_ix ix_list (pv 3) (pe_un un_neg pe_int) (fun _ _ => rfl)) pe_int (fun _ _ => rfl)) pe_int) (pe_call (ok_mixed T) (hr.mono (by decide)) rfl T.g_mixed T.F_mixed.kp T.B_mixed .nil pass0 (pa_cons (pe_op op_add (pv 0) (pe_op op_mul pe_int (pv 4))) (pa_cons (pv 2) pa_nil)))))
 (pss_one (ps_expr (pe_bm PySem.F.plainAttrs_list PySem.F.slot_list_append PySem.F.type_list_append mt_append (pv 3) (pa_cons (pe_tup (pa_cons (pv 5) (pa_cons (pe_call (ok_rate_by T) (hr.mono (by decide)) rfl T.g_rate_by T.F_rate_by.kp T.B_rate_by .nil pass0 (pa_cons (pe_op op_add (pe_op op_fdiv (pv 0) pe_int) (pe_op op_mul pe_int (pv 4))) pa_nil)) pa_nil))) pa_nil))))))
 (pss_one (ps_ret (pv 3))))), ?_⟩
    walk_at "i"
    refine g_rate_by fun H1 s1 => ?_
    walk_at "v"
    refine g_newT (by show 2 ≤ 100; decide) fun p H2 hp s2 ht => ?_
    walk_at "v"
    refine g_newL (by show 1 ≤ 100; decide) fun l H3 hl s3 hL => ?_
    walk_at "v"
    have sm : Same H H3 := (s1.trans s2).trans s3
    have lH : H l = none := (s1.trans s2).free hl
    refine g_rg2 ⟨by decide, by decide, by omega, by omega⟩ (fun σ0 i σ' H' => Same H H' ∧ RowAt H' l (rowN c wd i) ∧ ∃ v1 v2, σ' = (σ0.set 4 v1).set 5 v2) ⟨sm, ⟨_, hL, .cons (s3 _ _ ht) .nil⟩, none, none, by walk_at "z"⟩ ?_ ?_
    · rintro i σ' H' hi ⟨s4, hR, v1, v2, rfl⟩
      obtain ⟨ld, lr, hlast, hd, hr'⟩ := rowN_last c wd i
      walk_at "v"
      refine g_ixLast hR rfl hlast fun t0 ht0 => ?_
      walk_at "v"
      refine g_ixT (j := 0) ht0 rfl ?_
      walk_at "v"
      obtain ⟨xs, hx1, hx2⟩ := hR
      refine g_tyL hx1 ?_
      walk_at "v"
      refine g_rate_by fun H4 s5 => ?_
      walk_at "v"
      refine g_newT (by show 2 ≤ 100; decide) fun p4 H5 hp4 s6 ht4 => ?_
      walk_at "v"
      have s7 := s5.trans s6
      have n1 := hx2.len
      have n2 := rowN_len c wd i
      refine g_append (s7 _ _ hx1) (by omega) ?_
      refine ⟨same_upd (s4.trans s7) lH, ?_, _, _, rfl⟩
      rw [rowN, hd]
      exact RowAt.snoc (hx2.mono fun q ps e => s7 _ _ e) (s7 _ _ hx1) ht4
    · rintro σ' H' ⟨s4, hR, v1, v2, rfl⟩
      walk_at "v"
      exact q l H' lH s4 hR

theorem sc_grown : FnScope ["rates", "start", "end", "total", "untaken", "first", "rate", "before"] ["rates", "start", "end"] (defScope s_grown) := ⟨rfl, rfl, rfl, by decide +kernel, rfl, by decide +kernel, by decide +kernel⟩
theorem ok_grown (T : Txt K mg A) : FnOk P w K mg base CX0 1 A.a_grown A.d_grown ["rates", "start", "end"] sp_grown := by
  refine T.F_grown.ok sc_grown (fun vs H Q E h => ?_) (fun cdv Ar outer s H vs Q E hr h => ?_)
  · obtain ⟨l, s, e, row, rfl, _⟩ := h
    rfl
  ·
    obtain ⟨l, st, en, row, rfl, ⟨xs, h1, h2⟩, hse, hs, he, q⟩ := h
    refine ⟨_, (pss_cons (ps_set (i := 3) sc_grown.nd rfl (Or.inl rfl) pe_int)
 (pss_cons (ps_set (i := 4) sc_grown.nd rfl (Or.inl rfl) (pv 2))
 (pss_cons (ps_for PassesOwn.never rfl (pi_reversed rfl T.n_reversed (pa_cons (pv 0) pa_nil)) (pg_tup rfl (pgs_cons (pg_name (i := 5) sc_grown.nd rfl (Or.inl rfl)) (pgs_cons (pg_name (i := 6) sc_grown.nd rfl (Or.inl rfl)) pgs_nil)))
 (pss_cons (ps_set (i := 7) sc_grown.nd rfl (Or.inl rfl) (pe_callB (c_max rfl) rfl T.n_max (by decide +kernel) (pa_cons (pv 1) (pa_cons (pe_op op_sub (pv 5) pe_int) pa_nil))))
 (pss_one (ps_if (pt_cmpR op_lt (pv 7) (pv 4) (nomark _)) (pss_cons (ps_aug (i := 3) sc_grown.nd rfl (Or.inl rfl) (pe_op op_mul (pv 6) (pe_op op_sub (pv 4) (pv 7))) ip_add)
 (pss_one (ps_set (i := 4) sc_grown.nd rfl (Or.inl rfl) (pv 7))))
 pss_nil))))
 (pss_one (ps_ret (pv 3)))))), ?_⟩
    walk_at "i"
    have nn := h2.len
    refine g_forRev rfl (SqL.of h1) (fun σ0 i σ' H' => H' = H ∧ ∃ tot un v1 v2 v3, σ' = ((((σ0.set 3 (some (.int tot))).set 4 (some (.int un))).set 5 v1).set 6 v2).set 7 v3 ∧ st ≤ un ∧ un ≤ en ∧ tot + grownF (row.take (row.length - i)) st un = grownF row st en) ?_ (fun i σ' H' ⟨e, _⟩ => by rw [e]; exact SqL.of h1) ?_ ?_
    · exact ⟨rfl, 0, en, none, none, none, by walk_at "z", hse, Int.le_refl _, by rw [Nat.sub_zero, List.take_length, Int.zero_add]⟩
    · rintro i x σ' H' hi hx ⟨rfl, tot, un, v1, v2, v3, rfl, hu1, hu2, ht⟩
      obtain ⟨p, t, hp, rfl, htu⟩ := h2.got hx
      rw [nn] at hi hp
      have e1 : row.length - i = row.length - 1 - i + 1 := by omega
      rw [e1, take_snoc hp, grownF_snoc _ p hu1] at ht
      refine g_unp2 htu ?_
      walk_at "v"
      refine g_ite (fun hc => ?_) (fun hc => ?_)
      · walk_at "v"
        rw [if_pos hc] at ht
        refine ⟨rfl, tot + p.2 * (un - max st (p.1 - 1)), max st (p.1 - 1), _, _, _, by walk_at "z", by omega, by omega, ?_⟩
        rw [show row.length - (i + 1) = row.length - 1 - i by omega]
        omega
      · walk_at "v"
        rw [if_neg hc] at ht
        refine ⟨rfl, tot, un, _, _, _, by walk_at "z", hu1, hu2, ?_⟩
        rw [show row.length - (i + 1) = row.length - 1 - i by omega]
        exact ht
    · rintro σ' H' ⟨rfl, tot, un, v1, v2, v3, rfl, hu1, hu2, ht⟩
      walk_at "v"
      rw [nn, Nat.sub_self, List.take_zero, grownF_nil] at ht
      have e2 : tot = grownF row st en := by omega
      rw [e2]
      exact q

theorem sc_sum_by : FnScope ["_law_row", "_law_start", "_law_end", "_law_total", "_law_k", "_law_days"] ["_law_row", "_law_start", "_law_end"] (defScope s_sum_by) := ⟨rfl, rfl, rfl, by decide +kernel, rfl, by decide +kernel, by decide +kernel⟩
theorem ok_sum_by (T : Txt K mg A) : FnOk P w K mg base CX0 1 A.a_sum_by A.d_sum_by ["_law_row", "_law_start", "_law_end"] sp_sum_by := by
  refine T.F_sum_by.ok sc_sum_by (fun vs H Q E h => ?_) (fun cdv Ar outer s H vs Q E hr h => ?_)
  · obtain ⟨l, s, e, row, rfl, _⟩ := h
    rfl
  ·
    obtain ⟨l, st, en, row, rfl, hR, ok, hlen, h0, h1, h2, q⟩ := h
    refine ⟨_, (pss_cons (ps_set (i := 3) sc_sum_by.nd rfl (Or.inl rfl) (pe_op op_mul (pe_ix ix_tup (pe_ix ix_list (pv 0) pe_int (fun _ _ => rfl)) pe_int (fun _ _ => rfl)) (pe_op op_sub (pv 2) (pv 1))))
 (pss_cons (ps_for PassesOwn.never rfl (pi_range2 rfl T.n_range (pa_cons pe_int (pa_cons (pe_callB c_len rfl T.n_len (by decide +kernel) (pa_cons (pv 0) pa_nil)) pa_nil))) (pg_name (i := 4) sc_sum_by.nd rfl (Or.inl rfl))
 (pss_cons (ps_set (i := 5) sc_sum_by.nd rfl (Or.inl rfl) (pe_op op_sub (pv 2) (pe_callB (c_max rfl) rfl T.n_max (by decide +kernel) (pa_cons (pv 1) (pa_cons (pe_op op_sub (pe_ix ix_tup (pe_ix ix_list (pv 0) (pv 4) (fun _ _ => rfl)) pe_int (fun _ _ => rfl)) pe_int) pa_nil)))))
 (pss_one (ps_if (pt_cmpR op_gt (pv 5) pe_int (nomark _)) (pss_one (ps_set (i := 3) sc_sum_by.nd rfl (Or.inl rfl) (pe_op op_add (pv 3) (pe_op op_mul (pe_op op_sub (pe_ix ix_tup (pe_ix ix_list (pv 0) (pv 4) (fun _ _ => rfl)) pe_int (fun _ _ => rfl)) (pe_ix ix_tup (pe_ix ix_list (pv 0) (pe_op op_sub (pv 4) pe_int) (fun _ _ => rfl)) pe_int (fun _ _ => rfl))) (pv 5)))))
 pss_nil))))
 (pss_one (ps_ret (pv 3))))), ?_⟩
    obtain ⟨r0, h00⟩ := row_0 ok
    have pos := ok.pos
    walk_at "i"
    refine g_ixRow hR (j := 0) rfl h00 fun t2 ht2 => ?_
    walk_at "v"
    refine g_ixT (j := 1) ht2 rfl ?_
    walk_at "v"
    refine g_lenRow hR rfl ?_
    refine g_rg2 ⟨by decide, by decide, by omega, by omega⟩ (fun σ0 i σ' H' => H' = H ∧ ∃ v1 v2, σ' = ((σ0.set 3 (some (.int (grownF (row.take (i + 1)) st en)))).set 4 v1).set 5 v2) ?_ ?_ ?_
    · refine ⟨rfl, none, none, ?_⟩
      rw [take_snoc h00, List.take_zero, List.nil_append, grownF_one h0 h1]
      all_goals (try walk_at "z")
    · rintro i σ' H' hi ⟨rfl, v1, v2, rfl⟩
      have hi2 : i + 1 < row.length := by omega
      have e1 : (1 : Int) + (i : Int) = ((i + 1 : Nat) : Int) := by omega
      have e2 : (1 : Int) + (i : Int) - 1 = (i : Int) := by omega
      obtain ⟨d1, r1, hd1, -⟩ := row_at (row := row) (i := ((i + 1 : Nat) : Int)) (by omega) (by omega)
      obtain ⟨d2, r2, hd2, -⟩ := row_at (row := row) (i := (i : Int)) (by omega) (by omega)
      rw [Int.toNat_natCast] at hd1 hd2
      have step := grownF_take ok hd2 hd1 h1
      walk_at "v"
      refine g_ixRow hR e1 hd1 fun t3 ht3 => ?_
      walk_at "v"
      refine g_ixT (j := 0) ht3 rfl ?_
      walk_at "v"
      refine g_ite (fun hc => ?_) (fun hc => ?_)
      · walk_at "v"
        refine g_ixRow hR e1 hd1 fun t4 ht4 => ?_
        walk_at "v"
        refine g_ixT (j := 1) ht4 rfl ?_
        walk_at "v"
        refine g_ixRow hR e2 hd2 fun t5 ht5 => ?_
        walk_at "v"
        refine g_ixT (j := 1) ht5 rfl ?_
        walk_at "v"
        rw [if_pos hc] at step
        refine ⟨rfl, some (.int (1 + (i : Int))), some (.int (en - max st (d1 - 1))), ?_⟩
        rw [step]
        all_goals (try walk_at "z")
      · walk_at "v"
        rw [if_neg hc] at step
        refine ⟨rfl, some (.int (1 + (i : Int))), some (.int (en - max st (d1 - 1))), ?_⟩
        rw [step]
        all_goals (try walk_at "z")
    · rintro σ' H' ⟨rfl, v1, v2, rfl⟩
      walk_at "v"
      have e3 : row.take (((row.length : Int) - 1).toNat + 1) = row := List.take_of_length_le (by omega)
      rw [e3]
      exact q

theorem sc_check_day : FnScope ["day", "first"] ["day", "first"] (defScope s_check_day) := ⟨rfl, rfl, rfl, by decide +kernel, rfl, by decide +kernel, by decide +kernel⟩
theorem ok_check_day (T : Txt K mg A) : FnOk P w K mg base (L2.CX P w) 1 A.a_check_day A.d_check_day ["day", "first"] (sp_check_day A.c_BadDay) := by
  refine T.F_check_day.okX sc_check_day (fun vs H Q E h => ?_) (fun cdv Ar outer s H vs Q E hr h => ?_)
  · obtain ⟨d, f, rfl, _⟩ := h
    rfl
  ·
    obtain ⟨d, f, rfl, hf0, hf1, q1, q2⟩ := h
    refine ⟨_, (pss_one (ps_if (PW.pt (pw_or (pt_cmpR op_lt (pv 0) (pv 1) (nomark _)) (pw_or1 (pt_cmpR op_gt (pv 0) (pe_glob (v := .int 100000) rfl T.g_LAST_DAY ⟨A.t_LAST_DAY, rfl⟩) (nomark _))))) (pss_one (ps_rz rfl (takes_of rfl rfl rfl rfl) T.x_BadDay T.g_BadDay T.k_BadDay (raises_own T.b_BadDay T.t_BadDay) rfl (pa_cons (pe_fs (.cons pe_str (.cons (pe_fmt (pv 1)) (.cons pe_str (.cons (pe_fmt (pe_glob (v := .int 100000) rfl T.g_LAST_DAY ⟨A.t_LAST_DAY, rfl⟩)) .nil))))) pa_nil)))
 pss_nil)), ?_⟩
    walk_at "i"
    refine g_ite (fun hc => ?_) (fun hc => ?_)
    · walk_at "v"
      exact q1 (.inl hc)
    · walk_at "v"
      refine g_ite (fun hc2 => ?_) (fun hc2 => ?_)
      · walk_at "v"
        exact q1 (.inr hc2)
      · walk_at "v"
        exact q2 (by omega)
theorem sc_check_pair : FnScope ["day", "rate", "ahead"] ["day", "rate", "ahead"] (defScope s_check_pair) := ⟨rfl, rfl, rfl, by decide +kernel, rfl, by decide +kernel, by decide +kernel⟩
theorem ok_check_pair (T : Txt K mg A) : FnOk P w K mg base (L2.CX P w) 2 A.a_check_pair A.d_check_pair ["day", "rate", "ahead"] (sp_check_pair A.c_BadDay A.c_BadRate) := by
  refine T.F_check_pair.okX sc_check_pair (fun vs H Q E h => ?_) (fun cdv Ar outer s H vs Q E hr h => ?_)
  · obtain ⟨d, r, a, rfl, _⟩ := h
    rfl
  ·
    obtain ⟨d, r, a, rfl, ha0, ha1, q1, q2⟩ := h
    refine ⟨_, (pss_cons (ps_expr (pe_call (ok_check_day T) (hr.mono (by decide)) rfl T.g_check_day T.F_check_day.kp T.B_check_day .nil (passes_call (takes_of rfl rfl rfl rfl) fun _ _ _ _ h => h) (pa_cons (pv 0) (pa_cons (pe_op op_add (pv 2) pe_int) pa_nil))))
 (pss_one (ps_if (PW.pt (pw_or (pt_cmpR op_lt (pv 1) pe_int (nomark _)) (pw_or1 (pt_cmpR op_gt (pv 1) (pe_glob (v := .int 100000) rfl T.g_HIGHEST_RATE ⟨A.t_HIGHEST_RATE, rfl⟩) (nomark _))))) (pss_one (ps_rz rfl (takes_of rfl rfl rfl rfl) T.x_BadRate T.g_BadRate T.k_BadRate (raises_own T.b_BadRate T.t_BadRate) rfl (pa_cons (pe_fs (.cons pe_str (.cons (pe_fmt (pe_glob (v := .int 100000) rfl T.g_HIGHEST_RATE ⟨A.t_HIGHEST_RATE, rfl⟩)) .nil))) pa_nil)))
 pss_nil))), ?_⟩
    walk_at "i"
    refine g_check_day (by omega) (by omega) (fun hc => q1 (by omega)) (fun hc => ?_)
    have q3 := q2 (by omega)
    walk_at "v"
    refine g_ite (fun hc3 => ?_) (fun hc3 => ?_)
    · walk_at "v"
      exact q3.1 (.inl hc3)
    · walk_at "v"
      refine g_ite (fun hc4 => ?_) (fun hc4 => ?_)
      · walk_at "v"
        exact q3.1 (.inr hc4)
      · walk_at "v"
        exact q3.2 (by omega)
theorem sc_checked : FnScope ["rates", "ahead", "day", "rate"] ["rates"] (defScope s_checked) := ⟨rfl, rfl, rfl, by decide +kernel, rfl, by decide +kernel, by decide +kernel⟩
theorem ok_checked (T : Txt K mg A) : FnOk P w K mg base (L2.CX P w) 3 A.a_checked A.d_checked ["rates"] (sp_checked A.c_BadDay A.c_BadRate) := by
  refine T.F_checked.okX sc_checked (fun vs H Q E h => ?_) (fun cdv Ar outer s H vs Q E hr h => ?_)
  · obtain ⟨l, row, rfl, _⟩ := h
    rfl
  ·
    obtain ⟨l, row, rfl, hR, hlen, q1, q2, q3⟩ := h
    refine ⟨_, (pss_cons (ps_if (PW.pt (pw_or (pt_cmpR op_eq (pe_callB c_len rfl T.n_len (by decide +kernel) (pa_cons (pv 0) pa_nil)) pe_int (nomark _)) (pw_or1 (pt_cmpR op_ne (pe_ix ix_tup (pe_ix ix_list (pv 0) pe_int (fun _ _ => rfl)) pe_int (fun _ _ => rfl)) pe_int (nomark _))))) (pss_one (ps_rz rfl (takes_of rfl rfl rfl rfl) T.x_BadDay T.g_BadDay T.k_BadDay (raises_own T.b_BadDay T.t_BadDay) rfl (pa_cons pe_str pa_nil)))
 pss_nil)
 (pss_cons (ps_set (i := 1) sc_checked.nd rfl (Or.inl rfl) (pe_un un_neg pe_int))
 (pss_cons (ps_for (passes_of rfl) rfl (pi_list (pv 0)) (pg_tup rfl (pgs_cons (pg_name (i := 2) sc_checked.nd rfl (Or.inl rfl)) (pgs_cons (pg_name (i := 3) sc_checked.nd rfl (Or.inl rfl)) pgs_nil)))
 (pss_cons (ps_expr (pe_call (ok_check_pair T) (hr.mono (by decide)) rfl T.g_check_pair T.F_check_pair.kp T.B_check_pair .nil (passes_call (takes_of rfl rfl rfl rfl) fun _ _ _ _ h => h) (pa_cons (pv 2) (pa_cons (pv 3) (pa_cons (pv 1) pa_nil)))))
 (pss_one (ps_set (i := 1) sc_checked.nd rfl (Or.inl rfl) (pv 2)))))
 (pss_one (ps_ret (pe_callTy c_list rfl T.n_list (by decide +kernel) (pa_cons (pv 0) pa_nil))))))), ?_⟩
    walk_at "i"
    refine g_lenRow hR rfl ?_
    walk_at "v"
    refine g_ite (fun hc => ?_) (fun hc => ?_)
    · walk_at "v"
      refine q1 ?_
      have e : row = [] := List.length_eq_zero_iff.mp (by omega)
      rw [e]; rfl
    · walk_at "v"
      obtain ⟨d0, r0, t0, er⟩ : ∃ d0 r0 t0, row = (d0, r0) :: t0 := by
        cases row with
        | nil => exact absurd rfl hc
        | cons p t => exact ⟨p.1, p.2, t, rfl⟩
      have h00 : row[0]? = some (d0, r0) := by rw [er]; rfl
      refine g_ixRow hR (j := 0) rfl h00 fun t1 ht1 => ?_
      walk_at "v"
      refine g_ixT (j := 0) ht1 rfl ?_
      walk_at "v"
      refine g_ite (fun hc2 => ?_) (fun hc2 => ?_)
      · walk_at "v"
        refine q1 ?_
        rw [er]; show (if d0 ≠ 0 then some true else _) = _
        rw [if_pos hc2]
      · walk_at "v"
        have e0 : checkF row = chk (-1) row := by
          rw [er]; show (if d0 ≠ 0 then some true else _) = _
          rw [if_neg hc2]
        obtain ⟨xs, h1, h2⟩ := id hR
        refine g_forL rfl (SqL.of h1) (fun σ0 i σ' H' => H' = H ∧ ∃ a v1 v2, σ' = ((σ0.set 1 (some (.int a))).set 2 v1).set 3 v2 ∧ -1 ≤ a ∧ a ≤ 100000 ∧ checkF row = chk a (row.drop i)) ⟨rfl, -1, none, none, by walk_at "z", by decide, by decide, e0⟩ (fun i σ' H' _ ⟨e, _⟩ => by rw [e]; exact SqL.of h1) ?_ ?_
        · rintro i x σ' H' hx ⟨rfl, a, v1, v2, rfl, b0, b1, ec⟩
          obtain ⟨p, t, hp, rfl, ht⟩ := h2.got hx
          have ed : row.drop i = p :: row.drop (i + 1) := by
            obtain ⟨hl, e⟩ := List.getElem?_eq_some_iff.mp hp
            rw [List.drop_eq_getElem_cons hl, e]
          obtain ⟨d, r⟩ := p
          rw [ed, chk] at ec
          refine g_unp2 ht ?_
          walk_at "v"
          refine ⟨d, r, a, rfl, by omega, by omega, fun hb => ?_, fun hb => ⟨fun hr => ?_, fun hr => ?_⟩⟩
          · rw [if_pos hb] at ec
            exact q1 ec
          · rw [if_neg hb, if_pos hr] at ec
            exact q2 ec
          · rw [if_neg hb, if_neg hr] at ec
            walk_at "v"
            refine ⟨rfl, d, some (.int d), some (.int r), by walk_at "z", by omega, by omega, ec⟩
        · rintro σ' H' ⟨rfl, a, v1, v2, rfl, b0, b1, ec⟩
          rw [h2.len, List.drop_length] at ec
          walk_at "v"
          exact g_listOf hR fun l' H' hl s hr => q3 ec l' H' hl s hr
theorem sc_Loan_init : FnScope ["self", "amount", "rates"] ["self", "amount", "rates"] (defScope s_Loan_init) := ⟨rfl, rfl, rfl, by decide +kernel, rfl, by decide +kernel, by decide +kernel⟩
theorem ok_Loan_init (T : Txt K mg A) : FnOk P w K mg base (L2.CX P w) 4 A.a_Loan_init A.d_Loan_init ["self", "amount", "rates"] (sp_init A.c_Loan A.c_BadAmount A.c_BadDay A.c_BadRate) := by
  refine T.F_Loan_init.okX sc_Loan_init (fun vs H Q E h => ?_) (fun cdv Ar outer s H vs Q E hr h => ?_)
  · obtain ⟨x, a, l, dx, row, rfl, _⟩ := h
    rfl
  ·
    obtain ⟨x, a, l, dx, row, rfl, hx, hR, hlen, q1, q2⟩ := h
    have cL := T.C_Loan
    have n1 := T.na_left
    have n2 := T.na_begun
    have n3 := T.na_day
    have n4 := T.na_rates
    refine ⟨_, (pss_cons (ps_if (PW.pt (pw_or (pt_cmpR op_lt (pv 1) pe_int (nomark _)) (pw_or1 (pt_cmpR op_gt (pv 1) (pe_glob (v := .int 1000000000000) rfl T.g_HIGHEST_AMOUNT ⟨A.t_HIGHEST_AMOUNT, rfl⟩) (nomark _))))) (pss_one (ps_rz rfl (takes_of rfl rfl rfl rfl) T.x_BadAmount T.g_BadAmount T.k_BadAmount (raises_own T.b_BadAmount T.t_BadAmount) rfl (pa_cons (pe_fs (.cons pe_str (.cons (pe_fmt (pe_glob (v := .int 1000000000000) rfl T.g_HIGHEST_AMOUNT ⟨A.t_HIGHEST_AMOUNT, rfl⟩)) (.cons pe_str .nil)))) pa_nil)))
 pss_nil)
 (pss_cons (ps_fld (pv 0) (pv 1) rfl)
 (pss_cons (ps_fld (pv 0) pe_int rfl)
 (pss_cons (ps_fld (pv 0) pe_int rfl)
 (pss_one (ps_fld (pv 0) (pe_call (ok_checked T) (hr.mono (by decide)) rfl T.g_checked T.F_checked.kp T.B_checked .nil (passes_call (takes_of rfl rfl rfl rfl) fun _ _ _ _ h => h) (pa_cons (pv 2) pa_nil)) rfl)))))), ?_⟩
    walk_at "i"
    refine g_ite (fun hc => ?_) (fun hc => ?_)
    · walk_at "v"
      exact q1 (.inl hc)
    · walk_at "v"
      refine g_ite (fun hc2 => ?_) (fun hc2 => ?_)
      · walk_at "v"
        exact q1 (.inr hc2)
      · obtain ⟨k1, k2, k3⟩ := q2 (by omega)
        walk_at "v"
        have hlx : l ≠ x := by
          obtain ⟨xs, e, _⟩ := hR
          exact ne_of e hx (by intro z; cases z)
        refine g_sf hx cL n1 (by show 0 < 1000; decide) fun H1 b1 hx1 => ?_
        walk_at "v"
        refine g_sf hx1 cL n2 (by show 1 < 1000; decide) fun H2 b2 hx2 => ?_
        walk_at "v"
        refine g_sf hx2 cL n3 (by show 2 < 1000; decide) fun H3 b3 hx3 => ?_
        have b4 := (b1.trans b2).trans b3
        have notT : ∀ ps, H x ≠ some (.tup ps) := fun ps e => by rw [hx] at e; cases e
        have hR3 := hR.but b4 hlx notT
        walk_at "v"
        refine ⟨l, row, rfl, hR3, hlen, fun e => k1 e H3 b4, fun e => k2 e H3 b4, fun e l' H4 hl' s4 hR4 => ?_⟩
        walk_at "v"
        refine g_sf (s4 _ _ hx3) cL n4 (by show 3 < 1000; decide) fun H5 b5 hx5 => ?_
        have hl'x : l' ≠ x := fun z => by rw [z, hx3] at hl'; cases hl'
        refine k3 e l' H5 ?_ ((b4.trans (But.same s4)).trans b5) ?_ ?_
        · cases e2 : H l' with
          | none => rfl
          | some o => rw [b4 _ _ hl'x e2] at hl'; cases hl'
        · rw [hx5]
          rw [put_all]
        · exact hR4.but b5 hl'x (fun ps e => by rw [s4 _ _ hx3] at e; cases e)
theorem sc_cents_owed : FnScope ["left", "begun"] ["left", "begun"] (defScope s_cents_owed) := ⟨rfl, rfl, rfl, by decide +kernel, rfl, by decide +kernel, by decide +kernel⟩
theorem ok_cents_owed (T : Txt K mg A) : FnOk P w K mg base CX0 1 A.a_cents_owed A.d_cents_owed ["left", "begun"] sp_cents_owed := by
  refine T.F_cents_owed.ok sc_cents_owed (fun vs H Q E h => ?_) (fun cdv Ar outer s H vs Q E hr h => ?_)
  · obtain ⟨l, b, rfl, _⟩ := h
    rfl
  ·
    obtain ⟨l, b, rfl, q⟩ := h
    refine ⟨_, (pss_one (ps_ret (pe_op op_add (pv 0) (pe_op op_fdiv (pe_op op_sub (pe_op op_add (pv 1) (pe_glob (v := .int 1000000) rfl T.g_MILLION ⟨A.t_MILLION, rfl⟩)) pe_int) (pe_glob (v := .int 1000000) rfl T.g_MILLION ⟨A.t_MILLION, rfl⟩))))), ?_⟩
    walk_at "i"
    rw [← owedF_eq] at q
    exact q
theorem sc_paid_down : FnScope ["left", "begun", "cents", "interest"] ["left", "begun", "cents"] (defScope s_paid_down) := ⟨rfl, rfl, rfl, by decide +kernel, rfl, by decide +kernel, by decide +kernel⟩
theorem ok_paid_down (T : Txt K mg A) : FnOk P w K mg base CX0 2 A.a_paid_down A.d_paid_down ["left", "begun", "cents"] sp_paid_down := by
  refine T.F_paid_down.ok sc_paid_down (fun vs H Q E h => ?_) (fun cdv Ar outer s H vs Q E hr h => ?_)
  · obtain ⟨l, b, c, rfl, _⟩ := h
    rfl
  ·
    obtain ⟨l, b, c, rfl, q⟩ := h
    refine ⟨_, (pss_cons (ps_if (pt_cmpR op_eq (pv 2) (pe_call (ok_cents_owed T) (hr.mono (by decide)) rfl T.g_cents_owed T.F_cents_owed.kp T.B_cents_owed .nil pass0 (pa_cons (pv 0) (pa_cons (pv 1) pa_nil))) (nomark _)) (pss_one (ps_ret (pe_tup (pa_cons pe_int (pa_cons pe_int pa_nil)))))
 pss_nil)
 (pss_cons (ps_set (i := 3) sc_paid_down.nd rfl (Or.inl rfl) (pe_callB (c_min rfl) rfl T.n_min (by decide +kernel) (pa_cons (pv 2) (pa_cons (pe_op op_fdiv (pv 1) (pe_glob (v := .int 1000000) rfl T.g_MILLION ⟨A.t_MILLION, rfl⟩)) pa_nil))))
 (pss_one (ps_ret (pe_tup (pa_cons (pe_op op_sub (pv 0) (pe_op op_sub (pv 2) (pv 3))) (pa_cons (pe_op op_sub (pv 1) (pe_op op_mul (pv 3) (pe_glob (v := .int 1000000) rfl T.g_MILLION ⟨A.t_MILLION, rfl⟩))) pa_nil))))))), ?_⟩
    walk_at "i"
    refine g_ite (fun hc => ?_) (fun hc => ?_)
    · walk_at "v"
      refine g_newT (by simp) fun t H1 ht s1 h1 => ?_
      have e1 : pLeft l b c = 0 := by unfold pLeft; rw [if_pos hc]
      have e2 : pBegun l b c = 0 := by unfold pBegun; rw [if_pos hc]
      rw [e1, e2] at q
      exact q t H1 ht s1 h1
    · walk_at "v"
      refine g_newT (by simp) fun t H1 ht s1 h1 => ?_
      have e1 : pLeft l b c = l - (c - min c (b / 1000000)) := by unfold pLeft; rw [if_neg hc]
      have e2 : pBegun l b c = b - min c (b / 1000000) * 1000000 := by unfold pBegun; rw [if_neg hc]; omega
      rw [e1, e2] at q
      exact q t H1 ht s1 h1
theorem sc_Loan_stand : FnScope ["self", "day"] ["self", "day"] (defScope s_Loan_stand) := ⟨rfl, rfl, rfl, by decide +kernel, rfl, by decide +kernel, by decide +kernel⟩
theorem ok_Loan_stand (T : Txt K mg A) : FnOk P w K mg base (L2.CX P w) 2 A.a_Loan_stand A.d_Loan_stand ["self", "day"] (sp_stand A.c_Loan A.c_BadDay) := by
  refine T.F_Loan_stand.okX sc_Loan_stand (fun vs H Q E h => ?_) (fun cdv Ar outer s H vs Q E hr h => ?_)
  · obtain ⟨x, D, l, b, d, r, row, rfl, _⟩ := h
    rfl
  ·
    obtain ⟨x, D, l, b, d, r, row, rfl, ⟨⟨dx, hx⟩, hR⟩, nk, q1, q2⟩ := h
    obtain ⟨nl0, nl1, nb0, nb1, nd0, nd1⟩ := nk
    have cL := T.C_Loan
    have n1 := T.na_left
    have n2 := T.na_begun
    have n3 := T.na_day
    have n4 := T.na_rates
    refine ⟨_, (pss_cons (ps_expr (pe_call (ok_check_day T) (hr.mono (by decide)) rfl T.g_check_day T.F_check_day.kp T.B_check_day .nil (passes_call (takes_of rfl rfl rfl rfl) fun _ _ _ _ h => h) (pa_cons (pv 1) (pa_cons (pe_fld (pv 0) rfl) pa_nil))))
 (pss_one (ps_ret (pe_tup (pa_cons (pe_fld (pv 0) rfl) (pa_cons (pe_op op_add (pe_fld (pv 0) rfl) (pe_op op_mul (pe_fld (pv 0) rfl) (pe_call (ok_grown T) (hr.mono (by decide)) rfl T.g_grown T.F_grown.kp T.B_grown .nil pass0 (pa_cons (pe_fld (pv 0) rfl) (pa_cons (pe_fld (pv 0) rfl) (pa_cons (pv 1) pa_nil)))))) pa_nil)))))), ?_⟩
    walk_at "i"
    refine g_check_day (by omega) (by omega) q1 (fun hc => ?_)
    have q3 := q2 hc
    walk_at "v"
    refine g_grown hR (by omega) (by omega) (by omega) ?_
    walk_at "v"
    refine g_newT (by simp) fun t H1 ht s1 h1 => ?_
    exact q3 t H1 ht s1 h1
theorem sc_Loan_owed : FnScope ["self", "day", "left", "begun"] ["self", "day"] (defScope s_Loan_owed) := ⟨rfl, rfl, rfl, by decide +kernel, rfl, by decide +kernel, by decide +kernel⟩
theorem ok_Loan_owed (T : Txt K mg A) : FnOk P w K mg base (L2.CX P w) 3 A.a_Loan_owed A.d_Loan_owed ["self", "day"] (sp_owedL A.c_Loan A.c_BadDay) := by
  refine T.F_Loan_owed.okX sc_Loan_owed (fun vs H Q E h => ?_) (fun cdv Ar outer s H vs Q E hr h => ?_)
  · obtain ⟨x, D, l, b, d, r, row, rfl, _⟩ := h
    rfl
  ·
    obtain ⟨x, D, l, b, d, r, row, rfl, hL, nk, q1, q2⟩ := h
    obtain ⟨⟨dx, hx⟩, hR⟩ := id hL
    refine ⟨_, (pss_cons (ps_asg (pe_meth (pv 0) T.C_Loan T.m_Loan_stand (ok_Loan_stand T) (hr.mono (by decide)) T.B_Loan_stand .nil (passes_call (takes_of rfl rfl rfl rfl) fun _ _ _ _ h => h) (pa_cons (pv 1) pa_nil)) (pg_tup rfl (pgs_cons (pg_name (i := 2) sc_Loan_owed.nd rfl (Or.inl rfl)) (pgs_cons (pg_name (i := 3) sc_Loan_owed.nd rfl (Or.inl rfl)) pgs_nil))))
 (pss_one (ps_ret (pe_call (ok_cents_owed T) (hr.mono (by decide)) rfl T.g_cents_owed T.F_cents_owed.kp T.B_cents_owed .nil pass0 (pa_cons (pv 2) (pa_cons (pv 3) pa_nil)))))), ?_⟩
    walk_at "i"
    refine ⟨x, D, l, b, d, r, row, rfl, hL, nk, q1, fun hb t H1 ht s1 h1 => ?_⟩
    walk_at "v"
    refine g_unp2 h1 ?_
    walk_at "v"
    exact q2 hb H1 s1
theorem sc_Loan_pay : FnScope ["self", "day", "cents", "left", "begun", "owed", "off"] ["self", "day", "cents"] (defScope s_Loan_pay) := ⟨rfl, rfl, rfl, by decide +kernel, rfl, by decide +kernel, by decide +kernel⟩
theorem ok_Loan_pay (T : Txt K mg A) : FnOk P w K mg base (L2.CX P w) 3 A.a_Loan_pay A.d_Loan_pay ["self", "day", "cents"] (sp_pay A.c_Loan A.c_BadDay A.c_BadPay) := by
  refine T.F_Loan_pay.okX sc_Loan_pay (fun vs H Q E h => ?_) (fun cdv Ar outer s H vs Q E hr h => ?_)
  · obtain ⟨x, D, c, l, b, d, r, row, rfl, _⟩ := h
    rfl
  ·
    obtain ⟨x, D, c, l, b, d, r, row, rfl, hL, nk, hro, q1, q2⟩ := h
    obtain ⟨⟨dx, hx⟩, hR⟩ := id hL
    have cL := T.C_Loan
    have n1 := T.na_left
    have n2 := T.na_begun
    have n3 := T.na_day
    have n4 := T.na_rates
    refine ⟨_, (pss_cons (ps_asg (pe_meth (pv 0) T.C_Loan T.m_Loan_stand (ok_Loan_stand T) (hr.mono (by decide)) T.B_Loan_stand .nil (passes_call (takes_of rfl rfl rfl rfl) fun _ _ _ _ h => h) (pa_cons (pv 1) pa_nil)) (pg_tup rfl (pgs_cons (pg_name (i := 3) sc_Loan_pay.nd rfl (Or.inl rfl)) (pgs_cons (pg_name (i := 4) sc_Loan_pay.nd rfl (Or.inl rfl)) pgs_nil))))
 (pss_cons (ps_set (i := 5) sc_Loan_pay.nd rfl (Or.inl rfl) (pe_call (ok_cents_owed T) (hr.mono (by decide)) rfl T.g_cents_owed T.F_cents_owed.kp T.B_cents_owed .nil pass0 (pa_cons (pv 3) (pa_cons (pv 4) pa_nil))))
 (pss_cons (ps_if (PW.pt (pw_or (pt_cmpR op_lt (pv 2) pe_int (nomark _)) (pw_or1 (pt_cmpR op_gt (pv 2) (pv 5) (nomark _))))) (pss_one (ps_rz rfl (takes_of rfl rfl rfl rfl) T.x_BadPay T.g_BadPay T.k_BadPay (raises_own T.b_BadPay T.t_BadPay) rfl (pa_cons (pe_fs (.cons pe_str (.cons (pe_fmt (pv 5)) (.cons pe_str .nil)))) pa_nil)))
 pss_nil)
 (pss_cons (ps_asg (pe_call (ok_paid_down T) (hr.mono (by decide)) rfl T.g_paid_down T.F_paid_down.kp T.B_paid_down .nil pass0 (pa_cons (pv 3) (pa_cons (pv 4) (pa_cons (pv 2) pa_nil)))) (pg_tup rfl (pgs_cons (pg_fld (pv 0)) (pgs_cons (pg_fld (pv 0)) pgs_nil))))
 (pss_cons (ps_fld (pv 0) (pv 1) rfl)
 (pss_cons (ps_set (i := 6) sc_Loan_pay.nd rfl (Or.inl rfl) (pe_op op_sub (pv 3) (pe_fld (pv 0) rfl)))
 (pss_one (ps_ret (pe_tup (pa_cons (pe_op op_sub (pv 2) (pv 6)) (pa_cons (pv 6) pa_nil))))))))))), ?_⟩
    walk_at "i"
    refine ⟨x, D, l, b, d, r, row, rfl, hL, nk, q1, fun hb t H1 ht s1 h1 => ?_⟩
    obtain ⟨q3, q4⟩ := q2 hb
    have nw := nk.walk hro (D := D) (by omega) (by omega)
    obtain ⟨wl0, wl1, wb0, wb1, wd0, wd1⟩ := nw
    generalize hB : thenF l b d row D = B at *
    have ob : owedF l B ≤ 10 ^ 60 ∧ -(10 ^ 60) ≤ owedF l B := by unfold owedF; omega
    have hx1 := s1 _ _ hx
    walk_at "v"
    refine g_unp2 h1 ?_
    walk_at "v"
    refine g_ite (fun hc => ?_) (fun hc => ?_)
    · walk_at "v"
      exact q3 (.inl hc) H1 s1
    · walk_at "v"
      refine g_ite (fun hc2 => ?_) (fun hc2 => ?_)
      · walk_at "v"
        exact q3 (.inr hc2) H1 s1
      · have q5 := q4 (by omega)
        walk_at "v"
        refine g_paid_down fun t2 H2 ht2 s2' h2 => ?_
        have s2 := s1.trans s2'
        have hx2 := s2 _ _ hx
        walk_at "v"
        refine g_unpF h2 ?_
        walk_at "v"
        refine g_sf hx2 cL n1 fl_len fun H3 b3 hx3 => ?_
        rw [put_left] at hx3
        refine g_lastF ?_
        walk_at "v"
        refine g_sf hx3 cL n2 fl_len fun H4 b4 hx4 => ⟨by trivial, ?_⟩
        rw [put_begun] at hx4
        walk_at "v"
        refine g_sf hx4 cL n3 fl_len fun H5 b5 hx5 => ?_
        rw [put_day] at hx5
        walk_at "v"
        refine g_newT (by simp) fun t6 H6 ht6 s6 h6 => ?_
        have bt := (((But.same s2).trans b3).trans b4).trans b5
        have btx := bt.trans (But.same s6)
        have ht0 : t6 ≠ x := fun z => by rw [z, hx5] at ht6; cases ht6
        have hrx : r ≠ x := by
          obtain ⟨xs, e, _⟩ := hR
          exact ne_of e hx (by intro z; cases z)
        have fresh : H t6 = none := by
          cases e2 : H t6 with
          | none => rfl
          | some o => rw [bt _ _ ht0 e2] at ht6; cases ht6
        have hR6 := hR.but btx hrx (fun ps e => by rw [hx] at e; cases e)
        have hx6 := s6 _ _ hx5
        have e0 := pSum l B c
        have e1 := pLeft_off l B c
        have e3 : pInt l B c = c - (l - pLeft l B c) := by omega
        have e4 : pOff l B c = l - pLeft l B c := by omega
        rw [e3, e4] at q5
        exact q5 t6 H6 fresh btx ⟨⟨dx, hx6⟩, hR6⟩ h6
theorem sc_Loan_change : FnScope ["self", "day", "rate"] ["self", "day", "rate"] (defScope s_Loan_change) := ⟨rfl, rfl, rfl, by decide +kernel, rfl, by decide +kernel, by decide +kernel⟩
theorem ok_Loan_change (T : Txt K mg A) : FnOk P w K mg base (L2.CX P w) 3 A.a_Loan_change A.d_Loan_change ["self", "day", "rate"] (sp_change A.c_Loan A.c_BadDay A.c_BadRate) := by
  refine T.F_Loan_change.okX sc_Loan_change (fun vs H Q E h => ?_) (fun cdv Ar outer s H vs Q E hr h => ?_)
  · obtain ⟨x, D, rt, l, b, d, r, row, rfl, _⟩ := h
    rfl
  ·
    obtain ⟨x, D, rt, l, b, d, r, row, rfl, hL, nk, hne, hlen, hld, q1, q2⟩ := h
    obtain ⟨⟨dx, hx⟩, hR⟩ := id hL
    obtain ⟨nl0, nl1, nb0, nb1, nd0, nd1⟩ := nk
    have cL := T.C_Loan
    have n1 := T.na_left
    have n2 := T.na_begun
    have n3 := T.na_day
    have n4 := T.na_rates
    obtain ⟨ld, lr, hlast⟩ : ∃ ld lr, row.getLast? = some (ld, lr) := by
      rcases List.eq_nil_or_concat row with e | ⟨ys, p, e⟩
      · exact absurd e hne
      · exact ⟨p.1, p.2, by rw [e, List.concat_eq_append, last_snoc]⟩
    have eld : lastDay row = ld := by unfold lastDay; rw [hlast]; rfl
    rw [eld] at q1 q2 hld
    refine ⟨_, (pss_cons (ps_expr (pe_call (ok_check_pair T) (hr.mono (by decide)) rfl T.g_check_pair T.F_check_pair.kp T.B_check_pair .nil (passes_call (takes_of rfl rfl rfl rfl) fun _ _ _ _ h => h) (pa_cons (pv 1) (pa_cons (pv 2) (pa_cons (pe_callB (c_max rfl) rfl T.n_max (by decide +kernel) (pa_cons (pe_fld (pv 0) rfl) (pa_cons (pe_ix ix_tup (pe_ix ix_list (pe_fld (pv 0) rfl) (pe_un un_neg pe_int) (fun _ _ => rfl)) pe_int (fun _ _ => rfl)) pa_nil))) pa_nil)))))
 (pss_one (ps_fld (pv 0) (pe_op op_cat (pe_fld (pv 0) rfl) (pe_lst (pa_cons (pe_tup (pa_cons (pv 1) (pa_cons (pv 2) pa_nil))) pa_nil))) rfl))), ?_⟩
    walk_at "i"
    refine g_ixLast hR rfl hlast fun t0 ht0 => ?_
    walk_at "v"
    refine g_ixT (j := 0) ht0 rfl ?_
    walk_at "v"
    refine ⟨D, rt, max d ld, rfl, by omega, by omega, q1, fun hb => ⟨(q2 hb).1, fun hb2 => ?_⟩⟩
    have q3 := (q2 hb).2 hb2
    walk_at "v"
    refine g_newT (by simp) fun t1 H1 ht1 s1 h1 => ?_
    walk_at "v"
    refine g_newL (by simp) fun l2 H2 hl2 s2 h2 => ?_
    obtain ⟨xs, hx1, hx2⟩ := hR.same (s1.trans s2)
    have hn := hx2.len
    walk_at "v"
    refine g_cat hx1 h2 (by rw [List.length_singleton]; omega) fun l3 H3 hl3 s3 h3 => ?_
    have s4 := (s1.trans s2).trans s3
    walk_at "v"
    refine g_sf (s4 _ _ hx) cL n4 fl_len fun H5 b5 hx5 => ?_
    rw [put_rates] at hx5
    have hl3x : l3 ≠ x := fun z => by rw [z, (s1.trans s2) _ _ hx] at hl3; cases hl3
    have hR3 : RowAt H3 l3 (row ++ [(D, rt)]) := ⟨_, h3, (hx2.mono fun q ps e => s3 _ _ e).app (.cons (s3 _ _ (s2 _ _ h1)) .nil)⟩
    exact q3 l3 H5 ((s1.trans s2).free hl3) ((But.same s4).trans b5) ⟨⟨dx, hx5⟩, hR3.but b5 hl3x (fun ps e => by rw [s4 _ _ hx] at e; cases e)⟩

theorem sc_Loan_twin : FnScope ["self", "other"] ["self"] (defScope s_Loan_twin) := ⟨rfl, rfl, rfl, by decide +kernel, rfl, by decide +kernel, by decide +kernel⟩
theorem ok_Loan_twin (T : Txt K mg A) : FnOk P w K mg base CX0 6 A.a_Loan_twin A.d_Loan_twin ["self"] (sp_twin A.c_Loan) := by
  refine T.F_Loan_twin.ok sc_Loan_twin (fun vs H Q E h => ?_) (fun cdv Ar outer s H vs Q E hr h => ?_)
  · obtain ⟨x, l, b, d, r, row, rfl, _⟩ := h
    rfl
  ·
    obtain ⟨x, l, b, d, r, row, rfl, hL, hck, hlen, q⟩ := h
    obtain ⟨⟨dx, hx⟩, hR⟩ := id hL
    have cL := T.C_Loan
    have n1 := T.na_left
    have n2 := T.na_begun
    have n3 := T.na_day
    have n4 := T.na_rates
    refine ⟨_, (pss_cons (ps_set (i := 1) sc_Loan_twin.nd rfl (Or.inl rfl) (pe_make T.M_Loan (ok_Loan_init T) (hr.mono (by decide)) rfl T.g_Loan T.B_Loan_init .nil passL (pa_cons pe_int (pa_cons (pe_fld (pv 0) rfl) pa_nil))))
 (pss_cons (ps_fld (pv 1) (pe_fld (pv 0) rfl) rfl)
 (pss_cons (ps_fld (pv 1) (pe_fld (pv 0) rfl) rfl)
 (pss_cons (ps_fld (pv 1) (pe_fld (pv 0) rfl) rfl)
 (pss_one (ps_ret (pv 1))))))), ?_⟩
    walk_at "i"
    refine g_mkLoan hR hlen (by decide) (by decide) hck fun y r' H1 hy hr' s1 hLy => ?_
    have hx1 := s1 _ _ hx
    have xy : x ≠ y := fun z => by rw [z] at hx; rw [hx] at hy; cases hy
    obtain ⟨⟨dy, hy1⟩, hRy⟩ := id hLy
    walk_at "v"
    refine g_sf hy1 cL n1 fl_len fun H2 b2 hy2 => ?_
    rw [put_left] at hy2
    have hx2 := b2 _ _ xy hx1
    walk_at "v"
    refine g_sf hy2 cL n2 fl_len fun H3 b3 hy3 => ?_
    rw [put_begun] at hy3
    have hx3 := b3 _ _ xy hx2
    walk_at "v"
    refine g_sf hy3 cL n3 fl_len fun H4 b4 hy4 => ?_
    rw [put_day] at hy4
    walk_at "v"
    have bt := (b2.trans b3).trans b4
    exact q y r' H4 hy hr' (fun c o e => bt c o (fun z => by rw [z, hy] at e; cases e) (s1 _ _ e)) ⟨⟨dy, hy4⟩, hRy.butI bt hy1⟩

theorem sc_check_days : FnScope ["loan", "days", "first", "day"] ["loan", "days"] (defScope s_check_days) := ⟨rfl, rfl, rfl, by decide +kernel, rfl, by decide +kernel, by decide +kernel⟩
theorem ok_check_days (T : Txt K mg A) : FnOk P w K mg base (L2.CX P w) 2 A.a_check_days A.d_check_days ["loan", "days"] (sp_check_days A.c_Loan A.c_BadDay) := by
  refine T.F_check_days.okX sc_check_days (fun vs H Q E h => ?_) (fun cdv Ar outer s H vs Q E hr h => ?_)
  · obtain ⟨x, a, l, b, d, r, row, days, rfl, _⟩ := h
    rfl
  ·
    obtain ⟨x, a, l, b, d, r, row, days, rfl, hL, nk, hI, q1, q2⟩ := h
    obtain ⟨⟨dx, hx⟩, hR⟩ := id hL
    have cL := T.C_Loan
    have n3 := T.na_day
    have d0 := nk.d0
    have d1 := nk.d1
    refine ⟨_, (pss_cons (ps_set (i := 2) sc_check_days.nd rfl (Or.inl rfl) (pe_fld (pv 0) rfl))
 (pss_one (ps_for (passes_of rfl) rfl (pi_list (pv 1)) (pg_name (i := 3) sc_check_days.nd rfl (Or.inl rfl))
 (pss_cons (ps_expr (pe_call (ok_check_day T) (hr.mono (by decide)) rfl T.g_check_day T.F_check_day.kp T.B_check_day .nil (passes_call (takes_of rfl rfl rfl rfl) fun _ _ _ _ h => h) (pa_cons (pv 3) (pa_cons (pv 2) pa_nil))))
 (pss_one (ps_set (i := 2) sc_check_days.nd rfl (Or.inl rfl) (pe_op op_add (pv 3) pe_int))))))), ?_⟩
    walk_at "i"
    refine g_forI rfl hI (fun σ0 i σ' H' => H' = H ∧ ∃ f v, σ' = (σ0.set 2 (some (.int f))).set 3 v ∧ 0 ≤ f ∧ f ≤ 100001 ∧ daysOk d days = daysOk f (days.drop i)) ⟨rfl, d, none, by walk_at "z", by omega, by omega, rfl⟩ (fun i σ' H' ⟨e, _⟩ => by rw [e]; exact hI) ?_ ?_
    · rintro i D σ' H' hD ⟨rfl, f, v, rfl, f0, f1, ed⟩
      rw [drop_cons hD, daysOk] at ed
      walk_at "v"
      refine g_check_day (by omega) (by omega) (fun hc => q1 (by rw [ed, if_pos hc])) (fun hc => ?_)
      rw [if_neg hc] at ed
      walk_at "v"
      exact ⟨rfl, D + 1, some (.int D), by walk_at "z", by omega, by omega, ed⟩
    · rintro σ' H' ⟨rfl, f, v, rfl, f0, f1, ed⟩
      rw [List.drop_length] at ed
      exact q2 ed
theorem sc_check_some_days : FnScope ["loan", "days"] ["loan", "days"] (defScope s_check_some_days) := ⟨rfl, rfl, rfl, by decide +kernel, rfl, by decide +kernel, by decide +kernel⟩
theorem ok_check_some_days (T : Txt K mg A) : FnOk P w K mg base (L2.CX P w) 3 A.a_check_some_days A.d_check_some_days ["loan", "days"] (sp_check_some A.c_Loan A.c_BadDay) := by
  refine T.F_check_some_days.okX sc_check_some_days (fun vs H Q E h => ?_) (fun cdv Ar outer s H vs Q E hr h => ?_)
  · obtain ⟨x, a, l, b, d, r, row, days, rfl, _⟩ := h
    rfl
  ·
    obtain ⟨x, a, l, b, d, r, row, days, rfl, hL, nk, hI, q1, q2⟩ := h
    refine ⟨_, (pss_cons (ps_if (pt_cmpR op_eq (pe_callB c_len rfl T.n_len (by decide +kernel) (pa_cons (pv 1) pa_nil)) pe_int (nomark _)) (pss_one (ps_rz rfl (takes_of rfl rfl rfl rfl) T.x_BadDay T.g_BadDay T.k_BadDay (raises_own T.b_BadDay T.t_BadDay) rfl (pa_cons pe_str pa_nil)))
 pss_nil)
 (pss_one (ps_expr (pe_call (ok_check_days T) (hr.mono (by decide)) rfl T.g_check_days T.F_check_days.kp T.B_check_days .nil (passes_call (takes_of rfl rfl rfl rfl) fun _ _ _ _ h => h) (pa_cons (pv 0) (pa_cons (pv 1) pa_nil)))))), ?_⟩
    walk_at "i"
    refine g_lenI hI rfl ?_
    walk_at "v"
    refine g_ite (fun hc => ?_) (fun hc => ?_)
    · walk_at "v"
      exact q1 (.inl (List.length_eq_zero_iff.mp (by omega)))
    · walk_at "v"
      refine ⟨x, a, l, b, d, r, row, days, rfl, hL, nk, hI, fun e => q1 (.inr e), fun e => ?_⟩
      exact q2 (fun z => hc (by rw [z]; rfl)) e
theorem sc_check_part : FnScope ["part"] ["part"] (defScope s_check_part) := ⟨rfl, rfl, rfl, by decide +kernel, rfl, by decide +kernel, by decide +kernel⟩
theorem ok_check_part (T : Txt K mg A) : FnOk P w K mg base (L2.CX P w) 1 A.a_check_part A.d_check_part ["part"] (sp_check_part A.c_BadPay) := by
  refine T.F_check_part.okX sc_check_part (fun vs H Q E h => ?_) (fun cdv Ar outer s H vs Q E hr h => ?_)
  · obtain ⟨p, rfl, _⟩ := h
    rfl
  ·
    obtain ⟨p, rfl, q1, q2⟩ := h
    refine ⟨_, (pss_one (ps_if (pt_cmpR op_lt (pv 0) pe_int (nomark _)) (pss_one (ps_rz rfl (takes_of rfl rfl rfl rfl) T.x_BadPay T.g_BadPay T.k_BadPay (raises_own T.b_BadPay T.t_BadPay) rfl (pa_cons pe_str pa_nil)))
 pss_nil)), ?_⟩
    walk_at "i"
    refine g_ite (fun hc => ?_) (fun hc => ?_)
    · walk_at "v"
      exact q1 hc
    · walk_at "v"
      exact q2 (by omega)
theorem sc_pay_parts : FnScope ["loan", "days", "part", "payments", "day", "paid", "interest", "off"] ["loan", "days", "part"] (defScope s_pay_parts) := ⟨rfl, rfl, rfl, by decide +kernel, rfl, by decide +kernel, by decide +kernel⟩
theorem ok_pay_parts (T : Txt K mg A) : FnOk P w K mg base CX0 4 A.a_pay_parts A.d_pay_parts ["loan", "days", "part"] (sp_pay_parts A.c_Loan) := by
  refine T.F_pay_parts.ok sc_pay_parts (fun vs H Q E h => ?_) (fun cdv Ar outer s H vs Q E hr h => ?_)
  · obtain ⟨x, a, p, l, b, d, r, row, days, rfl, _⟩ := h
    rfl
  ·
    obtain ⟨x, a, p, l, b, d, r, row, days, rfl, hL, nk, hro, hI, hd, hlen, hp, q⟩ := h
    obtain ⟨⟨dx, hx⟩, hR⟩ := id hL
    have cL := T.C_Loan
    have n1 := T.na_left
    refine ⟨_, (pss_cons (ps_set (i := 3) sc_pay_parts.nd rfl (Or.inl rfl) (pe_lst pa_nil))
 (pss_cons (ps_for PassesOwn.never rfl (pi_list (pv 1)) (pg_name (i := 4) sc_pay_parts.nd rfl (Or.inl rfl))
 (pss_cons (ps_set (i := 5) sc_pay_parts.nd rfl (Or.inl rfl) (pe_callB (c_min rfl) rfl T.n_min (by decide +kernel) (pa_cons (pv 2) (pa_cons (pe_meth (pv 0) T.C_Loan T.m_Loan_owed (ok_Loan_owed T) (hr.mono (by decide)) T.B_Loan_owed .nil passL (pa_cons (pv 4) pa_nil)) pa_nil))))
 (pss_cons (ps_if (pt_cmpR op_eq (pv 5) pe_int (nomark _)) (pss_one ps_break)
 pss_nil)
 (pss_cons (ps_asg (pe_meth (pv 0) T.C_Loan T.m_Loan_pay (ok_Loan_pay T) (hr.mono (by decide)) T.B_Loan_pay .nil passL (pa_cons (pv 4) (pa_cons (pv 5) pa_nil))) (pg_tup rfl (pgs_cons (pg_name (i := 6) sc_pay_parts.nd rfl (Or.inl rfl)) (pgs_cons (pg_name (i := 7) sc_pay_parts.nd rfl (Or.inl rfl)) pgs_nil))))
 (pss_one (ps_expr (pe_bm PySem.F.plainAttrs_list PySem.F.slot_list_append PySem.F.type_list_append mt_append (pv 3) (pa_cons (pe_tup (pa_cons (pv 4) (pa_cons (pv 5) (pa_cons (pv 6) (pa_cons (pv 7) (pa_cons (pe_fld (pv 0) rfl) pa_nil)))))) pa_nil))))))))
 (pss_one (ps_ret (pv 3))))), ?_⟩
    walk_at "i"
    refine g_newL (by simp) fun o H1 ho s1 h1 => ?_
    have hx1 := s1 _ _ hx
    have ox : o ≠ x := fun z => by rw [z] at ho; rw [ho] at hx; cases hx
    walk_at "v"
    have fin : ∀ (H' : Hp) (l' b' d' : Int) (rows : List P5), But x H H' → LoanAt A.c_Loan H' x l' b' d' r row → PlanAt H' o rows → planRows row p l b d days = rows → planEnd row p l b d days = (l', b', d') → Q (.ref o) H' := fun H' l' b' d' rows b1 hL1 hP e1 e2 => by
      refine q o H' ho b1 ?_ ?_
      · rw [e2]; exact hL1
      · rw [e1]; exact hP
    refine g_forI rfl (hI.same s1) (fun σ0 i σ' H' => But x H H' ∧ ∃ l' b' d' rows v1 v2 v3 v4, σ' = (((σ0.set 4 v1).set 5 v2).set 6 v3).set 7 v4 ∧ LoanAt A.c_Loan H' x l' b' d' r row ∧ NumOk l' b' d' ∧ PlanAt H' o rows ∧ rows.length ≤ i ∧ i ≤ days.length ∧ daysOk d' (days.drop i) = true ∧
      planRows row p l b d days = rows ++ planRows row p l' b' d' (days.drop i) ∧ planEnd row p l b d days = planEnd row p l' b' d' (days.drop i)) ?_ ?_ ?_ ?_
    · exact ⟨But.same s1, l, b, d, [], none, none, none, none, by walk_at "z", hL.same s1, nk, ⟨_, h1, .nil⟩, Nat.le_refl _, Nat.zero_le _, hd, rfl, rfl⟩
    · rintro i σ' H' ⟨b1, _⟩
      exact hI.butI b1 hx
    · rintro i D σ' H' hD ⟨b1, l', b', d', rows, v1, v2, v3, v4, rfl, hL', nk', hP, hrl, hil, hd', e1, e2⟩
      have hi2 : i < days.length := (List.getElem?_eq_some_iff.mp hD).1
      rw [drop_cons hD] at hd' e1 e2
      obtain ⟨hd1, hd2, hd3⟩ := daysOk_cons hd'
      rw [planRows] at e1
      rw [planEnd] at e2
      have nB := nk'.walk hro hd1 hd2
      obtain ⟨⟨dx', hx'⟩, hR'⟩ := id hL'
      walk_at "v"
      refine ⟨x, D, l', b', d', r, row, rfl, hL', nk', fun h => absurd h (by omega), fun _ H2 s2 => ?_⟩
      generalize hB : thenF l' b' d' row D = B at *
      walk_at "v"
      have em : min p (owedF l' B) = partF p l' B := rfl
      rw [em]
      have ho0 : 0 ≤ owedF l' B := by have := nB.l0; have := nB.b0; unfold owedF; omega
      have hcm : partF p l' B ≤ owedF l' B := by unfold partF; omega
      have hc0 : 0 ≤ partF p l' B := by unfold partF; omega
      generalize hcc : partF p l' B = c at *
      have hx2 := s2 _ _ hx'
      refine g_ite (fun hz => ?_) (fun hz => ?_)
      · walk_at "v"
        rw [if_pos hz, List.append_nil] at e1
        rw [if_pos hz] at e2
        exact fin H2 l' b' d' rows (b1.trans (But.same s2)) (hL'.same s2) (hP.same s2) e1 e2
      · rw [if_neg hz] at e1 e2
        walk_at "v"
        refine ⟨x, D, c, l', b', d', r, row, rfl, hL'.same s2, nk', hro, fun h => absurd h (by omega), fun _ => ?_⟩
        rw [hB]
        refine ⟨fun h => absurd h (by omega), fun _ t3 H3 ht3 b3 hL3 h3 => ?_⟩
        walk_at "v"
        refine g_unp2 h3 ?_
        walk_at "v"
        obtain ⟨xs, hxs, hfv⟩ := (hP.same s2).butI b3 (s2 _ _ hx')
        refine g_tyL hxs ?_
        obtain ⟨⟨dx3, hx3⟩, hR3⟩ := id hL3
        walk_at "v"
        refine g_newT (by simp) fun t4 H4 ht4 s4 h4 => ?_
        walk_at "v"
        have nl := hfv.len
        refine g_append (s4 _ _ hxs) (by omega) ?_
        have b14 : But x H H4 := ((b1.trans (But.same s2)).trans b3).trans (But.same s4)
        have hP4 : PlanAt (upd H4 o (.lst (xs ++ [.ref t4]))) o (rows ++ [(D, c, pInt l' B c, pOff l' B c, pLeft l' B c)]) := PlanAt.snoc (hfv.mono fun q ps e => s4 _ _ e) (s4 _ _ hxs) h4
        have hL4 : LoanAt A.c_Loan (upd H4 o (.lst (xs ++ [.ref t4]))) x (pLeft l' B c) (pBegun l' B c) D r row := by
          have hRh := hR
          obtain ⟨ys, e5, _⟩ := hRh
          have ro : r ≠ o := fun z => by rw [z] at e5; rw [ho] at e5; cases e5
          have b4 : But o H4 (upd H4 o (.lst (xs ++ [.ref t4]))) := but_upd
          exact ⟨⟨dx3, b4 _ _ (fun z => ox z.symm) (s4 _ _ hx3)⟩, (hR3.same s4).but b4 ro (fun ps e => by rw [s4 _ _ hxs] at e; cases e)⟩
        refine ⟨fun b0 o0 n0 e0 => ?_, pLeft l' B c, pBegun l' B c, D, _, _, _, _, _, by walk_at "z", hL4, nB.pay (by omega) hcm, hP4, by simp; omega, by omega, daysOk_weak (by omega) hd3, by rw [e1, List.append_assoc]; rfl, e2⟩
        rw [upd_ne (fun z => by rw [z, ho] at e0; cases e0)]
        exact b14 _ _ n0 e0
    · rintro σ' H' ⟨b1, l', b', d', rows, v1, v2, v3, v4, rfl, hL', nk', hP, hrl, hil, hd', e1, e2⟩
      rw [List.drop_length, planRows, List.append_nil] at e1
      rw [List.drop_length, planEnd] at e2
      walk_at "v"
      exact fin H' l' b' d' rows b1 hL' hP e1 e2
theorem sc_cost : FnScope ["loan", "days", "part", "twin", "payments", "payment"] ["loan", "days", "part"] (defScope s_cost) := ⟨rfl, rfl, rfl, by decide +kernel, rfl, by decide +kernel, by decide +kernel⟩
theorem ok_cost (T : Txt K mg A) : FnOk P w K mg base (L2.CX P w) 7 A.a_cost A.d_cost ["loan", "days", "part"] (sp_cost A.c_Loan A.c_BadDay A.c_BadPay) := by
  refine T.F_cost.okX sc_cost (fun vs H Q E h => ?_) (fun cdv Ar outer s H vs Q E hr h => ?_)
  · obtain ⟨x, a, p, l, b, d, r, row, days, rfl, _⟩ := h
    rfl
  ·
    obtain ⟨x, a, p, l, b, d, r, row, days, rfl, gl, hI, hlen, q1, q2⟩ := h
    have hck := checkF_ok gl.ok gl.last
    refine ⟨_, (pss_cons (ps_expr (pe_call (ok_check_some_days T) (hr.mono (by decide)) rfl T.g_check_some_days T.F_check_some_days.kp T.B_check_some_days .nil (passes_call (takes_of rfl rfl rfl rfl) fun _ _ _ _ h => h) (pa_cons (pv 0) (pa_cons (pv 1) pa_nil))))
 (pss_cons (ps_expr (pe_call (ok_check_part T) (hr.mono (by decide)) rfl T.g_check_part T.F_check_part.kp T.B_check_part .nil (passes_call (takes_of rfl rfl rfl rfl) fun _ _ _ _ h => h) (pa_cons (pv 2) pa_nil)))
 (pss_cons (ps_set (i := 3) sc_cost.nd rfl (Or.inl rfl) (pe_meth0 (pv 0) T.C_Loan T.m_Loan_twin (ok_Loan_twin T) (hr.mono (by decide)) T.B_Loan_twin .nil pass0))
 (pss_cons (ps_set (i := 4) sc_cost.nd rfl (Or.inl rfl) (pe_call (ok_pay_parts T) (hr.mono (by decide)) rfl T.g_pay_parts T.F_pay_parts.kp T.B_pay_parts .nil pass0 (pa_cons (pv 3) (pa_cons (pv 1) (pa_cons (pv 2) pa_nil)))))
 (pss_one (ps_ret (pe_op op_add (pe_callB (cr_sum rfl) rfl T.n_sum (by decide +kernel) (pa_cons (pe_lc (own := [("payment", 5)]) (by rfl) sc_cost.nd (pi_list (pv 4)) (blkOk_by (own := [("payment", 5)]) (N := ["loan", "days", "part", "twin", "payments", "payment"]) (sc := defScope s_cost) (by decide +kernel)) (fun _ _ _ _ _ => (pg_name (i := 5) sc_cost.nd rfl (Or.inl rfl) (Or.inr rfl))) (fun _ _ _ _ _ => pts_nil) (fun _ _ _ _ _ => (pe_ix (show IxR _ (rIxT K) from ix_tup) (pv 5) pe_int (fun _ _ => rfl)))) pa_nil)) (pe_meth (pv 3) T.C_Loan T.m_Loan_owed (ok_Loan_owed T) (hr.mono (by decide)) T.B_Loan_owed .nil (passes_call (takes_of rfl rfl rfl rfl) fun _ _ _ _ h => h) (pa_cons (pe_ix ix_list (pv 1) (pe_un un_neg pe_int) (fun _ _ => rfl)) pa_nil))))))))), ?_⟩
    walk_at "i"
    refine ⟨x, a, l, b, d, r, row, days, rfl, gl.L, gl.n, hI, q1, fun hn hd => ?_⟩
    obtain ⟨q3, q4⟩ := q2 hn hd
    walk_at "v"
    refine ⟨p, rfl, q3, fun hp => ?_⟩
    have q5 := q4 hp
    obtain ⟨⟨dx, hx⟩, hR⟩ := id gl.L
    walk_at "v"
    refine ⟨x, l, b, d, r, row, rfl, gl.L, hck, gl.len, fun y r' H1 hy hr' s1 hL1 => ?_⟩
    walk_at "v"
    refine ⟨y, a, p, l, b, d, r', row, days, rfl, hL1, gl.n, gl.ok.rate, hI.same s1, hd, hlen, hp, fun o H2 ho b2 hL2 hP => ?_⟩
    have s2 : Same H H2 := fun b0 o0 e0 => b2 _ _ (fun z => by rw [z, hy] at e0; cases e0) (s1 _ _ e0)
    have pe := planEnd_num gl.ok.rate hp days l b d gl.n hd
    have ce := cost_eq gl.ok.rate hp gl.n hd
    have rl := planRows_len row p days l b d
    generalize planRows row p l b d days = rows at hP ce rl
    generalize planEnd row p l b d days = pend at hL2 pe ce
    obtain ⟨l', b', d'⟩ := pend
    dsimp only at hL2 pe ce
    have lg := lastOr_get (d := d) hn
    have lh := lastOr_hi gl.n.d1 hd
    generalize lastOr d days = la at pe ce lg lh
    walk_at "v"
    obtain ⟨xs, hxs, hfv⟩ := id hP
    obtain ⟨⟨dy, hy2⟩, hRy⟩ := id hL2
    refine g_lcL rfl (SqL.of hxs) (fun D i H' => H2 D = none ∧ Same H2 H' ∧ IntsAt H' D ((rows.take i).map fun r => r.2.1)) (fun D hD => ⟨hD, same_new hD, upd_same⟩) (fun D i H' ⟨_, s, _⟩ => SqL.of (s _ _ hxs)) ?_ ?_
    · rintro D i v H' hv ⟨nD, s3, hD⟩
      obtain ⟨r5, t5, hr5, rfl, ht5⟩ := hfv.got hv
      have i1 : i < rows.length := (List.getElem?_eq_some_iff.mp hr5).1
      walk_at "v"
      refine ⟨rfl, ?_⟩
      simp only [wipe, List.set_cons_succ, List.set_cons_zero]
      walk_at "v"
      refine g_ixT (j := 1) (s3 _ _ ht5) rfl ?_
      refine ⟨_, hD, Nat.lt_of_le_of_lt (m := 100000) (by rw [List.length_map, List.length_map, List.length_take]; omega) (by decide), nD, same_upd s3 nD, ?_⟩
      unfold IntsAt
      rw [upd_same, take_snoc hr5, List.map_append, List.map_append]
      rfl
    · rintro D H3 hD ⟨_, s3, hI3⟩
      rw [hfv.len, List.take_length] at hI3
      walk_at "v"
      refine g_sum hI3 ?_
      have hL3 := hL2.same s3
      obtain ⟨⟨dy3, hy3⟩, hRy3⟩ := id hL3
      walk_at "v"
      refine g_ixIlast ((hI.same s2).same s3) rfl lg ?_
      walk_at "v"
      refine ⟨y, la, l', b', d', r', row, rfl, hL3, pe.1, fun h => absurd h (by omega), fun _ H4 s4 => ?_⟩
      walk_at "v"
      rw [ce]
      exact q5 H4 ((s2.trans s3).trans s4)
theorem sc_saved : FnScope ["loan", "days", "part", "day", "cents", "without", "twin"] ["loan", "days", "part", "day", "cents"] (defScope s_saved) := ⟨rfl, rfl, rfl, by decide +kernel, rfl, by decide +kernel, by decide +kernel⟩
theorem ok_saved (T : Txt K mg A) : FnOk P w K mg base (L2.CX P w) 8 A.a_saved A.d_saved ["loan", "days", "part", "day", "cents"] (sp_saved A.c_Loan A.c_BadDay A.c_BadPay) := by
  refine T.F_saved.okX sc_saved (fun vs H Q E h => ?_) (fun cdv Ar outer s H vs Q E hr h => ?_)
  · obtain ⟨x, a, p, e, c, l, b, d, r, row, days, rfl, _⟩ := h
    rfl
  ·
    obtain ⟨x, a, p, e, c, l, b, d, r, row, days, rfl, gl, hI, hlen, q1, q2⟩ := h
    have hck := checkF_ok gl.ok gl.last
    have nk := gl.n
    obtain ⟨nl0, nl1, nb0, nb1, d0, d1⟩ := id nk
    refine ⟨_, (pss_cons (ps_set (i := 5) sc_saved.nd rfl (Or.inl rfl) (pe_call (ok_cost T) (hr.mono (by decide)) rfl T.g_cost T.F_cost.kp T.B_cost .nil (passes_call (takes_of rfl rfl rfl rfl) fun _ _ _ _ h => h) (pa_cons (pv 0) (pa_cons (pv 1) (pa_cons (pv 2) pa_nil)))))
 (pss_cons (ps_if (PW.pt (pw_or (pt_cmpR op_lt (pv 3) (pe_fld (pv 0) rfl) (nomark _)) (pw_or1 (pt_cmpR op_gt (pv 3) (pe_ix ix_list (pv 1) pe_int (fun _ _ => rfl)) (nomark _))))) (pss_one (ps_rz rfl (takes_of rfl rfl rfl rfl) T.x_BadDay T.g_BadDay T.k_BadDay (raises_own T.b_BadDay T.t_BadDay) rfl (pa_cons (pe_fs (.cons pe_str (.cons (pe_fmt (pe_fld (pv 0) rfl)) (.cons pe_str (.cons (pe_fmt (pe_ix ix_list (pv 1) pe_int (fun _ _ => rfl))) .nil))))) pa_nil)))
 pss_nil)
 (pss_cons (ps_set (i := 6) sc_saved.nd rfl (Or.inl rfl) (pe_meth0 (pv 0) T.C_Loan T.m_Loan_twin (ok_Loan_twin T) (hr.mono (by decide)) T.B_Loan_twin .nil pass0))
 (pss_cons (ps_expr (pe_meth (pv 6) T.C_Loan T.m_Loan_pay (ok_Loan_pay T) (hr.mono (by decide)) T.B_Loan_pay .nil (passes_call (takes_of rfl rfl rfl rfl) fun _ _ _ _ h => h) (pa_cons (pv 3) (pa_cons (pv 4) pa_nil))))
 (pss_one (ps_ret (pe_op op_sub (pe_op op_sub (pv 5) (pv 4)) (pe_call (ok_cost T) (hr.mono (by decide)) rfl T.g_cost T.F_cost.kp T.B_cost .nil (passes_call (takes_of rfl rfl rfl rfl) fun _ _ _ _ h => h) (pa_cons (pv 6) (pa_cons (pv 1) (pa_cons (pv 2) pa_nil))))))))))), ?_⟩
    walk_at "i"
    refine ⟨x, a, p, l, b, d, r, row, days, rfl, gl, hI, hlen, q1, fun hn hd => ?_⟩
    obtain ⟨q3, q4⟩ := q2 hn hd
    refine ⟨q3, fun hp H1 s1 => ?_⟩
    obtain ⟨q5, q6⟩ := q4 hp
    have gl1 := gl.same s1
    have hI1 := hI.same s1
    obtain ⟨⟨dx, hx⟩, hR⟩ := id gl1.L
    have cL := T.C_Loan
    have n3 := T.na_day
    obtain ⟨D, t, ed⟩ : ∃ D t, days = D :: t := by
      cases days with
      | nil => exact absurd rfl hn
      | cons D t => exact ⟨D, t, rfl⟩
    have eh : days.headD 0 = D := by rw [ed]; rfl
    have h0 : days[0]? = some D := by rw [ed]; rfl
    rw [eh] at q5 q6
    have hD : d ≤ D ∧ D ≤ 100000 := daysOk_le hd D (by rw [ed]; simp)
    walk_at "v"
    refine g_ite (fun hc => ?_) (fun hc => ?_)
    · walk_at "v"
      refine g_ixI hI1 (j := 0) rfl h0 ?_
      walk_at "v"
      exact q5 (.inl hc) H1 s1
    · walk_at "v"
      refine g_ixI hI1 (j := 0) rfl h0 ?_
      walk_at "v"
      refine g_ite (fun hc2 => ?_) (fun hc2 => ?_)
      · walk_at "v"
        refine g_ixI hI1 (j := 0) rfl h0 ?_
        walk_at "v"
        exact q5 (.inr hc2) H1 s1
      · obtain ⟨q7, q8⟩ := q6 (by omega)
        walk_at "v"
        refine ⟨x, l, b, d, r, row, rfl, gl1.L, hck, gl.len, fun y r' H2 hy hr' s2 hL2 => ?_⟩
        obtain ⟨⟨dy, hy2⟩, hRy⟩ := id hL2
        walk_at "v"
        have nw := nk.walk gl.ok.rate (D := e) (by omega) (by omega)
        have s12 := s1.trans s2
        refine ⟨y, e, c, l, b, d, r', row, rfl, hL2, nk, gl.ok.rate, fun h => absurd h (by omega), fun _ => ⟨fun hb H3 s3 => q7 hb H3 (s12.trans s3), fun hb t4 H4 ht4 b4 hL4 h4 => ?_⟩⟩
        have q9 := q8 hb
        have s4 : Same H H4 := fun b0 o0 e0 => b4 _ _ (fun z => by rw [z, s1.free hy] at e0; cases e0) (s12 _ _ e0)
        have nB := nw.pay (c := c) (by omega) (by omega)
        walk_at "v"
        refine ⟨y, a, p, _, _, e, r', row, days, rfl, ⟨hL4, nB, gl.ok, gl.last, gl.len⟩, hI.same s4, hlen, fun h => ?_, fun _ _ => ⟨fun h => absurd h (by omega), fun _ H5 s5 => ?_⟩⟩
        · rcases h with h | h
          · exact absurd h hn
          · rw [ed] at hd h
            rw [daysOk_head hd (by omega)] at h
            cases h
        · walk_at "v"
          exact q9 H5 (s4.trans s5)
theorem sc_amount_by : FnScope ["_law_cell"] ["_law_cell"] (defScope s_amount_by) := ⟨rfl, rfl, rfl, by decide +kernel, rfl, by decide +kernel, by decide +kernel⟩
theorem ok_amount_by (T : Txt K mg A) : FnOk P w K mg base CX0 2 A.a_amount_by A.d_amount_by ["_law_cell"] sp_amount_by := by
  refine T.F_amount_by.ok sc_amount_by (fun vs H Q E h => ?_) (fun cdv Ar outer s H vs Q E hr h => ?_)
  · obtain ⟨c, rfl, _⟩ := h
    rfl
  ·
    obtain ⟨c, rfl, q⟩ := h
    refine ⟨_, (pss_cons (ps_if (pt_cmpR op_eq (pe_op op_mod (pv 0) pe_int) pe_int (nomark _)) (pss_one (ps_ret (pe_ix ix_list (pe_lst (pa_cons pe_int (pa_cons pe_int (pa_cons pe_int (pa_cons pe_int pa_nil))))) (pe_op op_mod (pe_op op_fdiv (pv 0) pe_int) pe_int) (fun _ _ => rfl))))
 pss_nil)
 (pss_cons (ps_if (pt_cmpR op_eq (pe_op op_mod (pv 0) pe_int) pe_int (nomark _)) (pss_one (ps_ret (pe_op op_add pe_int (pe_op op_mod (pe_op op_fdiv (pv 0) pe_int) pe_int))))
 pss_nil)
 (pss_one (ps_ret (pe_op op_add pe_int (pe_op op_mod (pe_op op_add (pe_op op_mul (pe_call (ok_mixed T) (hr.mono (by decide)) rfl T.g_mixed T.F_mixed.kp T.B_mixed .nil pass0 (pa_cons (pv 0) (pa_cons pe_int pa_nil))) pe_int) pe_int) pe_int)))))), ?_⟩
    walk_at "i"
    refine g_ite (fun hc => ?_) (fun hc => ?_)
    · walk_at "v"
      refine g_newL (by simp) fun p H1 hp s1 h1 => ?_
      walk_at "v"
      have h4 : c / 4 % 4 = 0 ∨ c / 4 % 4 = 1 ∨ c / 4 % 4 = 2 ∨ c / 4 % 4 = 3 := by omega
      have e : amountBy c = [1, 2, 999999999999, 1000000000000].getD (c / 4 % 4).toNat 0 := by unfold amountBy; rw [if_pos hc]
      have q1 := q H1 s1
      rw [e] at q1
      rcases h4 with h4 | h4 | h4 | h4
      all_goals
        rw [h4] at q1 ⊢
        refine g_ixL (SqL.of h1) rfl rfl ?_
        exact q1
    · walk_at "v"
      refine g_ite (fun hd => ?_) (fun hd => ?_)
      · walk_at "v"
        have e : amountBy c = 1 + c / 4 % 5000 := by unfold amountBy; rw [if_neg hc, if_pos hd]
        have q1 := q H (Same.refl _)
        rw [e] at q1
        exact q1
      · walk_at "v"
        have e : amountBy c = 1 + (mixed c 2147483647 * 467 + 5) % 1000000000000 := by unfold amountBy; rw [if_neg hc, if_neg hd]
        have q1 := q H (Same.refl _)
        rw [e] at q1
        exact q1
theorem sc_owed : FnScope ["_law_left", "_law_begun"] ["_law_left", "_law_begun"] (defScope s_owed) := ⟨rfl, rfl, rfl, by decide +kernel, rfl, by decide +kernel, by decide +kernel⟩
theorem ok_owed (T : Txt K mg A) : FnOk P w K mg base CX0 1 A.a_owed A.d_owed ["_law_left", "_law_begun"] sp_owed := by
  refine T.F_owed.ok sc_owed (fun vs H Q E h => ?_) (fun cdv Ar outer s H vs Q E hr h => ?_)
  · obtain ⟨l, b, rfl, _⟩ := h
    rfl
  ·
    obtain ⟨l, b, rfl, q⟩ := h
    refine ⟨_, (pss_one (ps_ret (pe_op op_add (pv 0) (pe_op op_fdiv (pe_op op_add (pv 1) pe_int) pe_int)))), ?_⟩
    walk_at "i"
    exact q
theorem sc_parts : FnScope ["_law_left", "_law_begun", "_law_cents", "_law_owed_here", "_law_interest", "_law_off"] ["_law_left", "_law_begun", "_law_cents"] (defScope s_parts) := ⟨rfl, rfl, rfl, by decide +kernel, rfl, by decide +kernel, by decide +kernel⟩
theorem ok_parts (T : Txt K mg A) : FnOk P w K mg base CX0 1 A.a_parts A.d_parts ["_law_left", "_law_begun", "_law_cents"] sp_parts := by
  refine T.F_parts.ok sc_parts (fun vs H Q E h => ?_) (fun cdv Ar outer s H vs Q E hr h => ?_)
  · obtain ⟨l, b, c, rfl, _⟩ := h
    rfl
  ·
    obtain ⟨l, b, c, rfl, q⟩ := h
    refine ⟨_, (pss_cons (ps_set (i := 3) sc_parts.nd rfl (Or.inl rfl) (pe_op op_add (pv 0) (pe_op op_fdiv (pe_op op_add (pv 1) pe_int) pe_int)))
 (pss_cons (ps_if (pt_cmpR op_eq (pv 2) (pv 3) (nomark _)) (pss_one (ps_ret (pe_tup (pa_cons (pe_op op_sub (pv 3) (pv 0)) (pa_cons (pv 0) (pa_cons pe_int (pa_cons pe_int pa_nil)))))))
 pss_nil)
 (pss_cons (ps_set (i := 4) sc_parts.nd rfl (Or.inl rfl) (pe_callB (c_min rfl) rfl T.n_min (by decide +kernel) (pa_cons (pv 2) (pa_cons (pe_op op_fdiv (pv 1) pe_int) pa_nil))))
 (pss_cons (ps_set (i := 5) sc_parts.nd rfl (Or.inl rfl) (pe_op op_sub (pv 2) (pv 4)))
 (pss_one (ps_ret (pe_tup (pa_cons (pv 4) (pa_cons (pv 5) (pa_cons (pe_op op_sub (pv 0) (pv 5)) (pa_cons (pe_op op_sub (pv 1) (pe_op op_mul pe_int (pv 4))) pa_nil))))))))))), ?_⟩
    walk_at "i"
    have eo : l + (b + 999999) / 1000000 = owedF l b := rfl
    rw [eo]
    refine g_ite (fun hc => ?_) (fun hc => ?_)
    · walk_at "v"
      refine g_newT (by simp) fun t H1 ht s1 h1 => ?_
      have e1 : pInt l b c = owedF l b - l := by unfold pInt; rw [if_pos hc]
      have e2 : pOff l b c = l := by unfold pOff; rw [if_pos hc]
      have e3 : pLeft l b c = 0 := by unfold pLeft; rw [if_pos hc]
      have e4 : pBegun l b c = 0 := by unfold pBegun; rw [if_pos hc]
      rw [e1, e2, e3, e4] at q
      exact q t H1 ht s1 h1
    · walk_at "v"
      refine g_newT (by simp) fun t H1 ht s1 h1 => ?_
      have e1 : pInt l b c = min c (b / 1000000) := by unfold pInt; rw [if_neg hc]
      have e2 : pOff l b c = c - min c (b / 1000000) := by unfold pOff; rw [if_neg hc]
      have e3 : pLeft l b c = l - (c - min c (b / 1000000)) := by unfold pLeft; rw [if_neg hc]
      have e4 : pBegun l b c = b - 1000000 * min c (b / 1000000) := by unfold pBegun; rw [if_neg hc]
      rw [e1, e2, e3, e4] at q
      exact q t H1 ht s1 h1
theorem sc_made : FnScope ["_law_amount", "_law_row", "_law_cell", "_law_keep", "_law_loan", "_law_pair"] ["_law_amount", "_law_row", "_law_cell"] (defScope s_made) := ⟨rfl, rfl, rfl, by decide +kernel, rfl, by decide +kernel, by decide +kernel⟩
theorem ok_made (T : Txt K mg A) : FnOk P w K mg base CX0 6 A.a_made A.d_made ["_law_amount", "_law_row", "_law_cell"] (sp_made A.c_Loan) := by
  refine T.F_made.ok sc_made (fun vs H Q E h => ?_) (fun cdv Ar outer s H vs Q E hr h => ?_)
  · obtain ⟨a, l, c, row, rfl, _⟩ := h
    rfl
  ·
    obtain ⟨a, l, c, row, rfl, hR, ok, hd, hlen, h1, h2, q⟩ := h
    refine ⟨_, (pss_cons (ps_set (i := 3) sc_made.nd rfl (Or.inl rfl) (pe_op op_add pe_int (pe_op op_mod (pv 2) (pe_callB c_len rfl T.n_len (by decide +kernel) (pa_cons (pv 1) pa_nil)))))
 (pss_cons (ps_set (i := 4) sc_made.nd rfl (Or.inl rfl) (pe_make T.M_Loan (ok_Loan_init T) (hr.mono (by decide)) rfl T.g_Loan T.B_Loan_init .nil passL (pa_cons (pv 0) (pa_cons (pe_slice sl_list (pv 1) po_none (po_some (pv 3))) pa_nil))))
 (pss_cons (ps_for PassesOwn.never rfl (pi_list (pe_slice sl_list (pv 1) (po_some (pv 3)) po_none)) (pg_name (i := 5) sc_made.nd rfl (Or.inl rfl))
 (pss_one (ps_expr (pe_meth (pv 4) T.C_Loan T.m_Loan_change (ok_Loan_change T) (hr.mono (by decide)) T.B_Loan_change .nil passL (pa_cons (pe_ix ix_tup (pv 5) pe_int (fun _ _ => rfl)) (pa_cons (pe_ix ix_tup (pv 5) pe_int (fun _ _ => rfl)) pa_nil))))))
 (pss_one (ps_ret (pv 4)))))), ?_⟩
    have pos := ok.pos
    have k0 := Int.emod_nonneg c (b := (row.length : Int)) (by omega)
    have k1 := Int.emod_lt_of_pos c (b := (row.length : Int)) (by omega)
    walk_at "i"
    refine g_lenRow hR rfl ?_
    walk_at "v"
    generalize hk : 1 + c % (row.length : Int) = k
    refine g_slTo hR (by omega) (by omega) fun l1 H1 hl1 s1 hR1 => ?_
    walk_at "v"
    have kn : 1 ≤ k.toNat ∧ k.toNat ≤ row.length := by omega
    refine g_mkLoan hR1 (by rw [List.length_take]; omega) h1 h2 (checkF_ok (ok.take kn.1) (Int.le_trans (ok.last_take _) hd)) fun x r H2 hx hr s2 hL => ?_
    walk_at "v"
    have s12 := s1.trans s2
    refine g_forE ?_
    walk_at "v"
    refine g_slFrom (hR.same s12) (by omega) (by omega) fun l3 H3 hl3 s3 hR3 => ?_
    obtain ⟨xs, e3, hp3⟩ := hR3
    have s13 := s12.trans s3
    have hx1 : H x = none := s1.free hx
    have hL3 := hL.same s3
    have l3x : l3 ≠ x := by
      obtain ⟨⟨dx, e⟩, _⟩ := hL3
      exact ne_of e3 e (by intro z; cases z)
    have keepX : ∀ ps, H3 x ≠ some (.tup ps) := fun ps e => by
      obtain ⟨⟨dx, e'⟩, _⟩ := hL3
      rw [e'] at e; cases e
    refine g_forEL (SqL.of e3) (fun σ0 i σ' H' => But x H3 H' ∧ (∃ r', H r' = none ∧ LoanAt A.c_Loan H' x a 0 0 r' (row.take (k.toNat + i))) ∧ ∃ v, σ' = σ0.set 5 v) ⟨fun _ _ _ e => e, ⟨r, s1.free hr, by rw [Nat.add_zero]; exact hL3⟩, none, by walk_at "z"⟩
      (fun i σ' H' _ ⟨b, _⟩ => SqL.of (b _ _ l3x e3)) ?_ ?_
    · rintro i y σ' H' hy ⟨bt, ⟨r', hr', hLi⟩, v, rfl⟩
      obtain ⟨p, t, hp, rfl, ht⟩ := hp3.got hy
      have hp2 : row[k.toNat + i]? = some p := by rw [← hp, List.getElem?_drop]
      have tx : t ≠ x := fun z => keepX _ (by rw [← z]; exact ht)
      have ht' := bt _ _ tx ht
      obtain ⟨⟨dx, hxx⟩, _⟩ := id hLi
      walk_at "v"
      refine g_ixT (j := 0) ht' rfl ?_
      walk_at "v"
      refine g_ixT (j := 1) ht' rfl ?_
      walk_at "v"
      have b1 := ok.next hp2 (by omega)
      have b2 := ok.day_le hp2
      have b3 := ok.rate p (List.mem_of_getElem? hp2)
      have b0 := ok.nonneg p (List.mem_of_getElem? hp2)
      have b4 : 0 < p.1 := by
        have := RowOk.le_last (ok.take (n := k.toNat + i) (by omega)).asc
        obtain ⟨r0, t0, e0⟩ := (ok.take (n := k.toNat + i) (by omega)).head
        have := this (0, r0) (by rw [e0]; simp)
        dsimp only at this
        omega
      refine ⟨x, p.1, p.2, a, 0, 0, r', _, rfl, hLi, ⟨by omega, h2, by decide, by decide, by decide, by decide⟩, (ok.take (by omega)).ne, by rw [List.length_take]; omega, Int.le_trans (ok.last_take _) hd, fun h => absurd h (by omega), fun _ => ⟨fun h => absurd h (by omega), fun _ r2 H5 hr2 b5 hL5 => ?_⟩⟩
      refine ⟨bt.trans b5, ⟨r2, ?_, ?_⟩, some (.ref t), by walk_at "z"⟩
      · cases e : H r2 with
        | none => rfl
        | some o =>
          have nx : r2 ≠ x := fun z => by rw [z, hx1] at e; cases e
          rw [bt _ _ nx (s13 _ _ e)] at hr2; cases hr2
      · have e5 : row.take (k.toNat + (i + 1)) = row.take (k.toNat + i) ++ [(p.1, p.2)] := by rw [← Nat.add_assoc, take_snoc hp2]
        rw [e5]
        exact hL5
    · rintro σ' H' ⟨bt, ⟨r', hr', hLi⟩, v, rfl⟩
      walk_at "v"
      have e6 : row.take (k.toNat + xs.length) = row := List.take_of_length_le (by rw [hp3.len, List.length_drop]; omega)
      rw [e6] at hLi
      refine q x r' H' hx1 hr' (fun b o e => bt b o (fun z => by rw [z, hx1] at e; cases e) (s13 _ _ e)) hLi

theorem sc_at_by : FnScope ["_law_cell"] ["_law_cell"] (defScope s_at_by) := ⟨rfl, rfl, rfl, by decide +kernel, rfl, by decide +kernel, by decide +kernel⟩
theorem ok_at_by (T : Txt K mg A) : FnOk P w K mg base CX0 2 A.a_at_by A.d_at_by ["_law_cell"] sp_at_by := by
  refine T.F_at_by.ok sc_at_by (fun vs H Q E h => ?_) (fun cdv Ar outer s H vs Q E hr h => ?_)
  · obtain ⟨c, rfl, _⟩ := h
    rfl
  ·
    obtain ⟨c, rfl, q⟩ := h
    refine ⟨_, (pss_cons (ps_if (pt_cmpR op_eq (pe_op op_mod (pe_op op_fdiv (pv 0) pe_int) pe_int) pe_int (nomark _)) (pss_one (ps_ret (pe_call (ok_mixed T) (hr.mono (by decide)) rfl T.g_mixed T.F_mixed.kp T.B_mixed .nil pass0 (pa_cons (pv 0) (pa_cons pe_int pa_nil)))))
 pss_nil)
 (pss_one (ps_ret (pe_op op_mod (pe_op op_fdiv (pv 0) pe_int) pe_int)))), ?_⟩
    walk_at "i"
    refine g_ite (fun hc => ?_) (fun hc => ?_)
    · walk_at "v"
      have e : atBy c = mixed c 3001 := by unfold atBy; rw [if_pos hc]
      rw [e] at q
      exact q
    · walk_at "v"
      have e : atBy c = c / 12 % 41 := by unfold atBy; rw [if_neg hc]
      rw [e] at q
      exact q

theorem sc_days_by : FnScope ["_law_cell", "_law_at", "_law_many", "_law_wide", "_law_days", "_law_k"] ["_law_cell", "_law_at", "_law_many", "_law_wide"] (defScope s_days_by) := ⟨rfl, rfl, rfl, by decide +kernel, rfl, by decide +kernel, by decide +kernel⟩
theorem ok_days_by (T : Txt K mg A) : FnOk P w K mg base CX0 2 A.a_days_by A.d_days_by ["_law_cell", "_law_at", "_law_many", "_law_wide"] sp_days_by := by
  refine T.F_days_by.ok sc_days_by (fun vs H Q E h => ?_) (fun cdv Ar outer s H vs Q E hr h => ?_)
  · obtain ⟨c, a, m, wd, rfl, _⟩ := h
    rfl
  ·
    obtain ⟨c, a, m, wd, rfl, h1, h2, h3, q⟩ := h
    refine ⟨_, (pss_cons (ps_set (i := 4) sc_days_by.nd rfl (Or.inl rfl) (pe_lst (pa_cons (pe_op op_add (pv 1) (pe_op op_mod (pv 0) pe_int)) pa_nil)))
 (pss_cons (ps_for PassesOwn.never rfl (pi_range2 rfl T.n_range (pa_cons pe_int (pa_cons (pv 2) pa_nil))) (pg_name (i := 5) sc_days_by.nd rfl (Or.inl rfl))
 (pss_one (ps_expr (pe_bm PySem.F.plainAttrs_list PySem.F.slot_list_append PySem.F.type_list_append mt_append (pv 4) (pa_cons (pe_op op_add (pe_op op_add (pe_ix ix_list (pv 4) (pe_un un_neg pe_int) (fun _ _ => rfl)) pe_int) (pe_call (ok_mixed T) (hr.mono (by decide)) rfl T.g_mixed T.F_mixed.kp T.B_mixed .nil pass0 (pa_cons (pe_op op_add (pv 0) (pe_op op_mul pe_int (pv 5))) (pa_cons (pv 3) pa_nil)))) pa_nil)))))
 (pss_one (ps_ret (pe_slice sl_list (pv 4) po_none (po_some (pv 2))))))), ?_⟩
    walk_at "i"
    refine g_newI (ns := [a + c % 4]) rfl (by simp) fun l H3 hl s3 hL => ?_
    walk_at "v"
    refine g_rg2 ⟨by decide, by decide, by omega, by omega⟩ (fun σ0 i σ' H' => Same H H' ∧ IntsAt H' l (daysN c a wd i) ∧ ∃ v1, σ' = σ0.set 5 v1) ⟨s3, hL, none, by walk_at "z"⟩ ?_ ?_
    · rintro i σ' H' hi ⟨s4, hI, v1, rfl⟩
      obtain ⟨ld, hlast⟩ := daysN_last c a wd i
      have hn := daysN_len c a wd i
      walk_at "v"
      refine g_tyL hI ?_
      walk_at "v"
      refine g_ixIlast hI rfl hlast ?_
      walk_at "v"
      refine g_append hI (by rw [List.length_map]; omega) ?_
      refine ⟨same_upd s4 hl, ?_, _, rfl⟩
      unfold IntsAt
      rw [upd_same, daysN, List.map_append, hlast]
      rfl
    · rintro σ' H' ⟨s4, hI, v1, rfl⟩
      walk_at "v"
      refine g_slToI hI h1 (by rw [daysN_len]; omega) fun l2 H2 hl2 s2 hI2 => ?_
      exact q l2 H2 (s4.free hl2) (s4.trans s2) hI2
theorem sc_behind : FnScope ["_law_stood", "_law_row", "_law_days", "_law_part", "_law_left", "_law_begun", "_law_at", "_law_paid", "_law_day", "_law_cents"] ["_law_stood", "_law_row", "_law_days", "_law_part"] (defScope s_behind) := ⟨rfl, rfl, rfl, by decide +kernel, rfl, by decide +kernel, by decide +kernel⟩
theorem ok_behind (T : Txt K mg A) : FnOk P w K mg base CX0 2 A.a_behind A.d_behind ["_law_stood", "_law_row", "_law_days", "_law_part"] sp_behind := by
  refine T.F_behind.ok sc_behind (fun vs H Q E h => ?_) (fun cdv Ar outer s H vs Q E hr h => ?_)
  · obtain ⟨t, lr, a, p, l, b, d, row, days, rfl, _⟩ := h
    rfl
  ·
    obtain ⟨t, lr, a, p, l, b, d, row, days, rfl, ht, hR, ok, hlen, nk, hI, hd, hp, q⟩ := h
    refine ⟨_, (pss_cons (ps_asg (pv 0) (pg_tup rfl (pgs_cons (pg_name (i := 4) sc_behind.nd rfl (Or.inl rfl)) (pgs_cons (pg_name (i := 5) sc_behind.nd rfl (Or.inl rfl)) (pgs_cons (pg_name (i := 6) sc_behind.nd rfl (Or.inl rfl)) pgs_nil)))))
 (pss_cons (ps_set (i := 7) sc_behind.nd rfl (Or.inl rfl) pe_int)
 (pss_cons (ps_for PassesOwn.never rfl (pi_list (pv 2)) (pg_name (i := 8) sc_behind.nd rfl (Or.inl rfl))
 (pss_cons (ps_set (i := 5) sc_behind.nd rfl (Or.inl rfl) (pe_op op_add (pv 5) (pe_op op_mul (pv 4) (pe_call (ok_sum_by T) (hr.mono (by decide)) rfl T.g_sum_by T.F_sum_by.kp T.B_sum_by .nil pass0 (pa_cons (pv 1) (pa_cons (pv 6) (pa_cons (pv 8) pa_nil)))))))
 (pss_cons (ps_set (i := 6) sc_behind.nd rfl (Or.inl rfl) (pv 8))
 (pss_cons (ps_set (i := 9) sc_behind.nd rfl (Or.inl rfl) (pe_callB (c_min rfl) rfl T.n_min (by decide +kernel) (pa_cons (pv 3) (pa_cons (pe_call (ok_owed T) (hr.mono (by decide)) rfl T.g_owed T.F_owed.kp T.B_owed .nil pass0 (pa_cons (pv 4) (pa_cons (pv 5) pa_nil))) pa_nil))))
 (pss_one (ps_if (pt_cmpR op_gt (pv 9) pe_int (nomark _)) (pss_cons (ps_asg (pe_slice sl_tup (pe_call (ok_parts T) (hr.mono (by decide)) rfl T.g_parts T.F_parts.kp T.B_parts .nil pass0 (pa_cons (pv 4) (pa_cons (pv 5) (pa_cons (pv 9) pa_nil)))) (po_some pe_int) po_none) (pg_tup rfl (pgs_cons (pg_name (i := 4) sc_behind.nd rfl (Or.inl rfl)) (pgs_cons (pg_name (i := 5) sc_behind.nd rfl (Or.inl rfl)) pgs_nil))))
 (pss_one (ps_set (i := 7) sc_behind.nd rfl (Or.inl rfl) (pe_op op_add (pv 7) (pv 9)))))
 pss_nil))))))
 (pss_one (ps_ret (pe_tup (pa_cons (pv 7) (pa_cons (pe_call (ok_owed T) (hr.mono (by decide)) rfl T.g_owed T.F_owed.kp T.B_owed .nil pass0 (pa_cons (pv 4) (pa_cons (pv 5) pa_nil))) pa_nil)))))))), ?_⟩
    walk_at "i"
    refine g_unp3 ht ?_
    walk_at "v"
    refine g_forI rfl hI (fun σ0 i σ' H' => Same H H' ∧ ∃ s l' b' d' v1 v2, σ' = (((((σ0.set 4 (some (.int l'))).set 5 (some (.int b'))).set 6 (some (.int d'))).set 7 (some (.int s))).set 8 v1).set 9 v2 ∧ NumOk l' b' d' ∧ daysOk d' (days.drop i) = true ∧
      Run.plan row p ⟨0, l, b, d⟩ days = Run.plan row p ⟨s, l', b', d'⟩ (days.drop i)) ?_ (fun i σ' H' ⟨s, _⟩ => hI.same s) ?_ ?_
    · exact ⟨Same.refl _, 0, l, b, d, none, none, by walk_at "z", nk, hd, rfl⟩
    · rintro i D σ' H' hD ⟨s1, s, l', b', d', v1, v2, rfl, nk', hd', e1⟩
      rw [drop_cons hD] at hd' e1
      obtain ⟨hd1, hd2, hd3⟩ := daysOk_cons hd'
      have nB := nk'.walk ok.rate hd1 hd2
      have d0' := nk'.d0
      have l0' := nk'.l0
      have l1' := nk'.l1
      rw [run_cons, run_due] at e1
      walk_at "v"
      refine g_sum_by (hR.same s1) ok hlen d0' hd1 (by omega) ?_
      walk_at "v"
      have eB : b' + l' * grownF row d' D = thenF l' b' d' row D := rfl
      rw [eB]
      generalize thenF l' b' d' row D = B at nB e1
      have em : min p (owedF l' B) = partF p l' B := rfl
      rw [em]
      have ho0 : 0 ≤ owedF l' B := by have := nB.l0; have := nB.b0; unfold owedF; omega
      have c1 : partF p l' B ≤ owedF l' B := by unfold partF; omega
      have c0 : 0 ≤ partF p l' B := by unfold partF; omega
      generalize partF p l' B = c at *
      refine g_ite (fun hc => ?_) (fun hc => ?_)
      · walk_at "v"
        refine g_parts fun t7 H7 ht7 s7 h7 => ?_
        walk_at "v"
        refine g_slT2 h7 fun t8 H8 ht8 s8 h8 => ?_
        walk_at "v"
        refine g_unp2 h8 ?_
        walk_at "v"
        exact ⟨(s1.trans s7).trans s8, s + c, _, _, D, _, _, by walk_at "z", nB.pay (by omega) c1, daysOk_weak (by omega) hd3, e1⟩
      · walk_at "v"
        have z : c = 0 := by omega
        have pn := pay_nothing nB.l0 nB.b0
        rw [z, pn.1, pn.2, Int.add_zero] at e1
        exact ⟨s1, s, l', B, D, _, _, by walk_at "z", nB, daysOk_weak (by omega) hd3, e1⟩
    · rintro σ' H' ⟨s1, s, l', b', d', v1, v2, rfl, nk', hd', e1⟩
      rw [List.drop_length] at e1
      walk_at "v"
      refine g_newT (by simp) fun o H2 ho s2 h2 => ?_
      have q2 := q o H2 (s1.trans s2)
      unfold owedEnd at q2
      rw [e1] at q2
      exact q2 h2
theorem sc_loan_by : FnScope ["_law_script", "_law_row", "_law_amount", "_law_loan", "_law_left", "_law_begun", "_law_at", "_law_cents", "_law_more"] ["_law_script", "_law_row"] (defScope s_loan_by) := ⟨rfl, rfl, rfl, by decide +kernel, rfl, by decide +kernel, by decide +kernel⟩
theorem ok_loan_by (T : Txt K mg A) : FnOk P w K mg base CX0 7 A.a_loan_by A.d_loan_by ["_law_script", "_law_row"] (sp_loan_by K A.c_Loan) := by
  refine T.F_loan_by.ok sc_loan_by (fun vs H Q E h => ?_) (fun cdv Ar outer s H vs Q E hr h => ?_)
  · obtain ⟨a, ns, lr, row, rfl, _⟩ := h
    rfl
  ·
    obtain ⟨a, ns, lr, row, rfl, hS, hR, ok, hla, hlen, q⟩ := h
    have cL := T.C_Loan
    have n1 := T.na_left
    have n2 := T.na_begun
    have n3 := T.na_day
    have n4 := T.na_rates
    refine ⟨_, (pss_cons (ps_set (i := 2) sc_loan_by.nd rfl (Or.inl rfl) (pe_call (ok_amount_by T) (hr.mono (by decide)) rfl T.g_amount_by T.F_amount_by.kp T.B_amount_by .nil pass0 (pa_cons (pe_call (ok_cell_at T) (hr.mono (by decide)) rfl T.g_cell_at T.F_cell_at.kp T.B_cell_at .nil pass0 (pa_cons (pv 0) (pa_cons pe_int pa_nil))) pa_nil)))
 (pss_cons (ps_set (i := 3) sc_loan_by.nd rfl (Or.inl rfl) (pe_call (ok_made T) (hr.mono (by decide)) rfl T.g_made T.F_made.kp T.B_made .nil pass0 (pa_cons (pv 2) (pa_cons (pv 1) (pa_cons (pe_call (ok_cell_at T) (hr.mono (by decide)) rfl T.g_cell_at T.F_cell_at.kp T.B_cell_at .nil pass0 (pa_cons (pv 0) (pa_cons pe_int pa_nil))) pa_nil)))))
 (pss_cons (ps_par3 (i := 4) (j := 5) (l := 6) rfl sc_loan_by.nd rfl rfl rfl (by decide) (by decide) (by decide) rfl rfl rfl (pa_cons (pv 2) (pa_cons pe_int (pa_cons pe_int pa_nil))) rfl)
 (Evl.pss_cut (ps_if (pt_cmpR op_eq (pe_op op_mod (pe_call (ok_cell_at T) (hr.mono (by decide)) rfl T.g_cell_at T.F_cell_at.kp T.B_cell_at .nil pass0 (pa_cons (pv 0) (pa_cons pe_int pa_nil))) pe_int) pe_int (nomark _)) (pss_cons (ps_set (i := 6) sc_loan_by.nd rfl (Or.inl rfl) (pe_call (ok_at_by T) (hr.mono (by decide)) rfl T.g_at_by T.F_at_by.kp T.B_at_by .nil pass0 (pa_cons (pe_call (ok_cell_at T) (hr.mono (by decide)) rfl T.g_cell_at T.F_cell_at.kp T.B_cell_at .nil pass0 (pa_cons (pv 0) (pa_cons pe_int pa_nil))) pa_nil)))
 (pss_cons (ps_set (i := 5) sc_loan_by.nd rfl (Or.inl rfl) (pe_op op_mul (pv 2) (pe_call (ok_sum_by T) (hr.mono (by decide)) rfl T.g_sum_by T.F_sum_by.kp T.B_sum_by .nil pass0 (pa_cons (pv 1) (pa_cons pe_int (pa_cons (pv 6) pa_nil))))))
 (pss_cons (ps_set (i := 7) sc_loan_by.nd rfl (Or.inl rfl) (pe_op op_add pe_int (pe_op op_mod (pe_op op_mul (pe_call (ok_mixed T) (hr.mono (by decide)) rfl T.g_mixed T.F_mixed.kp T.B_mixed .nil pass0 (pa_cons (pe_call (ok_cell_at T) (hr.mono (by decide)) rfl T.g_cell_at T.F_cell_at.kp T.B_cell_at .nil pass0 (pa_cons (pv 0) (pa_cons pe_int pa_nil))) (pa_cons pe_int pa_nil))) pe_int) (pe_call (ok_owed T) (hr.mono (by decide)) rfl T.g_owed T.F_owed.kp T.B_owed .nil pass0 (pa_cons (pv 2) (pa_cons (pv 5) pa_nil))))))
 (Evl.pss_cut (ps_if (pt_cmpR op_eq (pe_op op_mod (pe_call (ok_cell_at T) (hr.mono (by decide)) rfl T.g_cell_at T.F_cell_at.kp T.B_cell_at .nil pass0 (pa_cons (pv 0) (pa_cons pe_int pa_nil))) pe_int) pe_int (nomark _)) (pss_one (ps_set (i := 7) sc_loan_by.nd rfl (Or.inl rfl) (pe_call (ok_owed T) (hr.mono (by decide)) rfl T.g_owed T.F_owed.kp T.B_owed .nil pass0 (pa_cons (pv 2) (pa_cons (pv 5) pa_nil)))))
 pss_nil)
 (pss_cons (ps_expr (pe_meth (pv 3) T.C_Loan T.m_Loan_pay (ok_Loan_pay T) (hr.mono (by decide)) T.B_Loan_pay .nil passL (pa_cons (pv 6) (pa_cons (pv 7) pa_nil))))
 (pss_one (ps_asg (pe_slice sl_tup (pe_call (ok_parts T) (hr.mono (by decide)) rfl T.g_parts T.F_parts.kp T.B_parts .nil pass0 (pa_cons (pv 2) (pa_cons (pv 5) (pa_cons (pv 7) pa_nil)))) (po_some pe_int) po_none) (pg_tup rfl (pgs_cons (pg_name (i := 4) sc_loan_by.nd rfl (Or.inl rfl)) (pgs_cons (pg_name (i := 5) sc_loan_by.nd rfl (Or.inl rfl)) pgs_nil))))))))))
 pss_nil)
 (pss_cons (ps_set (i := 8) sc_loan_by.nd rfl (Or.inl rfl) (pe_call (ok_cell_at T) (hr.mono (by decide)) rfl T.g_cell_at T.F_cell_at.kp T.B_cell_at .nil pass0 (pa_cons (pv 0) (pa_cons pe_int pa_nil))))
 (Evl.pss_cut (ps_if (PW.pt (pw_and (pt_cmpR op_eq (pe_op op_mod (pv 8) pe_int) pe_int (nomark _)) (pw_and1 (pt_cmpR op_lt (pe_callB c_len rfl T.n_len (by decide +kernel) (pa_cons (pv 1) pa_nil)) pe_int (nomark _))))) (pss_cons (ps_set (i := 1) sc_loan_by.nd rfl (Or.inl rfl) (pe_op op_cat (pv 1) (pe_lst (pa_cons (pe_tup (pa_cons (pe_op op_add (pe_op op_add (pe_callB (c_max rfl) rfl T.n_max (by decide +kernel) (pa_cons (pv 6) (pa_cons (pe_ix ix_tup (pe_ix ix_list (pv 1) (pe_un un_neg pe_int) (fun _ _ => rfl)) pe_int (fun _ _ => rfl)) pa_nil))) pe_int) (pe_op op_mod (pe_op op_fdiv (pv 8) pe_int) pe_int)) (pa_cons (pe_call (ok_rate_by T) (hr.mono (by decide)) rfl T.g_rate_by T.F_rate_by.kp T.B_rate_by .nil pass0 (pa_cons (pe_op op_fdiv (pv 8) pe_int) pa_nil)) pa_nil))) pa_nil))))
 (pss_one (ps_expr (pe_meth (pv 3) T.C_Loan T.m_Loan_change (ok_Loan_change T) (hr.mono (by decide)) T.B_Loan_change .nil passL (pa_cons (pe_ix ix_tup (pe_ix ix_list (pv 1) (pe_un un_neg pe_int) (fun _ _ => rfl)) pe_int (fun _ _ => rfl)) (pa_cons (pe_ix ix_tup (pe_ix ix_list (pv 1) (pe_un un_neg pe_int) (fun _ _ => rfl)) pe_int (fun _ _ => rfl)) pa_nil))))))
 pss_nil)
 (pss_one (ps_ret (pe_tup (pa_cons (pv 3) (pa_cons (pe_tup (pa_cons (pv 4) (pa_cons (pv 5) (pa_cons (pv 6) pa_nil)))) (pa_cons (pv 1) pa_nil)))))))))))), ?_⟩
    walk_at "i"
    refine g_amount_by fun H1 s1 => ?_
    have am := amountBy_ok (cellAt ns 0)
    generalize amountBy (cellAt ns 0) = am0 at am
    have hS := SqL.same hS s1
    have hR := hR.same s1
    walk_at "v"
    refine g_made hR ok (by omega) (by omega) am.1 am.2 fun x r H5 hx hr5 s5 hL => ?_
    have hS := SqL.same hS s5
    have hR := hR.same s5
    have hx0 : H x = none := s1.free hx
    have s15 := s1.trans s5
    have num0 : NumOk am0 0 0 := ⟨by omega, am.2, by decide, by decide, by decide, by decide⟩
    obtain ⟨⟨dx, hxx⟩, hRr⟩ := id hL
    walk_at "v"
    refine ⟨_, _, _, rfl, ?_⟩
    walk_at "v"
    refine g_cutM (fun σ0 σ' H' => ∃ lf b d vc, σ' = (((σ0.set 4 (some (.int lf))).set 5 (some (.int b))).set 6 (some (.int d))).set 7 vc ∧ But x H5 H' ∧ LoanAt A.c_Loan H' x lf b d r row ∧ NumOk lf b d ∧ d ≤ 3000) ?_ ?_
    · walk_at "v"
      refine g_ite (fun hc1 => ?_) (fun hc1 => ?_)
      · walk_at "v"
        have d0 := atBy_lo (cellAt ns 2)
        have d1 := atBy_hi (cellAt ns 2)
        generalize atBy (cellAt ns 2) = d at d0 d1
        refine g_sum_by hR ok (by omega) (by decide) d0 (by omega) ?_
        walk_at "v"
        have num := num0.walk (row := row) ok.rate d0 (by omega)
        have eB : am0 * grownF row 0 d = thenF am0 0 0 row d := by unfold thenF; omega
        rw [eB]
        generalize hB : thenF am0 0 0 row d = B at num
        have ho : 1 ≤ owedF am0 B := by
          have := num.b0
          unfold owedF; omega
        walk_at "v"
        refine g_cutif (.int (if cellAt ns 3 % 6 = 0 then owedF am0 B else 1 + mixed (cellAt ns 3) 2147483647 * 467 % owedF am0 B)) (by walk_at "cut") ?_
        have cb : 1 ≤ (if cellAt ns 3 % 6 = 0 then owedF am0 B else 1 + mixed (cellAt ns 3) 2147483647 * 467 % owedF am0 B) ∧ (if cellAt ns 3 % 6 = 0 then owedF am0 B else 1 + mixed (cellAt ns 3) 2147483647 * 467 % owedF am0 B) ≤ owedF am0 B := by
          have h1 := Int.emod_nonneg (mixed (cellAt ns 3) 2147483647 * 467) (b := owedF am0 B) (by omega)
          have h2 := Int.emod_lt_of_pos (mixed (cellAt ns 3) 2147483647 * 467) (b := owedF am0 B) (by omega)
          split <;> omega
        generalize (if cellAt ns 3 % 6 = 0 then owedF am0 B else 1 + mixed (cellAt ns 3) 2147483647 * 467 % owedF am0 B) = cents at cb
        walk_at "v"
        refine ⟨x, d, cents, am0, 0, 0, r, row, rfl, hL, num0, ok.rate, fun h => absurd h (by omega), fun _ => ?_⟩
        rw [hB]
        refine ⟨fun h => absurd h (by omega), fun _ t6 H6 ht6 b6 hL6 h6 => ?_⟩
        walk_at "v"
        refine g_parts fun t7 H7 ht7 s7 h7 => ?_
        walk_at "v"
        refine g_slT2 h7 fun t8 H8 ht8 s8 h8 => ?_
        walk_at "v"
        refine g_unp2 h8 ?_
        walk_at "v"
        exact ⟨pLeft am0 B cents, pBegun am0 B cents, d, some (.int cents), by walk_at "z", b6.trans (But.same (s7.trans s8)), (hL6.same s7).same s8, num.pay cb.1 cb.2, d1⟩
      · walk_at "v"
        exact ⟨am0, 0, 0, none, by walk_at "z", fun _ _ _ e => e, hL, num0, by decide⟩
    rintro σ' H6 ⟨lf, b, d, vc, rfl, b6, hL6, num, hd3⟩
    have hS := SqL.butI hS b6 hxx
    have hR := hR.butI b6 hxx
    have s16 : Same H H6 := fun c o e => b6 _ _ (fun z => by rw [z, hx0] at e; cases e) (s15 _ _ e)
    obtain ⟨nl0, nl1, nb0, nb1, d0, nd1⟩ := id num
    obtain ⟨la, hlast⟩ := row_last ok.ne
    obtain ⟨⟨dx6, hx6⟩, hRr6⟩ := id hL6
    walk_at "v"
    refine g_cutM (fun σ0 σ' H' => ∃ lq r' row', σ' = σ0.set 1 (some (.ref lq)) ∧ Same H H' ∧ RowAt H' lq row' ∧ LoanAt A.c_Loan H' x lf b d r' row' ∧ RowOk row' ∧ lastDay row' ≤ 95000 ∧ row'.length ≤ 60 ∧ row.length ≤ row'.length) ?_ ?_
    · walk_at "v"
      have non : ∃ lq r' row', [some (V.ref a), some (V.ref lr), some (V.int am0), some (V.ref x), some (V.int lf), some (V.int b), some (V.int d), vc, some (V.int (cellAt ns 11))] = [some (V.ref a), some (V.ref lq), some (V.int am0), some (V.ref x), some (V.int lf), some (V.int b), some (V.int d), vc, some (V.int (cellAt ns 11))] ∧ Same H H6 ∧ RowAt H6 lq row' ∧ LoanAt A.c_Loan H6 x lf b d r' row' ∧ RowOk row' ∧ lastDay row' ≤ 95000 ∧ row'.length ≤ 60 ∧ row.length ≤ row'.length :=
        ⟨lr, r, row, rfl, s16, hR, hL6, ok, by omega, hlen, Nat.le_refl _⟩
      refine g_ite (fun hc => ?_) (fun hc => ?_)
      · walk_at "v"
        refine g_lenRow hR rfl ?_
        walk_at "v"
        refine g_ite (fun hc2 => ?_) (fun hc2 => ?_)
        · walk_at "v"
          refine g_ixLast hR rfl hlast fun t0 ht0 => ?_
          walk_at "v"
          refine g_ixT (j := 0) ht0 rfl ?_
          walk_at "v"
          refine g_rate_by fun H7 s7 => ?_
          have rb := rateBy_ok (cellAt ns 11 / 3)
          generalize rateBy (cellAt ns 11 / 3) = rt at rb
          have m0 := Int.emod_nonneg (cellAt ns 11 / 3) (b := 50) (by decide)
          have m1 := Int.emod_lt_of_pos (cellAt ns 11 / 3) (b := 50) (by decide)
          generalize cellAt ns 11 / 3 % 50 = mo at m0 m1
          walk_at "v"
          refine g_newT (by simp) fun t8 H8 ht8 s8 h8 => ?_
          walk_at "v"
          refine g_newL (by simp) fun l9 H9 hl9 s9 h9 => ?_
          obtain ⟨xs, hxs, hps⟩ := ((hR.same s7).same s8).same s9
          have hn := hps.len
          walk_at "v"
          refine g_cat hxs h9 (by rw [List.length_singleton]; omega) fun lq Hq hlq sq hq => ?_
          have hq2 : RowAt Hq lq (row ++ [(max d (lastDay row) + 1 + mo, rt)]) := ⟨_, hq, (hps.mono fun q ps e => sq _ _ e).app (.cons (sq _ _ (s9 _ _ h8)) .nil)⟩
          have s6q := ((s7.trans s8).trans s9).trans sq
          have hLq := hL6.same s6q
          have hxq := s6q _ _ hx6
          have hl2 : (row ++ [(max d (lastDay row) + 1 + mo, rt)]).getLast? = some (max d (lastDay row) + 1 + mo, rt) := last_snoc _ _
          walk_at "v"
          refine g_ixLast hq2 rfl hl2 fun ta hta => ?_
          walk_at "v"
          refine g_ixT (j := 0) hta rfl ?_
          walk_at "v"
          refine g_ixLast hq2 rfl hl2 fun tb htb => ?_
          walk_at "v"
          refine g_ixT (j := 1) htb rfl ?_
          walk_at "v"
          refine ⟨x, max d (lastDay row) + 1 + mo, rt, lf, b, d, r, row, rfl, hLq, num, ok.ne, by omega, by omega, fun h => absurd h (by omega), fun _ => ⟨fun h => absurd h (by omega), fun _ r' Hr hr' bt hLr => ?_⟩⟩
          have sr : Same H Hr := fun c o e => bt _ _ (fun z => by rw [z, hx0] at e; cases e) (s6q _ _ (s16 _ _ e))
          refine ⟨lq, r', _, by walk_at "z", sr, hq2.butI bt hxq, hLr, ok.snoc (by omega) rb.1 rb.2, by rw [lastDay_snoc]; omega, by rw [List.length_append, List.length_singleton]; omega, by rw [List.length_append]; omega⟩
        · walk_at "v"
          exact non
      · walk_at "v"
        exact non
    rintro σ' H7 ⟨lq, r', row', rfl, s7, hR7, hL7, ok7, la7, len7, le7⟩
    walk_at "v"
    refine g_newT (by simp) fun t8 H8 ht8 s8 h8 => ?_
    walk_at "v"
    refine g_newT (by simp) fun t9 H9 ht9 s9 h9 => ?_
    exact q t9 x t8 lq lf b d r' row' H9 hx0 (s7.trans (s8.trans s9)) h9 (s9 _ _ h8) ((hR7.same s8).same s9) ((hL7.same s8).same s9) num hd3 ok7 la7 len7 le7

theorem sc_done_more : FnScope ["_law_loan", "_law_stood", "_law_row", "_law_cell", "_law_owed_here", "_law_cents", "_law_parts_here"] ["_law_loan", "_law_stood", "_law_row", "_law_cell"] (defScope s_done_more) := ⟨rfl, rfl, rfl, by decide +kernel, rfl, by decide +kernel, by decide +kernel⟩
theorem ok_done_more (T : Txt K mg A) : FnOk P w K mg base CX0 4 A.a_done_more A.d_done_more ["_law_loan", "_law_stood", "_law_row", "_law_cell"] (sp_done_more A.c_Loan) := by
  refine T.F_done_more.ok sc_done_more (fun vs H Q E h => ?_) (fun cdv Ar outer s H vs Q E hr h => ?_)
  · obtain ⟨x, ts, lq, c, l, b, d, r, row, rfl, _⟩ := h
    rfl
  ·
    obtain ⟨x, ts, lq, c, l, b, d, r, row, rfl, st, hla, hd9, q⟩ := h
    have cL := T.C_Loan
    have n1 := T.na_left
    have n2 := T.na_begun
    have n3 := T.na_day
    have n4 := T.na_rates
    have nk := st.n
    obtain ⟨nl0, nl1, nb0, nb1, d0, d1⟩ := id nk
    have ok := st.ok
    have hlen := st.len
    have hR := st.q
    obtain ⟨⟨dx, hx⟩, hRr⟩ := id st.L
    obtain ⟨la, hlast⟩ := row_last ok.ne
    have eo : thenF l b d row d = b := by unfold thenF; rw [grownF_same, Int.mul_zero, Int.add_zero]
    have keepT : ∀ ps, H x ≠ some (.tup ps) := fun ps e => by rw [hx] at e; cases e
    have tsx : ts ≠ x := fun z => keepT _ (by rw [← z]; exact st.t)
    have pay : ∀ H', But x H H' → True := fun _ _ => True.intro
    refine ⟨_, (Evl.pss_cut (ps_if (PW.pt (pw_and (pt_cmpR op_eq (pe_op op_mod (pv 3) pe_int) pe_int (nomark _)) (pw_and1 (pt_cmpR op_lt (pe_callB c_len rfl T.n_len (by decide +kernel) (pa_cons (pv 2) pa_nil)) pe_int (nomark _))))) (pss_cons (ps_set (i := 2) sc_done_more.nd rfl (Or.inl rfl) (pe_op op_cat (pv 2) (pe_lst (pa_cons (pe_tup (pa_cons (pe_op op_add (pe_op op_add (pe_callB (c_max rfl) rfl T.n_max (by decide +kernel) (pa_cons (pe_ix ix_tup (pv 1) pe_int (fun _ _ => rfl)) (pa_cons (pe_ix ix_tup (pe_ix ix_list (pv 2) (pe_un un_neg pe_int) (fun _ _ => rfl)) pe_int (fun _ _ => rfl)) pa_nil))) pe_int) (pe_op op_mod (pe_op op_fdiv (pv 3) pe_int) pe_int)) (pa_cons (pe_call (ok_rate_by T) (hr.mono (by decide)) rfl T.g_rate_by T.F_rate_by.kp T.B_rate_by .nil pass0 (pa_cons (pe_op op_fdiv (pv 3) pe_int) pa_nil)) pa_nil))) pa_nil))))
 (pss_cons (ps_expr (pe_meth (pv 0) T.C_Loan T.m_Loan_change (ok_Loan_change T) (hr.mono (by decide)) T.B_Loan_change .nil passL (pa_cons (pe_ix ix_tup (pe_ix ix_list (pv 2) (pe_un un_neg pe_int) (fun _ _ => rfl)) pe_int (fun _ _ => rfl)) (pa_cons (pe_ix ix_tup (pe_ix ix_list (pv 2) (pe_un un_neg pe_int) (fun _ _ => rfl)) pe_int (fun _ _ => rfl)) pa_nil))))
 (pss_one (ps_ret (pe_tup (pa_cons (pv 1) (pa_cons (pv 2) pa_nil)))))))
 pss_nil)
 (pss_cons (ps_set (i := 4) sc_done_more.nd rfl (Or.inl rfl) (pe_call (ok_owed T) (hr.mono (by decide)) rfl T.g_owed T.F_owed.kp T.B_owed .nil pass0 (pa_cons (pe_ix ix_tup (pv 1) pe_int (fun _ _ => rfl)) (pa_cons (pe_ix ix_tup (pv 1) pe_int (fun _ _ => rfl)) pa_nil))))
 (pss_cons (ps_if (pt_cmpR op_eq (pv 4) pe_int (nomark _)) (pss_one (ps_ret (pe_tup (pa_cons (pv 1) (pa_cons (pv 2) pa_nil)))))
 pss_nil)
 (pss_cons (ps_set (i := 5) sc_done_more.nd rfl (Or.inl rfl) (pe_op op_add pe_int (pe_op op_mod (pe_op op_mul (pe_call (ok_mixed T) (hr.mono (by decide)) rfl T.g_mixed T.F_mixed.kp T.B_mixed .nil pass0 (pa_cons (pv 3) (pa_cons pe_int pa_nil))) pe_int) (pv 4))))
 (pss_cons (ps_expr (pe_meth (pv 0) T.C_Loan T.m_Loan_pay (ok_Loan_pay T) (hr.mono (by decide)) T.B_Loan_pay .nil passL (pa_cons (pe_ix ix_tup (pv 1) pe_int (fun _ _ => rfl)) (pa_cons (pv 5) pa_nil))))
 (pss_cons (ps_set (i := 6) sc_done_more.nd rfl (Or.inl rfl) (pe_call (ok_parts T) (hr.mono (by decide)) rfl T.g_parts T.F_parts.kp T.B_parts .nil pass0 (pa_cons (pe_ix ix_tup (pv 1) pe_int (fun _ _ => rfl)) (pa_cons (pe_ix ix_tup (pv 1) pe_int (fun _ _ => rfl)) (pa_cons (pv 5) pa_nil)))))
 (pss_one (ps_ret (pe_tup (pa_cons (pe_tup (pa_cons (pe_ix ix_tup (pv 6) pe_int (fun _ _ => rfl)) (pa_cons (pe_ix ix_tup (pv 6) pe_int (fun _ _ => rfl)) (pa_cons (pe_ix ix_tup (pv 1) pe_int (fun _ _ => rfl)) pa_nil)))) (pa_cons (pv 2) pa_nil))))))))))), ?_⟩
    walk_at "i"
    refine g_cutM (fun σ0 σ' H' => σ' = σ0 ∧ H' = H) ?_ ?_
    · walk_at "v"
      refine g_ite (fun hc => ?_) (fun hc => ?_)
      · walk_at "v"
        refine g_lenRow hR rfl ?_
        walk_at "v"
        refine g_ite (fun hc2 => ?_) (fun hc2 => ?_)
        · walk_at "v"
          refine g_ixT (j := 2) st.t rfl ?_
          walk_at "v"
          refine g_ixLast hR rfl hlast fun t0 ht0 => ?_
          walk_at "v"
          refine g_ixT (j := 0) ht0 rfl ?_
          walk_at "v"
          refine g_rate_by fun H7 s7 => ?_
          have rb := rateBy_ok (c / 2)
          generalize rateBy (c / 2) = rt at rb
          have m0 := Int.emod_nonneg (c / 2) (b := 20) (by decide)
          have m1 := Int.emod_lt_of_pos (c / 2) (b := 20) (by decide)
          generalize c / 2 % 20 = mo at m0 m1
          walk_at "v"
          refine g_newT (by simp) fun t8 H8 ht8 s8 h8 => ?_
          walk_at "v"
          refine g_newL (by simp) fun l9 H9 hl9 s9 h9 => ?_
          obtain ⟨xs, hxs, hps⟩ := ((hR.same s7).same s8).same s9
          have hn := hps.len
          walk_at "v"
          refine g_cat hxs h9 (by rw [List.length_singleton]; omega) fun lq2 Hq hlq sq hq => ?_
          have hq2 : RowAt Hq lq2 (row ++ [(max d (lastDay row) + 1 + mo, rt)]) := ⟨_, hq, (hps.mono fun q ps e => sq _ _ e).app (.cons (sq _ _ (s9 _ _ h8)) .nil)⟩
          have s6q := ((s7.trans s8).trans s9).trans sq
          have hLq := st.L.same s6q
          have hxq := s6q _ _ hx
          have hl2 : (row ++ [(max d (lastDay row) + 1 + mo, rt)]).getLast? = some (max d (lastDay row) + 1 + mo, rt) := last_snoc _ _
          walk_at "v"
          refine g_ixLast hq2 rfl hl2 fun ta hta => ?_
          walk_at "v"
          refine g_ixT (j := 0) hta rfl ?_
          walk_at "v"
          refine g_ixLast hq2 rfl hl2 fun tb htb => ?_
          walk_at "v"
          refine g_ixT (j := 1) htb rfl ?_
          walk_at "v"
          refine ⟨x, max d (lastDay row) + 1 + mo, rt, l, b, d, r, row, rfl, hLq, nk, ok.ne, by omega, by omega, fun h => absurd h (by omega), fun _ => ⟨fun h => absurd h (by omega), fun _ r' Hr hr' bt hLr => ?_⟩⟩
          have br : But x H Hr := fun c o n e => bt _ _ n (s6q _ _ e)
          walk_at "v"
          refine g_newT (by simp) fun t9 Ht ht9 s10 h10 => ?_
          refine q t9 ts lq2 l b r' _ Ht (br.trans (But.same s10)) h10 ⟨hLr.same s10, s10 _ _ (br _ _ tsx st.t), (hq2.butI bt hxq).same s10, nk, ok.snoc (by omega) rb.1 rb.2, by rw [lastDay_snoc]; omega, by rw [List.length_append, List.length_singleton]; omega⟩
        · walk_at "v"
          exact ⟨rfl, rfl⟩
      · walk_at "v"
        exact ⟨rfl, rfl⟩
    rintro σ' H' ⟨rfl, rfl⟩
    walk_at "v"
    refine g_ixT (j := 0) st.t rfl ?_
    walk_at "v"
    refine g_ixT (j := 1) st.t rfl ?_
    walk_at "v"
    have on : 0 ≤ owedF l b := by unfold owedF; omega
    refine g_ite (fun hc => ?_) (fun hc => ?_)
    · walk_at "v"
      refine g_newT (by simp) fun t9 Ht ht9 s10 h10 => ?_
      exact q t9 ts lq l b r row Ht (But.same s10) h10 (st.same s10)
    · walk_at "v"
      have h1 := Int.emod_nonneg (mixed c 2147483647 * 467) (b := owedF l b) (by omega)
      have h2 := Int.emod_lt_of_pos (mixed c 2147483647 * 467) (b := owedF l b) (by omega)
      generalize mixed c 2147483647 * 467 % owedF l b = m at h1 h2
      refine g_ixT (j := 2) st.t rfl ?_
      walk_at "v"
      refine ⟨x, d, 1 + m, l, b, d, r, row, rfl, st.L, nk, ok.rate, fun h => absurd h (by omega), fun _ => ?_⟩
      rw [eo]
      refine ⟨fun h => absurd h (by omega), fun _ t6 H6 ht6 b6 hL6 h6 => ?_⟩
      have ht6' := b6 _ _ tsx st.t
      walk_at "v"
      refine g_ixT (j := 0) ht6' rfl ?_
      walk_at "v"
      refine g_ixT (j := 1) ht6' rfl ?_
      walk_at "v"
      refine g_parts fun t7 H7 ht7 s7 h7 => ?_
      walk_at "v"
      refine g_ixT (j := 2) h7 rfl ?_
      walk_at "v"
      refine g_ixT (j := 3) h7 rfl ?_
      walk_at "v"
      refine g_ixT (j := 2) (s7 _ _ ht6') rfl ?_
      walk_at "v"
      refine g_newT (by simp) fun t8 H8 ht8 s8 h8 => ?_
      walk_at "v"
      refine g_newT (by simp) fun t9 H9 ht9 s9 h9 => ?_
      exact q t9 t8 lq _ _ r row H9 (b6.trans (But.same ((s7.trans s8).trans s9))) h9 ⟨((hL6.same s7).same s8).same s9, s9 _ _ h8, (((hR.butI b6 hx).same s7).same s8).same s9, nk.pay (by omega) (by omega), ok, st.last, hlen⟩

theorem sc_row_of : FnScope ["_law_cell", "_law_size", "_law_wide"] ["_law_cell"] (defScope s_row_of) := ⟨rfl, rfl, rfl, by decide +kernel, rfl, by decide +kernel, by decide +kernel⟩
theorem ok_row_of (T : Txt K mg A) : FnOk P w K mg base CX0 4 A.a_row_of A.d_row_of ["_law_cell"] sp_row_of := by
  refine T.F_row_of.ok sc_row_of (fun vs H Q E h => ?_) (fun cdv Ar outer s H vs Q E hr h => ?_)
  · obtain ⟨c, rfl, _⟩ := h
    rfl
  ·
    obtain ⟨c, rfl, q⟩ := h
    refine ⟨_, (pss_cons (ps_set (i := 1) sc_row_of.nd rfl (Or.inl rfl) (pe_op op_add pe_int (pe_op op_mod (pv 0) pe_int)))
 (pss_cons (ps_set (i := 2) sc_row_of.nd rfl (Or.inl rfl) (pe_ix ix_list (pe_lst (pa_cons pe_int (pa_cons pe_int pa_nil))) (pe_op op_mod (pe_op op_fdiv (pv 0) pe_int) pe_int) (fun _ _ => rfl)))
 (Evl.pss_cut (ps_if (pt_cmpR op_eq (pe_op op_mod (pe_op op_fdiv (pv 0) pe_int) pe_int) pe_int (nomark _)) (pss_cons (ps_set (i := 1) sc_row_of.nd rfl (Or.inl rfl) (pe_op op_add pe_int (pe_op op_mod (pe_op op_fdiv (pv 0) pe_int) pe_int)))
 (pss_one (ps_set (i := 2) sc_row_of.nd rfl (Or.inl rfl) (pe_ix ix_list (pe_lst (pa_cons pe_int (pa_cons pe_int pa_nil))) (pe_op op_mod (pe_op op_fdiv (pv 0) pe_int) pe_int) (fun _ _ => rfl)))))
 pss_nil)
 (pss_one (ps_ret (pe_call (ok_row_by T) (hr.mono (by decide)) rfl T.g_row_by T.F_row_by.kp T.B_row_by .nil pass0 (pa_cons (pv 0) (pa_cons (pv 1) (pa_cons (pv 2) pa_nil))))))))), ?_⟩
    walk_at "i"
    refine g_newI (ns := [9, 9000]) rfl (by simp) fun l1 H1 hl1 s1 hI1 => ?_
    walk_at "v"
    obtain ⟨w0, hw, hw0, hw1⟩ : ∃ w : Int, [9, 9000][(c / 4 % 2).toNat]? = some w ∧ 0 < w ∧ w ≤ 9000 := by
      have h2 : c / 4 % 2 = 0 ∨ c / 4 % 2 = 1 := by omega
      rcases h2 with h2 | h2 <;> rw [h2] <;> exact ⟨_, rfl, by decide, by decide⟩
    refine g_ixI hI1 (j := (c / 4 % 2).toNat) (by omega) hw ?_
    walk_at "v"
    refine g_cutM (fun σ0 σ' H' => Same H1 H' ∧ ∃ m w, σ' = (σ0.set 1 (some (.int m))).set 2 (some (.int w)) ∧ 1 ≤ m ∧ 0 < w ∧ ((m ≤ 4 ∧ w ≤ 9000) ∨ (m ≤ 60 ∧ w ≤ 1000))) ?_ ?_
    · walk_at "v"
      refine g_ite (fun hc => ?_) (fun hc => ?_)
      · walk_at "v"
        refine g_newI (ns := [9, 1000]) rfl (by simp) fun l2 H2 hl2 s2 hI2 => ?_
        walk_at "v"
        obtain ⟨w2, hw2, hw20, hw21⟩ : ∃ w : Int, [9, 1000][(c / 4 % 2).toNat]? = some w ∧ 0 < w ∧ w ≤ 1000 := by
          have h2 : c / 4 % 2 = 0 ∨ c / 4 % 2 = 1 := by omega
          rcases h2 with h2 | h2 <;> rw [h2] <;> exact ⟨_, rfl, by decide, by decide⟩
        refine g_ixI hI2 (j := (c / 4 % 2).toNat) (by omega) hw2 ?_
        exact ⟨s2, _, w2, by walk_at "z", by omega, hw20, .inr ⟨by omega, hw21⟩⟩
      · walk_at "v"
        exact ⟨Same.refl _, _, w0, by walk_at "z", by omega, hw0, .inl ⟨by omega, hw1⟩⟩
    rintro σ' H2 ⟨s2, m, w, rfl, m0, wd0, hb⟩
    walk_at "v"
    refine g_row_by m0 (by omega) wd0 fun l2 H3 hl2 s3 hR => ?_
    have ok := rowBy_ok (c := c) (m := m) wd0
    have len := rowBy_len (c := c) (m := m) (w := w) m0
    have h1 := (rowN_day c wd0 (m - 1).toNat).2
    have h3 : ((m - 1).toNat : Int) * w ≤ 59000 := by
      rcases hb with hb | hb
      · have : ((m - 1).toNat : Int) * w ≤ 3 * 9000 := Int.mul_le_mul (by omega) hb.2 (by omega) (by decide)
        omega
      · have : ((m - 1).toNat : Int) * w ≤ 59 * 1000 := Int.mul_le_mul (by omega) hb.2 (by omega) (by decide)
        omega
    exact q l2 _ H3 ((s1.trans s2).trans s3) hR ok (Int.le_trans h1 (by omega)) (by omega)

theorem sc_l_cost : FnScope ["_law_stood", "_law_row", "_law_days", "_law_part", "_law_paid", "_law_owed_here"] ["_law_stood", "_law_row", "_law_days", "_law_part"] (defScope s_l_cost) := ⟨rfl, rfl, rfl, by decide +kernel, rfl, by decide +kernel, by decide +kernel⟩
theorem ok_l_cost (T : Txt K mg A) : FnOk P w K mg base CX0 3 A.a_l_cost A.d_l_cost ["_law_stood", "_law_row", "_law_days", "_law_part"] sp_cost_l := by
  refine T.F_l_cost.ok sc_l_cost (fun vs H Q E h => ?_) (fun cdv Ar outer s H vs Q E hr h => ?_)
  · obtain ⟨ts, lq, a, p, l, b, d, row, days, rfl, _⟩ := h
    rfl
  ·
    obtain ⟨ts, lq, a, p, l, b, d, row, days, rfl, ht, hR, ok, hlen, nk, hI, hd, hp, q⟩ := h
    refine ⟨_, (pss_cons (ps_asg (pe_call (ok_behind T) (hr.mono (by decide)) rfl T.g_behind T.F_behind.kp T.B_behind .nil pass0 (pa_cons (pv 0) (pa_cons (pv 1) (pa_cons (pv 2) (pa_cons (pv 3) pa_nil))))) (pg_tup rfl (pgs_cons (pg_name (i := 4) sc_l_cost.nd rfl (Or.inl rfl)) (pgs_cons (pg_name (i := 5) sc_l_cost.nd rfl (Or.inl rfl)) pgs_nil))))
 (pss_one (ps_ret (pe_op op_add (pv 4) (pv 5))))), ?_⟩
    walk_at "i"
    refine g_behind ht hR ok hlen nk hI hd hp fun o1 H1 s1 h1 => ?_
    walk_at "v"
    refine g_unp2 h1 ?_
    walk_at "v"
    exact q H1 s1
theorem sc_part_of : FnScope ["_law_ways", "_law_share", "_law_some"] ["_law_ways", "_law_share"] (defScope s_part_of) := ⟨rfl, rfl, rfl, by decide +kernel, rfl, by decide +kernel, by decide +kernel⟩
theorem ok_part_of (T : Txt K mg A) : FnOk P w K mg base CX0 2 A.a_part_of A.d_part_of ["_law_ways", "_law_share"] sp_part_of := by
  refine T.F_part_of.ok sc_part_of (fun vs H Q E h => ?_) (fun cdv Ar outer s H vs Q E hr h => ?_)
  · obtain ⟨c, s, rfl, _⟩ := h
    rfl
  ·
    obtain ⟨c, s, rfl, hb, hs, q⟩ := h
    refine ⟨_, (pss_cons (ps_set (i := 2) sc_part_of.nd rfl (Or.inl rfl) (pe_lst (pa_cons pe_int (pa_cons (pv 1) (pa_cons (pe_op op_add (pe_op op_add (pv 1) (pe_op op_fdiv (pv 1) pe_int)) pe_int) (pa_cons (pe_op op_add (pe_op op_pow pe_int pe_int) (pe_op op_mod (pe_op op_mulX (pv 0) (pv 0)) (pe_op op_pow pe_int pe_int))) (pa_cons (pe_op op_fdiv (pv 1) pe_int) pa_nil)))))))
 (pss_cons (ps_if (pt_cmpR op_eq (pe_op op_mod (pe_op op_fdiv (pv 0) pe_int) pe_int) pe_int (nomark _)) (pss_one (ps_ret (pe_op op_add pe_int (pe_op op_mod (pe_op op_mul (pe_call (ok_mixed T) (hr.mono (by decide)) rfl T.g_mixed T.F_mixed.kp T.B_mixed .nil pass0 (pa_cons (pv 0) (pa_cons pe_int pa_nil))) pe_int) (pe_op op_add (pe_op op_mul pe_int (pv 1)) pe_int)))))
 pss_nil)
 (pss_one (ps_ret (pe_callB (c_max rfl) rfl T.n_max (by decide +kernel) (pa_cons pe_int (pa_cons (pe_ix ix_list (pv 2) (pe_op op_mod (pv 0) pe_int) (fun _ _ => rfl)) pa_nil))))))), ?_⟩
    walk_at "i"
    refine g_i (C := IntMulOk) (IntMulOk.of_bits hb hb) ?_
    walk_at "v"
    refine g_newI (ns := [1, s, s + s / 4 + 1, 10 ^ (18 : Int).toNat + c * c % 10 ^ (40 : Int).toNat, s / 2]) rfl (by simp) fun l1 H1 hl1 s1 hI1 => ?_
    walk_at "v"
    refine g_ite (fun hc => ?_) (fun hc => ?_)
    · walk_at "v"
      have h1 := Int.emod_nonneg (mixed c 2147483647 * 467) (b := 2 * s + 2) (by omega)
      exact q _ H1 s1 (by omega)
    · walk_at "v"
      obtain ⟨v, hv⟩ : ∃ v, [1, s, s + s / 4 + 1, 10 ^ (18 : Int).toNat + c * c % 10 ^ (40 : Int).toNat, s / 2][(c % 5).toNat]? = some v := by
        have h6 : c % 5 = 0 ∨ c % 5 = 1 ∨ c % 5 = 2 ∨ c % 5 = 3 ∨ c % 5 = 4 := by omega
        rcases h6 with h6 | h6 | h6 | h6 | h6 <;> rw [h6] <;> exact ⟨_, rfl⟩
      refine g_ixI hI1 (j := (c % 5).toNat) (by omega) hv ?_
      walk_at "v"
      exact q _ H1 s1 (by omega)
theorem sc_saved_again : FnScope ["_law_loan", "_law_stood", "_law_row", "_law_days", "_law_part", "_law_due", "_law_owed_here", "_law_cents", "_law_less", "_law_other"] ["_law_loan", "_law_stood", "_law_row", "_law_days", "_law_part", "_law_due"] (defScope s_saved_again) := ⟨rfl, rfl, rfl, by decide +kernel, rfl, by decide +kernel, by decide +kernel⟩
theorem ok_saved_again (T : Txt K mg A) : FnOk P w K mg base CX0 9 A.a_saved_again A.d_saved_again ["_law_loan", "_law_stood", "_law_row", "_law_days", "_law_part", "_law_due"] (sp_saved_again A.c_Loan) := by
  refine T.F_saved_again.ok sc_saved_again (fun vs H Q E h => ?_) (fun cdv Ar outer s H vs Q E hr h => ?_)
  · obtain ⟨x, ts, lq, a, p, l, b, d, r, row, days, rfl, _⟩ := h
    rfl
  ·
    obtain ⟨x, ts, lq, a, p, l, b, d, r, row, days, rfl, st, hI, hd, hn, hdl, hp, q⟩ := h
    have nk := st.n
    obtain ⟨nl0, nl1, nb0, nb1, d0, d1⟩ := id nk
    have on : 0 ≤ owedF l b := by unfold owedF; omega
    have eo : thenF l b d row d = b := by unfold thenF; rw [grownF_same, Int.mul_zero, Int.add_zero]
    obtain ⟨D, tl, ed⟩ : ∃ D t, days = D :: t := by
      cases days with
      | nil => exact absurd rfl hn
      | cons D t => exact ⟨D, t, rfl⟩
    have eh : days.headD 0 = D := by rw [ed]; rfl
    have hD := daysOk_le hd D (by rw [ed]; simp)
    refine ⟨_, (pss_cons (ps_set (i := 6) sc_saved_again.nd rfl (Or.inl rfl) (pe_call (ok_owed T) (hr.mono (by decide)) rfl T.g_owed T.F_owed.kp T.B_owed .nil pass0 (pa_cons (pe_ix ix_tup (pv 1) pe_int (fun _ _ => rfl)) (pa_cons (pe_ix ix_tup (pv 1) pe_int (fun _ _ => rfl)) pa_nil))))
 (pss_cons (ps_if (pt_cmpR op_eq (pv 6) pe_int (nomark _)) (pss_one (ps_ret pe_bl))
 pss_nil)
 (pss_cons (ps_set (i := 7) sc_saved_again.nd rfl (Or.inl rfl) (pe_op op_fdiv (pe_op op_add (pv 6) pe_int) pe_int))
 (pss_cons (ps_set (i := 8) sc_saved_again.nd rfl (Or.inl rfl) (pe_call (ok_parts T) (hr.mono (by decide)) rfl T.g_parts T.F_parts.kp T.B_parts .nil pass0 (pa_cons (pe_ix ix_tup (pv 1) pe_int (fun _ _ => rfl)) (pa_cons (pe_ix ix_tup (pv 1) pe_int (fun _ _ => rfl)) (pa_cons (pv 7) pa_nil)))))
 (pss_cons (ps_set (i := 9) sc_saved_again.nd rfl (Or.inl rfl) (pe_call (ok_l_cost T) (hr.mono (by decide)) rfl T.g_l_cost T.F_l_cost.kp T.B_l_cost .nil pass0 (pa_cons (pe_tup (pa_cons (pe_ix ix_tup (pv 8) pe_int (fun _ _ => rfl)) (pa_cons (pe_ix ix_tup (pv 8) pe_int (fun _ _ => rfl)) (pa_cons (pe_ix ix_tup (pv 1) pe_int (fun _ _ => rfl)) pa_nil)))) (pa_cons (pv 2) (pa_cons (pv 3) (pa_cons (pv 4) pa_nil))))))
 (pss_one (ps_ret (pe_cmpR op_eq (pe_call (ok_saved T) (hr.mono (by decide)) rfl T.g_saved T.F_saved.kp T.B_saved .nil passL (pa_cons (pv 0) (pa_cons (pv 3) (pa_cons (pv 4) (pa_cons (pe_ix ix_tup (pv 1) pe_int (fun _ _ => rfl)) (pa_cons (pv 7) pa_nil)))))) (pe_op op_sub (pe_op op_sub (pv 5) (pv 7)) (pv 9)) (nomark _))))))))), ?_⟩
    walk_at "i"
    refine g_ixT (j := 0) st.t rfl ?_
    walk_at "v"
    refine g_ixT (j := 1) st.t rfl ?_
    walk_at "v"
    refine g_ite (fun hc => ?_) (fun hc => ?_)
    · walk_at "v"
      exact q H (Same.refl _)
    walk_at "v"
    refine g_ixT (j := 0) st.t rfl ?_
    walk_at "v"
    refine g_ixT (j := 1) st.t rfl ?_
    walk_at "v"
    have hcb : 1 ≤ (owedF l b + 1) / 2 ∧ (owedF l b + 1) / 2 ≤ owedF l b := by omega
    generalize hcc : (owedF l b + 1) / 2 = c at hcb
    refine g_parts fun t1 H1 ht1 s1 h1 => ?_
    have st1 := st.same s1
    have nP := nk.pay hcb.1 hcb.2
    walk_at "v"
    refine g_ixT (j := 2) h1 rfl ?_
    walk_at "v"
    refine g_ixT (j := 3) h1 rfl ?_
    walk_at "v"
    refine g_ixT (j := 2) st1.t rfl ?_
    walk_at "v"
    refine g_newT (by simp) fun t2 H2 ht2 s2 h2 => ?_
    have st2 := st1.same s2
    walk_at "v"
    refine g_cost_l h2 st2.q st2.ok (by have := st2.len; omega) nP ((hI.same s1).same s2) hd (by omega) fun H3 s3 => ?_
    have st3 := st2.same s3
    walk_at "v"
    refine g_ixT (j := 2) st3.t rfl ?_
    walk_at "v"
    refine ⟨x, a, p, d, c, l, b, d, r, row, days, rfl, st3.good, ((hI.same s1).same s2).same s3, hdl, fun h => ?_, fun _ _ => ⟨fun h => absurd h (by omega), fun _ => ⟨fun h => absurd h (by omega), fun _ => ?_⟩⟩⟩
    · rcases h with h | h
      · exact absurd h hn
      · rw [hd] at h; cases h
    rw [eo]
    refine ⟨fun h => absurd h (by omega), fun _ H4 s4 => ?_⟩
    walk_at "v"
    unfold savedF
    rw [eo, decide_eq_true rfl]
    exact q H4 (((s1.trans s2).trans s3).trans s4)
theorem sc_dues : FnScope ["_law_script", "_law_at", "_law_head", "_law_first", "_law_many", "_law_wide"] ["_law_script", "_law_at"] (defScope s_dues) := ⟨rfl, rfl, rfl, by decide +kernel, rfl, by decide +kernel, by decide +kernel⟩
theorem ok_dues (T : Txt K mg A) : FnOk P w K mg base CX0 3 A.a_dues A.d_dues ["_law_script", "_law_at"] (sp_dues1 K) := by
  refine T.F_dues.ok sc_dues (fun vs H Q E h => ?_) (fun cdv Ar outer s H vs Q E hr h => ?_)
  · obtain ⟨a, ns, at', rfl, _⟩ := h
    rfl
  ·
    obtain ⟨a, ns, at', rfl, hS, ha0, ha1, q⟩ := h
    refine ⟨_, (pss_cons (ps_set (i := 2) sc_dues.nd rfl (Or.inl rfl) (pe_call (ok_cell_at T) (hr.mono (by decide)) rfl T.g_cell_at T.F_cell_at.kp T.B_cell_at .nil pass0 (pa_cons (pv 0) (pa_cons pe_int pa_nil))))
 (pss_cons (ps_set (i := 3) sc_dues.nd rfl (Or.inl rfl) (pe_op op_add (pv 1) (pe_op op_mod (pv 2) pe_int)))
 (Evl.pss_cut (ps_if (pt_cmpR op_eq (pe_op op_mod (pe_call (ok_cell_at T) (hr.mono (by decide)) rfl T.g_cell_at T.F_cell_at.kp T.B_cell_at .nil pass0 (pa_cons (pv 0) (pa_cons pe_int pa_nil))) pe_int) pe_int (nomark _)) (pss_one (ps_set (i := 3) sc_dues.nd rfl (Or.inl rfl) (pe_op op_add (pv 1) (pe_call (ok_mixed T) (hr.mono (by decide)) rfl T.g_mixed T.F_mixed.kp T.B_mixed .nil pass0 (pa_cons (pe_call (ok_cell_at T) (hr.mono (by decide)) rfl T.g_cell_at T.F_cell_at.kp T.B_cell_at .nil pass0 (pa_cons (pv 0) (pa_cons pe_int pa_nil))) (pa_cons pe_int pa_nil))))))
 pss_nil)
 (pss_cons (ps_set (i := 4) sc_dues.nd rfl (Or.inl rfl) (pe_op op_add pe_int (pe_op op_mod (pe_op op_fdiv (pv 2) pe_int) pe_int)))
 (pss_cons (ps_set (i := 5) sc_dues.nd rfl (Or.inl rfl) (pe_ix ix_list (pe_lst (pa_cons pe_int (pa_cons pe_int pa_nil))) (pe_op op_mod (pe_op op_fdiv (pv 2) pe_int) pe_int) (fun _ _ => rfl)))
 (Evl.pss_cut (ps_if (pt_cmpR op_eq (pe_op op_mod (pe_op op_fdiv (pv 2) pe_int) pe_int) pe_int (nomark _)) (pss_cons (ps_set (i := 4) sc_dues.nd rfl (Or.inl rfl) (pe_op op_add pe_int (pe_op op_mod (pe_op op_fdiv (pv 2) pe_int) pe_int)))
 (pss_one (ps_set (i := 5) sc_dues.nd rfl (Or.inl rfl) pe_int)))
 pss_nil)
 (pss_one (ps_ret (pe_call (ok_days_by T) (hr.mono (by decide)) rfl T.g_days_by T.F_days_by.kp T.B_days_by .nil pass0 (pa_cons (pe_op op_mul pe_int (pe_call (ok_cell_at T) (hr.mono (by decide)) rfl T.g_cell_at T.F_cell_at.kp T.B_cell_at .nil pass0 (pa_cons (pv 0) (pa_cons pe_int pa_nil)))) (pa_cons (pv 3) (pa_cons (pv 4) (pa_cons (pv 5) pa_nil))))))))))))), ?_⟩
    walk_at "i"
    refine g_cutif (.int (if cellAt ns 9 % 4 = 1 then at' + mixed (cellAt ns 9) 15000 else at' + cellAt ns 4 % 91)) (by walk_at "cut") ?_
    have hf : at' ≤ (if cellAt ns 9 % 4 = 1 then at' + mixed (cellAt ns 9) 15000 else at' + cellAt ns 4 % 91) ∧ (if cellAt ns 9 % 4 = 1 then at' + mixed (cellAt ns 9) 15000 else at' + cellAt ns 4 % 91) ≤ 17999 := by
      have := mixed_lo (c := cellAt ns 9) (m := 15000) (by decide)
      have := mixed_hi (c := cellAt ns 9) (m := 15000) (by decide)
      split <;> omega
    generalize (if cellAt ns 9 % 4 = 1 then at' + mixed (cellAt ns 9) 15000 else at' + cellAt ns 4 % 91) = f at hf
    walk_at "v"
    refine g_newI (ns := [30, 900]) rfl (by simp) fun l1 H1 hl1 s1 hI1 => ?_
    have hS := SqL.same hS s1
    walk_at "v"
    obtain ⟨w0, hw, hw0, hw1⟩ : ∃ w : Int, [30, 900][(cellAt ns 4 / 910 % 2).toNat]? = some w ∧ 0 < w ∧ w ≤ 900 := by
      have h2 : cellAt ns 4 / 910 % 2 = 0 ∨ cellAt ns 4 / 910 % 2 = 1 := by omega
      rcases h2 with h2 | h2 <;> rw [h2] <;> exact ⟨_, rfl, by decide, by decide⟩
    refine g_ixI hI1 (j := (cellAt ns 4 / 910 % 2).toNat) (by omega) hw ?_
    walk_at "v"
    refine g_cutM (fun σ0 σ' H' => H' = H1 ∧ ∃ m w, σ' = (σ0.set 4 (some (.int m))).set 5 (some (.int w)) ∧ 1 ≤ m ∧ 0 < w ∧ ((m ≤ 10 ∧ w ≤ 900) ∨ (m ≤ 400 ∧ w ≤ 200))) ?_ ?_
    · walk_at "v"
      refine g_ite (fun hc => ?_) (fun hc => ?_)
      · walk_at "v"
        exact ⟨rfl, _, _, by walk_at "z", by omega, by decide, .inr ⟨by omega, by decide⟩⟩
      · walk_at "v"
        exact ⟨rfl, _, _, by walk_at "z", by omega, hw0, .inl ⟨by omega, hw1⟩⟩
    rintro σ' H2 ⟨rfl, m, w, rfl, m0, wd0, hb⟩
    walk_at "v"
    refine g_days_by (by omega) (by omega) wd0 fun l3 H3 hl3 s3 hI3 => ?_
    have dl := daysBy_len (c := 4 * cellAt ns 5) (a := f) (m := m) (w := w) (by omega)
    refine q l3 _ H3 (s1.trans s3) hI3 (daysBy_ok wd0 hf.1 ?_) (fun z => by rw [z] at dl; simp at dl; omega) (by omega)
    rcases hb with hb | hb
    · have : ((m - 1).toNat : Int) * w ≤ 9 * 900 := Int.mul_le_mul (by omega) hb.2 (by omega) (by decide)
      omega
    · have : ((m - 1).toNat : Int) * w ≤ 399 * 200 := Int.mul_le_mul (by omega) hb.2 (by omega) (by decide)
      omega
theorem sc_law : FnScope ["_law_script", "_law_row", "_law_loan", "_law_stood", "_law_left", "_law_begun", "_law_at", "_law_days", "_law_part", "_law_day", "_law_then", "_law_owed_here", "_law_ways", "_law_cents", "_law_handed", "_law_whole_here", "_law_found", "_law_due", "_law_less", "_law_other", "_law_again"] ["_law_script"] (defScope s_law) := ⟨rfl, rfl, rfl, by decide +kernel, rfl, by decide +kernel, by decide +kernel⟩
theorem ok_law (T : Txt K mg A) : FnOk P w K mg base CX0 10 A.a_law A.d_law ["_law_script"] (sp_law K) := by
  refine T.F_law.ok sc_law (fun vs H Q E h => ?_) (fun cdv Ar outer s H vs Q E hr h => ?_)
  · obtain ⟨a, ns, rfl, _⟩ := h
    rfl
  ·
    obtain ⟨a, ns, rfl, hS, hlen, hbits, q⟩ := h
    have cL := T.C_Loan
    have n1 := T.na_left
    have n2 := T.na_begun
    have n3 := T.na_day
    have n4 := T.na_rates
    refine ⟨_, (pss_cons (ps_set (i := 1) sc_law.nd rfl (Or.inl rfl) (pe_call (ok_row_of T) (hr.mono (by decide)) rfl T.g_row_of T.F_row_of.kp T.B_row_of .nil pass0 (pa_cons (pe_call (ok_cell_at T) (hr.mono (by decide)) rfl T.g_cell_at T.F_cell_at.kp T.B_cell_at .nil pass0 (pa_cons (pv 0) (pa_cons pe_int pa_nil))) pa_nil)))
 (pss_cons (ps_asg (pe_call (ok_loan_by T) (hr.mono (by decide)) rfl T.g_loan_by T.F_loan_by.kp T.B_loan_by .nil pass0 (pa_cons (pv 0) (pa_cons (pv 1) pa_nil))) (pg_tup rfl (pgs_cons (pg_name (i := 2) sc_law.nd rfl (Or.inl rfl)) (pgs_cons (pg_name (i := 3) sc_law.nd rfl (Or.inl rfl)) (pgs_cons (pg_name (i := 1) sc_law.nd rfl (Or.inl rfl)) pgs_nil)))))
 (pss_cons (ps_asg (pv 3) (pg_tup rfl (pgs_cons (pg_name (i := 4) sc_law.nd rfl (Or.inl rfl)) (pgs_cons (pg_name (i := 5) sc_law.nd rfl (Or.inl rfl)) (pgs_cons (pg_name (i := 6) sc_law.nd rfl (Or.inl rfl)) pgs_nil)))))
 (pss_cons (ps_if (pt_cmpR op_eq (pe_call (ok_owed T) (hr.mono (by decide)) rfl T.g_owed T.F_owed.kp T.B_owed .nil pass0 (pa_cons (pv 4) (pa_cons (pv 5) pa_nil))) pe_int (nomark _)) (pss_one (ps_ret (pe_cmpR op_eq (pe_call (ok_cost T) (hr.mono (by decide)) rfl T.g_cost T.F_cost.kp T.B_cost .nil passL (pa_cons (pv 2) (pa_cons (pe_lst (pa_cons (pv 6) pa_nil)) (pa_cons pe_int pa_nil)))) pe_int (nomark _))))
 pss_nil)
 (pss_cons (ps_set (i := 7) sc_law.nd rfl (Or.inl rfl) (pe_call (ok_dues T) (hr.mono (by decide)) rfl T.g_dues T.F_dues.kp T.B_dues .nil pass0 (pa_cons (pv 0) (pa_cons (pv 6) pa_nil))))
 (pss_cons (ps_set (i := 8) sc_law.nd rfl (Or.inl rfl) (pe_call (ok_part_of T) (hr.mono (by decide)) rfl T.g_part_of T.F_part_of.kp T.B_part_of .nil pass0 (pa_cons (pe_call (ok_cell_at T) (hr.mono (by decide)) rfl T.g_cell_at T.F_cell_at.kp T.B_cell_at .nil pass0 (pa_cons (pv 0) (pa_cons pe_int pa_nil))) (pa_cons (pe_op op_fdiv (pv 4) (pe_callB c_len rfl T.n_len (by decide +kernel) (pa_cons (pv 7) pa_nil))) pa_nil))))
 (pss_cons (ps_set (i := 9) sc_law.nd rfl (Or.inl rfl) (pe_op op_add (pv 6) (pe_op op_mod (pe_call (ok_cell_at T) (hr.mono (by decide)) rfl T.g_cell_at T.F_cell_at.kp T.B_cell_at .nil pass0 (pa_cons (pv 0) (pa_cons pe_int pa_nil))) (pe_op op_add (pe_op op_sub (pe_ix ix_list (pv 7) pe_int (fun _ _ => rfl)) (pv 6)) pe_int))))
 (pss_cons (ps_set (i := 10) sc_law.nd rfl (Or.inl rfl) (pe_op op_add (pv 5) (pe_op op_mul (pv 4) (pe_call (ok_sum_by T) (hr.mono (by decide)) rfl T.g_sum_by T.F_sum_by.kp T.B_sum_by .nil pass0 (pa_cons (pv 1) (pa_cons (pv 6) (pa_cons (pv 9) pa_nil)))))))
 (pss_cons (ps_set (i := 11) sc_law.nd rfl (Or.inl rfl) (pe_call (ok_owed T) (hr.mono (by decide)) rfl T.g_owed T.F_owed.kp T.B_owed .nil pass0 (pa_cons (pv 4) (pa_cons (pv 10) pa_nil))))
 (pss_cons (ps_set (i := 12) sc_law.nd rfl (Or.inl rfl) (pe_call (ok_cell_at T) (hr.mono (by decide)) rfl T.g_cell_at T.F_cell_at.kp T.B_cell_at .nil pass0 (pa_cons (pv 0) (pa_cons pe_int pa_nil))))
 (pss_cons (ps_set (i := 13) sc_law.nd rfl (Or.inl rfl) (pe_callB (c_max rfl) rfl T.n_max (by decide +kernel) (pa_cons pe_int (pa_cons (pe_ix ix_list (pe_lst (pa_cons pe_int (pa_cons (pe_op op_fdiv (pv 11) pe_int) (pa_cons (pv 11) (pa_cons (pe_op op_add pe_int (pe_op op_mod (pe_op op_mul (pe_call (ok_mixed T) (hr.mono (by decide)) rfl T.g_mixed T.F_mixed.kp T.B_mixed .nil pass0 (pa_cons (pv 12) (pa_cons pe_int pa_nil))) pe_int) (pv 11))) pa_nil))))) (pe_op op_mod (pv 12) pe_int) (fun _ _ => rfl)) pa_nil))))
 (pss_cons (ps_set (i := 14) sc_law.nd rfl (Or.inl rfl) (pe_callTy c_list rfl T.n_list (by decide +kernel) (pa_cons (pv 7) pa_nil)))
 (pss_cons (ps_set (i := 15) sc_law.nd rfl (Or.inl rfl) pe_non)
 (Evl.pss_cut (ps_if (pt_cmpR op_eq (pe_op op_mod (pe_op op_fdiv (pv 12) pe_int) pe_int) pe_int (nomark _)) (pss_one (ps_set (i := 15) sc_law.nd rfl (Or.inl rfl) (pe_call (ok_cost T) (hr.mono (by decide)) rfl T.g_cost T.F_cost.kp T.B_cost .nil passL (pa_cons (pv 2) (pa_cons (pv 14) (pa_cons (pv 8) pa_nil))))))
 pss_nil)
 (pss_cons (ps_set (i := 16) sc_law.nd rfl (Or.inl rfl) (pe_call (ok_saved T) (hr.mono (by decide)) rfl T.g_saved T.F_saved.kp T.B_saved .nil passL (pa_cons (pv 2) (pa_cons (pv 14) (pa_cons (pv 8) (pa_cons (pv 9) (pa_cons (pv 13) pa_nil)))))))
 (Evl.pss_cut (ps_if (pt_cmpR op_eq (pe_op op_mod (pe_op op_fdiv (pv 12) pe_int) pe_int) pe_int (nomark _)) (pss_one (ps_set (i := 15) sc_law.nd rfl (Or.inl rfl) (pe_call (ok_cost T) (hr.mono (by decide)) rfl T.g_cost T.F_cost.kp T.B_cost .nil passL (pa_cons (pv 2) (pa_cons (pv 14) (pa_cons (pv 8) pa_nil))))))
 pss_nil)
 (pss_cons (ps_set (i := 17) sc_law.nd rfl (Or.inl rfl) (pe_call (ok_l_cost T) (hr.mono (by decide)) rfl T.g_l_cost T.F_l_cost.kp T.B_l_cost .nil pass0 (pa_cons (pv 3) (pa_cons (pv 1) (pa_cons (pv 7) (pa_cons (pv 8) pa_nil))))))
 (pss_cons (ps_set (i := 18) sc_law.nd rfl (Or.inl rfl) (pe_call (ok_parts T) (hr.mono (by decide)) rfl T.g_parts T.F_parts.kp T.B_parts .nil pass0 (pa_cons (pv 4) (pa_cons (pv 10) (pa_cons (pv 13) pa_nil)))))
 (pss_cons (ps_set (i := 19) sc_law.nd rfl (Or.inl rfl) (pe_call (ok_l_cost T) (hr.mono (by decide)) rfl T.g_l_cost T.F_l_cost.kp T.B_l_cost .nil pass0 (pa_cons (pe_tup (pa_cons (pe_ix ix_tup (pv 18) pe_int (fun _ _ => rfl)) (pa_cons (pe_ix ix_tup (pv 18) pe_int (fun _ _ => rfl)) (pa_cons (pv 9) pa_nil)))) (pa_cons (pv 1) (pa_cons (pv 7) (pa_cons (pv 8) pa_nil))))))
 (pss_cons (ps_if (PW.pt (pw_or (pt_not (pt_val (pe_call (ok_whole T) (hr.mono (by decide)) rfl T.g_whole T.F_whole.kp T.B_whole .nil pass0 (pa_cons (pv 15) pa_nil)))) (pw_or (pt_cmpR op_ne (pv 15) (pv 17) (nomark _)) (pw_or (pt_not (pt_val (pe_call (ok_whole T) (hr.mono (by decide)) rfl T.g_whole T.F_whole.kp T.B_whole .nil pass0 (pa_cons (pv 16) pa_nil)))) (pw_or1 (pt_cmpR op_lt (pv 16) pe_int (nomark _))))))) (pss_one (ps_ret pe_bl))
 pss_nil)
 (pss_cons (ps_if (PW.pt (pw_or (pt_cmpR (op_neD hr.units) (pv 14) (pv 7) (nomark _)) (pw_or (pt_cmpR (op_neD hr.units) (pe_fld (pv 2) rfl) (pv 1) (nomark _)) (pw_or1 (pt_cmpR (op_neD hr.units) (pe_tup (pa_cons (pe_fld (pv 2) rfl) (pa_cons (pe_fld (pv 2) rfl) (pa_cons (pe_fld (pv 2) rfl) pa_nil)))) (pv 3) (nomark _)))))) (pss_one (ps_ret pe_bl))
 pss_nil)
 (pss_cons (ps_asg (pe_call (ok_done_more T) (hr.mono (by decide)) rfl T.g_done_more T.F_done_more.kp T.B_done_more .nil pass0 (pa_cons (pv 2) (pa_cons (pv 3) (pa_cons (pv 1) (pa_cons (pe_call (ok_cell_at T) (hr.mono (by decide)) rfl T.g_cell_at T.F_cell_at.kp T.B_cell_at .nil pass0 (pa_cons (pv 0) (pa_cons pe_int pa_nil))) pa_nil))))) (pg_tup rfl (pgs_cons (pg_name (i := 3) sc_law.nd rfl (Or.inl rfl)) (pgs_cons (pg_name (i := 1) sc_law.nd rfl (Or.inl rfl)) pgs_nil))))
 (pss_cons (ps_set (i := 20) sc_law.nd rfl (Or.inl rfl) (pe_call (ok_l_cost T) (hr.mono (by decide)) rfl T.g_l_cost T.F_l_cost.kp T.B_l_cost .nil pass0 (pa_cons (pv 3) (pa_cons (pv 1) (pa_cons (pv 7) (pa_cons (pv 8) pa_nil))))))
 (pss_cons (ps_if (PW.pt (pw_or (pt_cmpR op_ne (pe_call (ok_cost T) (hr.mono (by decide)) rfl T.g_cost T.F_cost.kp T.B_cost .nil passL (pa_cons (pv 2) (pa_cons (pv 14) (pa_cons (pv 8) pa_nil)))) (pv 20) (nomark _)) (pw_or1 (pt_cmpR op_ne (pv 16) (pe_op op_sub (pe_op op_sub (pv 17) (pv 13)) (pv 19)) (nomark _))))) (pss_one (ps_ret pe_bl))
 pss_nil)
 (pss_cons (ps_if (pt_not (pt_val (pe_call (ok_saved_again T) (hr.mono (by decide)) rfl T.g_saved_again T.F_saved_again.kp T.B_saved_again .nil pass0 (pa_cons (pv 2) (pa_cons (pv 3) (pa_cons (pv 1) (pa_cons (pv 14) (pa_cons (pv 8) (pa_cons (pv 20) pa_nil))))))))) (pss_one (ps_ret pe_bl))
 pss_nil)
 (pss_one (ps_ret (pe_and (pe_cmpR (op_eqD hr.units) (pv 14) (pv 7) (nomark _)) (pe_and (pe_cmpR (op_eqD hr.units) (pe_fld (pv 2) rfl) (pv 1) (nomark _)) (pe_one (pe_cmpR (op_eqD hr.units) (pe_tup (pa_cons (pe_fld (pv 2) rfl) (pa_cons (pe_fld (pv 2) rfl) (pa_cons (pe_fld (pv 2) rfl) pa_nil)))) (pv 3) (nomark _)))))))))))))))))))))))))))))))), ?_⟩
    walk_at "i"
    refine g_row_of fun l0 row0 H1 s1 hR0 ok0 la0 len0 => ?_
    have hS1 := SqL.same hS s1
    walk_at "v"
    refine ⟨a, ns, l0, row0, rfl, hS1, hR0, ok0, la0, len0, fun t x ts lq l b d r row H2 hx s2 ht hts hq hL nk hd3 okr lar lenr _ => ?_⟩
    have hS2 := SqL.same hS1 s2
    have st2 : St9 A.c_Loan H2 x ts lq l b d r row := ⟨hL, hts, hq, nk, okr, Int.le_trans lar (by decide), lenr⟩
    clear hL hts hq
    obtain ⟨nl0, nl1, nb0, nb1, d0, d1⟩ := id nk
    have on : 0 ≤ owedF l b := by unfold owedF; omega
    walk_at "v"
    refine g_unp3 ht ?_
    walk_at "v"
    refine g_unp3 st2.t ?_
    walk_at "v"
    refine g_ite (fun hc => ?_) (fun hc => ?_)
    · walk_at "v"
      refine g_newI (ns := [d]) rfl (by simp) fun l3 H3 hl3 s3 hI3 => ?_
      have hdd : daysOk d [d] = true := by
        show (if d < d ∨ 100000 < d then false else true) = true
        rw [if_neg (by omega)]
      walk_at "v"
      refine ⟨x, l3, 5, l, b, d, r, row, [d], rfl, (st2.same s3).good, hI3, by simp, fun h => ?_, fun _ _ => ⟨fun h => absurd h (by decide), fun _ H4 s4 => ?_⟩⟩
      · rcases h with h | h
        · cases h
        · rw [hdd] at h; cases h
      obtain ⟨e1, e2⟩ := owed_zero nl0 nb0 hc
      have e3 : costF row 5 l b d [d] = 0 := by
        unfold costF
        rw [e1, e2, run_zero row (by decide)]
        rfl
      walk_at "v"
      rw [e3, decide_eq_true rfl]
      exact q H4
    walk_at "v"
    refine ⟨a, ns, d, rfl, hS2, d0, hd3, fun la days H3 s3 hI3 hd hn hdl => ?_⟩
    have hS3 := SqL.same hS2 s3
    have st3 := st2.same s3
    obtain ⟨D, tl, ed⟩ : ∃ D t, days = D :: t := by
      cases days with
      | nil => exact absurd rfl hn
      | cons D t => exact ⟨D, t, rfl⟩
    have eh : days.headD 0 = D := by rw [ed]; rfl
    have h0 : days[0]? = some D := by rw [ed]; rfl
    have hD := daysOk_le hd D (by rw [ed]; simp)
    have hpos : 0 < (days.length : Int) := by rw [ed]; simp
    have hw6 := cell_bits hbits 6
    walk_at "v"
    refine g_lenI hI3 rfl ?_
    walk_at "v"
    have hsh : 0 ≤ l / (days.length : Int) := Int.ediv_nonneg nl0 (by omega)
    generalize l / (days.length : Int) = sh at hsh
    refine ⟨cellAt ns 6, sh, rfl, hw6, hsh, fun p H4 s4 hp => ?_⟩
    have hS4 := SqL.same hS3 s4
    have st4 := st3.same s4
    have hI4 := hI3.same s4
    walk_at "v"
    refine g_ixI hI4 (j := 0) rfl h0 ?_
    have e0 := Int.emod_nonneg (cellAt ns 7) (b := D - d + 1) (by omega)
    have e1 := Int.emod_lt_of_pos (cellAt ns 7) (b := D - d + 1) (by omega)
    walk_at "v"
    generalize cellAt ns 7 % (D - d + 1) = ee at e0 e1
    have he : d ≤ d + ee ∧ d + ee ≤ D := by omega
    generalize d + ee = e at he
    refine g_sum_by st4.q st4.ok (by omega) d0 he.1 (by omega) ?_
    walk_at "v"
    have eB : b + l * grownF row d e = thenF l b d row e := rfl
    rw [eB]
    have ob := owed_then nk st4.ok.rate he.1 (show 1 ≤ owedF l b by omega)
    have nB := nk.walk st4.ok.rate he.1 (show e ≤ 100000 by omega)
    generalize hB : thenF l b d row e = B at ob nB
    walk_at "v"
    refine g_newI (ns := [1, owedF l B / 100, owedF l B, 1 + mixed (cellAt ns 8) 2147483647 * 467 % owedF l B]) rfl (by simp) fun l5 H5 hl5 s5 hI5 => ?_
    have hS5 := SqL.same hS4 s5
    have st5 := st4.same s5
    walk_at "v"
    have m0 := Int.emod_nonneg (mixed (cellAt ns 8) 2147483647 * 467) (b := owedF l B) (by omega)
    have m1 := Int.emod_lt_of_pos (mixed (cellAt ns 8) 2147483647 * 467) (b := owedF l B) (by omega)
    obtain ⟨v, hv, hv1⟩ : ∃ v, [1, owedF l B / 100, owedF l B, 1 + mixed (cellAt ns 8) 2147483647 * 467 % owedF l B][(cellAt ns 8 % 4).toNat]? = some v ∧ v ≤ owedF l B := by
      have h4 : cellAt ns 8 % 4 = 0 ∨ cellAt ns 8 % 4 = 1 ∨ cellAt ns 8 % 4 = 2 ∨ cellAt ns 8 % 4 = 3 := by omega
      rcases h4 with h4 | h4 | h4 | h4 <;> rw [h4]
      · exact ⟨_, rfl, by omega⟩
      · exact ⟨_, rfl, by omega⟩
      · exact ⟨_, rfl, by omega⟩
      · exact ⟨_, rfl, by omega⟩
    refine g_ixI hI5 (j := (cellAt ns 8 % 4).toNat) (by omega) hv ?_
    walk_at "v"
    have hcb : 1 ≤ max 1 v ∧ max 1 v ≤ owedF l B := by omega
    generalize max 1 v = c at hcb
    refine g_listOfI (hI4.same s5) fun lh H6 hlh s6 hJ6 => ?_
    have hS6 := SqL.same hS5 s6
    have st6 := st5.same s6
    have hI6 := (hI4.same s5).same s6
    walk_at "v"
    generalize hC : costF row p l b d days = C
    have noD : ¬ (days = [] ∨ daysOk d days = false) := by rw [hd]; exact fun h => h.elim hn (fun h => nomatch h)
    refine g_cutM (fun σ0 σ' H' => Same H6 H' ∧ σ' = σ0.set 15 (some (if cellAt ns 8 / 4 % 2 = 1 then .int C else .non))) ?_ ?_
    · walk_at "v"
      refine g_ite (fun h1 => ?_) (fun h1 => ?_)
      · walk_at "v"
        refine ⟨x, lh, p, l, b, d, r, row, days, rfl, st6.good, hJ6, by omega, fun h => absurd h noD, fun _ _ => ⟨fun h => absurd h (by omega), fun _ H7 s7 => ?_⟩⟩
        rw [hC, if_pos h1]
        exact ⟨s7, by walk_at "z"⟩
      · walk_at "v"
        rw [if_neg h1]
        exact ⟨Same.refl _, by walk_at "z"⟩
    rintro σ' H7 ⟨s7, rfl⟩
    have hS7 := SqL.same hS6 s7
    have st7 := st6.same s7
    have hI7 := hI6.same s7
    have hJ7 := hJ6.same s7
    walk_at "v"
    refine ⟨x, lh, p, e, c, l, b, d, r, row, days, rfl, st7.good, hJ7, by omega, fun h => absurd h noD, fun _ _ => ⟨fun h => absurd h (by omega), fun _ => ⟨fun h => absurd h (by rw [eh]; omega), fun _ => ?_⟩⟩⟩
    rw [hB]
    refine ⟨fun h => absurd h (by omega), fun _ H8 s8 => ?_⟩
    have sn : 0 ≤ savedF row p l b d days e c := by
      rw [ed] at hd ⊢
      exact saved_nonneg st7.ok.rate (by omega) nk hd he.1 he.2 (by omega) (by rw [hB]; exact hcb.2)
    have esv : savedF row p l b d days e c = C - c - costF row p (pLeft l B c) (pBegun l B c) e days := by unfold savedF; rw [hB, hC]
    generalize savedF row p l b d days e c = sv at sn esv
    have hS8 := SqL.same hS7 s8
    have st8 := st7.same s8
    have hI8 := hI7.same s8
    have hJ8 := hJ7.same s8
    walk_at "v"
    refine g_cutM (fun σ0 σ' H' => Same H8 H' ∧ σ' = σ0.set 15 (some (.int C))) ?_ ?_
    · walk_at "v"
      refine g_ite (fun h1 => ?_) (fun h1 => ?_)
      · walk_at "v"
        refine ⟨x, lh, p, l, b, d, r, row, days, rfl, st8.good, hJ8, by omega, fun h => absurd h noD, fun _ _ => ⟨fun h => absurd h (by omega), fun _ H9 s9 => ?_⟩⟩
        rw [hC]
        exact ⟨s9, by walk_at "z"⟩
      · walk_at "v"
        rw [if_pos (show cellAt ns 8 / 4 % 2 = 1 by omega)]
        exact ⟨Same.refl _, by walk_at "z"⟩
    rintro σ' H9 ⟨s9, rfl⟩
    have hS9 := SqL.same hS8 s9
    have st9 := st8.same s9
    have hI9 := hI8.same s9
    have hJ9 := hJ8.same s9
    walk_at "v"
    refine g_cost_l st9.t st9.q st9.ok (by omega) nk hI9 hd (by omega) fun H10 s10 => ?_
    rw [hC]
    have st10 := st9.same s10
    walk_at "v"
    refine g_parts fun t11 H11 ht11 s11 h11 => ?_
    have st11 := st10.same s11
    have nP := nB.pay hcb.1 hcb.2
    walk_at "v"
    refine g_ixT (j := 2) h11 rfl ?_
    walk_at "v"
    refine g_ixT (j := 3) h11 rfl ?_
    walk_at "v"
    refine g_newT (by simp) fun t12 H12 ht12 s12 h12 => ?_
    have s912 := (s10.trans s11).trans s12
    have st12 := st9.same s912
    have hI12 := hI9.same s912
    have hJ12 := hJ9.same s912
    have hS12 := SqL.same hS9 s912
    walk_at "v"
    refine g_cost_l h12 st12.q st12.ok (by omega) nP hI12 (by rw [ed] at hd ⊢; exact daysOk_head hd he.2) (by omega) fun H13 s13 => ?_
    have st13 := st12.same s13
    have hI13 := hI12.same s13
    have hJ13 := hJ12.same s13
    have hS13 := SqL.same hS12 s13
    obtain ⟨⟨dx13, hx13⟩, hR13⟩ := id st13.L
    walk_at "v"
    refine g_ite (fun h => absurd rfl h) (fun _ => ?_)
    walk_at "v"
    refine g_ite (fun h => absurd h (by omega)) (fun _ => ?_)
    walk_at "v"
    refine g_neInts hJ13 hI13 ?_
    walk_at "v"
    refine g_neRow hR13 st13.q ?_
    walk_at "v"
    refine g_newT (by simp) fun t14 H14 ht14 s14 h14 => ?_
    have st14 := st13.same s14
    have hI14 := hI13.same s14
    have hJ14 := hJ13.same s14
    have hS14 := SqL.same hS13 s14
    obtain ⟨⟨dx14, hx14⟩, hR14⟩ := id st14.L
    walk_at "v"
    refine g_ne3 h14 st14.t ?_
    walk_at "v"
    refine ⟨x, ts, lq, cellAt ns 12, l, b, d, r, row, rfl, st14, lar, by omega, fun t2 ts2 lq2 l2 b2 r2 row2 H15 b15 ht15 st15 => ?_⟩
    have hI15 := hI14.butI b15 hx14
    have hJ15 := hJ14.butI b15 hx14
    walk_at "v"
    refine g_unp2 ht15 ?_
    walk_at "v"
    refine g_cost_l st15.t st15.q st15.ok (by have := st15.len; omega) st15.n hI15 hd (by omega) fun H16 s16 => ?_
    have st16 := st15.same s16
    have hI16 := hI15.same s16
    have hJ16 := hJ15.same s16
    walk_at "v"
    refine ⟨x, lh, p, l2, b2, d, r2, row2, days, rfl, st16.good, hJ16, by omega, fun h => absurd h noD, fun _ _ => ⟨fun h => absurd h (by omega), fun _ H17 s17 => ?_⟩⟩
    have st17 := st16.same s17
    have hI17 := hI16.same s17
    have hJ17 := hJ16.same s17
    walk_at "v"
    refine g_ite (fun h => absurd rfl h) (fun _ => ?_)
    walk_at "v"
    refine g_ite (fun h => absurd esv h) (fun _ => ?_)
    walk_at "v"
    refine ⟨x, ts2, lq2, lh, p, l2, b2, d, r2, row2, days, rfl, st17, hJ17, hd, hn, by omega, hp, fun H18 s18 => ?_⟩
    have st18 := st17.same s18
    have hI18 := hI17.same s18
    have hJ18 := hJ17.same s18
    obtain ⟨⟨dx18, hx18⟩, hR18⟩ := id st18.L
    walk_at "v"
    refine g_eqInts hJ18 hI18 ?_
    walk_at "v"
    refine g_eqRow hR18 st18.q ?_
    walk_at "v"
    refine g_newT (by simp) fun t19 H19 ht19 s19 h19 => ?_
    have st19 := st18.same s19
    walk_at "v"
    refine g_eq3 h19 st19.t ?_
    exact q H19

end
theorem walk {l : PySem.W.OpenLaw} {q : Program} {loose : List Str} {XP : (Str → Option Value) → Heap → Prop} {YP : World → Heap → Prop} {d : DefRec} {K : Params → PySem.W.Frag} (hn : l.most = some 63) (hdf : d.params.defaults = [])
    (hY : ∀ (w : World) (h : Heap), YP w h → (K w.params).In h)
    (F : ∀ (w : World) (mg : Str → Option Value) (fa : Addr) (h : Heap), (K w.params).In h → h.Ns mainGlobals mg → mg d.name = some (.ref fa) →
      ∃ fd : FuncData, (∀ (s : Shared) (u : Value), BindsTo s fd ⟨[u], []⟩ [("_law_script", u)]) ∧ ∀ base : Heap, (K w.params).In base → base.Ns mainGlobals mg → FnOk l.prog w (K w.params) mg base CX0 10 fa fd ["_law_script"] (sp_law (K w.params))) :
    PySem.W.WalkO q loose XP YP l.row.toRowW d [] (fun f vs => PySem.call f vs) :=
  L2.walk_ofB (n := 63) (k := 10) (x := "_law_script") (CX := fun _ => CX0) (sp := fun w => sp_law (K w.params)) hn (by decide) hdf ⟨rfl, by decide, by decide⟩ hY F (fun _ _ a ns hl hb _ hS => ⟨a, ns, rfl, hS, hl, hb, fun _ => rfl⟩) fun _ _ _ _ _ z => z
def adOf (f0 : Addr) (d0 : FuncData) (f1 : Addr) (d1 : FuncData) (f2 : Addr) (d2 : FuncData) (f3 : Addr) (d3 : FuncData) (f4 : Addr) (d4 : FuncData) (f5 : Addr) (d5 : FuncData) (f6 : Addr) (d6 : FuncData) (f7 : Addr) (d7 : FuncData) (f8 : Addr) (d8 : FuncData) (f9 : Addr) (d9 : FuncData) (f10 : Addr) (d10 : FuncData) (f11 : Addr) (d11 : FuncData) (f12 : Addr) (d12 : FuncData) (f13 : Addr) (d13 : FuncData) (f14 : Addr) (d14 : FuncData) (f15 : Addr) (d15 : FuncData) (f16 : Addr) (d16 : FuncData) (f17 : Addr) (d17 : FuncData) (f18 : Addr) (d18 : FuncData) (f19 : Addr) (d19 : FuncData) (f20 : Addr) (d20 : FuncData) (f21 : Addr) (d21 : FuncData) (f22 : Addr) (d22 : FuncData) (f23 : Addr) (d23 : FuncData) (f24 : Addr) (d24 : FuncData) (f25 : Addr) (d25 : FuncData) (f26 : Addr) (d26 : FuncData) (f27 : Addr) (d27 : FuncData) (f28 : Addr) (d28 : FuncData) (f29 : Addr) (d29 : FuncData) (f30 : Addr) (d30 : FuncData) (f31 : Addr) (d31 : FuncData) (f32 : Addr) (d32 : FuncData) (f33 : Addr) (d33 : FuncData) (f34 : Addr) (d34 : FuncData) (f35 : Addr) (d35 : FuncData) (f36 : Addr) (d36 : FuncData) (f37 : Addr) (d37 : FuncData) (f38 : Addr) (d38 : FuncData) (c_LoanError : Addr) (c_BadAmount : Addr) (c_BadRate : Addr) (c_BadDay : Addr) (c_BadPay : Addr) (c_Loan : Addr) (t_LAST_DAY : Tok) (t_HIGHEST_RATE : Tok) (t_HIGHEST_AMOUNT : Tok) (t_MILLION : Tok) : Ad :=
  { a_checked := f0, d_checked := d0, a_check_day := f1, d_check_day := d1, a_check_pair := f2, d_check_pair := d2, a_grown := f3, d_grown := d3, a_cents_owed := f4, d_cents_owed := d4, a_paid_down := f5, d_paid_down := d5, a_Loan_init := f6, d_Loan_init := d6, a_Loan_stand := f7, d_Loan_stand := d7, a_Loan_owed := f8, d_Loan_owed := d8, a_Loan_pay := f9, d_Loan_pay := d9, a_Loan_change := f10, d_Loan_change := d10, a_Loan_twin := f11, d_Loan_twin := d11, a_cost := f12, d_cost := d12, a_saved := f13, d_saved := d13, a_check_days := f14, d_check_days := d14, a_check_some_days := f15, d_check_some_days := d15, a_check_part := f16, d_check_part := d16, a_pay_parts := f17, d_pay_parts := d17, a_cell_at := f18, d_cell_at := d18, a_whole := f19, d_whole := d19, a_mixed := f20, d_mixed := d20, a_rate_by := f21, d_rate_by := d21, a_row_by := f22, d_row_by := d22, a_sum_by := f23, d_sum_by := d23, a_amount_by := f24, d_amount_by := d24, a_owed := f25, d_owed := d25, a_parts := f26, d_parts := d26, a_days_by := f27, d_days_by := d27, a_behind := f28, d_behind := d28, a_at_by := f29, d_at_by := d29, a_made := f30, d_made := d30, a_loan_by := f31, d_loan_by := d31, a_l_cost := f32, d_l_cost := d32, a_done_more := f33, d_done_more := d33, a_row_of := f34, d_row_of := d34, a_dues := f35, d_dues := d35, a_part_of := f36, d_part_of := d36, a_saved_again := f37, d_saved_again := d37, a_law := f38, d_law := d38, c_LoanError := c_LoanError, c_BadAmount := c_BadAmount, c_BadRate := c_BadRate, c_BadDay := c_BadDay, c_BadPay := c_BadPay, c_Loan := c_Loan, t_LAST_DAY := t_LAST_DAY, t_HIGHEST_RATE := t_HIGHEST_RATE, t_HIGHEST_AMOUNT := t_HIGHEST_AMOUNT, t_MILLION := t_MILLION }
theorem all_mk {l : PySem.W.OpenLaw} {w : World} {K : PySem.W.Frag} {h : Heap} {mg : Str → Option Value} {fa : Addr} (X : K.In h) (G : h.Ns mainGlobals mg) (hfa : mg "law" = some (.ref fa))
    {f0 : Addr} {od0 an0 : Option Addr} {sl0 : Array (Option Value)} {oc0 kV0 dc0 pm0 cd0 ct0 : Value}
    {f1 : Addr} {od1 an1 : Option Addr} {sl1 : Array (Option Value)} {oc1 kV1 dc1 pm1 cd1 ct1 : Value}
    {f2 : Addr} {od2 an2 : Option Addr} {sl2 : Array (Option Value)} {oc2 kV2 dc2 pm2 cd2 ct2 : Value}
    {f3 : Addr} {od3 an3 : Option Addr} {sl3 : Array (Option Value)} {oc3 kV3 dc3 pm3 cd3 ct3 : Value}
    {f4 : Addr} {od4 an4 : Option Addr} {sl4 : Array (Option Value)} {oc4 kV4 dc4 pm4 cd4 ct4 : Value}
    {f5 : Addr} {od5 an5 : Option Addr} {sl5 : Array (Option Value)} {oc5 kV5 dc5 pm5 cd5 ct5 : Value}
    {f6 : Addr} {od6 an6 : Option Addr} {sl6 : Array (Option Value)} {oc6 kV6 dc6 pm6 cd6 ct6 : Value}
    {f7 : Addr} {od7 an7 : Option Addr} {sl7 : Array (Option Value)} {oc7 kV7 dc7 pm7 cd7 ct7 : Value}
    {f8 : Addr} {od8 an8 : Option Addr} {sl8 : Array (Option Value)} {oc8 kV8 dc8 pm8 cd8 ct8 : Value}
    {f9 : Addr} {od9 an9 : Option Addr} {sl9 : Array (Option Value)} {oc9 kV9 dc9 pm9 cd9 ct9 : Value}
    {f10 : Addr} {od10 an10 : Option Addr} {sl10 : Array (Option Value)} {oc10 kV10 dc10 pm10 cd10 ct10 : Value}
    {f11 : Addr} {od11 an11 : Option Addr} {sl11 : Array (Option Value)} {oc11 kV11 dc11 pm11 cd11 ct11 : Value}
    {f12 : Addr} {od12 an12 : Option Addr} {sl12 : Array (Option Value)} {oc12 kV12 dc12 pm12 cd12 ct12 : Value}
    {f13 : Addr} {od13 an13 : Option Addr} {sl13 : Array (Option Value)} {oc13 kV13 dc13 pm13 cd13 ct13 : Value}
    {f14 : Addr} {od14 an14 : Option Addr} {sl14 : Array (Option Value)} {oc14 kV14 dc14 pm14 cd14 ct14 : Value}
    {f15 : Addr} {od15 an15 : Option Addr} {sl15 : Array (Option Value)} {oc15 kV15 dc15 pm15 cd15 ct15 : Value}
    {f16 : Addr} {od16 an16 : Option Addr} {sl16 : Array (Option Value)} {oc16 kV16 dc16 pm16 cd16 ct16 : Value}
    {f17 : Addr} {od17 an17 : Option Addr} {sl17 : Array (Option Value)} {oc17 kV17 dc17 pm17 cd17 ct17 : Value}
    {f18 : Addr} {od18 an18 : Option Addr} {sl18 : Array (Option Value)} {oc18 kV18 dc18 pm18 cd18 ct18 : Value}
    {f19 : Addr} {od19 an19 : Option Addr} {sl19 : Array (Option Value)} {oc19 kV19 dc19 pm19 cd19 ct19 : Value}
    {f20 : Addr} {od20 an20 : Option Addr} {sl20 : Array (Option Value)} {oc20 kV20 dc20 pm20 cd20 ct20 : Value}
    {f21 : Addr} {od21 an21 : Option Addr} {sl21 : Array (Option Value)} {oc21 kV21 dc21 pm21 cd21 ct21 : Value}
    {f22 : Addr} {od22 an22 : Option Addr} {sl22 : Array (Option Value)} {oc22 kV22 dc22 pm22 cd22 ct22 : Value}
    {f23 : Addr} {od23 an23 : Option Addr} {sl23 : Array (Option Value)} {oc23 kV23 dc23 pm23 cd23 ct23 : Value}
    {f24 : Addr} {od24 an24 : Option Addr} {sl24 : Array (Option Value)} {oc24 kV24 dc24 pm24 cd24 ct24 : Value}
    {f25 : Addr} {od25 an25 : Option Addr} {sl25 : Array (Option Value)} {oc25 kV25 dc25 pm25 cd25 ct25 : Value}
    {f26 : Addr} {od26 an26 : Option Addr} {sl26 : Array (Option Value)} {oc26 kV26 dc26 pm26 cd26 ct26 : Value}
    {f27 : Addr} {od27 an27 : Option Addr} {sl27 : Array (Option Value)} {oc27 kV27 dc27 pm27 cd27 ct27 : Value}
    {f28 : Addr} {od28 an28 : Option Addr} {sl28 : Array (Option Value)} {oc28 kV28 dc28 pm28 cd28 ct28 : Value}
    {f29 : Addr} {od29 an29 : Option Addr} {sl29 : Array (Option Value)} {oc29 kV29 dc29 pm29 cd29 ct29 : Value}
    {f30 : Addr} {od30 an30 : Option Addr} {sl30 : Array (Option Value)} {oc30 kV30 dc30 pm30 cd30 ct30 : Value}
    {f31 : Addr} {od31 an31 : Option Addr} {sl31 : Array (Option Value)} {oc31 kV31 dc31 pm31 cd31 ct31 : Value}
    {f32 : Addr} {od32 an32 : Option Addr} {sl32 : Array (Option Value)} {oc32 kV32 dc32 pm32 cd32 ct32 : Value}
    {f33 : Addr} {od33 an33 : Option Addr} {sl33 : Array (Option Value)} {oc33 kV33 dc33 pm33 cd33 ct33 : Value}
    {f34 : Addr} {od34 an34 : Option Addr} {sl34 : Array (Option Value)} {oc34 kV34 dc34 pm34 cd34 ct34 : Value}
    {f35 : Addr} {od35 an35 : Option Addr} {sl35 : Array (Option Value)} {oc35 kV35 dc35 pm35 cd35 ct35 : Value}
    {f36 : Addr} {od36 an36 : Option Addr} {sl36 : Array (Option Value)} {oc36 kV36 dc36 pm36 cd36 ct36 : Value}
    {f37 : Addr} {od37 an37 : Option Addr} {sl37 : Array (Option Value)} {oc37 kV37 dc37 pm37 cd37 ct37 : Value}
    {f38 : Addr} {od38 an38 : Option Addr} {sl38 : Array (Option Value)} {oc38 kV38 dc38 pm38 cd38 ct38 : Value}
    {t_LAST_DAY : Tok}
    {t_HIGHEST_RATE : Tok}
    {t_HIGHEST_AMOUNT : Tok}
    {t_MILLION : Tok}
    {c_LoanError : Addr}
    {c_BadAmount : Addr}
    {c_BadRate : Addr}
    {c_BadDay : Addr}
    {c_BadPay : Addr}
    {c_Loan : Addr}
    (g_LoanError : PySem.W.nsIn K mainGlobals "LoanError" = some (some (.ref c_LoanError)))
    (g_BadAmount : PySem.W.nsIn K mainGlobals "BadAmount" = some (some (.ref c_BadAmount)))
    (g_BadRate : PySem.W.nsIn K mainGlobals "BadRate" = some (some (.ref c_BadRate)))
    (g_BadDay : PySem.W.nsIn K mainGlobals "BadDay" = some (some (.ref c_BadDay)))
    (g_BadPay : PySem.W.nsIn K mainGlobals "BadPay" = some (some (.ref c_BadPay)))
    (g_Loan : PySem.W.nsIn K mainGlobals "Loan" = some (some (.ref c_Loan)))
    (a0 : PySem.W.nsIn K mainGlobals "checked" = some (some (.ref f0)))
    (l0 : K.lookup f0 = some ⟨oc0, od0, .func (PySem.W.fnOf "checked" "checked" (defArgs s_checked) (defBody s_checked) (defScope s_checked) .none kV0 dc0 pm0 an0 cd0 ct0), sl0⟩)
    (q0 : PySem.W.codeIn K cd0 "checked" = true)
    (k0 : PySem.W.keepIn K (.ref f0) = true)
    (a1 : PySem.W.nsIn K mainGlobals "check_day" = some (some (.ref f1)))
    (l1 : K.lookup f1 = some ⟨oc1, od1, .func (PySem.W.fnOf "check_day" "check_day" (defArgs s_check_day) (defBody s_check_day) (defScope s_check_day) .none kV1 dc1 pm1 an1 cd1 ct1), sl1⟩)
    (q1 : PySem.W.codeIn K cd1 "check_day" = true)
    (k1 : PySem.W.keepIn K (.ref f1) = true)
    (a2 : PySem.W.nsIn K mainGlobals "check_pair" = some (some (.ref f2)))
    (l2 : K.lookup f2 = some ⟨oc2, od2, .func (PySem.W.fnOf "check_pair" "check_pair" (defArgs s_check_pair) (defBody s_check_pair) (defScope s_check_pair) .none kV2 dc2 pm2 an2 cd2 ct2), sl2⟩)
    (q2 : PySem.W.codeIn K cd2 "check_pair" = true)
    (k2 : PySem.W.keepIn K (.ref f2) = true)
    (a3 : PySem.W.nsIn K mainGlobals "grown" = some (some (.ref f3)))
    (l3 : K.lookup f3 = some ⟨oc3, od3, .func (PySem.W.fnOf "grown" "grown" (defArgs s_grown) (defBody s_grown) (defScope s_grown) .none kV3 dc3 pm3 an3 cd3 ct3), sl3⟩)
    (q3 : PySem.W.codeIn K cd3 "grown" = true)
    (k3 : PySem.W.keepIn K (.ref f3) = true)
    (a4 : PySem.W.nsIn K mainGlobals "cents_owed" = some (some (.ref f4)))
    (l4 : K.lookup f4 = some ⟨oc4, od4, .func (PySem.W.fnOf "cents_owed" "cents_owed" (defArgs s_cents_owed) (defBody s_cents_owed) (defScope s_cents_owed) .none kV4 dc4 pm4 an4 cd4 ct4), sl4⟩)
    (q4 : PySem.W.codeIn K cd4 "cents_owed" = true)
    (k4 : PySem.W.keepIn K (.ref f4) = true)
    (a5 : PySem.W.nsIn K mainGlobals "paid_down" = some (some (.ref f5)))
    (l5 : K.lookup f5 = some ⟨oc5, od5, .func (PySem.W.fnOf "paid_down" "paid_down" (defArgs s_paid_down) (defBody s_paid_down) (defScope s_paid_down) .none kV5 dc5 pm5 an5 cd5 ct5), sl5⟩)
    (q5 : PySem.W.codeIn K cd5 "paid_down" = true)
    (k5 : PySem.W.keepIn K (.ref f5) = true)
    (a6 : PySem.W.findIn K (.ref c_Loan) "__init__" = some (some (.ref f6)))
    (i6 : PySem.W.isFn K (.ref f6) = true)
    (l6 : K.lookup f6 = some ⟨oc6, od6, .func (PySem.W.fnOf "__init__" "Loan.__init__" (defArgs s_Loan_init) (defBody s_Loan_init) (defScope s_Loan_init) .none kV6 dc6 pm6 an6 cd6 ct6), sl6⟩)
    (q6 : PySem.W.codeIn K cd6 "Loan.__init__" = true)
    (k6 : PySem.W.keepIn K (.ref f6) = true)
    (a7 : PySem.W.findIn K (.ref c_Loan) "stand" = some (some (.ref f7)))
    (i7 : PySem.W.isFn K (.ref f7) = true)
    (l7 : K.lookup f7 = some ⟨oc7, od7, .func (PySem.W.fnOf "stand" "Loan.stand" (defArgs s_Loan_stand) (defBody s_Loan_stand) (defScope s_Loan_stand) .none kV7 dc7 pm7 an7 cd7 ct7), sl7⟩)
    (q7 : PySem.W.codeIn K cd7 "Loan.stand" = true)
    (k7 : PySem.W.keepIn K (.ref f7) = true)
    (a8 : PySem.W.findIn K (.ref c_Loan) "owed" = some (some (.ref f8)))
    (i8 : PySem.W.isFn K (.ref f8) = true)
    (l8 : K.lookup f8 = some ⟨oc8, od8, .func (PySem.W.fnOf "owed" "Loan.owed" (defArgs s_Loan_owed) (defBody s_Loan_owed) (defScope s_Loan_owed) .none kV8 dc8 pm8 an8 cd8 ct8), sl8⟩)
    (q8 : PySem.W.codeIn K cd8 "Loan.owed" = true)
    (k8 : PySem.W.keepIn K (.ref f8) = true)
    (a9 : PySem.W.findIn K (.ref c_Loan) "pay" = some (some (.ref f9)))
    (i9 : PySem.W.isFn K (.ref f9) = true)
    (l9 : K.lookup f9 = some ⟨oc9, od9, .func (PySem.W.fnOf "pay" "Loan.pay" (defArgs s_Loan_pay) (defBody s_Loan_pay) (defScope s_Loan_pay) .none kV9 dc9 pm9 an9 cd9 ct9), sl9⟩)
    (q9 : PySem.W.codeIn K cd9 "Loan.pay" = true)
    (k9 : PySem.W.keepIn K (.ref f9) = true)
    (a10 : PySem.W.findIn K (.ref c_Loan) "change" = some (some (.ref f10)))
    (i10 : PySem.W.isFn K (.ref f10) = true)
    (l10 : K.lookup f10 = some ⟨oc10, od10, .func (PySem.W.fnOf "change" "Loan.change" (defArgs s_Loan_change) (defBody s_Loan_change) (defScope s_Loan_change) .none kV10 dc10 pm10 an10 cd10 ct10), sl10⟩)
    (q10 : PySem.W.codeIn K cd10 "Loan.change" = true)
    (k10 : PySem.W.keepIn K (.ref f10) = true)
    (a11 : PySem.W.findIn K (.ref c_Loan) "twin" = some (some (.ref f11)))
    (i11 : PySem.W.isFn K (.ref f11) = true)
    (l11 : K.lookup f11 = some ⟨oc11, od11, .func (PySem.W.fnOf "twin" "Loan.twin" (defArgs s_Loan_twin) (defBody s_Loan_twin) (defScope s_Loan_twin) .none kV11 dc11 pm11 an11 cd11 ct11), sl11⟩)
    (q11 : PySem.W.codeIn K cd11 "Loan.twin" = true)
    (k11 : PySem.W.keepIn K (.ref f11) = true)
    (a12 : PySem.W.nsIn K mainGlobals "cost" = some (some (.ref f12)))
    (l12 : K.lookup f12 = some ⟨oc12, od12, .func (PySem.W.fnOf "cost" "cost" (defArgs s_cost) (defBody s_cost) (defScope s_cost) .none kV12 dc12 pm12 an12 cd12 ct12), sl12⟩)
    (q12 : PySem.W.codeIn K cd12 "cost" = true)
    (k12 : PySem.W.keepIn K (.ref f12) = true)
    (a13 : PySem.W.nsIn K mainGlobals "saved" = some (some (.ref f13)))
    (l13 : K.lookup f13 = some ⟨oc13, od13, .func (PySem.W.fnOf "saved" "saved" (defArgs s_saved) (defBody s_saved) (defScope s_saved) .none kV13 dc13 pm13 an13 cd13 ct13), sl13⟩)
    (q13 : PySem.W.codeIn K cd13 "saved" = true)
    (k13 : PySem.W.keepIn K (.ref f13) = true)
    (a14 : PySem.W.nsIn K mainGlobals "check_days" = some (some (.ref f14)))
    (l14 : K.lookup f14 = some ⟨oc14, od14, .func (PySem.W.fnOf "check_days" "check_days" (defArgs s_check_days) (defBody s_check_days) (defScope s_check_days) .none kV14 dc14 pm14 an14 cd14 ct14), sl14⟩)
    (q14 : PySem.W.codeIn K cd14 "check_days" = true)
    (k14 : PySem.W.keepIn K (.ref f14) = true)
    (a15 : PySem.W.nsIn K mainGlobals "check_some_days" = some (some (.ref f15)))
    (l15 : K.lookup f15 = some ⟨oc15, od15, .func (PySem.W.fnOf "check_some_days" "check_some_days" (defArgs s_check_some_days) (defBody s_check_some_days) (defScope s_check_some_days) .none kV15 dc15 pm15 an15 cd15 ct15), sl15⟩)
    (q15 : PySem.W.codeIn K cd15 "check_some_days" = true)
    (k15 : PySem.W.keepIn K (.ref f15) = true)
    (a16 : PySem.W.nsIn K mainGlobals "check_part" = some (some (.ref f16)))
    (l16 : K.lookup f16 = some ⟨oc16, od16, .func (PySem.W.fnOf "check_part" "check_part" (defArgs s_check_part) (defBody s_check_part) (defScope s_check_part) .none kV16 dc16 pm16 an16 cd16 ct16), sl16⟩)
    (q16 : PySem.W.codeIn K cd16 "check_part" = true)
    (k16 : PySem.W.keepIn K (.ref f16) = true)
    (a17 : PySem.W.nsIn K mainGlobals "pay_parts" = some (some (.ref f17)))
    (l17 : K.lookup f17 = some ⟨oc17, od17, .func (PySem.W.fnOf "pay_parts" "pay_parts" (defArgs s_pay_parts) (defBody s_pay_parts) (defScope s_pay_parts) .none kV17 dc17 pm17 an17 cd17 ct17), sl17⟩)
    (q17 : PySem.W.codeIn K cd17 "pay_parts" = true)
    (k17 : PySem.W.keepIn K (.ref f17) = true)
    (a18 : PySem.W.nsIn K mainGlobals "_law_cell_at" = some (some (.ref f18)))
    (l18 : K.lookup f18 = some ⟨oc18, od18, .func (PySem.W.fnOf "_law_cell_at" "_law_cell_at" (defArgs s_cell_at) (defBody s_cell_at) (defScope s_cell_at) .none kV18 dc18 pm18 an18 cd18 ct18), sl18⟩)
    (q18 : PySem.W.codeIn K cd18 "_law_cell_at" = true)
    (k18 : PySem.W.keepIn K (.ref f18) = true)
    (a19 : PySem.W.nsIn K mainGlobals "_law_whole" = some (some (.ref f19)))
    (l19 : K.lookup f19 = some ⟨oc19, od19, .func (PySem.W.fnOf "_law_whole" "_law_whole" (defArgs s_whole) (defBody s_whole) (defScope s_whole) .none kV19 dc19 pm19 an19 cd19 ct19), sl19⟩)
    (q19 : PySem.W.codeIn K cd19 "_law_whole" = true)
    (k19 : PySem.W.keepIn K (.ref f19) = true)
    (a20 : PySem.W.nsIn K mainGlobals "_law_mixed" = some (some (.ref f20)))
    (l20 : K.lookup f20 = some ⟨oc20, od20, .func (PySem.W.fnOf "_law_mixed" "_law_mixed" (defArgs s_mixed) (defBody s_mixed) (defScope s_mixed) .none kV20 dc20 pm20 an20 cd20 ct20), sl20⟩)
    (q20 : PySem.W.codeIn K cd20 "_law_mixed" = true)
    (k20 : PySem.W.keepIn K (.ref f20) = true)
    (a21 : PySem.W.nsIn K mainGlobals "_law_rate_by" = some (some (.ref f21)))
    (l21 : K.lookup f21 = some ⟨oc21, od21, .func (PySem.W.fnOf "_law_rate_by" "_law_rate_by" (defArgs s_rate_by) (defBody s_rate_by) (defScope s_rate_by) .none kV21 dc21 pm21 an21 cd21 ct21), sl21⟩)
    (q21 : PySem.W.codeIn K cd21 "_law_rate_by" = true)
    (k21 : PySem.W.keepIn K (.ref f21) = true)
    (a22 : PySem.W.nsIn K mainGlobals "_law_row_by" = some (some (.ref f22)))
    (l22 : K.lookup f22 = some ⟨oc22, od22, .func (PySem.W.fnOf "_law_row_by" "_law_row_by" (defArgs s_row_by) (defBody s_row_by) (defScope s_row_by) .none kV22 dc22 pm22 an22 cd22 ct22), sl22⟩)
    (q22 : PySem.W.codeIn K cd22 "_law_row_by" = true)
    (k22 : PySem.W.keepIn K (.ref f22) = true)
    (a23 : PySem.W.nsIn K mainGlobals "_law_sum_by" = some (some (.ref f23)))
    (l23 : K.lookup f23 = some ⟨oc23, od23, .func (PySem.W.fnOf "_law_sum_by" "_law_sum_by" (defArgs s_sum_by) (defBody s_sum_by) (defScope s_sum_by) .none kV23 dc23 pm23 an23 cd23 ct23), sl23⟩)
    (q23 : PySem.W.codeIn K cd23 "_law_sum_by" = true)
    (k23 : PySem.W.keepIn K (.ref f23) = true)
    (a24 : PySem.W.nsIn K mainGlobals "_law_amount_by" = some (some (.ref f24)))
    (l24 : K.lookup f24 = some ⟨oc24, od24, .func (PySem.W.fnOf "_law_amount_by" "_law_amount_by" (defArgs s_amount_by) (defBody s_amount_by) (defScope s_amount_by) .none kV24 dc24 pm24 an24 cd24 ct24), sl24⟩)
    (q24 : PySem.W.codeIn K cd24 "_law_amount_by" = true)
    (k24 : PySem.W.keepIn K (.ref f24) = true)
    (a25 : PySem.W.nsIn K mainGlobals "_law_owed" = some (some (.ref f25)))
    (l25 : K.lookup f25 = some ⟨oc25, od25, .func (PySem.W.fnOf "_law_owed" "_law_owed" (defArgs s_owed) (defBody s_owed) (defScope s_owed) .none kV25 dc25 pm25 an25 cd25 ct25), sl25⟩)
    (q25 : PySem.W.codeIn K cd25 "_law_owed" = true)
    (k25 : PySem.W.keepIn K (.ref f25) = true)
    (a26 : PySem.W.nsIn K mainGlobals "_law_parts" = some (some (.ref f26)))
    (l26 : K.lookup f26 = some ⟨oc26, od26, .func (PySem.W.fnOf "_law_parts" "_law_parts" (defArgs s_parts) (defBody s_parts) (defScope s_parts) .none kV26 dc26 pm26 an26 cd26 ct26), sl26⟩)
    (q26 : PySem.W.codeIn K cd26 "_law_parts" = true)
    (k26 : PySem.W.keepIn K (.ref f26) = true)
    (a27 : PySem.W.nsIn K mainGlobals "_law_days_by" = some (some (.ref f27)))
    (l27 : K.lookup f27 = some ⟨oc27, od27, .func (PySem.W.fnOf "_law_days_by" "_law_days_by" (defArgs s_days_by) (defBody s_days_by) (defScope s_days_by) .none kV27 dc27 pm27 an27 cd27 ct27), sl27⟩)
    (q27 : PySem.W.codeIn K cd27 "_law_days_by" = true)
    (k27 : PySem.W.keepIn K (.ref f27) = true)
    (a28 : PySem.W.nsIn K mainGlobals "_law_behind" = some (some (.ref f28)))
    (l28 : K.lookup f28 = some ⟨oc28, od28, .func (PySem.W.fnOf "_law_behind" "_law_behind" (defArgs s_behind) (defBody s_behind) (defScope s_behind) .none kV28 dc28 pm28 an28 cd28 ct28), sl28⟩)
    (q28 : PySem.W.codeIn K cd28 "_law_behind" = true)
    (k28 : PySem.W.keepIn K (.ref f28) = true)
    (a29 : PySem.W.nsIn K mainGlobals "_law_at_by" = some (some (.ref f29)))
    (l29 : K.lookup f29 = some ⟨oc29, od29, .func (PySem.W.fnOf "_law_at_by" "_law_at_by" (defArgs s_at_by) (defBody s_at_by) (defScope s_at_by) .none kV29 dc29 pm29 an29 cd29 ct29), sl29⟩)
    (q29 : PySem.W.codeIn K cd29 "_law_at_by" = true)
    (k29 : PySem.W.keepIn K (.ref f29) = true)
    (a30 : PySem.W.nsIn K mainGlobals "_law_made" = some (some (.ref f30)))
    (l30 : K.lookup f30 = some ⟨oc30, od30, .func (PySem.W.fnOf "_law_made" "_law_made" (defArgs s_made) (defBody s_made) (defScope s_made) .none kV30 dc30 pm30 an30 cd30 ct30), sl30⟩)
    (q30 : PySem.W.codeIn K cd30 "_law_made" = true)
    (k30 : PySem.W.keepIn K (.ref f30) = true)
    (a31 : PySem.W.nsIn K mainGlobals "_law_loan_by" = some (some (.ref f31)))
    (l31 : K.lookup f31 = some ⟨oc31, od31, .func (PySem.W.fnOf "_law_loan_by" "_law_loan_by" (defArgs s_loan_by) (defBody s_loan_by) (defScope s_loan_by) .none kV31 dc31 pm31 an31 cd31 ct31), sl31⟩)
    (q31 : PySem.W.codeIn K cd31 "_law_loan_by" = true)
    (k31 : PySem.W.keepIn K (.ref f31) = true)
    (a32 : PySem.W.nsIn K mainGlobals "_law_cost" = some (some (.ref f32)))
    (l32 : K.lookup f32 = some ⟨oc32, od32, .func (PySem.W.fnOf "_law_cost" "_law_cost" (defArgs s_l_cost) (defBody s_l_cost) (defScope s_l_cost) .none kV32 dc32 pm32 an32 cd32 ct32), sl32⟩)
    (q32 : PySem.W.codeIn K cd32 "_law_cost" = true)
    (k32 : PySem.W.keepIn K (.ref f32) = true)
    (a33 : PySem.W.nsIn K mainGlobals "_law_done_more" = some (some (.ref f33)))
    (l33 : K.lookup f33 = some ⟨oc33, od33, .func (PySem.W.fnOf "_law_done_more" "_law_done_more" (defArgs s_done_more) (defBody s_done_more) (defScope s_done_more) .none kV33 dc33 pm33 an33 cd33 ct33), sl33⟩)
    (q33 : PySem.W.codeIn K cd33 "_law_done_more" = true)
    (k33 : PySem.W.keepIn K (.ref f33) = true)
    (a34 : PySem.W.nsIn K mainGlobals "_law_row_of" = some (some (.ref f34)))
    (l34 : K.lookup f34 = some ⟨oc34, od34, .func (PySem.W.fnOf "_law_row_of" "_law_row_of" (defArgs s_row_of) (defBody s_row_of) (defScope s_row_of) .none kV34 dc34 pm34 an34 cd34 ct34), sl34⟩)
    (q34 : PySem.W.codeIn K cd34 "_law_row_of" = true)
    (k34 : PySem.W.keepIn K (.ref f34) = true)
    (a35 : PySem.W.nsIn K mainGlobals "_law_dues" = some (some (.ref f35)))
    (l35 : K.lookup f35 = some ⟨oc35, od35, .func (PySem.W.fnOf "_law_dues" "_law_dues" (defArgs s_dues) (defBody s_dues) (defScope s_dues) .none kV35 dc35 pm35 an35 cd35 ct35), sl35⟩)
    (q35 : PySem.W.codeIn K cd35 "_law_dues" = true)
    (k35 : PySem.W.keepIn K (.ref f35) = true)
    (a36 : PySem.W.nsIn K mainGlobals "_law_part_of" = some (some (.ref f36)))
    (l36 : K.lookup f36 = some ⟨oc36, od36, .func (PySem.W.fnOf "_law_part_of" "_law_part_of" (defArgs s_part_of) (defBody s_part_of) (defScope s_part_of) .none kV36 dc36 pm36 an36 cd36 ct36), sl36⟩)
    (q36 : PySem.W.codeIn K cd36 "_law_part_of" = true)
    (k36 : PySem.W.keepIn K (.ref f36) = true)
    (a37 : PySem.W.nsIn K mainGlobals "_law_saved_again" = some (some (.ref f37)))
    (l37 : K.lookup f37 = some ⟨oc37, od37, .func (PySem.W.fnOf "_law_saved_again" "_law_saved_again" (defArgs s_saved_again) (defBody s_saved_again) (defScope s_saved_again) .none kV37 dc37 pm37 an37 cd37 ct37), sl37⟩)
    (q37 : PySem.W.codeIn K cd37 "_law_saved_again" = true)
    (k37 : PySem.W.keepIn K (.ref f37) = true)
    (a38 : PySem.W.nsIn K mainGlobals "law" = some (some (.ref f38)))
    (l38 : K.lookup f38 = some ⟨oc38, od38, .func (PySem.W.fnOf "law" "law" (defArgs s_law) (defBody s_law) (defScope s_law) .none kV38 dc38 pm38 an38 cd38 ct38), sl38⟩)
    (q38 : PySem.W.codeIn K cd38 "law" = true)
    (k38 : PySem.W.keepIn K (.ref f38) = true)
    (z_bool : PySem.W.nsIn K mainGlobals "bool" = some none)
    (z_int : PySem.W.nsIn K mainGlobals "int" = some none)
    (z_isinstance : PySem.W.nsIn K mainGlobals "isinstance" = some none)
    (z_len : PySem.W.nsIn K mainGlobals "len" = some none)
    (z_list : PySem.W.nsIn K mainGlobals "list" = some none)
    (z_max : PySem.W.nsIn K mainGlobals "max" = some none)
    (z_min : PySem.W.nsIn K mainGlobals "min" = some none)
    (z_range : PySem.W.nsIn K mainGlobals "range" = some none)
    (z_reversed : PySem.W.nsIn K mainGlobals "reversed" = some none)
    (z_sum : PySem.W.nsIn K mainGlobals "sum" = some none)
    (v_LAST_DAY : PySem.W.nsIn K mainGlobals "LAST_DAY" = some (some (.int 100000 t_LAST_DAY)))
    (v_HIGHEST_RATE : PySem.W.nsIn K mainGlobals "HIGHEST_RATE" = some (some (.int 100000 t_HIGHEST_RATE)))
    (v_HIGHEST_AMOUNT : PySem.W.nsIn K mainGlobals "HIGHEST_AMOUNT" = some (some (.int 1000000000000 t_HIGHEST_AMOUNT)))
    (v_MILLION : PySem.W.nsIn K mainGlobals "MILLION" = some (some (.int 1000000 t_MILLION)))
    (x_LoanError : PySem.W.excIn K c_LoanError [.type "ValueError", .type "Exception", .type "BaseException", .type "object"] "ValueError.__new__" = true)
    (k_LoanError : PySem.W.keepIn K (.ref c_LoanError) = true)
    (b_LoanError : PySem.W.subIn K (.ref c_LoanError) (.type "BaseException") = some true)
    (t_LoanError : PySem.W.typeIn K (.ref c_LoanError) = some (.type "type"))
    (h_LoanError : PySem.W.hasDictIn K c_LoanError = true)
    (x_BadAmount : PySem.W.excIn K c_BadAmount [.type "ValueError", .type "Exception", .type "BaseException", .type "object"] "ValueError.__new__" = true)
    (k_BadAmount : PySem.W.keepIn K (.ref c_BadAmount) = true)
    (b_BadAmount : PySem.W.subIn K (.ref c_BadAmount) (.type "BaseException") = some true)
    (t_BadAmount : PySem.W.typeIn K (.ref c_BadAmount) = some (.type "type"))
    (h_BadAmount : PySem.W.hasDictIn K c_BadAmount = true)
    (x_BadRate : PySem.W.excIn K c_BadRate [.type "ValueError", .type "Exception", .type "BaseException", .type "object"] "ValueError.__new__" = true)
    (k_BadRate : PySem.W.keepIn K (.ref c_BadRate) = true)
    (b_BadRate : PySem.W.subIn K (.ref c_BadRate) (.type "BaseException") = some true)
    (t_BadRate : PySem.W.typeIn K (.ref c_BadRate) = some (.type "type"))
    (h_BadRate : PySem.W.hasDictIn K c_BadRate = true)
    (x_BadDay : PySem.W.excIn K c_BadDay [.type "ValueError", .type "Exception", .type "BaseException", .type "object"] "ValueError.__new__" = true)
    (k_BadDay : PySem.W.keepIn K (.ref c_BadDay) = true)
    (b_BadDay : PySem.W.subIn K (.ref c_BadDay) (.type "BaseException") = some true)
    (t_BadDay : PySem.W.typeIn K (.ref c_BadDay) = some (.type "type"))
    (h_BadDay : PySem.W.hasDictIn K c_BadDay = true)
    (x_BadPay : PySem.W.excIn K c_BadPay [.type "ValueError", .type "Exception", .type "BaseException", .type "object"] "ValueError.__new__" = true)
    (k_BadPay : PySem.W.keepIn K (.ref c_BadPay) = true)
    (b_BadPay : PySem.W.subIn K (.ref c_BadPay) (.type "BaseException") = some true)
    (t_BadPay : PySem.W.typeIn K (.ref c_BadPay) = some (.type "type"))
    (h_BadPay : PySem.W.hasDictIn K c_BadPay = true)
    (u_LoanError_LoanError : PySem.W.subIn K (.ref c_LoanError) (.ref c_LoanError) = some true)
    (u_LoanError_BadAmount : PySem.W.subIn K (.ref c_LoanError) (.ref c_BadAmount) = some false)
    (u_LoanError_BadRate : PySem.W.subIn K (.ref c_LoanError) (.ref c_BadRate) = some false)
    (u_LoanError_BadDay : PySem.W.subIn K (.ref c_LoanError) (.ref c_BadDay) = some false)
    (u_LoanError_BadPay : PySem.W.subIn K (.ref c_LoanError) (.ref c_BadPay) = some false)
    (u_BadAmount_LoanError : PySem.W.subIn K (.ref c_BadAmount) (.ref c_LoanError) = some true)
    (u_BadAmount_BadAmount : PySem.W.subIn K (.ref c_BadAmount) (.ref c_BadAmount) = some true)
    (u_BadAmount_BadRate : PySem.W.subIn K (.ref c_BadAmount) (.ref c_BadRate) = some false)
    (u_BadAmount_BadDay : PySem.W.subIn K (.ref c_BadAmount) (.ref c_BadDay) = some false)
    (u_BadAmount_BadPay : PySem.W.subIn K (.ref c_BadAmount) (.ref c_BadPay) = some false)
    (u_BadRate_LoanError : PySem.W.subIn K (.ref c_BadRate) (.ref c_LoanError) = some true)
    (u_BadRate_BadAmount : PySem.W.subIn K (.ref c_BadRate) (.ref c_BadAmount) = some false)
    (u_BadRate_BadRate : PySem.W.subIn K (.ref c_BadRate) (.ref c_BadRate) = some true)
    (u_BadRate_BadDay : PySem.W.subIn K (.ref c_BadRate) (.ref c_BadDay) = some false)
    (u_BadRate_BadPay : PySem.W.subIn K (.ref c_BadRate) (.ref c_BadPay) = some false)
    (u_BadDay_LoanError : PySem.W.subIn K (.ref c_BadDay) (.ref c_LoanError) = some true)
    (u_BadDay_BadAmount : PySem.W.subIn K (.ref c_BadDay) (.ref c_BadAmount) = some false)
    (u_BadDay_BadRate : PySem.W.subIn K (.ref c_BadDay) (.ref c_BadRate) = some false)
    (u_BadDay_BadDay : PySem.W.subIn K (.ref c_BadDay) (.ref c_BadDay) = some true)
    (u_BadDay_BadPay : PySem.W.subIn K (.ref c_BadDay) (.ref c_BadPay) = some false)
    (u_BadPay_LoanError : PySem.W.subIn K (.ref c_BadPay) (.ref c_LoanError) = some true)
    (u_BadPay_BadAmount : PySem.W.subIn K (.ref c_BadPay) (.ref c_BadAmount) = some false)
    (u_BadPay_BadRate : PySem.W.subIn K (.ref c_BadPay) (.ref c_BadRate) = some false)
    (u_BadPay_BadDay : PySem.W.subIn K (.ref c_BadPay) (.ref c_BadDay) = some false)
    (u_BadPay_BadPay : PySem.W.subIn K (.ref c_BadPay) (.ref c_BadPay) = some true)
    (pg : PySem.W.plainGet K c_Loan Str.empty = true)
    (hd : PySem.W.hasDictIn K c_Loan = true)
    (po : PySem.W.plainOver K c_Loan = true)
    (sa : PySem.W.findIn K (.ref c_Loan) "__setattr__" = some (some (.builtin "object.__setattr__")))
    (mk : PySem.W.makesIn K c_Loan = true)
    (kc : PySem.W.keepIn K (.ref c_Loan) = true)
    (na_left : PySem.W.findIn K (.ref c_Loan) "left" = some none)
    (na_begun : PySem.W.findIn K (.ref c_Loan) "begun" = some none)
    (na_day : PySem.W.findIn K (.ref c_Loan) "day" = some none)
    (na_rates : PySem.W.findIn K (.ref c_Loan) "rates" = some none)
    : ∃ fd : FuncData, (∀ (s : Shared) (v : Value), BindsTo s fd ⟨[v], []⟩ [("_law_script", v)]) ∧ ∀ base : Heap, K.In base → base.Ns mainGlobals mg → FnOk l.prog w K mg base CX0 10 fa fd ["_law_script"] (sp_law K) := by
  have e := hfa.symm.trans (PySem.W.mg_of X G a38)
  cases e
  have F0 := fun_mk (st := s_checked) l0 q0 k0
  have b0 := F0.binds (ps := ["rates"]) fun _ _ _ _ _ _ us hl => match us, hl with | [_], _ => rfl
  have F1 := fun_mk (st := s_check_day) l1 q1 k1
  have b1 := F1.binds (ps := ["day", "first"]) fun _ _ _ _ _ _ us hl => match us, hl with | [_, _], _ => rfl
  have F2 := fun_mk (st := s_check_pair) l2 q2 k2
  have b2 := F2.binds (ps := ["day", "rate", "ahead"]) fun _ _ _ _ _ _ us hl => match us, hl with | [_, _, _], _ => rfl
  have F3 := fun_mk (st := s_grown) l3 q3 k3
  have b3 := F3.binds (ps := ["rates", "start", "end"]) fun _ _ _ _ _ _ us hl => match us, hl with | [_, _, _], _ => rfl
  have F4 := fun_mk (st := s_cents_owed) l4 q4 k4
  have b4 := F4.binds (ps := ["left", "begun"]) fun _ _ _ _ _ _ us hl => match us, hl with | [_, _], _ => rfl
  have F5 := fun_mk (st := s_paid_down) l5 q5 k5
  have b5 := F5.binds (ps := ["left", "begun", "cents"]) fun _ _ _ _ _ _ us hl => match us, hl with | [_, _, _], _ => rfl
  have F6 := fun_mk (st := s_Loan_init) l6 q6 k6
  have b6 := F6.binds (ps := ["self", "amount", "rates"]) fun _ _ _ _ _ _ us hl => match us, hl with | [_, _, _], _ => rfl
  have F7 := fun_mk (st := s_Loan_stand) l7 q7 k7
  have b7 := F7.binds (ps := ["self", "day"]) fun _ _ _ _ _ _ us hl => match us, hl with | [_, _], _ => rfl
  have F8 := fun_mk (st := s_Loan_owed) l8 q8 k8
  have b8 := F8.binds (ps := ["self", "day"]) fun _ _ _ _ _ _ us hl => match us, hl with | [_, _], _ => rfl
  have F9 := fun_mk (st := s_Loan_pay) l9 q9 k9
  have b9 := F9.binds (ps := ["self", "day", "cents"]) fun _ _ _ _ _ _ us hl => match us, hl with | [_, _, _], _ => rfl
  have F10 := fun_mk (st := s_Loan_change) l10 q10 k10
  have b10 := F10.binds (ps := ["self", "day", "rate"]) fun _ _ _ _ _ _ us hl => match us, hl with | [_, _, _], _ => rfl
  have F11 := fun_mk (st := s_Loan_twin) l11 q11 k11
  have b11 := F11.binds (ps := ["self"]) fun _ _ _ _ _ _ us hl => match us, hl with | [_], _ => rfl
  have F12 := fun_mk (st := s_cost) l12 q12 k12
  have b12 := F12.binds (ps := ["loan", "days", "part"]) fun _ _ _ _ _ _ us hl => match us, hl with | [_, _, _], _ => rfl
  have F13 := fun_mk (st := s_saved) l13 q13 k13
  have b13 := F13.binds (ps := ["loan", "days", "part", "day", "cents"]) fun _ _ _ _ _ _ us hl => match us, hl with | [_, _, _, _, _], _ => rfl
  have F14 := fun_mk (st := s_check_days) l14 q14 k14
  have b14 := F14.binds (ps := ["loan", "days"]) fun _ _ _ _ _ _ us hl => match us, hl with | [_, _], _ => rfl
  have F15 := fun_mk (st := s_check_some_days) l15 q15 k15
  have b15 := F15.binds (ps := ["loan", "days"]) fun _ _ _ _ _ _ us hl => match us, hl with | [_, _], _ => rfl
  have F16 := fun_mk (st := s_check_part) l16 q16 k16
  have b16 := F16.binds (ps := ["part"]) fun _ _ _ _ _ _ us hl => match us, hl with | [_], _ => rfl
  have F17 := fun_mk (st := s_pay_parts) l17 q17 k17
  have b17 := F17.binds (ps := ["loan", "days", "part"]) fun _ _ _ _ _ _ us hl => match us, hl with | [_, _, _], _ => rfl
  have F18 := fun_mk (st := s_cell_at) l18 q18 k18
  have b18 := F18.binds (ps := ["_law_script", "_law_k"]) fun _ _ _ _ _ _ us hl => match us, hl with | [_, _], _ => rfl
  have F19 := fun_mk (st := s_whole) l19 q19 k19
  have b19 := F19.binds (ps := ["_law_found"]) fun _ _ _ _ _ _ us hl => match us, hl with | [_], _ => rfl
  have F20 := fun_mk (st := s_mixed) l20 q20 k20
  have b20 := F20.binds (ps := ["_law_cell", "_law_many"]) fun _ _ _ _ _ _ us hl => match us, hl with | [_, _], _ => rfl
  have F21 := fun_mk (st := s_rate_by) l21 q21 k21
  have b21 := F21.binds (ps := ["_law_cell"]) fun _ _ _ _ _ _ us hl => match us, hl with | [_], _ => rfl
  have F22 := fun_mk (st := s_row_by) l22 q22 k22
  have b22 := F22.binds (ps := ["_law_cell", "_law_many", "_law_wide"]) fun _ _ _ _ _ _ us hl => match us, hl with | [_, _, _], _ => rfl
  have F23 := fun_mk (st := s_sum_by) l23 q23 k23
  have b23 := F23.binds (ps := ["_law_row", "_law_start", "_law_end"]) fun _ _ _ _ _ _ us hl => match us, hl with | [_, _, _], _ => rfl
  have F24 := fun_mk (st := s_amount_by) l24 q24 k24
  have b24 := F24.binds (ps := ["_law_cell"]) fun _ _ _ _ _ _ us hl => match us, hl with | [_], _ => rfl
  have F25 := fun_mk (st := s_owed) l25 q25 k25
  have b25 := F25.binds (ps := ["_law_left", "_law_begun"]) fun _ _ _ _ _ _ us hl => match us, hl with | [_, _], _ => rfl
  have F26 := fun_mk (st := s_parts) l26 q26 k26
  have b26 := F26.binds (ps := ["_law_left", "_law_begun", "_law_cents"]) fun _ _ _ _ _ _ us hl => match us, hl with | [_, _, _], _ => rfl
  have F27 := fun_mk (st := s_days_by) l27 q27 k27
  have b27 := F27.binds (ps := ["_law_cell", "_law_at", "_law_many", "_law_wide"]) fun _ _ _ _ _ _ us hl => match us, hl with | [_, _, _, _], _ => rfl
  have F28 := fun_mk (st := s_behind) l28 q28 k28
  have b28 := F28.binds (ps := ["_law_stood", "_law_row", "_law_days", "_law_part"]) fun _ _ _ _ _ _ us hl => match us, hl with | [_, _, _, _], _ => rfl
  have F29 := fun_mk (st := s_at_by) l29 q29 k29
  have b29 := F29.binds (ps := ["_law_cell"]) fun _ _ _ _ _ _ us hl => match us, hl with | [_], _ => rfl
  have F30 := fun_mk (st := s_made) l30 q30 k30
  have b30 := F30.binds (ps := ["_law_amount", "_law_row", "_law_cell"]) fun _ _ _ _ _ _ us hl => match us, hl with | [_, _, _], _ => rfl
  have F31 := fun_mk (st := s_loan_by) l31 q31 k31
  have b31 := F31.binds (ps := ["_law_script", "_law_row"]) fun _ _ _ _ _ _ us hl => match us, hl with | [_, _], _ => rfl
  have F32 := fun_mk (st := s_l_cost) l32 q32 k32
  have b32 := F32.binds (ps := ["_law_stood", "_law_row", "_law_days", "_law_part"]) fun _ _ _ _ _ _ us hl => match us, hl with | [_, _, _, _], _ => rfl
  have F33 := fun_mk (st := s_done_more) l33 q33 k33
  have b33 := F33.binds (ps := ["_law_loan", "_law_stood", "_law_row", "_law_cell"]) fun _ _ _ _ _ _ us hl => match us, hl with | [_, _, _, _], _ => rfl
  have F34 := fun_mk (st := s_row_of) l34 q34 k34
  have b34 := F34.binds (ps := ["_law_cell"]) fun _ _ _ _ _ _ us hl => match us, hl with | [_], _ => rfl
  have F35 := fun_mk (st := s_dues) l35 q35 k35
  have b35 := F35.binds (ps := ["_law_script", "_law_at"]) fun _ _ _ _ _ _ us hl => match us, hl with | [_, _], _ => rfl
  have F36 := fun_mk (st := s_part_of) l36 q36 k36
  have b36 := F36.binds (ps := ["_law_ways", "_law_share"]) fun _ _ _ _ _ _ us hl => match us, hl with | [_, _], _ => rfl
  have F37 := fun_mk (st := s_saved_again) l37 q37 k37
  have b37 := F37.binds (ps := ["_law_loan", "_law_stood", "_law_row", "_law_days", "_law_part", "_law_due"]) fun _ _ _ _ _ _ us hl => match us, hl with | [_, _, _, _, _, _], _ => rfl
  have F38 := fun_mk (st := s_law) l38 q38 k38
  have b38 := F38.binds (ps := ["_law_script"]) fun _ _ _ _ _ _ us hl => match us, hl with | [_], _ => rfl
  have T : Txt K mg (adOf f0 _ f1 _ f2 _ f3 _ f4 _ f5 _ f6 _ f7 _ f8 _ f9 _ f10 _ f11 _ f12 _ f13 _ f14 _ f15 _ f16 _ f17 _ f18 _ f19 _ f20 _ f21 _ f22 _ f23 _ f24 _ f25 _ f26 _ f27 _ f28 _ f29 _ f30 _ f31 _ f32 _ f33 _ f34 _ f35 _ f36 _ f37 _ fa _ c_LoanError c_BadAmount c_BadRate c_BadDay c_BadPay c_Loan t_LAST_DAY t_HIGHEST_RATE t_HIGHEST_AMOUNT t_MILLION) :=
    { F_checked := F0, B_checked := b0,
      g_checked := PySem.W.mg_of X G a0,
      F_check_day := F1, B_check_day := b1,
      g_check_day := PySem.W.mg_of X G a1,
      F_check_pair := F2, B_check_pair := b2,
      g_check_pair := PySem.W.mg_of X G a2,
      F_grown := F3, B_grown := b3,
      g_grown := PySem.W.mg_of X G a3,
      F_cents_owed := F4, B_cents_owed := b4,
      g_cents_owed := PySem.W.mg_of X G a4,
      F_paid_down := F5, B_paid_down := b5,
      g_paid_down := PySem.W.mg_of X G a5,
      F_Loan_init := F6, B_Loan_init := b6,
      F_Loan_stand := F7, B_Loan_stand := b7,
      F_Loan_owed := F8, B_Loan_owed := b8,
      F_Loan_pay := F9, B_Loan_pay := b9,
      F_Loan_change := F10, B_Loan_change := b10,
      F_Loan_twin := F11, B_Loan_twin := b11,
      F_cost := F12, B_cost := b12,
      g_cost := PySem.W.mg_of X G a12,
      F_saved := F13, B_saved := b13,
      g_saved := PySem.W.mg_of X G a13,
      F_check_days := F14, B_check_days := b14,
      g_check_days := PySem.W.mg_of X G a14,
      F_check_some_days := F15, B_check_some_days := b15,
      g_check_some_days := PySem.W.mg_of X G a15,
      F_check_part := F16, B_check_part := b16,
      g_check_part := PySem.W.mg_of X G a16,
      F_pay_parts := F17, B_pay_parts := b17,
      g_pay_parts := PySem.W.mg_of X G a17,
      F_cell_at := F18, B_cell_at := b18,
      g_cell_at := PySem.W.mg_of X G a18,
      F_whole := F19, B_whole := b19,
      g_whole := PySem.W.mg_of X G a19,
      F_mixed := F20, B_mixed := b20,
      g_mixed := PySem.W.mg_of X G a20,
      F_rate_by := F21, B_rate_by := b21,
      g_rate_by := PySem.W.mg_of X G a21,
      F_row_by := F22, B_row_by := b22,
      g_row_by := PySem.W.mg_of X G a22,
      F_sum_by := F23, B_sum_by := b23,
      g_sum_by := PySem.W.mg_of X G a23,
      F_amount_by := F24, B_amount_by := b24,
      g_amount_by := PySem.W.mg_of X G a24,
      F_owed := F25, B_owed := b25,
      g_owed := PySem.W.mg_of X G a25,
      F_parts := F26, B_parts := b26,
      g_parts := PySem.W.mg_of X G a26,
      F_days_by := F27, B_days_by := b27,
      g_days_by := PySem.W.mg_of X G a27,
      F_behind := F28, B_behind := b28,
      g_behind := PySem.W.mg_of X G a28,
      F_at_by := F29, B_at_by := b29,
      g_at_by := PySem.W.mg_of X G a29,
      F_made := F30, B_made := b30,
      g_made := PySem.W.mg_of X G a30,
      F_loan_by := F31, B_loan_by := b31,
      g_loan_by := PySem.W.mg_of X G a31,
      F_l_cost := F32, B_l_cost := b32,
      g_l_cost := PySem.W.mg_of X G a32,
      F_done_more := F33, B_done_more := b33,
      g_done_more := PySem.W.mg_of X G a33,
      F_row_of := F34, B_row_of := b34,
      g_row_of := PySem.W.mg_of X G a34,
      F_dues := F35, B_dues := b35,
      g_dues := PySem.W.mg_of X G a35,
      F_part_of := F36, B_part_of := b36,
      g_part_of := PySem.W.mg_of X G a36,
      F_saved_again := F37, B_saved_again := b37,
      g_saved_again := PySem.W.mg_of X G a37,
      F_law := F38, B_law := b38,
      g_law := PySem.W.mg_of X G a38,
      n_bool := PySem.W.mg_none_of X G z_bool,
      n_int := PySem.W.mg_none_of X G z_int,
      n_isinstance := PySem.W.mg_none_of X G z_isinstance,
      n_len := PySem.W.mg_none_of X G z_len,
      n_list := PySem.W.mg_none_of X G z_list,
      n_max := PySem.W.mg_none_of X G z_max,
      n_min := PySem.W.mg_none_of X G z_min,
      n_range := PySem.W.mg_none_of X G z_range,
      n_reversed := PySem.W.mg_none_of X G z_reversed,
      n_sum := PySem.W.mg_none_of X G z_sum,
      g_LAST_DAY := PySem.W.mg_of X G v_LAST_DAY,
      g_HIGHEST_RATE := PySem.W.mg_of X G v_HIGHEST_RATE,
      g_HIGHEST_AMOUNT := PySem.W.mg_of X G v_HIGHEST_AMOUNT,
      g_MILLION := PySem.W.mg_of X G v_MILLION,
      g_LoanError := PySem.W.mg_of X G g_LoanError, x_LoanError := x_LoanError, k_LoanError := k_LoanError, b_LoanError := b_LoanError, t_LoanError := t_LoanError, h_LoanError := h_LoanError,
      g_BadAmount := PySem.W.mg_of X G g_BadAmount, x_BadAmount := x_BadAmount, k_BadAmount := k_BadAmount, b_BadAmount := b_BadAmount, t_BadAmount := t_BadAmount, h_BadAmount := h_BadAmount,
      g_BadRate := PySem.W.mg_of X G g_BadRate, x_BadRate := x_BadRate, k_BadRate := k_BadRate, b_BadRate := b_BadRate, t_BadRate := t_BadRate, h_BadRate := h_BadRate,
      g_BadDay := PySem.W.mg_of X G g_BadDay, x_BadDay := x_BadDay, k_BadDay := k_BadDay, b_BadDay := b_BadDay, t_BadDay := t_BadDay, h_BadDay := h_BadDay,
      g_BadPay := PySem.W.mg_of X G g_BadPay, x_BadPay := x_BadPay, k_BadPay := k_BadPay, b_BadPay := b_BadPay, t_BadPay := t_BadPay, h_BadPay := h_BadPay,
      u_LoanError_LoanError := u_LoanError_LoanError,
      u_LoanError_BadAmount := u_LoanError_BadAmount,
      u_LoanError_BadRate := u_LoanError_BadRate,
      u_LoanError_BadDay := u_LoanError_BadDay,
      u_LoanError_BadPay := u_LoanError_BadPay,
      u_BadAmount_LoanError := u_BadAmount_LoanError,
      u_BadAmount_BadAmount := u_BadAmount_BadAmount,
      u_BadAmount_BadRate := u_BadAmount_BadRate,
      u_BadAmount_BadDay := u_BadAmount_BadDay,
      u_BadAmount_BadPay := u_BadAmount_BadPay,
      u_BadRate_LoanError := u_BadRate_LoanError,
      u_BadRate_BadAmount := u_BadRate_BadAmount,
      u_BadRate_BadRate := u_BadRate_BadRate,
      u_BadRate_BadDay := u_BadRate_BadDay,
      u_BadRate_BadPay := u_BadRate_BadPay,
      u_BadDay_LoanError := u_BadDay_LoanError,
      u_BadDay_BadAmount := u_BadDay_BadAmount,
      u_BadDay_BadRate := u_BadDay_BadRate,
      u_BadDay_BadDay := u_BadDay_BadDay,
      u_BadDay_BadPay := u_BadDay_BadPay,
      u_BadPay_LoanError := u_BadPay_LoanError,
      u_BadPay_BadAmount := u_BadPay_BadAmount,
      u_BadPay_BadRate := u_BadPay_BadRate,
      u_BadPay_BadDay := u_BadPay_BadDay,
      u_BadPay_BadPay := u_BadPay_BadPay,
      g_Loan := PySem.W.mg_of X G g_Loan, C_Loan := ⟨pg, hd, po, sa⟩, M_Loan := ⟨mk, a6, i6, kc⟩,
      m_Loan_stand := ⟨a7, i7, k7⟩,
      m_Loan_owed := ⟨a8, i8, k8⟩,
      m_Loan_pay := ⟨a9, i9, k9⟩,
      m_Loan_change := ⟨a10, i10, k10⟩,
      m_Loan_twin := ⟨a11, i11, k11⟩,
      na_left := na_left,
      na_begun := na_begun,
      na_day := na_day,
      na_rates := na_rates }
  exact ⟨_, fun s v => .of_eq rfl, fun base _ _ => ok_law T⟩
end Lp
open PySem PySem.W PyProof.Rows in
set_option maxRecDepth 100000 in
set_option maxHeartbeats 0 in
theorem PySem.Challenge.cw_loanplan_k11_whole_early_pays_holds : PySem.Challenge.rw_loanplan_k11_whole_early_pays.Holds := by
  w_on; o_law; k_head; (case hw => w_witness2)
  k_fill
  refine Lp.walk (l := PySem.Challenge.rw_loanplan_k11_whole_early_pays) rfl rfl (fun w h Y => PySem.W.kIn_of Y) ?F
  case F =>
    intro w mg fa h KX G hmg
    refine' Lp.all_mk KX G hmg ?g_LoanError ?g_BadAmount ?g_BadRate ?g_BadDay ?g_BadPay ?g_Loan ?a0 ?l0 ?q0 ?k0 ?a1 ?l1 ?q1 ?k1 ?a2 ?l2 ?q2 ?k2 ?a3 ?l3 ?q3 ?k3 ?a4 ?l4 ?q4 ?k4 ?a5 ?l5 ?q5 ?k5 ?a6 ?i6 ?l6 ?q6 ?k6 ?a7 ?i7 ?l7 ?q7 ?k7 ?a8 ?i8 ?l8 ?q8 ?k8 ?a9 ?i9 ?l9 ?q9 ?k9 ?a10 ?i10 ?l10 ?q10 ?k10 ?a11 ?i11 ?l11 ?q11 ?k11 ?a12 ?l12 ?q12 ?k12 ?a13 ?l13 ?q13 ?k13 ?a14 ?l14 ?q14 ?k14 ?a15 ?l15 ?q15 ?k15 ?a16 ?l16 ?q16 ?k16 ?a17 ?l17 ?q17 ?k17 ?a18 ?l18 ?q18 ?k18 ?a19 ?l19 ?q19 ?k19 ?a20 ?l20 ?q20 ?k20 ?a21 ?l21 ?q21 ?k21 ?a22 ?l22 ?q22 ?k22 ?a23 ?l23 ?q23 ?k23 ?a24 ?l24 ?q24 ?k24 ?a25 ?l25 ?q25 ?k25 ?a26 ?l26 ?q26 ?k26 ?a27 ?l27 ?q27 ?k27 ?a28 ?l28 ?q28 ?k28 ?a29 ?l29 ?q29 ?k29 ?a30 ?l30 ?q30 ?k30 ?a31 ?l31 ?q31 ?k31 ?a32 ?l32 ?q32 ?k32 ?a33 ?l33 ?q33 ?k33 ?a34 ?l34 ?q34 ?k34 ?a35 ?l35 ?q35 ?k35 ?a36 ?l36 ?q36 ?k36 ?a37 ?l37 ?q37 ?k37 ?a38 ?l38 ?q38 ?k38 ?z_bool ?z_int ?z_isinstance ?z_len ?z_list ?z_max ?z_min ?z_range ?z_reversed ?z_sum ?v_LAST_DAY ?v_HIGHEST_RATE ?v_HIGHEST_AMOUNT ?v_MILLION ?x_LoanError ?k_LoanError ?b_LoanError ?t_LoanError ?h_LoanError ?x_BadAmount ?k_BadAmount ?b_BadAmount ?t_BadAmount ?h_BadAmount ?x_BadRate ?k_BadRate ?b_BadRate ?t_BadRate ?h_BadRate ?x_BadDay ?k_BadDay ?b_BadDay ?t_BadDay ?h_BadDay ?x_BadPay ?k_BadPay ?b_BadPay ?t_BadPay ?h_BadPay ?u_LoanError_LoanError ?u_LoanError_BadAmount ?u_LoanError_BadRate ?u_LoanError_BadDay ?u_LoanError_BadPay ?u_BadAmount_LoanError ?u_BadAmount_BadAmount ?u_BadAmount_BadRate ?u_BadAmount_BadDay ?u_BadAmount_BadPay ?u_BadRate_LoanError ?u_BadRate_BadAmount ?u_BadRate_BadRate ?u_BadRate_BadDay ?u_BadRate_BadPay ?u_BadDay_LoanError ?u_BadDay_BadAmount ?u_BadDay_BadRate ?u_BadDay_BadDay ?u_BadDay_BadPay ?u_BadPay_LoanError ?u_BadPay_BadAmount ?u_BadPay_BadRate ?u_BadPay_BadDay ?u_BadPay_BadPay ?pg ?hd ?po ?sa ?mk ?kc ?na_left ?na_begun ?na_day ?na_rates
    (case g_LoanError => k_is)
    (case g_BadAmount => k_is)
    (case g_BadRate => k_is)
    (case g_BadDay => k_is)
    (case g_BadPay => k_is)
    (case g_Loan => k_is)
    (case a0 => k_is)
    (case l0 => k_is)
    (case q0 => k_is)
    (case k0 => k_is)
    (case a1 => k_is)
    (case l1 => k_is)
    (case q1 => k_is)
    (case k1 => k_is)
    (case a2 => k_is)
    (case l2 => k_is)
    (case q2 => k_is)
    (case k2 => k_is)
    (case a3 => k_is)
    (case l3 => k_is)
    (case q3 => k_is)
    (case k3 => k_is)
    (case a4 => k_is)
    (case l4 => k_is)
    (case q4 => k_is)
    (case k4 => k_is)
    (case a5 => k_is)
    (case l5 => k_is)
    (case q5 => k_is)
    (case k5 => k_is)
    (case a6 => k_is)
    (case i6 => k_is)
    (case l6 => k_is)
    (case q6 => k_is)
    (case k6 => k_is)
    (case a7 => k_is)
    (case i7 => k_is)
    (case l7 => k_is)
    (case q7 => k_is)
    (case k7 => k_is)
    (case a8 => k_is)
    (case i8 => k_is)
    (case l8 => k_is)
    (case q8 => k_is)
    (case k8 => k_is)
    (case a9 => k_is)
    (case i9 => k_is)
    (case l9 => k_is)
    (case q9 => k_is)
    (case k9 => k_is)
    (case a10 => k_is)
    (case i10 => k_is)
    (case l10 => k_is)
    (case q10 => k_is)
    (case k10 => k_is)
    (case a11 => k_is)
    (case i11 => k_is)
    (case l11 => k_is)
    (case q11 => k_is)
    (case k11 => k_is)
    (case a12 => k_is)
    (case l12 => k_is)
    (case q12 => k_is)
    (case k12 => k_is)
    (case a13 => k_is)
    (case l13 => k_is)
    (case q13 => k_is)
    (case k13 => k_is)
    (case a14 => k_is)
    (case l14 => k_is)
    (case q14 => k_is)
    (case k14 => k_is)
    (case a15 => k_is)
    (case l15 => k_is)
    (case q15 => k_is)
    (case k15 => k_is)
    (case a16 => k_is)
    (case l16 => k_is)
    (case q16 => k_is)
    (case k16 => k_is)
    (case a17 => k_is)
    (case l17 => k_is)
    (case q17 => k_is)
    (case k17 => k_is)
    (case a18 => k_is)
    (case l18 => k_is)
    (case q18 => k_is)
    (case k18 => k_is)
    (case a19 => k_is)
    (case l19 => k_is)
    (case q19 => k_is)
    (case k19 => k_is)
    (case a20 => k_is)
    (case l20 => k_is)
    (case q20 => k_is)
    (case k20 => k_is)
    (case a21 => k_is)
    (case l21 => k_is)
    (case q21 => k_is)
    (case k21 => k_is)
    (case a22 => k_is)
    (case l22 => k_is)
    (case q22 => k_is)
    (case k22 => k_is)
    (case a23 => k_is)
    (case l23 => k_is)
    (case q23 => k_is)
    (case k23 => k_is)
    (case a24 => k_is)
    (case l24 => k_is)
    (case q24 => k_is)
    (case k24 => k_is)
    (case a25 => k_is)
    (case l25 => k_is)
    (case q25 => k_is)
    (case k25 => k_is)
    (case a26 => k_is)
    (case l26 => k_is)
    (case q26 => k_is)
    (case k26 => k_is)
    (case a27 => k_is)
    (case l27 => k_is)
    (case q27 => k_is)
    (case k27 => k_is)
    (case a28 => k_is)
    (case l28 => k_is)
    (case q28 => k_is)
    (case k28 => k_is)
    (case a29 => k_is)
    (case l29 => k_is)
    (case q29 => k_is)
    (case k29 => k_is)
    (case a30 => k_is)
    (case l30 => k_is)
    (case q30 => k_is)
    (case k30 => k_is)
    (case a31 => k_is)
    (case l31 => k_is)
    (case q31 => k_is)
    (case k31 => k_is)
    (case a32 => k_is)
    (case l32 => k_is)
    (case q32 => k_is)
    (case k32 => k_is)
    (case a33 => k_is)
    (case l33 => k_is)
    (case q33 => k_is)
    (case k33 => k_is)
    (case a34 => k_is)
    (case l34 => k_is)
    (case q34 => k_is)
    (case k34 => k_is)
    (case a35 => k_is)
    (case l35 => k_is)
    (case q35 => k_is)
    (case k35 => k_is)
    (case a36 => k_is)
    (case l36 => k_is)
    (case q36 => k_is)
    (case k36 => k_is)
    (case a37 => k_is)
    (case l37 => k_is)
    (case q37 => k_is)
    (case k37 => k_is)
    (case a38 => k_is)
    (case l38 => k_is)
    (case q38 => k_is)
    (case k38 => k_is)
    (case z_bool => k_is)
    (case z_int => k_is)
    (case z_isinstance => k_is)
    (case z_len => k_is)
    (case z_list => k_is)
    (case z_max => k_is)
    (case z_min => k_is)
    (case z_range => k_is)
    (case z_reversed => k_is)
    (case z_sum => k_is)
    (case v_LAST_DAY => k_is)
    (case v_HIGHEST_RATE => k_is)
    (case v_HIGHEST_AMOUNT => k_is)
    (case v_MILLION => k_is)
    (case x_LoanError => k_exc)
    (case k_LoanError => k_is)
    (case b_LoanError => k_is)
    (case t_LoanError => k_is)
    (case h_LoanError => k_is)
    (case x_BadAmount => k_exc)
    (case k_BadAmount => k_is)
    (case b_BadAmount => k_is)
    (case t_BadAmount => k_is)
    (case h_BadAmount => k_is)
    (case x_BadRate => k_exc)
    (case k_BadRate => k_is)
    (case b_BadRate => k_is)
    (case t_BadRate => k_is)
    (case h_BadRate => k_is)
    (case x_BadDay => k_exc)
    (case k_BadDay => k_is)
    (case b_BadDay => k_is)
    (case t_BadDay => k_is)
    (case h_BadDay => k_is)
    (case x_BadPay => k_exc)
    (case k_BadPay => k_is)
    (case b_BadPay => k_is)
    (case t_BadPay => k_is)
    (case h_BadPay => k_is)
    (case u_LoanError_LoanError => k_is)
    (case u_LoanError_BadAmount => k_is)
    (case u_LoanError_BadRate => k_is)
    (case u_LoanError_BadDay => k_is)
    (case u_LoanError_BadPay => k_is)
    (case u_BadAmount_LoanError => k_is)
    (case u_BadAmount_BadAmount => k_is)
    (case u_BadAmount_BadRate => k_is)
    (case u_BadAmount_BadDay => k_is)
    (case u_BadAmount_BadPay => k_is)
    (case u_BadRate_LoanError => k_is)
    (case u_BadRate_BadAmount => k_is)
    (case u_BadRate_BadRate => k_is)
    (case u_BadRate_BadDay => k_is)
    (case u_BadRate_BadPay => k_is)
    (case u_BadDay_LoanError => k_is)
    (case u_BadDay_BadAmount => k_is)
    (case u_BadDay_BadRate => k_is)
    (case u_BadDay_BadDay => k_is)
    (case u_BadDay_BadPay => k_is)
    (case u_BadPay_LoanError => k_is)
    (case u_BadPay_BadAmount => k_is)
    (case u_BadPay_BadRate => k_is)
    (case u_BadPay_BadDay => k_is)
    (case u_BadPay_BadPay => k_is)
    (case pg => k_is)
    (case hd => k_is)
    (case po => k_is)
    (case sa => k_is)
    (case mk => k_is)
    (case kc => k_is)
    (case na_left => k_is)
    (case na_begun => k_is)
    (case na_day => k_is)
    (case na_rates => k_is)
#print axioms PySem.Challenge.cw_loanplan_k11_whole_early_pays_holds
