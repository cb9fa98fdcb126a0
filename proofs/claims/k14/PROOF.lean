import PyProof.Rows.All
import Wide.All
import OpenK.AllK
import Wide.FinOn
import HandS.ForMost
import HandS.ForExc
import HandS.IsInst
import HandS.Style
import HandS.Rev
import HandS.TryMany
import HandS.Evl
import HandS.FStr
import HandS.Small
import HandS.TryOnly
import HandS.ExcIs
import HandS.HotCalls
import HandS.Walk
import KE.KIntText
import HandS.Text
import HandS.StrMore
import HandS.More
import HandS.Star
import HandS.RaiseMore
import HandS.Replace
import HandS.ReplaceLit
import HandS.EndBits
import PySem.Challenge.RW_loanplan_k14_whole_desk
set_option Elab.async false
set_option linter.all false
set_option maxRecDepth 100000
set_option maxHeartbeats 4000000
namespace Lp
open PySem L2

/-! ## readings by name -/
def NewT (xs : List V) (H : Hp) (Q : VK) : Prop := xs.length ≤ sizeLine ∧ ∀ p, H p = none → Q (.ref p) (upd H p (.tup xs))
def NewL (xs : List V) (H : Hp) (Q : VK) : Prop := xs.length ≤ sizeLine ∧ ∀ p, H p = none → Q (.ref p) (upd H p (.lst xs))
def rLen (K : PySem.W.Frag) : List V → Hp → VK → Prop := fun xs H Q => ∃ p ys, xs = [.ref p] ∧ (SqL K H p ys ∨ SqT K H p ys) ∧ Q (.int ys.length) H
theorem c_len {X : Cx} : CallR X (.builtin "len") (rLen X.K) := call_len_seq
def rListOf (K : PySem.W.Frag) : List V → Hp → VK → Prop := fun xs H Q => ∃ p ys, xs = [.ref p] ∧ (SqL K H p ys ∨ SqT K H p ys) ∧ ∀ l, H l = none → Q (.ref l) (upd H l (.lst ys))
theorem c_list {X : Cx} : CallR X (.type "list") (rListOf X.K) := call_list_of
def rMax2 : List V → Hp → VK → Prop := fun xs H Q => ∃ i j, xs = [.int i, .int j] ∧ Q (.int (if j > i then j else i)) H
theorem c_max {X : Cx} (hc : X.calm = true) : CallR X (.builtin "max") rMax2 := call_max2 hc
def rMin2 : List V → Hp → VK → Prop := fun xs H Q => ∃ i j, xs = [.int i, .int j] ∧ Q (.int (if j < i then j else i)) H
theorem c_min {X : Cx} (hc : X.calm = true) : CallR X (.builtin "min") rMin2 := call_min2 hc
def rInt1 : List V → Hp → VK → Prop := fun xs H Q => (∃ i, xs = [.int i] ∧ Q (.int i) H) ∨ ∃ k, xs = [.bl k] ∧ Q (.int (if k then 1 else 0)) H
theorem c_int {X : Cx} : CallR X (.type "int") rInt1 := call_int1
def rIsN0 : R2 := fun x y H Q => y = .non ∧ Q (.bl (decide (x = .non))) H
theorem c_isN {X : Cx} : OpR X (compareOp .Is) rIsN0 := op_isN
def rNotN0 : R2 := fun x y H Q => y = .non ∧ Q (.bl (!decide (x = .non))) H
theorem c_notN {X : Cx} : OpR X (compareOp .IsNot) rNotN0 := op_notN
def rFld (K : PySem.W.Frag) (f : Str) (x : V) (H : Hp) (Q : VK) : Prop := ∃ a C dx fs v, x = .ref a ∧ H a = some (.ins C dx fs) ∧ Cls K C ∧ NoAttr K C f ∧ fs.lookup f = some v ∧ Q v H
def rMeth (C : Addr) (m : Str) (x : V) (H : Hp) (R : Prop) : Prop := ∃ a dx fs, x = .ref a ∧ H a = some (.ins C dx fs) ∧ fs.lookup m = none ∧ R
/-! ## a reading, step by step -/
section
variable {σ : L2.St} {H : Hp} {Q : VK} {D : Ends} {K : PySem.W.Frag} {te ta tb : TE} {tt tu : TT} {t u w : TS}
theorem g_var {i : Nat} {v : V} (h : σ[i]? = some (some v)) (q : Q v H) : tVar i σ H Q := ⟨v, h, q⟩
theorem g_c {v : V} (q : Q v H) : tC v σ H Q := q
theorem g_op {r : R2} (h : ta σ H fun x H1 => tb σ H1 fun y H2 => r x y H2 Q) : tOp r ta tb σ H Q := h
theorem g_un {r : V → Hp → VK → Prop} (h : ta σ H fun x H1 => r x H1 Q) : tUn r ta σ H Q := h
theorem g_i0 {g : Int → Int → V} {a b : Int} (q : Q (g a b) H) : rI0 g (.int a) (.int b) H Q := ⟨a, b, rfl, rfl, q⟩
theorem g_i {C : Int → Int → Prop} {g : Int → Int → V} {a b : Int} (c : C a b) (q : Q (g a b) H) : rI C g (.int a) (.int b) H Q := ⟨a, b, rfl, rfl, c, q⟩
theorem g_u {g : Int → V} {a : Int} (q : Q (g a) H) : rU g (.int a) H Q := ⟨a, rfl, q⟩
theorem g_eqI {a b : Int} (q : Q (.bl (decide (a = b))) H) : rEq (.int a) (.int b) H Q := by
  refine ⟨rfl, ?_⟩
  have e : decide (V.int a = V.int b) = decide (a = b) := by
    by_cases h : a = b
    · rw [decide_eq_true h, h]; exact decide_eq_true rfl
    · rw [decide_eq_false h]; exact decide_eq_false fun q => h (V.int.inj q)
  rw [e]; exact q
theorem g_neI {a b : Int} (q : Q (.bl (decide (a ≠ b))) H) : rNe (.int a) (.int b) H Q := by
  refine ⟨rfl, ?_⟩
  have e : (!decide (V.int a = V.int b)) = decide (a ≠ b) := by
    by_cases h : a = b
    · subst h; simp
    · have h2 : ¬ V.int a = V.int b := fun q => h (V.int.inj q)
      rw [decide_eq_false h2, decide_eq_true h]; rfl
  rw [e]; exact q
theorem g_eqS {a b : Str} (q : Q (.bl (decide (a = b))) H) : rEq (.str a) (.str b) H Q := by
  refine ⟨rfl, ?_⟩
  have e : decide (V.str a = V.str b) = decide (a = b) := by
    by_cases h : a = b
    · rw [decide_eq_true h, h]; exact decide_eq_true rfl
    · rw [decide_eq_false h]; exact decide_eq_false fun q => h (V.str.inj q)
  rw [e]; exact q
theorem g_neS {a b : Str} (q : Q (.bl (decide (a ≠ b))) H) : rNe (.str a) (.str b) H Q := by
  refine ⟨rfl, ?_⟩
  have e : (!decide (V.str a = V.str b)) = decide (a ≠ b) := by
    by_cases h : a = b
    · subst h; simp
    · have h2 : ¬ V.str a = V.str b := fun q => h (V.str.inj q)
      rw [decide_eq_false h2, decide_eq_true h]; rfl
  rw [e]; exact q
theorem g_isNT (q : Q (.bl true) H) : rIsN0 .non .non H Q := ⟨rfl, by rw [decide_eq_true rfl]; exact q⟩
theorem g_isNI {i : Int} (q : Q (.bl false) H) : rIsN0 (.int i) .non H Q := ⟨rfl, by rw [decide_eq_false (by intro z; cases z)]; exact q⟩
theorem g_notNT (q : Q (.bl false) H) : rNotN0 .non .non H Q := ⟨rfl, by rw [decide_eq_true rfl]; exact q⟩
theorem g_notNI {i : Int} (q : Q (.bl true) H) : rNotN0 (.int i) .non H Q := ⟨rfl, by rw [decide_eq_false (by intro z; cases z)]; exact q⟩
theorem g_test {Q : Bool → Hp → Prop} (h : te σ H fun x H' => ∃ k, x = .bl k ∧ Q k H') : tTest te σ H Q := h
theorem g_tB {Q : Bool → Hp → Prop} (h : te σ H fun x H' => ∃ k, x = .bl k ∧ Q k H') : tB te σ H Q := h
theorem g_bl {Q : Bool → Hp → Prop} {b : Bool} (h : Q b H) : ∃ k, V.bl b = .bl k ∧ Q k H := ⟨b, rfl, h⟩
theorem g_and {Q : Bool → Hp → Prop} (h : tt σ H fun c H1 => if c = true then tu σ H1 Q else Q false H1) : tAnd tt tu σ H Q := h
theorem g_or {Q : Bool → Hp → Prop} (h : tt σ H fun c H1 => if c = true then Q true H1 else tu σ H1 Q) : tOr tt tu σ H Q := h
theorem g_not {Q : Bool → Hp → Prop} (h : tt σ H fun c H1 => Q (!c) H1) : tNot tt σ H Q := h
theorem g_andV (h : ta σ H fun x H1 => ∃ c, x = .bl c ∧ if c = true then tb σ H1 Q else Q (.bl false) H1) : tAndV ta tb σ H Q := h
theorem g_orV (h : ta σ H fun x H1 => ∃ c, x = .bl c ∧ if c = true then Q (.bl true) H1 else tb σ H1 Q) : tOrV ta tb σ H Q := h
theorem g_notV (h : ta σ H fun x H1 => ∃ c, x = .bl c ∧ Q (.bl (!c)) H1) : tNotV ta σ H Q := h
theorem g_blV {b : Bool} {P : Bool → Prop} (h : P b) : ∃ c, V.bl b = .bl c ∧ P c := ⟨b, rfl, h⟩
theorem g_chain {r r' : R2} {tc : TE} (h : ta σ H fun x H1 => tb σ H1 fun y H2 => r x y H2 fun z H3 => ∃ k, z = .bl k ∧
  (if k = true then tc σ H3 fun w' H4 => r' y w' H4 Q else Q (.bl false) H3)) : tChain r r' ta tb tc σ H Q := h
theorem g_ite {c A B : Prop} [Decidable c] (h1 : c → A) (h2 : ¬ c → B) : if decide c = true then A else B := by
  by_cases h : c
  · rw [decide_eq_true h]; exact iteT (h1 h)
  · rw [decide_eq_false h]; exact iteF (h2 h)
theorem g_iteN {c A B : Prop} [Decidable c] (h1 : ¬ c → A) (h2 : c → B) : if (!decide c) = true then A else B := by
  by_cases h : c
  · rw [decide_eq_true h]; exact iteF (h2 h)
  · rw [decide_eq_false h]; exact iteT (h1 h)
theorem g_iteT' {A B : Prop} (h : A) : if true = true then A else B := iteT h
theorem g_iteF' {A B : Prop} (h : B) : if false = true then A else B := iteF h
theorem g_iteTT {A B : Prop} [Decidable True] (h : A) : if True then A else B := by rw [if_pos True.intro]; exact h
theorem g_iteFF {A B : Prop} [Decidable False] (h : B) : if False then A else B := by rw [if_neg not_false]; exact h
theorem g_iteNT {A B : Prop} (h : B) : if (!true) = true then A else B := iteF h
theorem g_iteNF {A B : Prop} (h : A) : if (!false) = true then A else B := iteT h
theorem g_nil {Q : List V → Hp → Prop} (h : Q [] H) : tNil σ H Q := h
theorem g_cons {tr : TA} {Q : List V → Hp → Prop} (h : ta σ H fun x H1 => tr σ H1 fun xs H2 => Q (x :: xs) H2) : tCons ta tr σ H Q := h
theorem g_tup {tr : TA} (h : tr σ H fun xs H1 => NewT xs H1 Q) : tTup tr σ H Q := h
theorem g_lst {tr : TA} (h : tr σ H fun xs H1 => NewL xs H1 Q) : tLst tr σ H Q := h
theorem g_cb {r : List V → Hp → VK → Prop} {tr : TA} (h : tr σ H fun vs H1 => r vs H1 Q) : tCB r tr σ H Q := h
theorem g_bm {r : V → List V → Hp → VK → Prop} {T : String} {tr : TA} (h : ta σ H fun x H1 => tyV K T x H1 ∧ tr σ H1 fun xs H2 => r x xs H2 Q) : tBM K T r ta tr σ H Q := h
theorem g_call {sp : Sp} {dvs : List V} {E : XK} {tr : TA} (h : tr σ H fun vs H1 => sp (vs ++ dvs) H1 Q E) : tCall sp dvs E tr σ H Q := h
theorem g_meth {C : Addr} {m : Str} {sp : Sp} {dvs : List V} {E : XK} {tr : TA} (h : ta σ H fun x H1 => rMeth C m x H1 (tr σ H1 fun vs H2 => sp (x :: (vs ++ dvs)) H2 Q E)) : tMeth C m sp dvs E ta tr σ H Q := h
theorem g_fld {f : Str} (h : ta σ H fun x H1 => rFld K f x H1 Q) : tFld K ta f σ H Q := h
theorem g_make {C : Addr} {sp : Sp} {dvs : List V} {E : XK} {tr : TA} (h : tr σ H fun vs H1 => ∀ x dx, H1 x = none → H1 dx = none → dx ≠ x →
  sp (.ref x :: (vs ++ dvs)) (upd (upd H1 dx (.own x)) x (.ins C dx [])) (fun v H2 => v = .non ∧ Q (.ref x) H2) E) : tMake C sp dvs E tr σ H Q := h
/-! statements -/
theorem g_seq_asg {i : Nat} (h : te σ H fun x H1 => u D (σ.set i (some x)) H1) : tSeq (tAsg te (gName i)) u D σ H := h
theorem g_asg {i : Nat} (h : te σ H fun x H1 => D.nx (σ.set i (some x)) H1) : tAsg te (gName i) D σ H := h
theorem g_seq_asgT {g : TGs} {n : Nat} (h : te σ H fun x H1 => gTup K n g x σ H1 (u D)) : tSeq (tAsg te (gTup K n g)) u D σ H := h
theorem g_asgT {g : TGs} {n : Nat} (h : te σ H fun x H1 => gTup K n g x σ H1 D.nx) : tAsg te (gTup K n g) D σ H := h
theorem g_seq_if (h : tt σ H fun b H1 => if b = true then tSeq t u D σ H1 else tSeq w u D σ H1) : tSeq (tIfS tt t w) u D σ H := h
theorem g_if (h : tt σ H fun b H1 => if b = true then t D σ H1 else u D σ H1) : tIfS tt t u D σ H := h
theorem g_seq_next (h : u D σ H) : tSeq tNext u D σ H := h
theorem g_next (h : D.nx σ H) : tNext D σ H := h
theorem g_seq_ret (h : te σ H D.rt) : tSeq (tRet te) u D σ H := h
theorem g_ret (h : te σ H D.rt) : tRet te D σ H := h
theorem g_seq_seq (h : tSeq t (tSeq u w) D σ H) : tSeq (tSeq t u) w D σ H := h
theorem g_seq_drop (h : te σ H fun _ H1 => u D σ H1) : tSeq (tDrop te) u D σ H := h
theorem g_drop (h : te σ H fun _ H1 => D.nx σ H1) : tDrop te D σ H := h
theorem g_seq_par {i j : Nat} {tr : TA} (h : tr σ H fun vs H1 => ∃ v w, vs = [v, w] ∧ u D ((σ.set i (some v)).set j (some w)) H1) : tSeq (tPar i j tr) u D σ H := h
theorem g_par {i j : Nat} {tr : TA} (h : tr σ H fun vs H1 => ∃ v w, vs = [v, w] ∧ D.nx ((σ.set i (some v)).set j (some w)) H1) : tPar i j tr D σ H := h
theorem g_seq_bk (h : D.bk σ H) : tSeq tBreak u D σ H := h
theorem g_bk (h : D.bk σ H) : tBreak D σ H := h
theorem g_seq_ct (h : D.ct σ H) : tSeq tCont u D σ H := h
theorem g_ct (h : D.ct σ H) : tCont D σ H := h
theorem g_gn {i : Nat} {v : V} {R : L2.St → Hp → Prop} (h : R (σ.set i (some v)) H) : gName i v σ H R := h
theorem g_seq_for {wi : TI} {g : TG} (h : tFor wi g t { D with nx := u D } σ H) : tSeq (tFor wi g t) u D σ H := h
end
end Lp
namespace Lp
open PySem L2
/-! ## heaps that grow -/
theorem same_new {H : Hp} {p : Addr} {o : HO} (h : H p = none) : Same H (upd H p o) := fun b u e => by
  rw [upd_ne (ne_of_none e h)]; exact e
theorem same_upd {H H' : Hp} {p : Addr} {o : HO} (s : Same H H') (h : H p = none) : Same H (upd H' p o) := fun b u e => by
  rw [upd_ne (ne_of_none e h)]; exact s b u e
theorem same_to_new {H H' : Hp} {p : Addr} {o : HO} (s : Same H H') (h : H' p = none) : Same H (upd H' p o) := s.trans (same_new h)
/-- all but x is as it was -/
def But (x : Addr) (H H' : Hp) : Prop := ∀ b o, b ≠ x → H b = some o → H' b = some o
theorem But.same {x : Addr} {H H' : Hp} (s : Same H H') : But x H H' := fun b o _ e => s b o e
theorem But.trans {x : Addr} {H H1 H2 : Hp} (a : But x H H1) (b : But x H1 H2) : But x H H2 := fun c o n h => b c o n (a c o n h)
theorem but_upd {x : Addr} {H : Hp} {o : HO} : But x H (upd H x o) := fun b u n e => by rw [upd_ne n]; exact e
theorem SqL.same {K : PySem.W.Frag} {H H' : Hp} {a : Addr} {xs : List V} (h : SqL K H a xs) (e : Same H H') : SqL K H' a xs := e.seq h

/-! ## rows of pairs -/
abbrev Row := List (Int × Int)
inductive PairsAt (H : Hp) : List V → Row → Prop
  | nil : PairsAt H [] []
  | cons {q : Addr} {d r : Int} {xs : List V} {row : Row} : H q = some (.tup [.int d, .int r]) → PairsAt H xs row → PairsAt H (.ref q :: xs) ((d, r) :: row)
theorem PairsAt.len {H : Hp} : ∀ {xs : List V} {row : Row}, PairsAt H xs row → xs.length = row.length
  | _, _, .nil => rfl
  | _, _, .cons _ t => by rw [List.length_cons, List.length_cons, t.len]
theorem PairsAt.mono {H H' : Hp} (s : ∀ q ps, H q = some (.tup ps) → H' q = some (.tup ps)) : ∀ {xs : List V} {row : Row}, PairsAt H xs row → PairsAt H' xs row
  | _, _, .nil => .nil
  | _, _, .cons h t => .cons (s _ _ h) (t.mono s)
theorem PairsAt.app {H : Hp} : ∀ {xs ys : List V} {row row' : Row}, PairsAt H xs row → PairsAt H ys row' → PairsAt H (xs ++ ys) (row ++ row')
  | _, _, _, _, .nil, t => t
  | _, _, _, _, .cons h t, u => .cons h (t.app u)
theorem PairsAt.get {H : Hp} : ∀ {xs : List V} {row : Row} {i : Nat} {p : Int × Int}, PairsAt H xs row → row[i]? = some p → ∃ q, xs[i]? = some (.ref q) ∧ H q = some (.tup [.int p.1, .int p.2])
  | _, _, i, _, .nil, e => by simp at e
  | _, _, 0, _, .cons h t, e => by simp at e; subst e; exact ⟨_, rfl, h⟩
  | _, _, i + 1, _, .cons h t, e => by
    obtain ⟨q, h1, h2⟩ := t.get (i := i) (by simpa using e)
    exact ⟨q, by simpa using h1, h2⟩
theorem PairsAt.got {H : Hp} {xs : List V} {row : Row} {i : Nat} {v : V} (h : PairsAt H xs row) (e : xs[i]? = some v) : ∃ p q, row[i]? = some p ∧ v = .ref q ∧ H q = some (.tup [.int p.1, .int p.2]) := by
  have l : i < row.length := by rw [← h.len]; exact (List.getElem?_eq_some_iff.mp e).1
  obtain ⟨q, h1, h2⟩ := h.get (List.getElem?_eq_getElem l)
  rw [h1] at e
  exact ⟨_, q, List.getElem?_eq_getElem l, (Option.some.inj e).symm, h2⟩
theorem PairsAt.take {H : Hp} : ∀ {xs : List V} {row : Row} (n : Nat), PairsAt H xs row → PairsAt H (xs.take n) (row.take n)
  | _, _, 0, _ => .nil
  | _, _, _ + 1, .nil => .nil
  | _, _, n + 1, .cons h t => .cons h (t.take n)
theorem PairsAt.drop {H : Hp} : ∀ {xs : List V} {row : Row} (n : Nat), PairsAt H xs row → PairsAt H (xs.drop n) (row.drop n)
  | _, _, 0, h => h
  | _, _, _ + 1, .nil => .nil
  | _, _, n + 1, .cons h t => t.drop n
/-- a list at l of the row's pairs -/
def RowAt (H : Hp) (l : Addr) (row : Row) : Prop := ∃ xs, H l = some (.lst xs) ∧ PairsAt H xs row
theorem RowAt.same {H H' : Hp} {l : Addr} {row : Row} (h : RowAt H l row) (s : Same H H') : RowAt H' l row := by
  obtain ⟨xs, h1, h2⟩ := h
  exact ⟨xs, s _ _ h1, h2.mono fun q ps e => s _ _ e⟩
theorem RowAt.but {H H' : Hp} {l x : Addr} {row : Row} (h : RowAt H l row) (s : But x H H') (hl : l ≠ x) (hx : ∀ ps, H x ≠ some (.tup ps)) : RowAt H' l row := by
  obtain ⟨xs, h1, h2⟩ := h
  exact ⟨xs, s _ _ hl h1, h2.mono fun q ps e => s _ _ (fun z => hx ps (by rw [← z]; exact e)) e⟩
/-- one more pair at the list's end -/
theorem RowAt.snoc {H : Hp} {l q : Addr} {row : Row} {xs : List V} {d r : Int} (h2 : PairsAt H xs row) (hl : H l = some (.lst xs)) (hq : H q = some (.tup [.int d, .int r])) : RowAt (upd H l (.lst (xs ++ [.ref q]))) l (row ++ [(d, r)]) := by
  refine ⟨_, upd_same, ?_⟩
  have k : ∀ q ps, H q = some (.tup ps) → upd H l (.lst (xs ++ [.ref q])) q = some (.tup ps) := fun q ps e => by
    rw [upd_ne (ne_of e hl (by intro z; cases z))]; exact e
  refine PairsAt.app (h2.mono fun q ps e => ?_) (.cons ?_ .nil)
  · rw [upd_ne (ne_of e hl (by intro z; cases z))]; exact e
  · rw [upd_ne (ne_of hq hl (by intro z; cases z))]; exact hq
/-- the data that a row is -/
def rowD (row : Row) : PyData := .list (row.map fun p => .tuple [.int p.1, .int p.2])
theorem PairsAt.dp {K : PySem.W.Frag} {H : Hp} : ∀ {xs : List V} {row : Row}, PairsAt H xs row → DpAll K H xs (row.map fun p => .tuple [.int p.1, .int p.2])
  | _, _, .nil => .nil
  | _, _, .cons h t => .cons (.tup (SqT.of h) (.cons (.int _) (.cons (.int _) .nil))) t.dp
theorem RowAt.dp {K : PySem.W.Frag} {H : Hp} {l : Addr} {row : Row} (h : RowAt H l row) : Dp K H (.ref l) (rowD row) := by
  obtain ⟨xs, h1, h2⟩ := h
  exact .lst (SqL.of h1) h2.dp
theorem rowD_lay : ∀ row : Row, PyData.canLayAll0 (row.map fun p => PyData.tuple [.int p.1, .int p.2]) = true
  | [] => by simp [PyData.canLayAll0]
  | p :: r => by simp [PyData.canLayAll0, PyData.canLay0, rowD_lay r]
theorem rowD_dep : ∀ row : Row, PyData.depthAll (row.map fun p => PyData.tuple [.int p.1, .int p.2]) ≤ 3
  | [] => by simp [PyData.depthAll]
  | p :: r => by
    have := rowD_dep r
    simp only [List.map_cons, PyData.depthAll, PyData.depth]
    omega
theorem rowD_lay0 (row : Row) : (rowD row).canLay0 = true := by
  unfold rowD; simp only [PyData.canLay0]; exact rowD_lay row
theorem rowD_shaped (row : Row) : SeqAt.shaped (rowD row) = true := by
  have h1 := rowD_dep row
  have h2 : PyData.depth (rowD row) ≤ 64 := by unfold rowD; simp only [PyData.depth]; omega
  unfold SeqAt.shaped
  rw [Bool.and_eq_true]
  exact ⟨rowD_lay0 row, decide_eq_true h2⟩
section
variable {K : PySem.W.Frag} {H : Hp} {Q : VK}
theorem g_eqRow {a b : Addr} {row : Row} (ha : RowAt H a row) (hb : RowAt H b row) (q : Q (.bl true) H) : rEqD K (.ref a) (.ref b) H Q :=
  ⟨_, _, ha.dp, hb.dp, rowD_shaped _, rowD_shaped _, by rw [SeqAt.eqv_refl _ (rowD_lay0 _)]; exact q⟩
theorem g_neRow {a b : Addr} {row : Row} (ha : RowAt H a row) (hb : RowAt H b row) (q : Q (.bl false) H) : rNeD K (.ref a) (.ref b) H Q :=
  ⟨_, _, ha.dp, hb.dp, rowD_shaped _, rowD_shaped _, by rw [SeqAt.eqv_refl _ (rowD_lay0 _)]; exact q⟩
/-- len(list), list(list) -/
theorem g_len {p : Addr} {ys : List V} {n : Int} (h : SqL K H p ys) (e : (ys.length : Int) = n) (q : Q (.int n) H) : rLen K [.ref p] H Q := ⟨p, ys, rfl, .inl h, by rw [e]; exact q⟩
theorem g_lenT {p : Addr} {ys : List V} {n : Int} (h : SqT K H p ys) (e : (ys.length : Int) = n) (q : Q (.int n) H) : rLen K [.ref p] H Q := ⟨p, ys, rfl, .inr h, by rw [e]; exact q⟩
theorem g_listOf {p : Addr} {row : Row} (h : RowAt H p row) (q : ∀ l H', H l = none → Same H H' → RowAt H' l row → Q (.ref l) H') : rListOf K [.ref p] H Q := by
  obtain ⟨xs, h1, h2⟩ := h
  refine ⟨p, xs, rfl, .inl (SqL.of h1), fun l hl => q l _ hl (same_new hl) ⟨xs, upd_same, h2.mono fun q ps e => same_new hl _ _ e⟩⟩
theorem g_newT {xs : List V} (hl : xs.length ≤ 100) (h : ∀ p H', H p = none → Same H H' → H' p = some (.tup xs) → Q (.ref p) H') : NewT xs H Q :=
  ⟨Nat.le_trans hl (by decide), fun p hp => h p _ hp (same_new hp) upd_same⟩
theorem g_newL {xs : List V} (hl : xs.length ≤ 100) (h : ∀ p H', H p = none → Same H H' → H' p = some (.lst xs) → Q (.ref p) H') : NewL xs H Q :=
  ⟨Nat.le_trans hl (by decide), fun p hp => h p _ hp (same_new hp) upd_same⟩
theorem g_ixT {p : Addr} {xs : List V} {j : Nat} {v : V} (h : H p = some (.tup xs)) (e : xs[j]? = some v) (q : Q v H) : rIxT K (.ref p) (.int (j : Int)) H Q := ⟨p, xs, _, v, rfl, rfl, SqT.of h, atI_nat e, q⟩
theorem g_ixL {p : Addr} {xs : List V} {i : Int} {j : Nat} {v : V} (h : SqL K H p xs) (ei : i = (j : Int)) (e : xs[j]? = some v) (q : Q v H) : rIxL K (.ref p) (.int i) H Q := ⟨p, xs, _, v, rfl, rfl, h, by rw [ei]; exact atI_nat e, q⟩
/-- row[i] -/
theorem g_ixRow {p : Addr} {row : Row} {i : Int} {j : Nat} {d r : Int} (h : RowAt H p row) (ei : i = (j : Int)) (e : row[j]? = some (d, r)) (q : ∀ t, H t = some (.tup [.int d, .int r]) → Q (.ref t) H) : rIxL K (.ref p) (.int i) H Q := by
  obtain ⟨xs, h1, h2⟩ := h
  obtain ⟨t, e1, e2⟩ := h2.get e
  exact g_ixL (SqL.of h1) ei e1 (q t e2)
/-- row[-1] -/
theorem g_ixLast {p : Addr} {row : Row} {i : Int} {d r : Int} (h : RowAt H p row) (ei : i = -1) (e : row.getLast? = some (d, r)) (q : ∀ t, H t = some (.tup [.int d, .int r]) → Q (.ref t) H) : rIxL K (.ref p) (.int i) H Q := by
  obtain ⟨xs, h1, h2⟩ := h
  rw [List.getLast?_eq_getElem?] at e
  obtain ⟨t, e1, e2⟩ := h2.get e
  have n := h2.len
  have hn : row.length - 1 < row.length := by
    have := (List.getElem?_eq_some_iff.mp e).1; exact this
  have e3 : xs.getLast? = some (.ref t) := by rw [List.getLast?_eq_getElem?, n]; exact e1
  obtain ⟨ys, ex⟩ := List.getLast?_eq_some_iff.mp e3
  refine ⟨p, xs, i, .ref t, rfl, rfl, SqL.of h1, ?_, q t e2⟩
  rw [ei, ex]
  exact atI_last _ _
/-- len(row) -/
theorem g_lenRow {p : Addr} {row : Row} {n : Int} (h : RowAt H p row) (e : (row.length : Int) = n) (q : Q (.int n) H) : rLen K [.ref p] H Q := by
  obtain ⟨xs, h1, h2⟩ := h
  exact g_len (SqL.of h1) (by rw [h2.len]; exact e) q
theorem g_max2 {a b : Int} (q : Q (.int (max a b)) H) : rMax2 [.int a, .int b] H Q := ⟨a, b, rfl, by
  have e : (if b > a then b else a) = max a b := by split <;> omega
  rw [e]; exact q⟩
theorem g_min2 {a b : Int} (q : Q (.int (min a b)) H) : rMin2 [.int a, .int b] H Q := ⟨a, b, rfl, by
  have e : (if b < a then b else a) = min a b := by split <;> omega
  rw [e]; exact q⟩
/-- for a, b in a pair's tuple -/
theorem g_unp2 {σ : L2.St} {i j : Nat} {p : Addr} {v w : V} {R : L2.St → Hp → Prop} (h : H p = some (.tup [v, w])) (q : R ((σ.set i (some v)).set j (some w)) H) : gTup K 2 (gCons (gName i) (gCons (gName j) gNil)) (.ref p) σ H R :=
  ⟨p, [v, w], rfl, SqT.of h, rfl, v, [w], rfl, w, [], rfl, rfl, q⟩
/-- isinstance(int, int), (int, bool) -/
theorem g_isInt {a : Int} (q : Q (.bl true) H) : rIsi K [.int a, .ty "int"] H Q := ⟨_, _, _, _, true, rfl, .ty _, .base (.int a), kit_ty (by decide +kernel), q⟩
theorem g_isBool {a : Int} (q : Q (.bl false) H) : rIsi K [.int a, .ty "bool"] H Q := ⟨_, _, _, _, false, rfl, .ty _, .base (.int a), kit_ty (by decide +kernel), q⟩
theorem g_isTup {p : Addr} {xs : List V} (h : H p = some (.tup xs)) (q : Q (.bl true) H) : rIsi K [.ref p, .ty "tuple"] H Q := ⟨_, _, _, _, true, rfl, .ty _, .base (.tup h), kit_ty (by decide +kernel), q⟩
theorem g_isLst {p : Addr} {xs : List V} (h : H p = some (.lst xs)) (q : Q (.bl true) H) : rIsi K [.ref p, .ty "list"] H Q := ⟨_, _, _, _, true, rfl, .ty _, .base (.lst h), kit_ty (by decide +kernel), q⟩
end
/-! ## an int's product of any size within the script's bits -/
section
variable {X : Cx}
theorem op_mulX : OpR X (binaryOp .Mult) (rI IntMulOk fun i j => .int (i * j)) := opI fun _ _ _ _ _ _ _ hc q => PyProof.Rows.mul_int q hc
end
end Lp
namespace Lp
/-! ## the numbers: plain Lean -/
abbrev Pairs := List (Int × Int)
def cellAt (ns : List Int) (k : Int) : Int := ns.getD k.toNat 0
def mixed (c m : Int) : Int := (c * 48271 + 12345) % 2147483647 % m
def rateBy (c : Int) : Int := if c % 5 = 0 then [0, 1, 99999, 100000].getD (c / 5 % 4).toNat 0 else if c % 5 = 1 then c / 5 % 400 else mixed c 100001
theorem mixed_lo {c m : Int} (h : 0 < m) : 0 ≤ mixed c m := Int.emod_nonneg _ (by omega)
theorem mixed_hi {c m : Int} (h : 0 < m) : mixed c m < m := Int.emod_lt_of_pos _ h
theorem rateBy_ok (c : Int) : 0 ≤ rateBy c ∧ rateBy c ≤ 100000 := by
  unfold rateBy
  split
  · have h : c / 5 % 4 = 0 ∨ c / 5 % 4 = 1 ∨ c / 5 % 4 = 2 ∨ c / 5 % 4 = 3 := by omega
    rcases h with h | h | h | h <;> rw [h] <;> decide
  · split
    · omega
    · have := mixed_lo (c := c) (m := 100001) (by decide)
      have := mixed_hi (c := c) (m := 100001) (by decide)
      omega
def lastDay (row : Pairs) : Int := (row.getLast?.getD (0, 0)).1
def lastRate (row : Pairs) : Int := (row.getLast?.getD (0, 0)).2
/-- the row with n more pairs behind the first -/
def rowN (c w : Int) : Nat → Pairs
  | 0 => [(0, rateBy c)]
  | n + 1 => rowN c w n ++ [(lastDay (rowN c w n) + 1 + mixed (c + 13 * (1 + (n : Int))) w, rateBy (c / 7 + 31 * (1 + (n : Int))))]
def rowBy (c m w : Int) : Pairs := rowN c w (m - 1).toNat
theorem last_snoc {α : Type} (l : List α) (x : α) : (l ++ [x]).getLast? = some x := by simp
theorem rowN_len (c w : Int) : ∀ n, (rowN c w n).length = n + 1
  | 0 => rfl
  | n + 1 => by rw [rowN, List.length_append, rowN_len c w n]; rfl
theorem rowN_last (c w : Int) (n : Nat) : ∃ d r, (rowN c w n).getLast? = some (d, r) ∧ lastDay (rowN c w n) = d ∧ lastRate (rowN c w n) = r := by
  cases n with
  | zero => exact ⟨0, rateBy c, rfl, rfl, rfl⟩
  | succ n =>
    refine ⟨_, _, by rw [rowN]; exact last_snoc _ _, ?_, ?_⟩
    · unfold lastDay; rw [rowN, last_snoc]; rfl
    · unfold lastRate; rw [rowN, last_snoc]; rfl
/-- a good row: it begins with day 0, days grow, rates are in bounds -/
structure RowOk (row : Pairs) : Prop where
  head : ∃ r t, row = (0, r) :: t
  asc : row.Pairwise fun p q => p.1 < q.1
  rate : ∀ p ∈ row, 0 ≤ p.2 ∧ p.2 ≤ 100000
theorem RowOk.ne {row : Pairs} (h : RowOk row) : row ≠ [] := by obtain ⟨r, t, e⟩ := h.head; rw [e]; simp
theorem RowOk.pos {row : Pairs} (h : RowOk row) : 0 < row.length := List.length_pos_iff.mpr h.ne
theorem lastDay_snoc (row : Pairs) (p : Int × Int) : lastDay (row ++ [p]) = p.1 := by unfold lastDay; rw [last_snoc]; rfl
theorem lastRate_snoc (row : Pairs) (p : Int × Int) : lastRate (row ++ [p]) = p.2 := by unfold lastRate; rw [last_snoc]; rfl
theorem RowOk.le_last {row : Pairs} (h : row.Pairwise fun p q => p.1 < q.1) : ∀ p ∈ row, p.1 ≤ lastDay row := by
  rcases List.eq_nil_or_concat row with e | ⟨l, x, e⟩
  · subst e; intro p hp; cases hp
  · rw [List.concat_eq_append] at e
    subst e
    intro p hp
    rw [lastDay_snoc]
    rcases List.mem_append.mp hp with hp | hp
    · exact Int.le_of_lt ((List.pairwise_append.mp h).2.2 p hp x (by simp))
    · have e : p = x := by simpa using hp
      rw [e]; exact Int.le_refl _
theorem RowOk.snoc {row : Pairs} (h : RowOk row) {d r : Int} (hd : lastDay row < d) (h0 : 0 ≤ r) (h1 : r ≤ 100000) : RowOk (row ++ [(d, r)]) := by
  obtain ⟨a, t, e⟩ := h.head
  refine ⟨⟨a, t ++ [(d, r)], by rw [e]; rfl⟩, ?_, ?_⟩
  · refine List.pairwise_append.mpr ⟨h.asc, by simp, fun p hp q hq => ?_⟩
    have e : q = (d, r) := by simpa using hq
    rw [e]
    exact Int.lt_of_le_of_lt (RowOk.le_last h.asc p hp) hd
  · intro p hp
    rcases List.mem_append.mp hp with hp | hp
    · exact h.rate p hp
    · have e : p = (d, r) := by simpa using hp
      rw [e]; exact ⟨h0, h1⟩
theorem rowN_ok (c : Int) {w : Int} (hw : 0 < w) : ∀ n, RowOk (rowN c w n)
  | 0 => ⟨⟨_, _, rfl⟩, by simp [rowN], fun p hp => by
      have e : p = (0, rateBy c) := by simpa [rowN] using hp
      rw [e]; exact rateBy_ok c⟩
  | n + 1 => by
    rw [rowN]
    have := mixed_lo (c := c + 13 * (1 + (n : Int))) hw
    exact (rowN_ok c hw n).snoc (by omega) (rateBy_ok _).1 (rateBy_ok _).2
theorem rowN_day (c : Int) {w : Int} (hw : 0 < w) : ∀ n : Nat, 0 ≤ lastDay (rowN c w n) ∧ lastDay (rowN c w n) ≤ (n : Int) * w
  | 0 => by simp [rowN, lastDay]
  | n + 1 => by
    have ih := rowN_day c hw n
    rw [rowN, lastDay_snoc]
    have h1 := mixed_lo (c := c + 13 * (1 + (n : Int))) hw
    have h2 := mixed_hi (c := c + 13 * (1 + (n : Int))) hw
    have e : ((n + 1 : Nat) : Int) * w = (n : Int) * w + w := by
      rw [Int.natCast_succ, Int.add_mul, Int.one_mul]
    constructor
    · show 0 ≤ lastDay (rowN c w n) + 1 + mixed (c + 13 * (1 + (n : Int))) w
      omega
    · show lastDay (rowN c w n) + 1 + mixed (c + 13 * (1 + (n : Int))) w ≤ ((n + 1 : Nat) : Int) * w
      rw [e]; omega
/-! ### the rate of a day -/
def rateOf (row : Pairs) (d : Int) : Int := row.foldl (fun f p => if p.1 ≤ d then p.2 else f) 0
theorem rateOf_snoc (row : Pairs) (p : Int × Int) (d : Int) : rateOf (row ++ [p]) d = if p.1 ≤ d then p.2 else rateOf row d := by
  unfold rateOf; rw [List.foldl_append]; rfl
theorem take_snoc {α : Type} {l : List α} {i : Nat} {x : α} (h : l[i]? = some x) : l.take (i + 1) = l.take i ++ [x] := by
  rw [List.take_succ, h]; rfl
theorem rateOf_take {row : Pairs} {i : Nat} {p : Int × Int} (h : row[i]? = some p) (d : Int) : rateOf (row.take (i + 1)) d = if p.1 ≤ d then p.2 else rateOf (row.take i) d := by
  rw [take_snoc h, rateOf_snoc]
/-- from the last pair back: all pairs from the n-th on are later -/
theorem rateOf_back {row : Pairs} (h : row.Pairwise fun p q => p.1 < q.1) {d : Int} : ∀ (k n : Nat), n + k = row.length → (∀ j p, n ≤ j → row[j]? = some p → d < p.1) → rateOf row d = rateOf (row.take n) d
  | 0, n, e, _ => by
    have e2 : row.take n = row := by rw [List.take_of_length_le (by omega)]
    rw [e2]
  | k + 1, n, e, hl => by
    have hn : n < row.length := by omega
    have ih := rateOf_back h k (n + 1) (by omega) (fun j p hj hp => hl j p (by omega) hp)
    rw [ih, rateOf_take (List.getElem?_eq_getElem hn)]
    have := hl n _ (Nat.le_refl _) (List.getElem?_eq_getElem hn)
    rw [if_neg (by omega)]
end Lp
namespace Lp
theorem rowBy_len {c m w : Int} (h : 1 ≤ m) : ((rowBy c m w).length : Int) = m := by
  unfold rowBy; rw [rowN_len]; omega
theorem rowBy_ok {c m w : Int} (h : 0 < w) : RowOk (rowBy c m w) := rowN_ok c h _
theorem row_at {row : Pairs} {i : Int} (h0 : 0 ≤ i) (h1 : i < row.length) : ∃ d r, row[i.toNat]? = some (d, r) ∧ i = (i.toNat : Int) :=
  ⟨_, _, List.getElem?_eq_getElem (by omega), by omega⟩
theorem row_0 {row : Pairs} (h : RowOk row) : ∃ r, row[0]? = some (0, r) := by
  obtain ⟨r, t, e⟩ := h.head; rw [e]; exact ⟨r, rfl⟩
end Lp
namespace Lp
theorem rowN_days (c : Int) {w : Int} (hw : 0 < w) (n : Nat) : ∀ p ∈ rowN c w n, 0 ≤ p.1 ∧ p.1 ≤ (n : Int) * w := by
  intro p hp
  have ok := rowN_ok c hw n
  have h1 := RowOk.le_last ok.asc p hp
  have h2 := rowN_day c hw n
  refine ⟨?_, by omega⟩
  obtain ⟨r, t, e⟩ := ok.head
  rw [e] at hp
  rcases List.mem_cons.mp hp with z | z
  · rw [z]; exact Int.le_refl _
  · have := ok.asc
    rw [e] at this
    exact Int.le_of_lt ((List.pairwise_cons.mp this).1 p z)
theorem rowBy_day {c m w : Int} (hw : 0 < w) (hm : 1 ≤ m) : ∀ p ∈ rowBy c m w, 0 ≤ p.1 ∧ p.1 ≤ (m - 1) * w := by
  intro p hp
  have h := rowN_days c hw (m - 1).toNat p hp
  have e : ((m - 1).toNat : Int) = m - 1 := by omega
  rw [e] at h
  exact h
theorem RowOk.nonneg {row : Pairs} (ok : RowOk row) : ∀ p ∈ row, 0 ≤ p.1 := by
  intro p hp
  obtain ⟨r, t, e⟩ := ok.head
  rw [e] at hp
  rcases List.mem_cons.mp hp with z | z
  · rw [z]; exact Int.le_refl _
  · have := ok.asc
    rw [e] at this
    exact Int.le_of_lt ((List.pairwise_cons.mp this).1 p z)
end Lp
namespace Lp
/-! ## stretches of days -/
def sumDays (row : Pairs) (s : Int) : Nat → Int
  | 0 => 0
  | n + 1 => sumDays row s n + rateOf row (s + 1 + (n : Int))
def grownF (row : Pairs) (s e : Int) : Int := sumDays row s (e - s).toNat
theorem sumDays_add (row : Pairs) (s : Int) (m : Nat) : ∀ n, sumDays row s (m + n) = sumDays row s m + sumDays row (s + m) n
  | 0 => by simp [sumDays]
  | n + 1 => by
    have ih := sumDays_add row s m n
    show sumDays row s (m + n) + rateOf row (s + 1 + ((m + n : Nat) : Int)) = sumDays row s m + (sumDays row (s + m) n + rateOf row (s + m + 1 + (n : Int)))
    have e : s + 1 + ((m + n : Nat) : Int) = s + m + 1 + (n : Int) := by omega
    rw [ih, e]; omega
theorem sumDays_congr {r1 r2 : Pairs} {s : Int} : ∀ {n : Nat}, (∀ d, s < d → d ≤ s + n → rateOf r1 d = rateOf r2 d) → sumDays r1 s n = sumDays r2 s n
  | 0, _ => rfl
  | n + 1, h => by
    show sumDays r1 s n + _ = sumDays r2 s n + _
    rw [sumDays_congr (n := n) (fun d h1 h2 => h d h1 (by omega)), h (s + 1 + n) (by omega) (by omega)]
theorem sumDays_const {r : Pairs} {s c : Int} : ∀ {n : Nat}, (∀ d, s < d → d ≤ s + n → rateOf r d = c) → sumDays r s n = c * n
  | 0, _ => by simp [sumDays]
  | n + 1, h => by
    show sumDays r s n + _ = _
    rw [sumDays_const (n := n) (fun d h1 h2 => h d h1 (by omega)), h (s + 1 + n) (by omega) (by omega), Int.natCast_succ, Int.mul_add, Int.mul_one]
theorem grownF_same (row : Pairs) (s : Int) : grownF row s s = 0 := by unfold grownF; rw [Int.sub_self]; rfl
theorem grownF_split (row : Pairs) {s m e : Int} (h1 : s ≤ m) (h2 : m ≤ e) : grownF row s e = grownF row s m + grownF row m e := by
  unfold grownF
  have e1 : (e - s).toNat = (m - s).toNat + (e - m).toNat := by omega
  have e2 : s + ((m - s).toNat : Int) = m := by omega
  rw [e1, sumDays_add, e2]
theorem grownF_congr {r1 r2 : Pairs} {s e : Int} (h : ∀ d, s < d → d ≤ e → rateOf r1 d = rateOf r2 d) : grownF r1 s e = grownF r2 s e := by
  unfold grownF
  by_cases c : s ≤ e
  · exact sumDays_congr fun d h1 h2 => h d h1 (by omega)
  · have z : (e - s).toNat = 0 := by omega
    rw [z]; rfl
theorem grownF_const {r : Pairs} {s e c : Int} (hs : s ≤ e) (h : ∀ d, s < d → d ≤ e → rateOf r d = c) : grownF r s e = c * (e - s) := by
  unfold grownF
  rw [sumDays_const (c := c) fun d h1 h2 => h d h1 (by omega)]
  have e1 : ((e - s).toNat : Int) = e - s := by omega
  rw [e1]
theorem grownF_nil (s e : Int) : grownF [] s e = 0 := by
  by_cases c : s ≤ e
  · rw [grownF_const (c := 0) c fun d _ _ => rfl, Int.zero_mul]
  · unfold grownF
    have z : (e - s).toNat = 0 := by omega
    rw [z]; rfl
/-- one more pair behind: the days from its own on are its -/
theorem grownF_snoc (l : Pairs) (p : Int × Int) {s u : Int} (h : s ≤ u) : grownF (l ++ [p]) s u = if max s (p.1 - 1) < u then grownF l s (max s (p.1 - 1)) + p.2 * (u - max s (p.1 - 1)) else grownF l s u := by
  split
  · rename_i c
    rw [grownF_split (l ++ [p]) (m := max s (p.1 - 1)) (by omega) (by omega)]
    have a1 : grownF (l ++ [p]) s (max s (p.1 - 1)) = grownF l s (max s (p.1 - 1)) := grownF_congr fun d h1 h2 => by rw [rateOf_snoc, if_neg (by omega)]
    have a2 : grownF (l ++ [p]) (max s (p.1 - 1)) u = p.2 * (u - max s (p.1 - 1)) := grownF_const (by omega) fun d h1 h2 => by rw [rateOf_snoc, if_pos (by omega)]
    rw [a1, a2]
  · rename_i c
    exact grownF_congr fun d h1 h2 => by rw [rateOf_snoc, if_neg (by omega)]
theorem rateOf_late {row : Pairs} (h : row.Pairwise fun p q => p.1 < q.1) (hn : row ≠ []) {d : Int} (hd : lastDay row ≤ d) : rateOf row d = lastRate row := by
  rcases List.eq_nil_or_concat row with e | ⟨l, x, e⟩
  · exact absurd e hn
  · rw [List.concat_eq_append] at e
    subst e
    rw [lastDay_snoc] at hd
    rw [rateOf_snoc, if_pos hd, lastRate_snoc]
/-- .. told by how much its rate is more -/
theorem grownF_more {l : Pairs} (ha : l.Pairwise fun p q => p.1 < q.1) (hn : l ≠ []) {p : Int × Int} (hp : lastDay l < p.1) {s e : Int} (h : s ≤ e) :
    grownF (l ++ [p]) s e = if 0 < e - max s (p.1 - 1) then grownF l s e + (p.2 - lastRate l) * (e - max s (p.1 - 1)) else grownF l s e := by
  rw [grownF_snoc l p h]
  by_cases c : max s (p.1 - 1) < e
  · rw [if_pos c, if_pos (by omega), grownF_split l (m := max s (p.1 - 1)) (by omega) (by omega) (e := e)]
    have a1 : grownF l (max s (p.1 - 1)) e = lastRate l * (e - max s (p.1 - 1)) := grownF_const (by omega) fun d h1 h2 => rateOf_late ha hn (by omega)
    rw [a1, Int.sub_mul]
    omega
  · rw [if_neg c, if_neg (by omega)]
theorem grownF_one {r s e : Int} (h0 : 0 ≤ s) (h : s ≤ e) : grownF [(0, r)] s e = r * (e - s) := grownF_const h fun d h1 h2 => by
  show (if (0 : Int) ≤ d then r else 0) = r
  rw [if_pos (by omega)]
theorem rateOf_bounds {row : Pairs} (h : ∀ p ∈ row, 0 ≤ p.2 ∧ p.2 ≤ 100000) (d : Int) : 0 ≤ rateOf row d ∧ rateOf row d ≤ 100000 := by
  rcases List.eq_nil_or_concat row with e | ⟨l, x, e⟩
  · subst e; exact ⟨Int.le_refl _, show (0 : Int) ≤ 100000 by decide⟩
  · rw [List.concat_eq_append] at e
    subst e
    rw [rateOf_snoc]
    split
    · exact h x (by simp)
    · exact rateOf_bounds (fun p hp => h p (by simp [hp])) d
termination_by row.length
decreasing_by subst e; simp
theorem sumDays_bounds {row : Pairs} (h : ∀ p ∈ row, 0 ≤ p.2 ∧ p.2 ≤ 100000) (s : Int) : ∀ n : Nat, 0 ≤ sumDays row s n ∧ sumDays row s n ≤ 100000 * n
  | 0 => by simp [sumDays]
  | n + 1 => by
    have ih := sumDays_bounds h s n
    have b := rateOf_bounds h (s + 1 + n)
    show 0 ≤ sumDays row s n + _ ∧ sumDays row s n + _ ≤ _
    omega
theorem grownF_bounds {row : Pairs} (h : ∀ p ∈ row, 0 ≤ p.2 ∧ p.2 ≤ 100000) {s e : Int} (hs : s ≤ e) : 0 ≤ grownF row s e ∧ grownF row s e ≤ 100000 * (e - s) := by
  have b := sumDays_bounds h s (e - s).toNat
  unfold grownF
  omega
theorem lastRate_take {row : Pairs} {i : Nat} {p : Int × Int} (h : row[i]? = some p) : lastRate (row.take (i + 1)) = p.2 := by rw [take_snoc h, lastRate_snoc]
theorem lastDay_take {row : Pairs} {i : Nat} {p : Int × Int} (h : row[i]? = some p) : lastDay (row.take (i + 1)) = p.1 := by rw [take_snoc h, lastDay_snoc]
/-- the k-th pair behind the k first -/
theorem grownF_take {row : Pairs} (ok : RowOk row) {k : Nat} {p q : Int × Int} (hp : row[k]? = some p) (hq : row[k + 1]? = some q) {s e : Int} (h : s ≤ e) :
    grownF (row.take (k + 2)) s e = if 0 < e - max s (q.1 - 1) then grownF (row.take (k + 1)) s e + (q.2 - p.2) * (e - max s (q.1 - 1)) else grownF (row.take (k + 1)) s e := by
  have a : (row.take (k + 1)).Pairwise fun p q => p.1 < q.1 := ok.asc.sublist (List.take_sublist _ _)
  have n : row.take (k + 1) ≠ [] := by rw [take_snoc hp]; simp
  have l : lastDay (row.take (k + 1)) < q.1 := by
    rw [lastDay_take hp]
    obtain ⟨h1, e1⟩ := List.getElem?_eq_some_iff.mp hp
    obtain ⟨h2, e2⟩ := List.getElem?_eq_some_iff.mp hq
    have := List.pairwise_iff_getElem.mp ok.asc k (k + 1) h1 h2 (by omega)
    rw [e1, e2] at this
    exact this
  rw [take_snoc hq, grownF_more a n l h, lastRate_take hp]
theorem grownF_succ (row : Pairs) {s e : Int} (h : s ≤ e) : grownF row s (e + 1) = grownF row s e + rateOf row (e + 1) := by
  rw [grownF_split row h (show e ≤ e + 1 by omega), grownF_const (r := row) (s := e) (e := e + 1) (c := rateOf row (e + 1)) (by omega) fun d h1 h2 => by rw [show d = e + 1 by omega]]
  rw [show e + 1 - e = 1 by omega, Int.mul_one]
end Lp
namespace Lp
/-! ## rows looked at, loans, payments -/
/-- the first fault behind a day: some true: the day, some false: the rate -/
def chk : Int → Pairs → Option Bool
  | _, [] => none
  | a, (d, r) :: t => if d ≤ a ∨ 100000 < d then some true else if r < 0 ∨ 100000 < r then some false else chk d t
def checkF (row : Pairs) : Option Bool := match row with
  | [] => some true
  | (d, r) :: t => if d ≠ 0 then some true else chk (-1) ((d, r) :: t)
theorem chk_ok : ∀ {row : Pairs} {a : Int}, (∀ p ∈ row, a < p.1 ∧ p.1 ≤ 100000 ∧ 0 ≤ p.2 ∧ p.2 ≤ 100000) → row.Pairwise (fun p q => p.1 < q.1) → chk a row = none
  | [], _, _, _ => rfl
  | (d, r) :: t, a, h, hp => by
    have h1 := h (d, r) (by simp)
    dsimp only at h1
    rw [chk, if_neg (by omega), if_neg (by omega)]
    have hq := List.pairwise_cons.mp hp
    exact chk_ok (fun p m => ⟨hq.1 p m, (h p (by simp [m])).2⟩) hq.2
theorem checkF_ok {row : Pairs} (ok : RowOk row) (hl : lastDay row ≤ 100000) : checkF row = none := by
  obtain ⟨r, t, e⟩ := ok.head
  have h : chk (-1) row = none := chk_ok (fun p m => ⟨by have := ok.nonneg p m; omega, Int.le_trans (RowOk.le_last ok.asc p m) hl, ok.rate p m⟩) ok.asc
  rw [e] at h ⊢
  show (if (0 : Int) ≠ 0 then some true else chk (-1) ((0, r) :: t)) = none
  rw [if_neg (by simp)]
  exact h
/-- cents owed -/
def owedF (l b : Int) : Int := l + (b + 999999) / 1000000
theorem owedF_eq (l b : Int) : l + (b + 1000000 - 1) / 1000000 = owedF l b := by unfold owedF; rw [show b + 1000000 - 1 = b + 999999 by omega]
/-- the parts of a payment: interest, off, what is left, what is begun -/
def pInt (l b c : Int) : Int := if c = owedF l b then owedF l b - l else min c (b / 1000000)
def pOff (l b c : Int) : Int := if c = owedF l b then l else c - min c (b / 1000000)
def pLeft (l b c : Int) : Int := if c = owedF l b then 0 else l - (c - min c (b / 1000000))
def pBegun (l b c : Int) : Int := if c = owedF l b then 0 else b - 1000000 * min c (b / 1000000)
theorem pSum (l b c : Int) : pInt l b c + pOff l b c = c := by unfold pInt pOff; split <;> omega
theorem pLeft_off (l b c : Int) : pLeft l b c = l - pOff l b c := by unfold pLeft pOff; split <;> omega
theorem pBegun_ok {l b c : Int} (hb : 0 ≤ b) (hc : 0 ≤ c) : 0 ≤ pBegun l b c ∧ pBegun l b c ≤ b := by unfold pBegun; split <;> omega
theorem pLeft_ok {l b c : Int} (hl : 0 ≤ l) (hb : 0 ≤ b) (h1 : 1 ≤ c) (h2 : c ≤ owedF l b) : 0 ≤ pLeft l b c ∧ pLeft l b c ≤ l := by
  unfold owedF at h2
  unfold pLeft owedF
  split <;> omega
/-! ### amounts -/
def amountBy (c : Int) : Int := if c % 4 = 0 then [1, 2, 999999999999, 1000000000000].getD (c / 4 % 4).toNat 0 else if c % 4 = 1 then 1 + c / 4 % 5000 else 1 + (mixed c 2147483647 * 467 + 5) % 1000000000000
theorem amountBy_ok (c : Int) : 1 ≤ amountBy c ∧ amountBy c ≤ 1000000000000 := by
  unfold amountBy
  split
  · have h : c / 4 % 4 = 0 ∨ c / 4 % 4 = 1 ∨ c / 4 % 4 = 2 ∨ c / 4 % 4 = 3 := by omega
    rcases h with h | h | h | h <;> rw [h] <;> decide
  · split <;> omega
def centsBy (c l b : Int) : Int := if c % 8 < 7 then min (max 1 ([1, b / 1000000, b / 1000000 - 1, b / 1000000 + 1, owedF l b - 1, owedF l b, l].getD (c % 8).toNat 0)) (owedF l b) else 1 + mixed c 2147483647 * 467 % owedF l b
theorem centsBy_ok {c l b : Int} (ho : 1 ≤ owedF l b) : 1 ≤ centsBy c l b ∧ centsBy c l b ≤ owedF l b := by
  unfold centsBy
  split
  · omega
  · have h1 := Int.emod_nonneg (mixed c 2147483647 * 467) (b := owedF l b) (by omega)
    have h2 := Int.emod_lt_of_pos (mixed c 2147483647 * 467) (b := owedF l b) (by omega)
    omega
end Lp
namespace Lp
/-- the days of the first rate at once -/
theorem walk_first {row : Pairs} (ok : RowOk row) {r0 : Int} {t : Pairs} (e : row = (0, r0) :: t) {d f : Int} (h0 : 0 ≤ d) (h : d ≤ f) (hf : ∀ p ∈ t, f < p.1) : grownF row d f = r0 * (f - d) := by
  refine grownF_const h fun k h1 h2 => ?_
  have e2 : row = row.take 1 ++ t := by rw [e]; rfl
  have h3 := rateOf_back ok.asc (d := k) t.length 1 (by rw [e]; simp; omega) (fun j p hj hp => by
    have m : p ∈ t := by
      obtain ⟨m, rfl⟩ : ∃ m, j = m + 1 := ⟨j - 1, by omega⟩
      rw [e] at hp
      exact List.mem_of_getElem? (show t[m]? = some p from hp)
    have := hf p m
    omega)
  rw [h3, e]
  show (if (0 : Int) ≤ k then r0 else 0) = r0
  rw [if_pos (by omega)]
def cents8 (c l b : Int) : Int := if c % 9 < 5 then min (max 1 ([1, owedF l b, b / 1000000, owedF l b / 2, owedF l b - 1].getD (c % 9).toNat 0)) (owedF l b) else 1 + mixed c 2147483647 * 467 % max 1 (owedF l b / (1 + c % 7))
theorem cents8_ok {c l b : Int} (ho : 1 ≤ owedF l b) : 1 ≤ cents8 c l b ∧ cents8 c l b ≤ owedF l b := by
  unfold cents8
  split
  · omega
  · generalize owedF l b = o at ho
    have h1 := Int.emod_nonneg (mixed c 2147483647 * 467) (b := max 1 (o / (1 + c % 7))) (by omega)
    have h2 := Int.emod_lt_of_pos (mixed c 2147483647 * 467) (b := max 1 (o / (1 + c % 7))) (by omega)
    have h3 : o / (1 + c % 7) ≤ o := Int.ediv_le_self _ (by omega)
    omega
end Lp
namespace Lp
open PySem L2
section
variable {σ : L2.St} {H : Hp} {Q : VK} {E : XK} {D : Ends} {K : PySem.W.Frag} {te ta tb : TE} {tt tu : TT} {t u w : TS}
/-! ## objects that are made, lists that grow -/
theorem g_tyL {l : Addr} {xs : List V} {R : Prop} (h : H l = some (.lst xs)) (q : R) : tyV K "list" (.ref l) H ∧ R := ⟨.inl ⟨rfl, _, SqL.of h⟩, q⟩
theorem g_append {l : Addr} {xs : List V} {y : V} (h : H l = some (.lst xs)) (hz : xs.length ≤ 100000) (q : Q .non (upd H l (.lst (xs ++ [y])))) : rAppend (.ref l) [y] H Q :=
  ⟨l, xs, y, rfl, rfl, h, Nat.lt_of_le_of_lt hz (by decide), q⟩
theorem g_cat {l b : Addr} {xs zs : List V} (h1 : H l = some (.lst xs)) (h2 : H b = some (.lst zs)) (hz : xs.length + zs.length ≤ 100000) (q : ∀ p H', H p = none → Same H H' → H' p = some (.lst (xs ++ zs)) → Q (.ref p) H') : rCat (.ref l) (.ref b) H Q :=
  ⟨l, b, xs, zs, rfl, rfl, h1, h2, Nat.le_trans hz (by decide), fun p hp => q p _ hp (same_new hp) upd_same⟩
theorem g_sorted {l : Addr} {ns : List Int} (h : SqL K H l (ns.map V.int)) (hz : ns.length < 64) (q : ∀ (ms : List Int) p H', ms.Perm ns → ms.Pairwise (· ≤ ·) → H p = none → Same H H' → H' p = some (.lst (ms.map V.int)) → Q (.ref p) H') : rSorted K [.ref l] H Q :=
  ⟨l, ns, rfl, h, hz, fun ms p h1 h2 h3 => q ms p _ h1 h2 h3 (same_new h3) upd_same⟩
theorem g_intB {b : Bool} (q : Q (.int (if b = true then 1 else 0)) H) : rInt1 [.bl b] H Q := .inr ⟨b, rfl, q⟩
theorem g_intI {i : Int} (q : Q (.int i) H) : rInt1 [.int i] H Q := .inl ⟨i, rfl, q⟩
/-! ## loops -/
theorem g_forL {i : Nat} {a : Addr} {xs : List V} {g : TG} (hv : σ[i]? = some (some (.ref a))) (hx : SqL K H a xs) (Pv : L2.St → Nat → L2.St → Hp → Prop) (h0 : Pv σ 0 σ H) (hl : ∀ i σ' H', i ≤ xs.length → Pv σ i σ' H' → SqL K H' a xs)
    (hs : ∀ i x σ' H', xs[i]? = some x → Pv σ i σ' H' → g x σ' H' fun σ2 H2 => t { D with nx := Pv σ (i + 1), ct := Pv σ (i + 1), bk := D.nx } σ2 H2) (hd : ∀ σ' H', Pv σ xs.length σ' H' → D.nx σ' H') : tFor (iList K (tVar i)) g t D σ H :=
  ⟨_, hv, a, rfl, ⟨xs, hx⟩, for_list (Pv σ) h0 hl hs hd⟩
/-- for over reversed(name) -/
theorem g_forRev {i : Nat} {a : Addr} {xs : List V} {g : TG} (hv : σ[i]? = some (some (.ref a))) (hx : SqL K H a xs) (Pv : L2.St → Nat → L2.St → Hp → Prop) (h0 : Pv σ 0 σ H) (hl : ∀ i σ' H', Pv σ i σ' H' → SqL K H' a xs)
    (hs : ∀ i x σ' H', i < xs.length → xs[xs.length - 1 - i]? = some x → Pv σ i σ' H' → g x σ' H' fun σ2 H2 => t { D with nx := Pv σ (i + 1), ct := Pv σ (i + 1), bk := D.nx } σ2 H2) (hd : ∀ σ' H', Pv σ xs.length σ' H' → D.nx σ' H') : tFor (iRev K (tCons (tVar i) tNil)) g t D σ H :=
  ⟨_, hv, a, xs, rfl, hx, RT.for_Itv (Pv σ) h0 hl hs hd⟩
theorem g_for2 {tr : TA} {g : TG} (h : tr σ H fun vs H1 => ∃ lo hi : Int, vs = [.int lo, .int hi] ∧ (-(2 ^ 62) ≤ lo ∧ lo < 2 ^ 62 ∧ -(2 ^ 62) ≤ hi ∧ hi < 2 ^ 62) ∧
    ∃ W : Nat → Nat → L2.St → Hp → Prop, (∃ m, W 0 m σ H1) ∧ ∀ i m σ H, W i m σ H →
      ((Itr lo (hi - lo).toNat).stop i H ∧ D.nx σ H) ∨ ((Itr lo (hi - lo).toNat).go i H ∧ ∃ N : L2.St → Hp → Prop, (∀ σ' H', N σ' H' → ∃ m', m' < m ∧ W (i + 1) m' σ' H') ∧ ∀ x H', (Itr lo (hi - lo).toNat).yld i H x H' → g x σ H' fun σ2 H2 => t { D with nx := N, ct := N, bk := D.nx } σ2 H2)) :
    tFor (iRng2 tr) g t D σ H := h
theorem g_for1 {tr : TA} {g : TG} (h : tr σ H fun vs H1 => ∃ j : Int, vs = [.int j] ∧ -(2 ^ 62) ≤ j ∧ j < 2 ^ 62 ∧
    ∃ W : Nat → Nat → L2.St → Hp → Prop, (∃ m, W 0 m σ H1) ∧ ∀ i m σ H, W i m σ H →
      ((Itr 0 j.toNat).stop i H ∧ D.nx σ H) ∨ ((Itr 0 j.toNat).go i H ∧ ∃ N : L2.St → Hp → Prop, (∀ σ' H', N σ' H' → ∃ m', m' < m ∧ W (i + 1) m' σ' H') ∧ ∀ x H', (Itr 0 j.toNat).yld i H x H' → g x σ H' fun σ2 H2 => t { D with nx := N, ct := N, bk := D.nx } σ2 H2)) :
    tFor (iRng1 tr) g t D σ H := h
theorem g_rg2 {g : TG} {lo hi : Int} (hb : -(2 ^ 62) ≤ lo ∧ lo < 2 ^ 62 ∧ -(2 ^ 62) ≤ hi ∧ hi < 2 ^ 62) (Pv : L2.St → Nat → L2.St → Hp → Prop) (h0 : Pv σ 0 σ H)
    (hs : ∀ i σ' H', i < (hi - lo).toNat → Pv σ i σ' H' → g (.int (lo + i)) σ' H' fun σ2 H2 => t { D with nx := Pv σ (i + 1), ct := Pv σ (i + 1), bk := D.nx } σ2 H2) (hd : ∀ σ' H', Pv σ (hi - lo).toNat σ' H' → D.nx σ' H') :
    ∃ lo' hi' : Int, [V.int lo, V.int hi] = [.int lo', .int hi'] ∧ (-(2 ^ 62) ≤ lo' ∧ lo' < 2 ^ 62 ∧ -(2 ^ 62) ≤ hi' ∧ hi' < 2 ^ 62) ∧
    ∃ W : Nat → Nat → L2.St → Hp → Prop, (∃ m, W 0 m σ H) ∧ ∀ i m σ H, W i m σ H →
      ((Itr lo' (hi' - lo').toNat).stop i H ∧ D.nx σ H) ∨ ((Itr lo' (hi' - lo').toNat).go i H ∧ ∃ N : L2.St → Hp → Prop, (∀ σ' H', N σ' H' → ∃ m', m' < m ∧ W (i + 1) m' σ' H') ∧ ∀ x H', (Itr lo' (hi' - lo').toNat).yld i H x H' → g x σ H' fun σ2 H2 => t { D with nx := N, ct := N, bk := D.nx } σ2 H2) :=
  ⟨lo, hi, rfl, hb, for_range (Pv σ) h0 hs hd⟩
theorem g_rg1 {g : TG} {hi : Int} (hb : -(2 ^ 62) ≤ hi ∧ hi < 2 ^ 62) (Pv : L2.St → Nat → L2.St → Hp → Prop) (h0 : Pv σ 0 σ H)
    (hs : ∀ (i : Nat) σ' H', i < hi.toNat → Pv σ i σ' H' → g (.int (i : Int)) σ' H' fun σ2 H2 => t { D with nx := Pv σ (i + 1), ct := Pv σ (i + 1), bk := D.nx } σ2 H2) (hd : ∀ σ' H', Pv σ hi.toNat σ' H' → D.nx σ' H') :
    ∃ j : Int, [V.int hi] = [.int j] ∧ -(2 ^ 62) ≤ j ∧ j < 2 ^ 62 ∧
    ∃ W : Nat → Nat → L2.St → Hp → Prop, (∃ m, W 0 m σ H) ∧ ∀ i m σ H, W i m σ H →
      ((Itr 0 j.toNat).stop i H ∧ D.nx σ H) ∨ ((Itr 0 j.toNat).go i H ∧ ∃ N : L2.St → Hp → Prop, (∀ σ' H', N σ' H' → ∃ m', m' < m ∧ W (i + 1) m' σ' H') ∧ ∀ x H', (Itr 0 j.toNat).yld i H x H' → g x σ H' fun σ2 H2 => t { D with nx := N, ct := N, bk := D.nx } σ2 H2) :=
  ⟨hi, rfl, hb.1, hb.2, for_range (lo := 0) (Pv σ) h0 (fun i σ' H' hi p => by rw [Int.zero_add]; exact hs i σ' H' hi p) hd⟩
/-- a word between a statement and the rest -/
theorem g_cutM (M : L2.St → L2.St → Hp → Prop) (ht : t { D with nx := M σ } σ H) (k : ∀ σ' H', M σ σ' H' → u D σ' H') : Evl.tCut t u D σ H := ⟨M σ, ht, k⟩
/-- if c: x = e, both ways in one: z is what x holds behind it -/
theorem g_cutif {i : Nat} (z : V) (ht : tt σ H fun b H1 => if b = true then te σ H1 (fun y H2 => σ.set i (some y) = σ.set i (some z) ∧ H2 = H) else (σ = σ.set i (some z) ∧ H1 = H)) (k : u D (σ.set i (some z)) H) :
    Evl.tCut (tIfS tt (tAsg te (gName i)) tNext) u D σ H := ⟨fun σ' H' => σ' = σ.set i (some z) ∧ H' = H, ht, fun σ' H' ⟨e1, e2⟩ => by subst e1 e2; exact k⟩
theorem g_cutifS {i : Nat} (z : V) (ht : tt σ H fun b H1 => if b = true then te σ H1 (fun y H2 => σ.set i (some y) = σ.set i (some z) ∧ Same H H2) else (σ = σ.set i (some z) ∧ Same H H1)) (k : ∀ H', Same H H' → u D (σ.set i (some z)) H') :
    Evl.tCut (tIfS tt (tAsg te (gName i)) tNext) u D σ H := ⟨fun σ' H' => σ' = σ.set i (some z) ∧ Same H H', ht, fun σ' H' ⟨e1, e2⟩ => by subst e1; exact k H' e2⟩

/-! ## promises of the helpers -/
def sp_cell_at (K : PySem.W.Frag) : Sp := fun vs H Q _ => ∃ a ns k, vs = [.ref a, .int k] ∧ SqL K H a (ns.map V.int) ∧ 0 ≤ k ∧ Q (.int (cellAt ns k)) H
theorem g_cell {a : Addr} {ns : List Int} {k : Int} (hS : SqL K H a (ns.map V.int)) (h0 : 0 ≤ k) (q : Q (.int (cellAt ns k)) H) : sp_cell_at K ([.ref a, .int k] ++ []) H Q E := ⟨a, ns, k, rfl, hS, h0, q⟩
def sp_whole : Sp := fun vs H Q _ => ∃ i, vs = [.int i] ∧ Q (.bl true) H
theorem g_whole {i : Int} (q : Q (.bl true) H) : sp_whole ([.int i] ++ []) H Q E := ⟨i, rfl, q⟩
def sp_mixed : Sp := fun vs H Q _ => ∃ c m, vs = [.int c, .int m] ∧ 0 < m ∧ Q (.int (mixed c m)) H
theorem g_mixed {c m : Int} (h : 0 < m) (q : Q (.int (mixed c m)) H) : sp_mixed ([.int c, .int m] ++ []) H Q E := ⟨c, m, rfl, h, q⟩
def sp_rate_by : Sp := fun vs H Q _ => ∃ c, vs = [.int c] ∧ ∀ H', Same H H' → Q (.int (rateBy c)) H'
theorem g_rate_by {c : Int} (q : ∀ H', Same H H' → Q (.int (rateBy c)) H') : sp_rate_by ([.int c] ++ []) H Q E := ⟨c, rfl, q⟩
def sp_row_by : Sp := fun vs H Q _ => ∃ c m w, vs = [.int c, .int m, .int w] ∧ 1 ≤ m ∧ m ≤ 60 ∧ 0 < w ∧ ∀ l H', H l = none → Same H H' → RowAt H' l (rowBy c m w) → Q (.ref l) H'
theorem g_row_by {c m w : Int} (h1 : 1 ≤ m) (h2 : m ≤ 60) (h3 : 0 < w) (q : ∀ l H', H l = none → Same H H' → RowAt H' l (rowBy c m w) → Q (.ref l) H') : sp_row_by ([.int c, .int m, .int w] ++ []) H Q E := ⟨c, m, w, rfl, h1, h2, h3, q⟩
def sp_rate_on : Sp := fun vs H Q _ => ∃ l d row, vs = [.ref l, .int d] ∧ RowAt H l row ∧ Q (.int (rateOf row d)) H
def sp_rate_of : Sp := fun vs H Q _ => ∃ l d row, vs = [.ref l, .int d] ∧ RowAt H l row ∧ Q (.int (rateOf row d)) H
theorem g_rate_of {l : Addr} {d : Int} {row : Row} (h : RowAt H l row) (q : Q (.int (rateOf row d)) H) : sp_rate_of ([.ref l, .int d] ++ []) H Q E := ⟨l, d, row, rfl, h, q⟩
def sp_grown : Sp := fun vs H Q _ => ∃ l s e row, vs = [.ref l, .int s, .int e] ∧ RowAt H l row ∧ s ≤ e ∧ -(2 ^ 60) < s ∧ e < 2 ^ 60 ∧ Q (.int (grownF row s e)) H
theorem g_grown {l : Addr} {s e : Int} {row : Row} (h : RowAt H l row) (h1 : s ≤ e) (h2 : -(2 ^ 60) < s) (h3 : e < 2 ^ 60) (q : Q (.int (grownF row s e)) H) : sp_grown ([.ref l, .int s, .int e] ++ []) H Q E := ⟨l, s, e, row, rfl, h, h1, h2, h3, q⟩
def sp_sum_by : Sp := fun vs H Q _ => ∃ l s e row, vs = [.ref l, .int s, .int e] ∧ RowAt H l row ∧ RowOk row ∧ row.length ≤ 100 ∧ 0 ≤ s ∧ s ≤ e ∧ e < 2 ^ 60 ∧ Q (.int (grownF row s e)) H
theorem g_sum_by {l : Addr} {s e : Int} {row : Row} (h : RowAt H l row) (ok : RowOk row) (hl : row.length ≤ 100) (h1 : 0 ≤ s) (h2 : s ≤ e) (h3 : e < 2 ^ 60) (q : Q (.int (grownF row s e)) H) : sp_sum_by ([.ref l, .int s, .int e] ++ []) H Q E := ⟨l, s, e, row, rfl, h, ok, hl, h1, h2, h3, q⟩
theorem g_seq_aug {i : Nat} {ti : TIp} {x : V} (hx : σ[i]? = some (some x)) (h : te σ H fun y H1 => ti x y H1 fun z H2 => u D (σ.set i (some z)) H2) : tSeq (tAug i te ti) u D σ H := ⟨x, hx, h⟩
theorem g_aug {i : Nat} {ti : TIp} {x : V} (hx : σ[i]? = some (some x)) (h : te σ H fun y H1 => ti x y H1 fun z H2 => D.nx (σ.set i (some z)) H2) : tAug i te ti D σ H := ⟨x, hx, h⟩
theorem g_ip {f : Int → Int → Int} {a b : Int} (q : Q (.int (f a b)) H) : ipI f (.int a) (.int b) H Q := ⟨a, b, rfl, rfl, q⟩
def sp_law (K : PySem.W.Frag) : Sp := fun vs H Q _ => ∃ (a : Addr) (ns : List Int), vs = [.ref a] ∧ SqL K H a (ns.map V.int) ∧ ns.length ≤ 63 ∧ (∀ z ∈ ns, Builtin.Int.intBits z ≤ 1048576) ∧ ∀ H', Q (.bl true) H'
end
end Lp
namespace Lp
open PySem L2
section
variable {σ : L2.St} {H : Hp} {Q : VK} {E : XK} {D : Ends} {K : PySem.W.Frag} {te ta tb : TE} {tt tu : TT} {t u w : TS}
/-! ## a text of parts; what it says is not told -/
def tFs (ts : List TE) : TE := fun σ H Q => tJs ts Str.empty σ H fun out H1 => Q (.str out) H1
theorem pe_fs {X : Cx} {v1 v2 : Expr} {rest : List Expr} {ts : List TE} {pos : Pos} (h : PJ X (v1 :: v2 :: rest) ts) : PE X (.JoinedStr (v1 :: v2 :: rest) pos) (tFs ts) := pe_joined h
def FmtV (x : V) (H : Hp) (Q : VK) : Prop := (∃ y : Str, x = .str y ∧ y.length ≤ sizeLine ∧ Q (.str y) H) ∨ ∃ i : Int, x = .int i ∧ i.natAbs.log2 < 1920 ∧ Q (.str (toString i)) H
def JsV (n : Nat) (acc : Str) (ts : List TE) (σ : L2.St) (Q : Str → Hp → Prop) (x : V) (H : Hp) : Prop := ∃ y : Str, x = .str y ∧ (acc ++ y).length ≤ sizeLine ∧ tJs ts (acc ++ y) σ H Q
theorem g_fs {ts : List TE} (q : ∀ acc : Str, acc.length ≤ 0 → tJs ts acc σ H fun out H1 => Q (.str out) H1) : tFs ts σ H Q := q _ (Nat.le_refl _)
theorem g_jsN {acc : Str} {Q : Str → Hp → Prop} (q : Q acc H) : tJs [] acc σ H Q := q
theorem g_js {n : Nat} {acc : Str} {ts : List TE} {Q : Str → Hp → Prop} (hn : acc.length ≤ n) (h : te σ H fun x H1 => JsV n acc ts σ Q x H1) : tJs (te :: ts) acc σ H Q := h
theorem str_app_len (a b : Str) : (a ++ b).length = a.length + b.length := by
  show (a.cps ++ b.cps).size = _
  rw [Array.size_append]; rfl
theorem g_jsC {n : Nat} {acc y : Str} {ts : List TE} {Q : Str → Hp → Prop} (ha : acc.length ≤ n) (hy : y.length ≤ 3000) (hn : n ≤ 1000000) (q : ∀ acc' : Str, acc'.length ≤ n + 3000 → tJs ts acc' σ H Q) : JsV n acc ts σ Q (.str y) H :=
  ⟨y, rfl, Nat.le_trans (Nat.le_of_eq (str_app_len _ _)) (Nat.le_trans (Nat.add_le_add ha hy) (Nat.le_trans (Nat.add_le_add_right hn 3000) (by decide))), q _ (by rw [str_app_len]; omega)⟩
theorem g_fmt (h : te σ H fun x H1 => FmtV x H1 Q) : tFmt te σ H Q := h
theorem log2_of {n : Nat} (h : n < 2 ^ 1900) : n.log2 < 1920 := Nat.lt_of_lt_of_le (PySem.Flt.log2_lt_of (by decide) h) (by decide)
theorem g_fmtI {i : Int} (b : i.natAbs < 2 ^ 1900) (q : ∀ y : Str, y.length ≤ 3000 → Q (.str y) H) : FmtV (.int i) H Q :=
  .inr ⟨i, rfl, log2_of b, q _ (Nat.le_trans (PyProof.Rows.int_text_len_1921 (log2_of b)) (by decide))⟩
theorem small_nat {i : Int} (h1 : -(10 ^ 61) ≤ i) (h2 : i ≤ 10 ^ 61) : i.natAbs < 2 ^ 1900 := Nat.lt_of_le_of_lt (show i.natAbs ≤ 10 ^ 61 by omega) (by decide +kernel)
/-! ## raise X(text) -/
def RzV (C : Addr) (W : WX) (σ : L2.St) (vs : List V) (H : Hp) : Prop := vs.length ≤ sizeLine ∧ W (.ref C) none σ H
def tRz (C : Addr) (ta : TA) (W : WX) : TS := fun _ σ H => ta σ H fun vs H1 => RzV C W σ vs H1
theorem ps_rz {X : Cx} {C : Addr} {x : Str} {p pos rp : Pos} {e : Expr} {t : TA} {W : WX} (hc : X.calm = true) (tk : Takes X W) (q : PySem.W.excIn X.K C [.type "ValueError", .type "Exception", .type "BaseException", .type "object"] "ValueError.__new__" = true) (gC : X.mg x = some (.ref C))
    (kC : PySem.W.keepIn X.K (.ref C) = true) (r : Raises X (.ref C)) (hg : Gl X x) (ha : PA X [e] t) (hdb : (x == ("__debug__" : Str)) = false := by decide)
    (he : starEach (e :: []) X.env = (false, eval e X.env) :: starEach [] X.env := by rfl) (hpl : (backTo pos (starEach [] X.env)).any (·.1) = false := by rfl) :
    PS X (.Raise (some (.Call (.Name x p) [e] [] pos)) none rp) (tRz C t W) := ps_raise hc tk (pmk_ownA PySem.F.excBase_ValueError q gC kC r hg ha hdb he hpl)
theorem g_seq_rz {C : Addr} {tr : TA} {W : WX} (h : tr σ H fun vs H1 => RzV C W σ vs H1) : tSeq (tRz C tr W) u D σ H := h
theorem g_rz {C : Addr} {tr : TA} {W : WX} (h : tr σ H fun vs H1 => RzV C W σ vs H1) : tRz C tr W D σ H := h
theorem g_rzV {C : Addr} {W : WX} {x : V} (q : W (.ref C) none σ H) : RzV C W σ [x] H := ⟨by show 1 ≤ sizeLine; decide, q⟩
/-! ## a loan in the heap -/
def flds (l b d : Int) (r : Addr) : List (Str × V) := [("left", .int l), ("begun", .int b), ("day", .int d), ("rates", .ref r)]
theorem ne_lb : ¬ (("left" : Str) = "begun") := by decide +kernel
theorem ne_ld : ¬ (("left" : Str) = "day") := by decide +kernel
theorem ne_lr : ¬ (("left" : Str) = "rates") := by decide +kernel
theorem ne_bd : ¬ (("begun" : Str) = "day") := by decide +kernel
theorem ne_br : ¬ (("begun" : Str) = "rates") := by decide +kernel
theorem ne_dr : ¬ (("day" : Str) = "rates") := by decide +kernel
theorem put_left {l b d l' : Int} {r : Addr} : putF "left" (.int l') (flds l b d r) = flds l' b d r := by
  unfold flds; rw [putF, if_pos rfl]
theorem put_begun {l b d b' : Int} {r : Addr} : putF "begun" (.int b') (flds l b d r) = flds l b' d r := by
  unfold flds; rw [putF, if_neg ne_lb, putF, if_pos rfl]
theorem put_day {l b d d' : Int} {r : Addr} : putF "day" (.int d') (flds l b d r) = flds l b d' r := by
  unfold flds; rw [putF, if_neg ne_ld, putF, if_neg ne_bd, putF, if_pos rfl]
theorem put_rates {l b d : Int} {r r' : Addr} : putF "rates" (.ref r') (flds l b d r) = flds l b d r' := by
  unfold flds; rw [putF, if_neg ne_lr, putF, if_neg ne_br, putF, if_neg ne_dr, putF, if_pos rfl]
theorem put_all {a b d : Int} {r : Addr} : putF "rates" (.ref r) (putF "day" (.int d) (putF "begun" (.int b) (putF "left" (.int a) []))) = flds a b d r := by
  simp only [putF, flds, if_neg ne_lb, if_neg ne_ld, if_neg ne_lr, if_neg ne_bd, if_neg ne_br, if_neg ne_dr]
theorem fl_left {l b d : Int} {r : Addr} : (flds l b d r).lookup ("left" : Str) = some (.int l) := by rw [← put_left (l := 0), lookup_putF, if_pos rfl]
theorem fl_begun {l b d : Int} {r : Addr} : (flds l b d r).lookup ("begun" : Str) = some (.int b) := by rw [← put_begun (b := 0), lookup_putF, if_pos rfl]
theorem fl_day {l b d : Int} {r : Addr} : (flds l b d r).lookup ("day" : Str) = some (.int d) := by rw [← put_day (d := 0), lookup_putF, if_pos rfl]
theorem fl_rates {l b d : Int} {r : Addr} : (flds l b d r).lookup ("rates" : Str) = some (.ref r) := by rw [← put_rates (r := 0), lookup_putF, if_pos rfl]
theorem fl_no {l b d : Int} {r : Addr} {m : Str} (h1 : ¬ m = "left") (h2 : ¬ m = "begun") (h3 : ¬ m = "day") (h4 : ¬ m = "rates") : (flds l b d r).lookup m = none := by
  rw [← put_left (l := 0), lookup_putF, if_neg h1, ← put_begun (b := 0), lookup_putF, if_neg h2, ← put_day (d := 0), lookup_putF, if_neg h3, ← put_rates (r := 0), lookup_putF, if_neg h4]
  unfold flds
  have e : ∀ a : Str, ¬ m = a → (m == a) = false := fun a h => by simpa using h
  simp only [List.lookup, e _ h1, e _ h2, e _ h3, e _ h4]
theorem fl_len {l b d : Int} {r : Addr} : (flds l b d r).length < 1000 := by show 4 < 1000; decide
/-- a loan at x: its fields, its row -/
def LoanAt (C : Addr) (H : Hp) (x : Addr) (l b d : Int) (r : Addr) (row : Row) : Prop := (∃ dx, H x = some (.ins C dx (flds l b d r))) ∧ RowAt H r row
theorem LoanAt.same {C : Addr} {H H' : Hp} {x r : Addr} {l b d : Int} {row : Row} (h : LoanAt C H x l b d r row) (s : Same H H') : LoanAt C H' x l b d r row := ⟨let ⟨dx, e⟩ := h.1; ⟨dx, s _ _ e⟩, h.2.same s⟩
/-- the numbers of a loan are in bounds: no day brings more than a hundred thousand millionths of ten to the twelve -/
structure NumOk (l b d : Int) : Prop where
  l0 : 0 ≤ l
  l1 : l ≤ 1000000000000
  b0 : 0 ≤ b
  b1 : b ≤ 100000000000000000 * d
  d0 : 0 ≤ d
  d1 : d ≤ 100000
def RatesOk (row : Row) : Prop := ∀ p ∈ row, 0 ≤ p.2 ∧ p.2 ≤ 100000
/-- begun on a later day -/
def thenF (l b d : Int) (row : Row) (D : Int) : Int := b + l * grownF row d D
theorem NumOk.walk {l b d D : Int} {row : Row} (n : NumOk l b d) (hr : RatesOk row) (h1 : d ≤ D) (h2 : D ≤ 100000) : NumOk l (thenF l b d row D) D := by
  have g := grownF_bounds hr h1
  have a1 : 0 ≤ l * grownF row d D := Int.mul_nonneg n.l0 g.1
  have a2 : l * grownF row d D ≤ 1000000000000 * (100000 * (D - d)) := Int.mul_le_mul n.l1 g.2 g.1 (by decide)
  have := n.b1; have := n.b0; have := n.d0
  unfold thenF
  exact ⟨n.l0, n.l1, by omega, by omega, by omega, h2⟩
theorem NumOk.pay {l b d c : Int} (n : NumOk l b d) (h1 : 1 ≤ c) (h2 : c ≤ owedF l b) : NumOk (pLeft l b c) (pBegun l b c) d := by
  have a := pLeft_ok n.l0 n.b0 h1 h2
  have b := pBegun_ok (l := l) n.b0 (show 0 ≤ c by omega)
  exact ⟨a.1, Int.le_trans a.2 n.l1, b.1, Int.le_trans b.2 n.b1, n.d0, n.d1⟩
/-! ## fields and methods by name -/
theorem g_fl {C x dx : Addr} {fs : List (Str × V)} {f : Str} {v : V} (h : H x = some (.ins C dx fs)) (c : Cls K C) (n : NoAttr K C f) (hl : fs.lookup f = some v) (q : Q v H) : rFld K f (.ref x) H Q := ⟨x, C, dx, fs, v, rfl, h, c, n, hl, q⟩
theorem g_mt {C x dx : Addr} {fs : List (Str × V)} {m : Str} {R : Prop} (h : H x = some (.ins C dx fs)) (hl : fs.lookup m = none) (q : R) : rMeth C m (.ref x) H R := ⟨x, dx, fs, rfl, h, hl, q⟩
def rSetF (K : PySem.W.Frag) (f : Str) (x y : V) (H : Hp) (R : Hp → Prop) : Prop := ∃ a C dx fs, x = .ref a ∧ H a = some (.ins C dx fs) ∧ Cls K C ∧ NoAttr K C f ∧ fs.length < 1000 ∧ R (upd H a (.ins C dx (putF f y fs)))
theorem g_seq_fld {f : Str} (h : tb σ H fun y H1 => ta σ H1 fun x H2 => rSetF K f x y H2 fun H3 => u D σ H3) : tSeq (sFld K ta tb f) u D σ H := h
theorem g_sfld {f : Str} (h : tb σ H fun y H1 => ta σ H1 fun x H2 => rSetF K f x y H2 fun H3 => D.nx σ H3) : sFld K ta tb f D σ H := h
theorem g_sf {C x dx : Addr} {fs : List (Str × V)} {f : Str} {y : V} {R : Hp → Prop} (h : H x = some (.ins C dx fs)) (c : Cls K C) (n : NoAttr K C f) (hl : fs.length < 1000) (q : ∀ H', But x H H' → H' x = some (.ins C dx (putF f y fs)) → R H') : rSetF K f (.ref x) y H R :=
  ⟨x, C, dx, fs, rfl, h, c, n, hl, q _ but_upd upd_same⟩
/-! ## o.f, o.g = a pair -/
def gFld (K : PySem.W.Frag) (ta : TE) (f : Str) : TG := fun v σ H Q => ta σ H fun x H1 => rSetF K f x v H1 fun H2 => Q σ H2
theorem pg_fld {X : Cx} {o : Expr} {f : Str} {pos : Pos} {ta : TE} (ho : PE X o ta) : PG X (.Attribute o f pos) (gFld X.K ta f) := by
  refine ⟨fun pins s σ H v u Q I r h => ?_⟩
  rw [PySem.assign_Attribute]
  refine wpAny_bind (wpAny_holding (thn (ho.run pins s σ H _ I h) fun ov s1 ⟨x, H1, I1, r1, q1⟩ => ?_))
  obtain ⟨a, C, dx, fs, ex, ea, c, n, l, q2⟩ := q1
  subst ex
  obtain rfl : ov = Value.ref a := r1
  refine wpAny_bind (wpAny_standAt (wpAny_bind (wpAny_holding (setattr_ok I1 ea c n l r fun s3 I3 => ?_))))
  exact wpAny_release ⟨σ, _, I3, q2⟩
theorem g_unpF {p : Addr} {v w : V} {f g : Str} {t1 t2 : TE} {R : L2.St → Hp → Prop} (h : H p = some (.tup [v, w])) (q : t1 σ H fun x H2 => rSetF K f x v H2 fun H3 => gCons (gFld K t2 g) gNil [w] σ H3 R) :
    gTup K 2 (gCons (gFld K t1 f) (gCons (gFld K t2 g) gNil)) (.ref p) σ H R := ⟨p, _, rfl, SqT.of h, rfl, v, _, rfl, q⟩
theorem g_lastF {w : V} {g : Str} {t2 : TE} {R : L2.St → Hp → Prop} (q : t2 σ H fun y H4 => rSetF K g y w H4 fun H5 => ([] : List V) = [] ∧ R σ H5) : gCons (gFld K t2 g) gNil [w] σ H R := ⟨w, [], rfl, q⟩
/-! ## promises of the program -/
def sp_check_day (BD : Addr) : Sp := fun vs H Q E => ∃ d f, vs = [.int d, .int f] ∧ -(10 ^ 61) ≤ f ∧ f ≤ 10 ^ 61 ∧ (d < f ∨ 100000 < d → E (.ref BD) none H) ∧ (¬ (d < f ∨ 100000 < d) → Q .non H)
theorem g_check_day {BD : Addr} {d f : Int} (h1 : -(10 ^ 61) ≤ f) (h2 : f ≤ 10 ^ 61) (q1 : d < f ∨ 100000 < d → E (.ref BD) none H) (q2 : ¬ (d < f ∨ 100000 < d) → Q .non H) : sp_check_day BD ([.int d, .int f] ++ []) H Q E := ⟨d, f, rfl, h1, h2, q1, q2⟩
def sp_cents_owed : Sp := fun vs H Q _ => ∃ l b, vs = [.int l, .int b] ∧ Q (.int (owedF l b)) H
theorem g_cents_owed {l b : Int} (q : Q (.int (owedF l b)) H) : sp_cents_owed ([.int l, .int b] ++ []) H Q E := ⟨l, b, rfl, q⟩
def sp_paid_down : Sp := fun vs H Q _ => ∃ l b c, vs = [.int l, .int b, .int c] ∧ ∀ t H', H t = none → Same H H' → H' t = some (.tup [.int (pLeft l b c), .int (pBegun l b c)]) → Q (.ref t) H'
theorem g_paid_down {l b c : Int} (q : ∀ t H', H t = none → Same H H' → H' t = some (.tup [.int (pLeft l b c), .int (pBegun l b c)]) → Q (.ref t) H') : sp_paid_down ([.int l, .int b, .int c] ++ []) H Q E := ⟨l, b, c, rfl, q⟩
def sp_check_pair (BD BR : Addr) : Sp := fun vs H Q E => ∃ d r a, vs = [.int d, .int r, .int a] ∧ -(10 ^ 60) ≤ a ∧ a ≤ 10 ^ 60 ∧
  (d ≤ a ∨ 100000 < d → E (.ref BD) none H) ∧ (¬ (d ≤ a ∨ 100000 < d) → (r < 0 ∨ 100000 < r → E (.ref BR) none H) ∧ (¬ (r < 0 ∨ 100000 < r) → Q .non H))
def sp_checked (BD BR : Addr) : Sp := fun vs H Q E => ∃ l row, vs = [.ref l] ∧ RowAt H l row ∧ row.length ≤ 1000 ∧
  (checkF row = some true → E (.ref BD) none H) ∧ (checkF row = some false → E (.ref BR) none H) ∧ (checkF row = none → ∀ l' H', H l' = none → Same H H' → RowAt H' l' row → Q (.ref l') H')
def sp_init (C BA BD BR : Addr) : Sp := fun vs H Q E => ∃ x a l dx row, vs = [.ref x, .int a, .ref l] ∧ H x = some (.ins C dx []) ∧ RowAt H l row ∧ row.length ≤ 1000 ∧
  (a < 1 ∨ 1000000000000 < a → E (.ref BA) none H) ∧ (¬ (a < 1 ∨ 1000000000000 < a) → (checkF row = some true → ∀ H', But x H H' → E (.ref BD) none H') ∧ (checkF row = some false → ∀ H', But x H H' → E (.ref BR) none H') ∧
    (checkF row = none → ∀ r H', H r = none → But x H H' → H' x = some (.ins C dx (flds a 0 0 r)) → RowAt H' r row → Q .non H'))
def sp_stand (C BD : Addr) : Sp := fun vs H Q E => ∃ x D l b d r row, vs = [.ref x, .int D] ∧ LoanAt C H x l b d r row ∧ NumOk l b d ∧
  (D < d ∨ 100000 < D → E (.ref BD) none H) ∧ (¬ (D < d ∨ 100000 < D) → ∀ t H', H t = none → Same H H' → H' t = some (.tup [.int l, .int (thenF l b d row D)]) → Q (.ref t) H')
def sp_owedL (C BD : Addr) : Sp := fun vs H Q E => ∃ x D l b d r row, vs = [.ref x, .int D] ∧ LoanAt C H x l b d r row ∧ NumOk l b d ∧
  (D < d ∨ 100000 < D → E (.ref BD) none H) ∧ (¬ (D < d ∨ 100000 < D) → ∀ H', Same H H' → Q (.int (owedF l (thenF l b d row D))) H')
def sp_pay (C BD BP : Addr) : Sp := fun vs H Q E => ∃ x D c l b d r row, vs = [.ref x, .int D, .int c] ∧ LoanAt C H x l b d r row ∧ NumOk l b d ∧ RatesOk row ∧
  (D < d ∨ 100000 < D → E (.ref BD) none H) ∧ (¬ (D < d ∨ 100000 < D) → (c < 1 ∨ owedF l (thenF l b d row D) < c → ∀ H', Same H H' → E (.ref BP) none H') ∧
    (¬ (c < 1 ∨ owedF l (thenF l b d row D) < c) → ∀ t H', H t = none → But x H H' → LoanAt C H' x (pLeft l (thenF l b d row D) c) (pBegun l (thenF l b d row D) c) D r row →
      H' t = some (.tup [.int (pInt l (thenF l b d row D) c), .int (pOff l (thenF l b d row D) c)]) → Q (.ref t) H'))
def sp_change (C BD BR : Addr) : Sp := fun vs H Q E => ∃ x D rt l b d r row, vs = [.ref x, .int D, .int rt] ∧ LoanAt C H x l b d r row ∧ NumOk l b d ∧ row ≠ [] ∧ row.length ≤ 1000 ∧ lastDay row ≤ 100000 ∧
  (D ≤ max d (lastDay row) ∨ 100000 < D → E (.ref BD) none H) ∧ (¬ (D ≤ max d (lastDay row) ∨ 100000 < D) → (rt < 0 ∨ 100000 < rt → E (.ref BR) none H) ∧
    (¬ (rt < 0 ∨ 100000 < rt) → ∀ r' H', H r' = none → But x H H' → LoanAt C H' x l b d r' (row ++ [(D, rt)]) → Q .non H'))
def sp_twin (C : Addr) : Sp := fun vs H Q _ => ∃ x l b d r row, vs = [.ref x] ∧ LoanAt C H x l b d r row ∧ checkF row = none ∧ row.length ≤ 1000 ∧
  ∀ y r' H', H y = none → H r' = none → Same H H' → LoanAt C H' y l b d r' row → Q (.ref y) H'
/-! ## their calls -/
def MkV (C : Addr) (sp : Sp) (dvs : List V) (E : XK) (vs : List V) (H : Hp) (Q : VK) : Prop := ∀ x dx, H x = none → H dx = none → dx ≠ x →
  sp (.ref x :: (vs ++ dvs)) (upd (upd H dx (.own x)) x (.ins C dx [])) (fun v H2 => v = .non ∧ Q (.ref x) H2) E
theorem g_mk {C : Addr} {sp : Sp} {dvs : List V} {tr : TA} (h : tr σ H fun vs H1 => MkV C sp dvs E vs H1 Q) : tMake C sp dvs E tr σ H Q := h
theorem g_mkLoan {C BA BD BR l : Addr} {a : Int} {row : Row} (hR : RowAt H l row) (hl : row.length ≤ 1000) (h1 : 1 ≤ a) (h2 : a ≤ 1000000000000) (hc : checkF row = none)
    (q : ∀ x r H', H x = none → H r = none → Same H H' → LoanAt C H' x a 0 0 r row → Q (.ref x) H') : MkV C (sp_init C BA BD BR) [] E [.int a, .ref l] H Q := by
  intro x dx nx nd ne
  have s1 : Same H (upd (upd H dx (.own x)) x (.ins C dx [])) := fun b o e => by
    rw [upd_ne (ne_of_none e nx), upd_ne (ne_of_none e nd)]; exact e
  refine ⟨x, a, l, dx, row, rfl, upd_same, hR.same s1, hl, fun h => absurd h (by omega), fun _ => ⟨(fun h => by rw [hc] at h; cases h), (fun h => by rw [hc] at h; cases h), fun _ r H' hr bt hx hrow => ⟨rfl, q x r H' nx (s1.free hr) ?_ ⟨⟨dx, hx⟩, hrow⟩⟩⟩⟩
  intro b o e
  exact bt b o (ne_of_none e nx) (s1 b o e)
end
end Lp
namespace Lp
open PySem L2
section
variable {σ : L2.St} {H : Hp} {Q : VK} {E : XK} {D : Ends} {K : PySem.W.Frag} {te ta tb : TE} {tt tu : TT} {t u w : TS}
/-! ## slices -/
theorem cut_to (xs : List V) {k : Int} (h0 : 0 ≤ k) (h1 : k ≤ xs.length) : cutV xs none (some k) = xs.take k.toNat := by
  obtain ⟨n, rfl⟩ : ∃ n : Nat, k = (n : Int) := ⟨k.toNat, by omega⟩
  unfold cutV
  rw [HT.sIx_none, HT.sIx_nat, List.drop_zero, Int.toNat_natCast, Nat.min_eq_left (by omega)]
  rfl
theorem cut_from (xs : List V) {k : Int} (h0 : 0 ≤ k) (h1 : k ≤ xs.length) : cutV xs (some k) none = xs.drop k.toNat := by
  obtain ⟨n, rfl⟩ : ∃ n : Nat, k = (n : Int) := ⟨k.toNat, by omega⟩
  unfold cutV
  rw [HT.sIx_none, HT.sIx_nat, Int.toNat_natCast, Nat.min_eq_left (by omega), List.take_of_length_le (by rw [List.length_drop]; exact Nat.le_refl _)]
theorem g_sl {r : V → Option Int → Option Int → Hp → VK → Prop} {tl th : TO} (h : te σ H fun x H1 => tl σ H1 fun l H2 => th σ H2 fun u H3 => r x l u H3 Q) : tSl r te tl th σ H Q := h
theorem g_noPart {Q : Option Int → Hp → Prop} (h : Q none H) : tNoPart σ H Q := h
def PartV (x : V) (H : Hp) (Q : Option Int → Hp → Prop) : Prop := ∃ i, x = .int i ∧ Q (some i) H
theorem g_part {Q : Option Int → Hp → Prop} (h : te σ H fun x H1 => PartV x H1 Q) : tPart te σ H Q := h
theorem g_partI {i : Int} {Q : Option Int → Hp → Prop} (h : Q (some i) H) : PartV (.int i) H Q := ⟨i, rfl, h⟩
theorem g_slTo {l : Addr} {row : Row} {k : Int} (hR : RowAt H l row) (h0 : 0 ≤ k) (h1 : k ≤ row.length) (q : ∀ p H', H p = none → Same H H' → RowAt H' p (row.take k.toNat) → Q (.ref p) H') : rSlL K (.ref l) none (some k) H Q := by
  obtain ⟨xs, e, hp⟩ := hR
  refine ⟨l, xs, rfl, SqL.of e, fun p np => q p _ np (same_new np) ⟨_, upd_same, ?_⟩⟩
  rw [cut_to xs h0 (by rw [hp.len]; exact h1)]
  exact (hp.mono fun _ _ z => same_new np _ _ z).take _
theorem g_slFrom {l : Addr} {row : Row} {k : Int} (hR : RowAt H l row) (h0 : 0 ≤ k) (h1 : k ≤ row.length) (q : ∀ p H', H p = none → Same H H' → RowAt H' p (row.drop k.toNat) → Q (.ref p) H') : rSlL K (.ref l) (some k) none H Q := by
  obtain ⟨xs, e, hp⟩ := hR
  refine ⟨l, xs, rfl, SqL.of e, fun p np => q p _ np (same_new np) ⟨_, upd_same, ?_⟩⟩
  rw [cut_from xs h0 (by rw [hp.len]; exact h1)]
  exact (hp.mono fun _ _ z => same_new np _ _ z).drop _
/-- for over a list that is made here -/
def ForL (K : PySem.W.Frag) (g : TG) (t : TS) (D : Ends) (σ : L2.St) (x : V) (H : Hp) : Prop := ∃ a, x = .ref a ∧ (∃ xs, SqL K H a xs) ∧ ∃ W : Nat → Nat → L2.St → Hp → Prop, (∃ m, W 0 m σ H) ∧ ∀ i m σ H, W i m σ H →
  ((Itl K a).stop i H ∧ D.nx σ H) ∨ ((Itl K a).go i H ∧ ∃ N : L2.St → Hp → Prop, (∀ σ' H', N σ' H' → ∃ m', m' < m ∧ W (i + 1) m' σ' H') ∧ ∀ x H', (Itl K a).yld i H x H' → g x σ H' fun σ2 H2 => t { D with nx := N, ct := N, bk := D.nx } σ2 H2)
theorem g_forE {g : TG} (h : te σ H fun x H1 => ForL K g t D σ x H1) : tFor (iList K te) g t D σ H := h
theorem g_forEL {a : Addr} {xs : List V} {g : TG} (hx : SqL K H a xs) (Pv : L2.St → Nat → L2.St → Hp → Prop) (h0 : Pv σ 0 σ H) (hl : ∀ i σ' H', i ≤ xs.length → Pv σ i σ' H' → SqL K H' a xs)
    (hs : ∀ i x σ' H', xs[i]? = some x → Pv σ i σ' H' → g x σ' H' fun σ2 H2 => t { D with nx := Pv σ (i + 1), ct := Pv σ (i + 1), bk := D.nx } σ2 H2) (hd : ∀ σ' H', Pv σ xs.length σ' H' → D.nx σ' H') : ForL K g t D σ (.ref a) H :=
  ⟨a, rfl, ⟨xs, hx⟩, for_list (Pv σ) h0 hl hs hd⟩
/-! ## promises of the law's helpers about loans -/
def sp_amount_by : Sp := fun vs H Q _ => ∃ c, vs = [.int c] ∧ ∀ H', Same H H' → Q (.int (amountBy c)) H'
theorem g_amount_by {c : Int} (q : ∀ H', Same H H' → Q (.int (amountBy c)) H') : sp_amount_by ([.int c] ++ []) H Q E := ⟨c, rfl, q⟩
def sp_owed : Sp := fun vs H Q _ => ∃ l b, vs = [.int l, .int b] ∧ Q (.int (owedF l b)) H
theorem g_owed {l b : Int} (q : Q (.int (owedF l b)) H) : sp_owed ([.int l, .int b] ++ []) H Q E := ⟨l, b, rfl, q⟩
def sp_parts : Sp := fun vs H Q _ => ∃ l b c, vs = [.int l, .int b, .int c] ∧ ∀ t H', H t = none → Same H H' → H' t = some (.tup [.int (pInt l b c), .int (pOff l b c), .int (pLeft l b c), .int (pBegun l b c)]) → Q (.ref t) H'
theorem g_parts {l b c : Int} (q : ∀ t H', H t = none → Same H H' → H' t = some (.tup [.int (pInt l b c), .int (pOff l b c), .int (pLeft l b c), .int (pBegun l b c)]) → Q (.ref t) H') : sp_parts ([.int l, .int b, .int c] ++ []) H Q E := ⟨l, b, c, rfl, q⟩
def sp_two : Sp := fun vs H Q _ => ∃ t a b, vs = [.ref t, .int a, .int b] ∧ H t = some (.tup [.int a, .int b]) ∧ Q (.bl true) H
theorem g_two {t : Addr} {a b : Int} (h : H t = some (.tup [.int a, .int b])) (q : Q (.bl true) H) : sp_two ([.ref t, .int a, .int b] ++ []) H Q E := ⟨t, a, b, rfl, h, q⟩
def sp_cents_by : Sp := fun vs H Q _ => ∃ c l b, vs = [.int c, .int l, .int b] ∧ 1 ≤ owedF l b ∧ ∀ H', Same H H' → Q (.int (centsBy c l b)) H'
theorem g_cents_by {c l b : Int} (h : 1 ≤ owedF l b) (q : ∀ H', Same H H' → Q (.int (centsBy c l b)) H') : sp_cents_by ([.int c, .int l, .int b] ++ []) H Q E := ⟨c, l, b, rfl, h, q⟩
def sp_made (C : Addr) : Sp := fun vs H Q _ => ∃ a l c row, vs = [.int a, .ref l, .int c] ∧ RowAt H l row ∧ RowOk row ∧ lastDay row ≤ 100000 ∧ row.length ≤ 900 ∧ 1 ≤ a ∧ a ≤ 1000000000000 ∧
  ∀ x r H', H x = none → H r = none → Same H H' → LoanAt C H' x a 0 0 r row → Q (.ref x) H'
theorem g_made {C l : Addr} {a c : Int} {row : Row} (hR : RowAt H l row) (ok : RowOk row) (hd : lastDay row ≤ 100000) (hl : row.length ≤ 900) (h1 : 1 ≤ a) (h2 : a ≤ 1000000000000)
    (q : ∀ x r H', H x = none → H r = none → Same H H' → LoanAt C H' x a 0 0 r row → Q (.ref x) H') : sp_made C ([.int a, .ref l, .int c] ++ []) H Q E := ⟨a, l, c, row, rfl, hR, ok, hd, hl, h1, h2, q⟩
theorem RowOk.take {row : Row} (ok : RowOk row) {n : Nat} (h : 1 ≤ n) : RowOk (row.take n) := by
  obtain ⟨r, t, e⟩ := ok.head
  refine ⟨⟨r, t.take (n - 1), ?_⟩, ok.asc.sublist (List.take_sublist _ _), fun p hp => ok.rate p (List.take_subset _ _ hp)⟩
  rw [e]
  obtain ⟨m, rfl⟩ : ∃ m, n = m + 1 := ⟨n - 1, by omega⟩
  rfl
theorem RowOk.day_le {row : Row} (ok : RowOk row) {i : Nat} {p : Int × Int} (h : row[i]? = some p) : p.1 ≤ lastDay row := RowOk.le_last ok.asc p (List.mem_of_getElem? h)
theorem RowOk.last_take {row : Row} (ok : RowOk row) (n : Nat) : lastDay (row.take n) ≤ lastDay row := by
  rcases List.eq_nil_or_concat (row.take n) with e | ⟨ys, p, e⟩
  · rw [e]
    have h := ok.head
    obtain ⟨r, t, e2⟩ := h
    exact RowOk.le_last ok.asc (0, r) (by rw [e2]; simp)
  · rw [List.concat_eq_append] at e
    rw [e, lastDay_snoc]
    exact RowOk.le_last ok.asc p (List.take_subset n _ (by rw [e]; simp))
theorem RowOk.next {row : Row} (ok : RowOk row) {n : Nat} {p : Int × Int} (h : row[n]? = some p) (h1 : 1 ≤ n) : lastDay (row.take n) < p.1 := by
  obtain ⟨hl, e⟩ := List.getElem?_eq_some_iff.mp h
  obtain ⟨m, rfl⟩ : ∃ m, n = m + 1 := ⟨n - 1, by omega⟩
  have hm : row[m]? = some (row[m]'(by omega)) := List.getElem?_eq_getElem (by omega)
  rw [lastDay_take hm]
  have := List.pairwise_iff_getElem.mp ok.asc m (m + 1) (by omega) hl (by omega)
  rw [e] at this
  exact this
end
end Lp
namespace Lp
open PySem L2
section
variable {σ : L2.St} {H : Hp} {Q : VK} {E : XK} {D : Ends} {K : PySem.W.Frag} {te ta tb : TE} {tt tu : TT} {t u w : TS}
/-! ## calls whose errors a try takes -/
def tMethW (C : Addr) (m : Str) (sp : Sp) (W : WX) (ta : TE) (t : TA) : TE := fun σ H Q => ta σ H fun x H1 => rMeth C m x H1 (t σ H1 fun vs H2 => sp (x :: vs) H2 Q (WE W σ))
theorem pe_methW {X : Cx} {k : Nat} {f C : Addr} {fd : FuncData} {ps : List Str} {sp : Sp} {W : WX} {m : Str} {pos apos : Pos} {e o : Expr} {es : List Expr} {ta : TE} {t : TA} {pl : Sem Bool} (tk : Takes X W)
    (ho : PE X o ta) (c : Cls X.K C) (hm : Meth X.K C m f) (F : FnOk X.prog X.w X.K X.mg X.base (L2.CX X.prog X.w) k f fd ps sp) (hr : Room k X.A) (hb : Binds X.K fd ps []) (ha : PA X (e :: es) t)
    (h1 : starEach (e :: es) X.env = (false, eval e X.env) :: starEach es X.env := by rfl) (h2 : (backTo pos (starEach es X.env)).any (·.1) = false := by rfl)
    (h3 : eval (.Call (.Attribute o m apos) (e :: es) [] pos) X.env = (do
      let recv ← eval o X.env
      standAt apos.atName
      let (fn, bound) ← holding [recv] (getMethod recv m pl)
      callWith pos fn bound (backTo pos (starEach (e :: es) X.env))
        (backToKw pos (keywordEach [] X.env))) := by rfl) :
    PE X (.Call (.Attribute o m apos) (e :: es) [] pos) (tMethW C m sp W ta t) := by
  constructor
  intro pins s σ H Q I h
  refine PySem.W.methodCall_KW (pl := pl) ?_ h3
  apply thn (ho.run pins s σ H _ I h)
  rintro u s1 ⟨x, H1, I1, rx, a, dx, fs, rfl, ea, l, q⟩
  cases rx
  apply getmeth_ok I1 ea c hm l
  refine PySem.W.callWith_K (first := [.ref a]) (h₀ := X.base) I.ok.mod.kin hm.kp ?_ h1 h2
  apply thn (ha.run pos pins s1 σ H1 _ I1 q)
  rintro us s2 ⟨vs, H2, I2, r, q2⟩
  exact ⟨I2.kIn, run_fnS (us := .ref a :: us) (vs := .ref a :: vs) (E := WE W) F hr hb (passAt tk σ) I2 (.cons rfl r) q2⟩
theorem g_methW {C : Addr} {m : Str} {sp : Sp} {W : WX} {tr : TA} (h : ta σ H fun x H1 => rMeth C m x H1 (tr σ H1 fun vs H2 => sp (x :: vs) H2 Q (WE W σ))) : tMethW C m sp W ta tr σ H Q := h
/-! ## try, one clause without a name -/
def tTry1 (K : PySem.W.Frag) (c : Value) (ts : Addr → Value → Option Addr → TS) (Wout : WX) (tb : WX → TS) : TS := fun D σ H => tb (wOnly K c ts Wout D) D σ H
theorem ps_try1 {X : Cx} {x : Str} {c : Value} {body suite : List Stmt} {b₀ : Stmt} {np pos pos' : Pos} {tb : WX → TS} {ts : Addr → Value → Option Addr → TS} {Wout : WX} (hs : X.stack = X.env :: X.outer) (hf : X.env.frame = some X.env.locals) (hc : Names X x c) (tk : Takes X Wout)
    (hb : ∀ (W : WX) (pn : List (Addr × Obj)) (xe : Value → Shared → Prop), Takes (X.tr pn xe) W → PassesOwn (model X.prog X.w) X.A X.env xe → PSs (X.tr pn xe) body (tb W))
    (hsu : ∀ (a : Addr) (oe : Obj) (cls : Value) (d : Option Addr) (pn : List (Addr × Obj)), Zc cls d oe → (∃ vs, oe.data = .fields vs) → PSs (X.suite a ((a, oe) :: pn)) (b₀ :: suite) (ts a cls d)) :
    PS X (.Try body [.ExceptHandler (some (.Name x np)) none (b₀ :: suite) pos'] [] [] pos) (tTry1 X.K c ts Wout tb) := ps_try_only hs hf hc tk hb hsu
theorem g_seq_try1 {c : Value} {ts : Addr → Value → Option Addr → TS} {Wout : WX} {tb : WX → TS} (h : tb (wOnly K c ts Wout { D with nx := u D }) { D with nx := u D } σ H) : tSeq (tTry1 K c ts Wout tb) u D σ H := h
/-- the error is the clause's -/
theorem g_hit {c cls : Value} {ts : Addr → Value → Option Addr → TS} {Wout : WX} {d : Option Addr} (h : PySem.W.exmOne K cls c = some true) (q : ∀ a, H a = none → ts a cls d D σ H) : WE (wOnly K c ts Wout D) σ cls d H :=
  ⟨true, h, fun _ => q, fun z => nomatch z⟩
/-! ## a list of a loan's numbers and its row -/
def StoodAt (H : Hp) (s : Addr) (l b d : Int) (row : Row) : Prop := ∃ lr, H s = some (.lst [.int l, .int b, .int d, .ref lr]) ∧ RowAt H lr row
theorem StoodAt.same {H H' : Hp} {s : Addr} {l b d : Int} {row : Row} (h : StoodAt H s l b d row) (e : Same H H') : StoodAt H' s l b d row := by
  obtain ⟨lr, h1, h2⟩ := h
  exact ⟨lr, e _ _ h1, h2.same e⟩
theorem StoodAt.but {H H' : Hp} {s x C dx : Addr} {l b d : Int} {row : Row} {fs : List (Str × V)} (h : StoodAt H s l b d row) (k : But x H H') (hx : H x = some (.ins C dx fs)) : StoodAt H' s l b d row := by
  obtain ⟨lr, h1, h2⟩ := h
  obtain ⟨ys, h3, _⟩ := id h2
  exact ⟨lr, k _ _ (ne_of h1 hx (by intro z; cases z)) h1, h2.but k (ne_of h3 hx (by intro z; cases z)) (fun ps e => by rw [hx] at e; cases e)⟩
theorem RowAt.butI {H H' : Hp} {l x C dx : Addr} {row : Row} {fs : List (Str × V)} (h : RowAt H l row) (k : But x H H') (hx : H x = some (.ins C dx fs)) : RowAt H' l row := by
  obtain ⟨ys, h3, _⟩ := id h
  exact h.but k (ne_of h3 hx (by intro z; cases z)) (fun ps e => by rw [hx] at e; cases e)
theorem LoanAt.butI {H H' : Hp} {x y C D2 r : Addr} {l b d : Int} {row : Row} {fs : List (Str × V)} {dx : Addr} (h : LoanAt C H y l b d r row) (k : But x H H') (hy : y ≠ x) (hx : H x = some (.ins D2 dx fs)) : LoanAt C H' y l b d r row := by
  obtain ⟨⟨dy, h1⟩, h2⟩ := h
  exact ⟨⟨dy, k _ _ hy h1⟩, h2.butI k hx⟩
/-- a, b, c, d = a list of four -/
theorem g_unpL4 {i1 i2 i3 i4 : Nat} {p : Addr} {a b c d : V} {R : L2.St → Hp → Prop} (h : H p = some (.lst [a, b, c, d])) (q : R ((((σ.set i1 (some a)).set i2 (some b)).set i3 (some c)).set i4 (some d)) H) :
    gLst K 4 (gCons (gName i1) (gCons (gName i2) (gCons (gName i3) (gCons (gName i4) gNil)))) (.ref p) σ H R :=
  ⟨p, _, rfl, SqL.of h, rfl, a, _, rfl, b, _, rfl, c, _, rfl, d, _, rfl, rfl, q⟩
theorem g_seq_asgL {g : TGs} {n : Nat} (h : te σ H fun x H1 => gLst K n g x σ H1 (u D)) : tSeq (tAsg te (gLst K n g)) u D σ H := h
theorem g_slL {l : Addr} {xs : List V} {k : Int} (h : SqL K H l xs) (h0 : 0 ≤ k) (h1 : k ≤ xs.length) (q : ∀ p H', H p = none → Same H H' → H' p = some (.lst (xs.take k.toNat)) → Q (.ref p) H') : rSlL K (.ref l) none (some k) H Q :=
  ⟨l, xs, rfl, h, fun p np => q p _ np (same_new np) (by rw [cut_to xs h0 h1]; exact upd_same)⟩
theorem g_slLF {l : Addr} {xs : List V} {k : Nat} (h : SqL K H l xs) (q : ∀ p H', H p = none → Same H H' → H' p = some (.lst (xs.drop k)) → Q (.ref p) H') : rSlL K (.ref l) (some (k : Int)) none H Q := by
  refine ⟨l, xs, rfl, h, fun p np => q p _ np (same_new np) ?_⟩
  have e : cutV xs (some (k : Int)) none = xs.drop k := by
    unfold cutV
    rw [HT.sIx_none, HT.sIx_nat, List.take_of_length_le (by rw [List.length_drop]; exact Nat.le_refl _)]
    rcases Nat.le_total k xs.length with z | z
    · rw [Nat.min_eq_left z]
    · rw [Nat.min_eq_right z, List.drop_length, List.drop_of_length_le z]
  rw [e]; exact upd_same
/-- a, xs[i] = a pair -/
theorem g_unpS {i : Nat} {p : Addr} {v w : V} {tl ti : TE} {R : L2.St → Hp → Prop} (h : H p = some (.tup [v, w]))
    (q : tl (σ.set i (some v)) H fun o H1 => ti (σ.set i (some v)) H1 fun k H2 => rSetL o k w H2 fun H3 => ([] : List V) = [] ∧ R (σ.set i (some v)) H3) : gTup K 2 (gCons (gName i) (gCons (gSub tl ti rSetL) gNil)) (.ref p) σ H R := by
  exact ⟨p, [v, w], rfl, SqT.of h, rfl, v, [w], rfl, w, [], rfl, q⟩
theorem g_setL {l : Addr} {xs : List V} {k : Int} {j : Nat} {v : V} {R : Hp → Prop} (h : H l = some (.lst xs)) (hk : ixN xs.length k = some j) (q : R (upd H l (.lst (xs.set j v)))) : rSetL (.ref l) (.int k) v H R := ⟨l, xs, k, j, rfl, rfl, h, hk, q⟩
theorem g_seq_asgSub {tv to ti : TE} {t : TSet} (h : tv σ H fun v H1 => to σ H1 fun o H2 => ti σ H2 fun i H3 => t o i v H3 fun H4 => u D σ H4) : tSeq (tAsg tv (gSub to ti t)) u D σ H := h
theorem g_asgSub {tv to ti : TE} {t : TSet} (h : tv σ H fun v H1 => to σ H1 fun o H2 => ti σ H2 fun i H3 => t o i v H3 fun H4 => D.nx σ H4) : tAsg tv (gSub to ti t) D σ H := h
/-! ## promises -/
def sp_walked : Sp := fun vs H Q _ => ∃ s D l b d row, vs = [.ref s, .int D] ∧ StoodAt H s l b d row ∧ RowOk row ∧ row.length ≤ 100 ∧ NumOk l b d ∧ d ≤ D ∧ D ≤ 100000 ∧ Q (.int (thenF l b d row D)) H
theorem g_walked {s : Addr} {D l b d : Int} {row : Row} (h : StoodAt H s l b d row) (ok : RowOk row) (hl : row.length ≤ 100) (n : NumOk l b d) (h1 : d ≤ D) (h2 : D ≤ 100000) (q : Q (.int (thenF l b d row D)) H) : sp_walked ([.ref s, .int D] ++ []) H Q E := ⟨s, D, l, b, d, row, rfl, h, ok, hl, n, h1, h2, q⟩
def sp_cents8 : Sp := fun vs H Q _ => ∃ c l b, vs = [.int c, .int l, .int b] ∧ 1 ≤ owedF l b ∧ ∀ H', Same H H' → Q (.int (cents8 c l b)) H'
theorem g_cents8 {c l b : Int} (h : 1 ≤ owedF l b) (q : ∀ H', Same H H' → Q (.int (cents8 c l b)) H') : sp_cents8 ([.int c, .int l, .int b] ++ []) H Q E := ⟨c, l, b, rfl, h, q⟩
/-- what a deed tells: a truth and the numbers as they are then -/
def Deed (C : Addr) (H : Hp) (x : Addr) (row0 : Row) (Q : VK) : Prop := ∀ t s H' l b d r row, row.take 1 = row0.take 1 → H t = none → But x H H' → H' t = some (.tup [.bl true, .ref s]) → LoanAt C H' x l b d r row → StoodAt H' s l b d row → RowOk row → lastDay row ≤ 100000 → row.length ≤ 60 → NumOk l b d → Q (.ref t) H'
/-- the loan, its numbers, and a day -/
structure At8 (C : Addr) (H : Hp) (x s : Addr) (l b d : Int) (r : Addr) (row : Row) : Prop where
  L : LoanAt C H x l b d r row
  S : StoodAt H s l b d row
  ok : RowOk row
  last : lastDay row ≤ 100000
  len : row.length ≤ 60
  n : NumOk l b d
def sp_pay8 (C : Addr) : Sp := fun vs H Q _ => ∃ x s D z l b d r row, vs = [.ref x, .ref s, .int D, .int z] ∧ At8 C H x s l b d r row ∧ d ≤ D ∧ D ≤ 100000 ∧ 1 ≤ owedF l (thenF l b d row D) ∧ Deed C H x row Q
def sp_no_pay8 (C : Addr) : Sp := fun vs H Q _ => ∃ x s D z l b d r row, vs = [.ref x, .ref s, .int D, .int z] ∧ At8 C H x s l b d r row ∧ d ≤ D ∧ D ≤ 100000 ∧ ∀ H', Same H H' → Q (.bl true) H'
def sp_change8 (C : Addr) : Sp := fun vs H Q _ => ∃ x s D z l b d r row, vs = [.ref x, .ref s, .int D, .int z] ∧ At8 C H x s l b d r row ∧ row.length < 60 ∧ -(10 ^ 50) ≤ D ∧ D ≤ 10 ^ 50 ∧ Deed C H x row Q
def sp_look8 (C : Addr) : Sp := fun vs H Q _ => ∃ x s D l b d r row, vs = [.ref x, .ref s, .int D] ∧ At8 C H x s l b d r row ∧ d ≤ D ∧ D ≤ 100000 ∧ ∀ H', Same H H' → Q (.bl true) H'
def sp_deed8 (C : Addr) : Sp := fun vs H Q _ => ∃ x s D z l b d r row, vs = [.ref x, .ref s, .int D, .int z] ∧ At8 C H x s l b d r row ∧ d ≤ D ∧ D ≤ 100000 ∧ Deed C H x row Q
def sp_as_told8 (C : Addr) : Sp := fun vs H Q _ => ∃ x s l b d r row, vs = [.ref x, .ref s] ∧ LoanAt C H x l b d r row ∧ StoodAt H s l b d row ∧ ∀ H', Same H H' → Q (.bl true) H'
/-! ## a list of objects is changed: rows, loans and their numbers stay -/
/-- at p a list that begins with a thing that is no pair -/
structure Objs (H : Hp) (p : Addr) : Prop where
  h : ∃ y ys, H p = some (.lst (.ref y :: ys)) ∧ ∀ ps, H y ≠ some (.tup ps)
theorem Objs.lst {H : Hp} {p y : Addr} {ys zs : List V} (h : H p = some (.lst (.ref y :: ys))) (hy : H y = some (.lst zs)) : Objs H p := ⟨y, ys, h, fun ps e => by rw [hy] at e; cases e⟩
theorem Objs.ins {H : Hp} {p y C dx : Addr} {ys : List V} {fs : List (Str × V)} (h : H p = some (.lst (.ref y :: ys))) (hy : H y = some (.ins C dx fs)) : Objs H p := ⟨y, ys, h, fun ps e => by rw [hy] at e; cases e⟩
theorem RowAt.butP {H H' : Hp} {r p : Addr} {row : Row} (h : RowAt H r row) (o : Objs H p) (k : But p H H') : RowAt H' r row := by
  obtain ⟨y, ys, h1, h2⟩ := o.h
  obtain ⟨xs, h3, h4⟩ := id h
  refine h.but k (fun z => ?_) fun ps e => by rw [h1] at e; cases e
  rw [z, h1] at h3
  cases h3
  cases h4 with
  | cons e _ => exact h2 _ e
theorem StoodAt.butP {H H' : Hp} {s p : Addr} {l b d : Int} {row : Row} (h : StoodAt H s l b d row) (o : Objs H p) (k : But p H H') : StoodAt H' s l b d row := by
  obtain ⟨y, ys, h1, _⟩ := id o.h
  obtain ⟨lr, h3, h4⟩ := h
  exact ⟨lr, k _ _ (ne_of h3 h1 (by intro z; cases z)) h3, h4.butP o k⟩
theorem LoanAt.butP {C : Addr} {H H' : Hp} {x p r : Addr} {l b d : Int} {row : Row} (h : LoanAt C H x l b d r row) (o : Objs H p) (k : But p H H') : LoanAt C H' x l b d r row := by
  obtain ⟨y, ys, h1, _⟩ := id o.h
  obtain ⟨⟨dx, h3⟩, h4⟩ := h
  exact ⟨⟨dx, k _ _ (ne_of h3 h1 (by intro z; cases z)) h3⟩, h4.butP o k⟩
theorem At8.same {C : Addr} {H H' : Hp} {x s r : Addr} {l b d : Int} {row : Row} (h : At8 C H x s l b d r row) (e : Same H H') : At8 C H' x s l b d r row := ⟨h.L.same e, h.S.same e, h.ok, h.last, h.len, h.n⟩
theorem At8.butP {C : Addr} {H H' : Hp} {x s r p : Addr} {l b d : Int} {row : Row} (h : At8 C H x s l b d r row) (o : Objs H p) (k : But p H H') : At8 C H' x s l b d r row := ⟨h.L.butP o k, h.S.butP o k, h.ok, h.last, h.len, h.n⟩
theorem At8.butI {C : Addr} {H H' : Hp} {x s r y D dy : Addr} {l b d : Int} {row : Row} {fs : List (Str × V)} (h : At8 C H x s l b d r row) (k : But y H H') (n : x ≠ y) (hy : H y = some (.ins D dy fs)) : At8 C H' x s l b d r row :=
  ⟨h.L.butI k n hy, h.S.but k hy, h.ok, h.last, h.len, h.n⟩
/-- the two loans, their lists, as they stand between two deeds -/
structure Pair8 (C : Addr) (rr : Int) (lrow ll ss : Addr) (H : Hp) (x0 x1 s0 s1 : Addr) : Prop where
  hll : H ll = some (.lst [.ref x0, .ref x1])
  hss : H ss = some (.lst [.ref s0, .ref s1])
  ne : x0 ≠ x1
  hR : RowAt H lrow [(0, rr)]
  a0 : ∃ l b d r row, At8 C H x0 s0 l b d r row ∧ row.take 1 = [(0, rr)]
  a1 : ∃ l b d r row, At8 C H x1 s1 l b d r row ∧ row.take 1 = [(0, rr)]
theorem Pair8.same {C : Addr} {rr : Int} {lrow ll ss : Addr} {H H' : Hp} {x0 x1 s0 s1 : Addr} (h : Pair8 C rr lrow ll ss H x0 x1 s0 s1) (e : Same H H') : Pair8 C rr lrow ll ss H' x0 x1 s0 s1 :=
  ⟨e _ _ h.hll, e _ _ h.hss, h.ne, h.hR.same e, let ⟨l, b, d, r, row, a, t⟩ := h.a0; ⟨l, b, d, r, row, a.same e, t⟩, let ⟨l, b, d, r, row, a, t⟩ := h.a1; ⟨l, b, d, r, row, a.same e, t⟩⟩
end
end Lp
namespace Lp
open PySem L2
/-! ## a caught error handed to a def that raises nothing -/
/-- the error's object, its class and its dict -/
structure ErrOk (cls : Value) (d : Option Addr) (p : Addr × Obj) : Prop where
  z : Zc cls d p.2
  f : ∃ vs, p.2.data = .fields vs
abbrev SpE := Addr → Value → Option Addr → Sp
structure FnE (P : Program) (w : World) (K : PySem.W.Frag) (mg : Str → Option Value) (base : Heap) (k : Nat) (f : Addr) (fd : FuncData) (ps : List Str) (sp : SpE) : Prop where
  len : ∀ a cls d vs H Q E, sp a cls d vs H Q E → vs.length = ps.length
  go : ∀ (A : Around) (outer : List Env) (s : Shared) (H : Hp) (args : Args) (us : List Value) (vs : List V) (Q : VK) (p : Addr × Obj) (cls : Value) (d : Option Addr), L2H.RoomH k A → L2H.PinOk outer H s p → ErrOk cls d p →
    Env0 P w K mg base A outer s H → BindsTo s fd args (ps.zip us) → Vals vs us → sp p.1 cls d vs H Q E0 → codeAny (model P w) A (.call (.ref f) args) (CR CX0 outer P w H s Q E0) s
section
variable {P : Program} {w : World} {K : PySem.W.Frag} {mg : Str → Option Value} {base : Heap}
theorem Fun.okE {x qual : Str} {st : Stmt} {f : Addr} {fd : FuncData} {N ps : List Str} {k : Nat} {sp : SpE} (F : L2.Fun K x qual st f fd) (S : FnScope N ps (defScope st)) (len : ∀ a cls d vs H Q E, sp a cls d vs H Q E → vs.length = ps.length)
    (body : ∀ (cdv : Value) (A : Around) (outer : List Env) (s : Shared) (H : Hp) (vs : List V) (Q : VK) (p : Addr × Obj) (cls : Value) (d : Option Addr), ErrOk cls d p → sp p.1 cls d vs H Q E0 →
      ∃ t, PSs (L2H.cxH CX0 P w K mg base N qual (defScope st) f cdv A outer s H E0 p) (defBody st) t ∧ t { nx := fun _ H' => Q .non H', rt := Q } (L2.start N vs) H) : FnE P w K mg base (k + 1) f fd ps sp := by
  obtain ⟨oc, od, kV, doc, pm, an, cdv, ct, osl, rfl, lk, hcd⟩ := F.ex
  constructor
  · exact len
  intro A outer s H args us vs Q p cls d hr pin err e0 hb rv hsp
  have same0 : ∀ b o, base.get? b = some o → s.heap.get? b = some o := fun b o e => (e0.bs b o e).1
  have KX : K.In s.heap := e0.mod.kin.keeps same0
  have zipk : ∀ y ∈ ps.zip us, (defScope st).names.lookup y.1 = some .local ∨ ((defScope st).names.lookup y.1 = some .cell ∧ ((cellsFrom (s.heap.objs.size + 1) (defScope st).names []).lookup y.1).isSome = true) := by
    intro y hy
    rcases S.par y.1 (List.of_mem_zip hy).1 with q | q
    · left; exact q
    · right; exact ⟨q, PySem.W.cellsFrom_some _ _ _ (Or.inl q)⟩
  apply codeAny_call_function hr.depth (KX _ _ lk) rfl S.co S.gen rfl (PySem.W.codeRec_of KX hcd)
  apply hb
  apply wpAny_newFunctionEnv_cells S.kind zipk
  intro env he s1 x
  subst he
  constructor
  · exact (e0.mod.nolimit.keeps same0).keeps x.toInCall.keep
  apply codeAny_func
  obtain ⟨t, ht, q⟩ := body cdv A outer s H vs Q p cls d err hsp
  have I := L2H.inv_startH (CX := CX0) (E := E0) (N := N) (qual := qual) (f := f) (cd := cdv) S pin e0 (len _ _ _ _ _ _ _ hsp) rv x
  apply wpAny_mono (ht.run [] s1 (L2.start N vs) H _ I q)
  · intro fl s' hs
    cases fl with
    | ret u =>
      obtain ⟨v, _, H', J, r2, q2⟩ := hs
      exact ⟨v, H', J.os, J.bare, J.base, J.hok, r2, q2⟩
    | next =>
      obtain ⟨_, H', J, q2⟩ := hs
      exact ⟨V.non, H', J.os, J.bare, J.base, J.hok, rfl, q2⟩
    | brk =>
      rcases hs with ⟨_, _, _, no⟩
      cases no
    | cont =>
      rcases hs with ⟨_, _, _, no⟩
      cases no
  · intro e s' hs; exact hs
end
/-- f(e), e the error of the suite -/
def tCallE (sp : SpE) (a : Addr) (cls : Value) (d : Option Addr) (t : TA) : TE := fun σ H Q => t σ H fun vs H1 => sp a cls d vs H1 Q E0
theorem pe_callE {X : Cx} {k : Nat} {f a : Addr} {oe : Obj} {pn : List (Addr × Obj)} {cls : Value} {d : Option Addr} {fd : FuncData} {ps : List Str} {sp : SpE} {x : Str} {p pos : Pos} {e : Expr} {es : List Expr} {t : TA} (hz : Zc cls d oe) (hf : ∃ vs, oe.data = .fields vs)
    (F : FnE X.prog X.w X.K X.mg X.base k f fd ps sp) (hr : L2H.RoomH k (X.suite a ((a, oe) :: pn)).A) (hg : Gl (X.suite a ((a, oe) :: pn)) x) (hm : X.mg x = some (.ref f)) (hk : PySem.W.keepIn X.K (.ref f) = true) (hb : Binds X.K fd ps [])
    (ha : PA (X.suite a ((a, oe) :: pn)) (e :: es) t) (hdb : (x == ("__debug__" : Str)) = false := by decide) (he : starEach (e :: es) X.env = (false, eval e X.env) :: starEach es X.env := by rfl) (hpl : (backTo pos (starEach es X.env)).any (·.1) = false := by rfl) :
    PE (X.suite a ((a, oe) :: pn)) (.Call (.Name x p) (e :: es) [] pos) (tCallE sp a cls d t) := by
  constructor
  intro pins s σ H Q I h
  apply wpAny_Call_Name_kw
  apply ld_glob I hg hm (hd := hdb)
  refine PySem.W.callWith_K (h₀ := X.base) I.ok.mod.kin hk ?_ he hpl
  apply thn (ha.run pos pins s σ H _ I h)
  rintro us s1 ⟨vs, H1, I1, r, q⟩
  refine ⟨I1.kIn, ?_⟩
  have hl : us.length = ps.length := by rw [← r.length]; exact F.len _ _ _ _ _ _ _ q
  have b := hb s1 us I1.kIn (by rw [List.append_nil]; exact hl)
  rw [List.append_nil] at b
  have p1 := I1.pin (a, oe) (List.mem_append.mpr (.inl List.mem_cons_self))
  have pin : L2H.PinOk (X.suite a ((a, oe) :: pn)).stack H1 s1 (a, oe) := by
    refine ⟨p1.1, p1.2.1, ?_, p1.2.2.2.2⟩
    intro hm
    rcases List.mem_cons.mp (I1.stkSub _ hm) with z | z
    · exact p1.2.2.1 z
    · exact p1.2.2.2.1 z
  apply wpAny_call
  apply codeAny_mono (F.go _ _ s1 H1 ⟨us, []⟩ us vs Q (a, oe) cls d hr pin ⟨hz, hf⟩ I1.env0 b r q)
  intro r' s' hq
  cases r' with
  | error _ => exact hq.elim
  | ok fl =>
    cases fl with
    | ret u => exact I1.after hq
    | next => exact hq.elim
    | brk => exact hq.elim
    | cont => exact hq.elim
/-- isinstance(e, c) in such a def -/
theorem call_isX {X : Cx} {a D : Addr} {oe : Obj} (hp : (a, oe) ∈ X.pn) (C : ExcC X.K D) (hz : Zc (.ref D) none oe) (hf : ∃ vs, oe.data = .fields vs) : CallR X (.builtin "isinstance") (rIsE X.K D a) := by
  intro pins s σ H xs us Q I r h
  obtain ⟨c, cv, b, rfl, hcv, e, q⟩ := h
  obtain ⟨u1, u2, rfl, rx, rt⟩ := vals2 r
  cases rx
  obtain rfl := hcv _ rt
  have hget := (I.pin (a, oe) (List.mem_append.mpr (.inl hp))).1
  obtain ⟨vs, hv⟩ := hf
  obtain ⟨oc, od, oda, osl⟩ := oe
  obtain ⟨z1, z2⟩ := hz
  dsimp only at z1 z2 hv
  subst z1 z2 hv
  have J : PySem.W.InstAt s.heap a ⟨.ref D, none, .fields vs, osl⟩ D none := ⟨hget, rfl, rfl, trivial⟩
  apply PySem.W.kia_one (PySem.W.handS_kitx_exc C.hg C.hk C.hs C.hd C.ha C.hn C.ht C.hm) I.kIn J e (fun z => nomatch z)
  intro tk
  exact ⟨.bl b, H, I.kept (t' := tk) fun _ _ z => z, rfl, q⟩
theorem roomE {k j : Nat} {A : Around} {v : Option Value} (hr : Room k A) (h : j ≤ k) : L2H.RoomH j (A.mark v) :=
  ⟨by have := hr.dp; show A.depth + 3 * j + 5 < _; omega, by have := hr.un; show A.units + 16 * j + 200 < _; omega⟩
section
variable {σ : L2.St} {H : Hp} {Q : VK} {E : XK} {D : Ends} {K : PySem.W.Frag} {te ta tb : TE} {tt tu : TT} {t u w : TS}
/-! ## more tries -/
def tTryM (K : PySem.W.Frag) (Wout : WX) (l : List (Value × (Addr → Value → Option Addr → TS))) (tb : WX → TS) : TS := fun D σ H => tb (wMany K Wout D l) D σ H
theorem ps_tryM {X : Cx} {body : List Stmt} {h₀ : ExceptHandler} {hds : List ExceptHandler} {l : List (Value × (Addr → Value → Option Addr → TS))} {pos : Pos} {tb : WX → TS} {Wout : WX} (hs : X.stack = X.env :: X.outer) (hf : X.env.frame = some X.env.locals) (tk : Takes X Wout)
    (hb : ∀ (W : WX) (pn : List (Addr × Obj)) (xe : Value → Shared → Prop), Takes (X.tr pn xe) W → PassesOwn (model X.prog X.w) X.A X.env xe → PSs (X.tr pn xe) body (tb W)) (hh : HdsOk X (h₀ :: hds) l) :
    PS X (.Try body (h₀ :: hds) [] [] pos) (tTryM X.K Wout l tb) := ps_try_many hs hf tk hb hh
theorem g_seq_tryM {Wout : WX} {l : List (Value × (Addr → Value → Option Addr → TS))} {tb : WX → TS} (h : tb (wMany K Wout { D with nx := u D } l) { D with nx := u D } σ H) : tSeq (tTryM K Wout l tb) u D σ H := h
theorem g_hitM {c cls : Value} {ts : Addr → Value → Option Addr → TS} {Wout : WX} {l : List (Value × (Addr → Value → Option Addr → TS))} {d : Option Addr} (h : PySem.W.exmOne K cls c = some true) (q : ∀ a, H a = none → ts a cls d D σ H) : WE (wMany K Wout D ((c, ts) :: l)) σ cls d H :=
  ⟨true, h, fun _ => q, fun z => nomatch z⟩
theorem g_missM {c cls : Value} {ts : Addr → Value → Option Addr → TS} {Wout : WX} {l : List (Value × (Addr → Value → Option Addr → TS))} {d : Option Addr} (h : PySem.W.exmOne K cls c = some false) (q : WE (wMany K Wout D l) σ cls d H) : WE (wMany K Wout D ((c, ts) :: l)) σ cls d H :=
  ⟨false, h, (fun z => nomatch z), fun _ => q⟩
def tTryAs (K : PySem.W.Frag) (c : Value) (i : Nat) (ts : Addr → Value → Option Addr → TS) (Wout : WX) (tb : WX → TS) : TS := fun D σ H => tb (wAs K c i ts Wout D) D σ H
theorem ps_tryAs {X : Cx} {x n : Str} {c : Value} {i : Nat} {body suite : List Stmt} {b₀ : Stmt} {np pos pos' : Pos} {tb : WX → TS} {ts : Addr → Value → Option Addr → TS} {Wout : WX} (hs : X.stack = X.env :: X.outer) (hf : X.env.frame = some X.env.locals) (hN : X.N.Nodup) (hi : X.N[i]? = some n) (hln : X.env.kindOf n = some .local) (hc : Names X x c) (tk : Takes X Wout)
    (hb : ∀ (W : WX) (pn : List (Addr × Obj)) (xe : Value → Shared → Prop), Takes (X.tr pn xe) W → PassesOwn (model X.prog X.w) X.A X.env xe → PSs (X.tr pn xe) body (tb W))
    (hsu : ∀ (a : Addr) (oe : Obj) (cls : Value) (d : Option Addr) (pn : List (Addr × Obj)), Zc cls d oe → (∃ vs, oe.data = .fields vs) → PSs (X.suite a ((a, oe) :: pn)) (b₀ :: suite) (ts a cls d)) :
    PS X (.Try body [.ExceptHandler (some (.Name x np)) (some n) (b₀ :: suite) pos'] [] [] pos) (tTryAs X.K c i ts Wout tb) := ps_try_as hs hf hN hi hln hc tk hb hsu
theorem g_seq_tryAs {c : Value} {i : Nat} {ts : Addr → Value → Option Addr → TS} {Wout : WX} {tb : WX → TS} (h : tb (wAs K c i ts Wout { D with nx := u D }) { D with nx := u D } σ H) : tSeq (tTryAs K c i ts Wout tb) u D σ H := h
theorem g_hitAs {c cls : Value} {i : Nat} {ts : Addr → Value → Option Addr → TS} {Wout : WX} {d : Option Addr} (h : PySem.W.exmOne K cls c = some true)
    (q : ∀ a, H a = none → ts a cls d { nx := fun σ' H' => D.nx (σ'.set i none) H', rt := D.rt, bk := fun σ' H' => D.bk (σ'.set i none) H', ct := fun σ' H' => D.ct (σ'.set i none) H' } (σ.set i (some (.ref a))) H) : WE (wAs K c i ts Wout D) σ cls d H :=
  ⟨true, h, fun _ => q, fun z => nomatch z⟩
theorem g_callS {sp : Sp} {E : L2.St → XK} {tr : TA} (h : tr σ H fun vs H1 => sp vs H1 Q (E σ)) : tCallS sp E tr σ H Q := h
theorem g_callE {sp : SpE} {a : Addr} {cls : Value} {d : Option Addr} {tr : TA} (h : tr σ H fun vs H1 => sp a cls d vs H1 Q E0) : tCallE sp a cls d tr σ H Q := h
/-! ## a class called in a try -/
def tMakeW (C : Addr) (sp : Sp) (W : WX) (t : TA) : TE := fun σ H Q => t σ H fun vs H1 => MkV C sp [] (WE W σ) vs H1 Q
theorem pe_makeW {X : Cx} {k : Nat} {f C : Addr} {fd : FuncData} {ps : List Str} {sp : Sp} {W : WX} {x : Str} {p pos : Pos} {e : Expr} {es : List Expr} {t : TA} (tk : Takes X W) (M : Mk X.K C f) (F : FnOk X.prog X.w X.K X.mg X.base (L2.CX X.prog X.w) k f fd ps sp) (hr : Room (k + 1) X.A)
    (hg : Gl X x) (hm : X.mg x = some (.ref C)) (hb : Binds X.K fd ps []) (ha : PA X (e :: es) t) (hdb : (x == ("__debug__" : Str)) = false := by decide)
    (he : starEach (e :: es) X.env = (false, eval e X.env) :: starEach es X.env := by rfl) (hpl : (backTo pos (starEach es X.env)).any (·.1) = false := by rfl) : PE X (.Call (.Name x p) (e :: es) [] pos) (tMakeW C sp W t) := by
  constructor
  intro pins s σ H Q I h
  apply wpAny_Call_Name_kw
  apply ld_glob I hg hm (hd := hdb)
  refine PySem.W.callWith_K (h₀ := X.base) I.ok.mod.kin M.kp ?_ he hpl
  apply thn (ha.run pos pins s σ H _ I h)
  rintro us s1 ⟨vs, H1, I1, r, q⟩
  refine ⟨I1.kIn, ?_⟩
  have q1 := q (s1.heap.objs.size + 1) s1.heap.objs.size (I1.hok.fresh (Nat.le_add_right _ 1)) (I1.hok.fresh (Nat.le_refl _)) (Nat.ne_of_lt (Nat.lt_succ_self _))
  have I2 := Inv.made (C := C) I1
  rw [List.append_nil] at q1
  have r2 : Vals (V.ref (s1.heap.objs.size + 1) :: vs) (Value.ref (s1.heap.objs.size + 1) :: us) := .cons rfl r
  have hl := r2.length.symm.trans (F.len _ _ _ _ q1)
  have b := hb _ (Value.ref (s1.heap.objs.size + 1) :: us) I2.kIn (by rw [List.append_nil]; exact hl)
  rw [List.append_nil] at b
  apply wpAny_call
  refine make_map (f := f) I1.kIn M.makes M.init (beq_iff_eq.mp M.fn) (codeAny_mono (F.run _ X.stack _ _ ⟨_, []⟩ _ _ _ (WE W σ) (hr.make C us []) (I2.env0.make C us []) b r2 q1) ?_)
  rintro (e | fl) s' hq
  · exact passAt tk σ pins _ _ e s' I2 hq
  · rcases fl with _ | _ | _ | v
    case ret =>
      obtain ⟨y, H', I3, rv, ey, q3⟩ := I2.after hq
      subst ey
      exact ⟨rv, V.ref (s1.heap.objs.size + 1), H', I3, rfl, q3⟩
    all_goals exact False.elim hq
theorem g_makeW {C : Addr} {sp : Sp} {W : WX} {tr : TA} (h : tr σ H fun vs H1 => MkV C sp [] (WE W σ) vs H1 Q) : tMakeW C sp W tr σ H Q := h
/-! ## the error alone -/
theorem kit_sub {K : PySem.W.Frag} {D C : Addr} {b : Bool} (h1 : PySem.W.subIn K (.ref D) (.ref D) = some true) (h2 : PySem.W.subIn K (.ref D) (.ref C) = some b) (hd : PySem.W.hasDictIn K C = true) (ht : PySem.W.typeIn K (.ref C) = some (.type "type")) : PySem.W.kitOne K (.ref D) (.ref C) = some b := by
  unfold PySem.W.kitOne
  by_cases e : D = C
  · subst e
    rw [h1] at h2
    cases h2
    simp
  · have ne : ((Value.ref D : Value) == Value.ref C) = false := by simpa using e
    have hs : (PySem.W.clsIn K C).isSome = true := by
      obtain ⟨cd, hc, _⟩ := PySem.W.any_some hd
      rw [hc]; rfl
    rw [ne]
    show (if ((PySem.W.clsIn K C).isSome && PySem.W.typeIn K (.ref C) == some (.type "type")) = true then PySem.W.subIn K (.ref D) (.ref C) else none) = some b
    rw [hs, ht]
    exact h2
theorem kit_ve {K : PySem.W.Frag} {D : Addr} (h : PySem.W.subIn K (.ref D) (.type "ValueError") = some true) : PySem.W.kitOne K (.ref D) (.type "ValueError") = some true := by
  show (if PySem.W.kitMeta "ValueError" = true then PySem.W.subIn K (.ref D) (.type "ValueError") else none) = some true
  rw [if_pos (by decide +kernel)]
  exact h
def b1 (b : Bool) : Int := if b = true then 1 else 0
structure AloneOk (K : PySem.W.Frag) (D cA cR cD cP cN : Addr) : Prop where
  c : ExcC K D
  k : ∃ x1 x2 x3 x4 x5 : Bool, PySem.W.kitOne K (.ref D) (.ref cA) = some x1 ∧ PySem.W.kitOne K (.ref D) (.ref cR) = some x2 ∧ PySem.W.kitOne K (.ref D) (.ref cD) = some x3 ∧ PySem.W.kitOne K (.ref D) (.ref cP) = some x4 ∧ PySem.W.kitOne K (.ref D) (.ref cN) = some x5 ∧ b1 x1 + b1 x2 + b1 x3 + (b1 x4) + b1 x5 = 1
  v : PySem.W.kitOne K (.ref D) (.type "ValueError") = some true
def sp_alone (K : PySem.W.Frag) (cA cR cD cP cN : Addr) : SpE := fun a cls d vs H Q _ => ∃ D, cls = .ref D ∧ d = none ∧ vs = [.ref a] ∧ AloneOk K D cA cR cD cP cN ∧ Q (.bl true) H
theorem g_isE {a D C : Addr} {b : Bool} (k : PySem.W.kitOne K (.ref D) (.ref C) = some b) (q : Q (.bl b) H) : rIsE K D a [.ref a, .ref C] H Q := ⟨.ref C, .ref C, b, rfl, fun _ r => r, k, q⟩
theorem g_isEV {a D : Addr} {n : String} {b : Bool} (k : PySem.W.kitOne K (.ref D) (.type n) = some b) (q : Q (.bl b) H) : rIsE K D a [.ref a, .ty n] H Q := ⟨.ty n, .type n, b, rfl, fun _ r => r, k, q⟩
def rIsS (K : PySem.W.Frag) (cls : Value) (d : Option Addr) (a : Addr) : List V → Hp → VK → Prop := fun xs H Q => ∃ D, cls = .ref D ∧ d = none ∧ ExcC K D ∧ rIsE K D a xs H Q
theorem call_isS {X : Cx} {a : Addr} {oe : Obj} {cls : Value} {d : Option Addr} (hp : (a, oe) ∈ X.pn) (hz : Zc cls d oe) (hf : ∃ vs, oe.data = .fields vs) : CallR X (.builtin "isinstance") (rIsS X.K cls d a) := by
  intro pins s σ H xs us Q I r h
  obtain ⟨D, rfl, rfl, c, q⟩ := h
  exact call_isX hp c hz hf pins s σ H xs us Q I r q
theorem g_isS {a D C : Addr} {b : Bool} (c : ExcC K D) (k : PySem.W.kitOne K (.ref D) (.ref C) = some b) (q : Q (.bl b) H) : rIsS K (.ref D) none a [.ref a, .ref C] H Q := ⟨D, rfl, rfl, c, g_isE k q⟩
theorem g_isSV {a D : Addr} {n : String} {b : Bool} (c : ExcC K D) (k : PySem.W.kitOne K (.ref D) (.type n) = some b) (q : Q (.bl b) H) : rIsS K (.ref D) none a [.ref a, .ty n] H Q := ⟨D, rfl, rfl, c, g_isEV k q⟩
/-! ## rows that may be none -/
def dueF (row : Row) : Str := match checkF row with
  | some true => "day"
  | some false => "rate"
  | none => ""
def sp_faulty : Sp := fun vs H Q _ => ∃ l c row, vs = [.ref l, .int c] ∧ RowAt H l row ∧ row.length ≤ 100 ∧ Builtin.Int.intBits c ≤ 1048576 ∧ ∀ l' H' row', row'.length = row.length → Same H H' → RowAt H' l' row' → Q (.ref l') H'
def sp_due : Sp := fun vs H Q _ => ∃ l row, vs = [.ref l] ∧ RowAt H l row ∧ Q (.str (dueF row)) H
def sp_any : Sp := fun vs H Q _ => ∃ l row, vs = [.ref l] ∧ RowAt H l row ∧ row.length ≤ 100 ∧ checkF row ≠ none ∧ ∀ H', Same H H' → Q (.bl true) H'
def sp_loaned : Sp := fun vs H Q _ => ∃ l row, vs = [.ref l] ∧ RowAt H l row ∧ row.length ≤ 100 ∧ ∀ H', Same H H' → Q (.str (dueF row)) H'
theorem same_of_make {H H' : Hp} {x dx C : Addr} (nx : H x = none) (nd : H dx = none) (b : But x (upd (upd H dx (.own x)) x (.ins C dx [])) H') : Same H H' := fun c o e =>
  b c o (ne_of_none e nx) (by rw [upd_ne (ne_of_none e nx), upd_ne (ne_of_none e nd)]; exact e)
theorem cell_bits {ns : List Int} (h : ∀ z ∈ ns, Builtin.Int.intBits z ≤ 1048576) (k : Int) : Builtin.Int.intBits (cellAt ns k) ≤ 1048576 := by
  unfold cellAt
  rw [List.getD_eq_getElem?_getD]
  cases e : ns[k.toNat]? with
  | none => exact (by decide : Builtin.Int.intBits 0 ≤ 1048576)
  | some z => exact h z (List.mem_of_getElem? e)
end
end Lp
namespace Lp
open PySem L2
section
variable {σ : L2.St} {H : Hp} {Q : VK} {E : XK} {D : Ends} {K : PySem.W.Frag} {te ta tb : TE} {tt tu : TT} {t u w : TS}
/-! ## three at once -/
theorem g_seq_par3 {i j l : Nat} {tr : TA} (h : tr σ H fun vs H1 => ∃ x y z, vs = [x, y, z] ∧ u D (((σ.set i (some x)).set j (some y)).set l (some z)) H1) : tSeq (tPar3 i j l tr) u D σ H := h
theorem g_unp3 {i1 i2 i3 : Nat} {p : Addr} {a b c : V} {R : L2.St → Hp → Prop} (h : H p = some (.tup [a, b, c])) (q : R (((σ.set i1 (some a)).set i2 (some b)).set i3 (some c)) H) :
    gTup K 3 (gCons (gName i1) (gCons (gName i2) (gCons (gName i3) gNil))) (.ref p) σ H R := ⟨p, _, rfl, SqT.of h, rfl, a, _, rfl, b, _, rfl, c, _, rfl, rfl, q⟩
theorem shaped3 (x y z : Int) : SeqAt.shaped (.tuple [.int x, .int y, .int z]) = true := by
  unfold SeqAt.shaped
  rw [Bool.and_eq_true]
  refine ⟨by simp [PyData.canLay0, PyData.canLayAll0], decide_eq_true ?_⟩
  simp [PyData.depth, PyData.depthAll]
theorem lay3 (x y z : Int) : PyData.canLay0 (.tuple [.int x, .int y, .int z]) = true := by simp [PyData.canLay0, PyData.canLayAll0]
theorem dp3 {a : Addr} {x y z : Int} (h : H a = some (.tup [.int x, .int y, .int z])) : Dp K H (.ref a) (.tuple [.int x, .int y, .int z]) := .tup (SqT.of h) (.cons (.int _) (.cons (.int _) (.cons (.int _) .nil)))
theorem g_ne3 {a b : Addr} {x y z : Int} (ha : H a = some (.tup [.int x, .int y, .int z])) (hb : H b = some (.tup [.int x, .int y, .int z])) (q : Q (.bl false) H) : rNeD K (.ref a) (.ref b) H Q :=
  ⟨_, _, dp3 ha, dp3 hb, shaped3 _ _ _, shaped3 _ _ _, by rw [SeqAt.eqv_refl _ (lay3 _ _ _)]; exact q⟩
theorem g_eq3 {a b : Addr} {x y z : Int} (ha : H a = some (.tup [.int x, .int y, .int z])) (hb : H b = some (.tup [.int x, .int y, .int z])) (q : Q (.bl true) H) : rEqD K (.ref a) (.ref b) H Q :=
  ⟨_, _, dp3 ha, dp3 hb, shaped3 _ _ _, shaped3 _ _ _, by rw [SeqAt.eqv_refl _ (lay3 _ _ _)]; exact q⟩
/-- t[2:] of four -/
theorem g_slT2 {p : Addr} {a b c d : V} (h : H p = some (.tup [a, b, c, d])) (q : ∀ p' H', H p' = none → Same H H' → H' p' = some (.tup [c, d]) → Q (.ref p') H') : rSlT K (.ref p) (some 2) none H Q :=
  ⟨p, _, rfl, SqT.of h, (show ¬ (HT.sIx 4 0 (some 2) = 0 ∧ HT.sIx 4 4 none = 4) by decide), fun p' np => q p' _ np (same_new np) upd_same⟩
theorem SqL.butI {H H' : Hp} {a x C dx : Addr} {xs : List V} {fs : List (Str × V)} (h : SqL K H a xs) (k : But x H H') (hx : H x = some (.ins C dx fs)) : SqL K H' a xs :=
  h.elim (fun h => .inl (h.elim (fun e => .inl (k _ _ (ne_of e hx (by intro z; cases z)) e)) fun ⟨o, e⟩ => .inr ⟨o, k _ _ (ne_of e hx (by intro z; cases z)) e⟩)) .inr
/-! ## days -/
def atBy (c : Int) : Int := if c / 2 % 6 = 5 then mixed c 3001 else c / 12 % 41
theorem atBy_lo (c : Int) : 0 ≤ atBy c := by
  have := mixed_lo (c := c) (m := 3001) (by decide)
  unfold atBy; split <;> omega
theorem atBy_hi (c : Int) : atBy c ≤ 3000 := by
  have := mixed_hi (c := c) (m := 3001) (by decide)
  unfold atBy; split <;> omega
def sp_at_by : Sp := fun vs H Q _ => ∃ c, vs = [.int c] ∧ Q (.int (atBy c)) H
theorem g_at_by {c : Int} (q : Q (.int (atBy c)) H) : sp_at_by ([.int c] ++ []) H Q E := ⟨c, rfl, q⟩
/-! ## promises -/
def sp_no_loan : Sp := fun vs H Q _ => ∃ a l row, vs = [.int a, .ref l] ∧ RowAt H l row ∧ row.length ≤ 1000 ∧ (a < 1 ∨ 1000000000000 < a) ∧ ∀ H', Same H H' → Q (.bl true) H'
def PaidBad (l b d : Int) (row : Row) (D c : Int) (s : Str) : Prop := ((D < d ∨ 100000 < D) ∧ s = "day") ∨ (¬ (D < d ∨ 100000 < D) ∧ (c < 1 ∨ owedF l (thenF l b d row D) < c) ∧ s = "pay")
def sp_paid (C : Addr) : Sp := fun vs H Q _ => ∃ x D c l b d r row s, vs = [.ref x, .int D, .int c] ∧ LoanAt C H x l b d r row ∧ NumOk l b d ∧ RatesOk row ∧ PaidBad l b d row D c s ∧ ∀ H', Same H H' → Q (.str s) H'
def sp_stood (C : Addr) : Sp := fun vs H Q _ => ∃ x D l b d r row, vs = [.ref x, .int D, .int l, .int (thenF l b d row D)] ∧ LoanAt C H x l b d r row ∧ NumOk l b d ∧ ¬ (D < d ∨ 100000 < D) ∧ ∀ H', Same H H' → Q (.bl true) H'
def sp_no_day (C : Addr) : Sp := fun vs H Q _ => ∃ x D l b d r row, vs = [.ref x, .int D] ∧ LoanAt C H x l b d r row ∧ NumOk l b d ∧ (D < d ∨ 100000 < D) ∧ ∀ H', Same H H' → Q (.bl true) H'
def sp_good_later (C : Addr) : Sp := fun vs H Q _ => ∃ x t q D l b d r row, vs = [.ref x, .ref t, .ref q, .int D] ∧ H t = some (.tup [.int l, .int b, .int d]) ∧ LoanAt C H x l b d r row ∧ RowAt H q row ∧ NumOk l b d ∧ RowOk row ∧ row.length ≤ 100 ∧ d ≤ D ∧ D ≤ 100000 ∧ ∀ H', Q (.bl true) H'
end
end Lp
namespace Lp
open PySem L2
/-! ## try with two clauses, the second one named; every error of the body is one of theirs -/
abbrev Suit := Addr → Value → Option Addr → TS
/-- the ends of a named suite: its name is gone behind it -/
def gone (D : Ends) (i : Nat) : Ends := { nx := fun τ G => D.nx (τ.set i none) G, rt := D.rt, bk := fun τ G => D.bk (τ.set i none) G, ct := fun τ G => D.ct (τ.set i none) G }
def wTwo (K : PySem.W.Frag) (c1 : Value) (t1 : Suit) (c2 : Value) (i : Nat) (t2 : Suit) (D : Ends) : WX := fun k d τ G =>
  (PySem.W.exmOne K k c1 = some true ∧ ∀ e, G e = none → t1 e k d D τ G) ∨ (PySem.W.exmOne K k c1 = some false ∧ PySem.W.exmOne K k c2 = some true ∧ ∀ e, G e = none → t2 e k d (gone D i) (τ.set i (some (.ref e))) G)
def tTryTwo (K : PySem.W.Frag) (c1 : Value) (t1 : Suit) (c2 : Value) (i : Nat) (t2 : Suit) (tb : WX → TS) : TS := fun D τ G => tb (wTwo K c1 t1 c2 i t2 D) D τ G
def AfterErr (X : Cx) (cs : List ExceptHandler) (Q : Flow → Shared → Prop) (e : Value) (s : Shared) : Prop :=
  wpAny (model X.prog X.w) X.A (noteFrame e X.env) (fun _ u => wpAny (model X.prog X.w) X.A (setFlight e none) (fun _ v => wpAny (model X.prog X.w) X.A (handleBy e X.env cs) Q X.xe v) X.xe u) X.xe s
section
variable {X : Cx} {x1 x2 n : Str} {c1 c2 : Value} {i : Nat} {body r1 r2 : List Stmt} {b1 b2 : Stmt} {p1 p2 q1 q2 pos : Pos} {tb : WX → TS} {t1 t2 : Suit}
theorem names_ld {s : Shared} {a : Addr} {oe : Obj} {pl : List (Addr × Obj)} {τ : L2.St} {G : Hp} {x : Str} {c : Value} {p : Pos} (S : Inv (X.suite a ((a, oe) :: pl)) [] τ G s) (hc : Names X x c) {Q E : Value → Shared → Prop} (q : Q c s) :
    wpAny (model X.prog X.w) (X.A.mark (some (.ref a))) (eval (.Name x p) X.env) Q E s := by
  rcases hc with ⟨g, nd, m | ⟨m, bv, nn⟩⟩
  · exact ld_glob (X := X.suite a ((a, oe) :: pl)) S g m q nd
  · exact ld_blt (X := X.suite a ((a, oe) :: pl)) S g m bv q nn nd
theorem caught {pins : List (Addr × Obj)} {D : Ends} {E : Value → Shared → Prop} {u : Value} {s : Shared} (ok : X.Ok) (hs : X.stack = X.env :: X.outer) (hf : X.env.frame = some X.env.locals) (hN : X.N.Nodup) (hi : X.N[i]? = some n) (hl : X.env.kindOf n = some .local)
    (h1 : Names X x1 c1) (h2 : Names X x2 c2)
    (k1 : ∀ (a : Addr) (oe : Obj) (k : Value) (d : Option Addr) (pl : List (Addr × Obj)), Zc k d oe → (∃ vs, oe.data = .fields vs) → PSs (X.suite a ((a, oe) :: pl)) (b1 :: r1) (t1 a k d))
    (k2 : ∀ (a : Addr) (oe : Obj) (k : Value) (d : Option Addr) (pl : List (Addr × Obj)), Zc k d oe → (∃ vs, oe.data = .fields vs) → PSs (X.suite a ((a, oe) :: pl)) (b2 :: r2) (t2 a k d))
    (x : XE (X.tr (X.pn ++ pins) E) (wTwo X.K c1 t1 c2 i t2 D) u s) :
    AfterErr X [.ExceptHandler (some (.Name x1 p1)) none (b1 :: r1) q1, .ExceptHandler (some (.Name x2 p2)) (some n) (b2 :: r2) q2] (SP X pins D) u s := by
  obtain ⟨ea, B, sB, pB, τ, G, k, d, rfl, IB, nbB, upB, skyB, new, osB, agB, wB⟩ := x
  have IX : Inv X pins τ G sB := IB.ofTry ok
  have fr0 : X.A.frames = some (X.env :: X.outer) := by rw [← hs]; exact ok.frames
  have skyX : Sky B (X.env :: X.outer) ea (Zc k d) X.env.locals s.heap := hs ▸ skyB
  unfold AfterErr
  apply Sky.land Zc.steady fr0 hf skyX
  intro hp fl up
  have J : Inv X pins τ G { s with heap := hp } := IX.landed nbB fl.1 (upB.trans up) osB agB
  obtain ⟨oe, ovs, got, zc, flds'⟩ := fl.there
  -- the error is no frame
  have nofr : ea ∉ frs (X.env :: X.outer) := by
    intro m
    obtain ⟨_, oz, ez, nz⟩ := fl.2.2.1.mem m
    rw [got] at ez
    cases ez
    exact nz _ flds'
  have nloc : ea ≠ X.env.locals := by
    intro z
    apply nofr
    rw [z]
    exact List.mem_filterMap.mpr ⟨X.env, .head _, hf⟩
  have nfs : ea ∉ X.fs := by
    intro m
    obtain ⟨e, me, fe⟩ := List.mem_filterMap.mp m
    exact nofr (List.mem_filterMap.mpr ⟨e, .tail _ me, fe⟩)
  have SS := J.suite got flds' new nloc nfs
  have looks : PySem.W.Looks (model X.prog X.w) hp (typeOf (.ref ea)) k := by
    intro A' Q' E' s' keep q'
    refine wpAny_typeOf_ref (keep _ _ got) ?_
    rw [zc.1]
    exact q'
  -- back in a suite, from the heap in which the clause was told
  have again : ∀ {A1 : Around} {E1 : Value → Shared → Prop} {R : Unit → Shared → Prop}, (∀ s4 oe4, Inv (X.suite ea ((ea, oe4) :: (X.pn ++ pins))) [] τ G s4 → Zc k d oe4 → (∃ vs, oe4.data = .fields vs) → R () s4) →
      wpAny (model X.prog X.w) A1 (setFlight (.ref ea) none) R E1 { s with heap := hp } := by
    intro A1 E1 R hR
    refine HandSPX.lands_againZ fl fun hp4 fl4 up4 => ?_
    have J4 : Inv X pins τ G { s with heap := hp4 } := IX.landed nbB fl4.1 ((upB.trans up).trans up4) osB agB
    obtain ⟨oe4, v4, got4, z4, f4⟩ := fl4.there
    exact hR _ oe4 (J4.suite got4 f4 new nloc nfs) z4 ⟨_, f4⟩
  rcases wB with ⟨m1, run⟩ | ⟨m1, m2, run⟩
  · refine wpAny_handleBy_cons (codeAny_handlers_test ?_) (by intro z; cases z)
    refine names_ld SS h1 ((PySem.W.exm_one (M := model X.prog X.w) J.kIn looks m1).here ?_)
    refine codeAny_handlers_suite (again fun s4 oe4 S4 z4 f4 => ?_)
    refine wpAny_mono ((k1 ea oe4 k d _ z4 f4).run [] s4 _ G _ S4 (run ea new)) (fun f s6 hsp => ?_) (fun _ _ z => z.elim)
    rcases f with _ | _ | _ | v
    case ret =>
      obtain ⟨y, τ6, G6, S6, ry, q6⟩ := hsp
      exact ⟨y, τ6, G6, S6.unsuite ok, ry, q6⟩
    all_goals
      obtain ⟨τ6, G6, S6, q6⟩ := hsp
      exact ⟨τ6, G6, S6.unsuite ok, q6⟩
  · refine wpAny_handleBy_cons (codeAny_handlers_test ?_) (by intro z; cases z)
    refine names_ld SS h1 ((PySem.W.exm_one (M := model X.prog X.w) J.kIn looks m1).here ?_)
    show wpAny _ X.A (handleBy (.ref ea) X.env [.ExceptHandler (some (.Name x2 p2)) (some n) (b2 :: r2) q2]) _ _ _
    refine wpAny_handleBy_cons (codeAny_handlers_test ?_) (by intro z; cases z)
    refine names_ld SS h2 ((PySem.W.exm_one (M := model X.prog X.w) J.kIn looks m2).here ?_)
    refine codeAny_handlers_suite_as (again fun s4 oe4 S4 z4 f4 => ?_)
    refine store_ok (X := X.suite ea ((ea, oe4) :: (X.pn ++ pins))) (v := V.ref ea) S4 hN hi (Or.inl hl) rfl (fun s5 S5 => ?_) (Or.inr hl)
    refine wpAny_mono ((k2 ea oe4 k d _ z4 f4).run [] s5 _ G _ S5 (run ea new)) (fun f s6 hsp => ?_) (fun _ _ z => z.elim)
    rcases f with _ | _ | _ | v
    case ret =>
      obtain ⟨y, τ6, G6, S6, ry, q6⟩ := hsp
      exact gone_ok (S6.unsuite ok) hN hi hl fun s7 J7 => ⟨y, _, G6, J7, ry, q6⟩
    all_goals
      obtain ⟨τ6, G6, S6, q6⟩ := hsp
      exact gone_ok (S6.unsuite ok) hN hi hl fun s7 J7 => ⟨_, G6, J7, q6⟩
theorem ps_tryTwo (hs : X.stack = X.env :: X.outer) (hf : X.env.frame = some X.env.locals) (hN : X.N.Nodup) (hi : X.N[i]? = some n) (hl : X.env.kindOf n = some .local) (h1 : Names X x1 c1) (h2 : Names X x2 c2)
    (hb : ∀ (W : WX) (pn : List (Addr × Obj)) (xe : Value → Shared → Prop), Takes (X.tr pn xe) W → PassesOwn (model X.prog X.w) X.A X.env xe → PSs (X.tr pn xe) body (tb W))
    (k1 : ∀ (a : Addr) (oe : Obj) (k : Value) (d : Option Addr) (pl : List (Addr × Obj)), Zc k d oe → (∃ vs, oe.data = .fields vs) → PSs (X.suite a ((a, oe) :: pl)) (b1 :: r1) (t1 a k d))
    (k2 : ∀ (a : Addr) (oe : Obj) (k : Value) (d : Option Addr) (pl : List (Addr × Obj)), Zc k d oe → (∃ vs, oe.data = .fields vs) → PSs (X.suite a ((a, oe) :: pl)) (b2 :: r2) (t2 a k d)) :
    PS X (.Try body [.ExceptHandler (some (.Name x1 p1)) none (b1 :: r1) q1, .ExceptHandler (some (.Name x2 p2)) (some n) (b2 :: r2) q2] [] [] pos) (tTryTwo X.K c1 t1 c2 i t2 tb) := by
  constructor
  intro pins s τ G D I hw
  have ok := I.ok
  apply wpAny_Try_except
  have run := (hb _ (X.pn ++ pins) (AfterErr X _ (SP X pins D)) (fun u s' xx => caught (p1 := p1) (p2 := p2) (q1 := q1) (q2 := q2) ok hs hf hN hi hl h1 h2 k1 k2 xx) PassesOwn.looking).run [] s τ G D (I.toTry _) hw
  refine wpAny_mono run (fun f s1 hsp => ?_) (fun _ _ z => z)
  rcases f with _ | _ | _ | v
  case ret =>
    obtain ⟨y, τ1, G1, J, ry, q⟩ := hsp
    exact ⟨y, τ1, G1, J.ofTry ok, ry, q⟩
  case next =>
    obtain ⟨τ1, G1, J, q⟩ := hsp
    exact wpAny_execs_nil ⟨τ1, G1, J.ofTry ok, q⟩
  all_goals
    obtain ⟨τ1, G1, J, q⟩ := hsp
    exact ⟨τ1, G1, J.ofTry ok, q⟩
end
end Lp
namespace Lp
open PySem L2
section
variable {σ : L2.St} {H : Hp} {Q : VK} {E : XK} {D : Ends} {K : PySem.W.Frag} {te ta tb : TE} {tt tu : TT} {t u w : TS}
theorem g_seq_tryTwo {c1 c2 : Value} {t1 t2 : Suit} {i : Nat} {tb : WX → TS} (h : tb (wTwo K c1 t1 c2 i t2 { D with nx := u D }) { D with nx := u D } σ H) : tSeq (tTryTwo K c1 t1 c2 i t2 tb) u D σ H := h
theorem g_hit1 {c1 c2 k : Value} {t1 t2 : Suit} {i : Nat} {d : Option Addr} (h : PySem.W.exmOne K k c1 = some true) (q : ∀ a, H a = none → t1 a k d D σ H) : WE (wTwo K c1 t1 c2 i t2 D) σ k d H := .inl ⟨h, q⟩
theorem g_hit2 {c1 c2 k : Value} {t1 t2 : Suit} {i : Nat} {d : Option Addr} (h1 : PySem.W.exmOne K k c1 = some false) (h2 : PySem.W.exmOne K k c2 = some true) (q : ∀ a, H a = none → t2 a k d (gone D i) (σ.set i (some (.ref a))) H) : WE (wTwo K c1 t1 c2 i t2 D) σ k d H := .inr ⟨h1, h2, q⟩
/-! ## promises -/
def dueC (d last D rt : Int) : Str := if D ≤ d ∨ D ≤ last ∨ 100000 < D then "day" else if rt < 0 ∨ 100000 < rt then "rate" else ""
def sp_due7 : Sp := fun vs H Q _ => ∃ m row d D rt, vs = [.ref m, .int d, .int D, .int rt] ∧ RowAt H m row ∧ row ≠ [] ∧ Q (.str (dueC d (lastDay row) D rt)) H
def sp_wanted : Sp := fun vs H Q _ => ∃ c la d, vs = [.int c, .int la, .int d] ∧ ∀ t H' D rt, Same H H' → H' t = some (.tup [.int D, .int rt]) → Q (.ref t) H'
def sp_changed (C : Addr) : Sp := fun vs H Q _ => ∃ x D rt l b d r row, vs = [.ref x, .int D, .int rt] ∧ LoanAt C H x l b d r row ∧ NumOk l b d ∧ row ≠ [] ∧ row.length ≤ 1000 ∧ lastDay row ≤ 100000 ∧
  (D ≤ max d (lastDay row) ∨ 100000 < D → ∀ H', Same H H' → Q (.str "day") H') ∧ (¬ (D ≤ max d (lastDay row) ∨ 100000 < D) → (rt < 0 ∨ 100000 < rt → ∀ H', Same H H' → Q (.str "rate") H') ∧
    (¬ (rt < 0 ∨ 100000 < rt) → ∀ r' H', H r' = none → But x H H' → LoanAt C H' x l b d r' (row ++ [(D, rt)]) → Q (.str "") H'))
/-- a loan, its numbers in a tuple, its row in a list of the law's own -/
structure At7 (C : Addr) (H : Hp) (x t q : Addr) (l b d : Int) (r : Addr) (row : Row) : Prop where
  L : LoanAt C H x l b d r row
  t : H t = some (.tup [.int l, .int b, .int d])
  q : RowAt H q row
  n : NumOk l b d
  ok : RowOk row
  len : row.length ≤ 60
  last : lastDay row ≤ 100000
  owe : 1 ≤ owedF l b
def sp_own_way (C : Addr) : Sp := fun vs H Q _ => ∃ y x t q l b d r r' row, vs = [.ref y, .ref x, .ref t, .ref q] ∧ At7 C H x t q l b d r row ∧ LoanAt C H y l b d r' row ∧ x ≠ y ∧ ∀ H', But y H H' → Q (.bl true) H'
def sp_left_alone (C : Addr) : Sp := fun vs H Q _ => ∃ x t q l b d r row, vs = [.ref x, .ref t, .ref q] ∧ At7 C H x t q l b d r row ∧ ∀ H', But x H H' → Q (.bl true) H'
theorem owed_then {l b d D : Int} {row : Row} (n : NumOk l b d) (hr : RatesOk row) (h : d ≤ D) (ho : 1 ≤ owedF l b) : 1 ≤ owedF l (thenF l b d row D) := by
  have g := (grownF_bounds hr h).1
  have a1 : 0 ≤ l * grownF row d D := Int.mul_nonneg n.l0 g
  unfold owedF thenF at *
  omega
theorem pay_all_left {l b : Int} : pLeft l b (owedF l b) = 0 := by unfold pLeft; rw [if_pos rfl]
theorem pay_all_begun {l b : Int} : pBegun l b (owedF l b) = 0 := by unfold pBegun; rw [if_pos rfl]
theorem but_updm {H H' : Hp} {x m : Addr} {o : HO} (k : But x H H') (hm : H m = none) : But x H (upd H' m o) := fun b u n e => by rw [upd_ne (ne_of_none e hm)]; exact k b u n e
theorem pay_one_left {l B : Int} (h0 : 0 ≤ B) (h : 1 < owedF l B) : pLeft l B 1 = l - (if decide (B < 1000000) = true then 1 else 0) := by
  unfold pLeft
  rw [if_neg (by omega)]
  unfold owedF at h
  by_cases hb : B < 1000000
  · rw [if_pos (decide_eq_true hb)]; omega
  · rw [if_neg (fun z => hb (of_decide_eq_true z))]; omega
theorem pay_one_begun {l B : Int} (h0 : 0 ≤ B) (h : 1 < owedF l B) : pBegun l B 1 = B - 1000000 * (if decide (B ≥ 1000000) = true then 1 else 0) := by
  unfold pBegun
  rw [if_neg (by omega)]
  unfold owedF at h
  by_cases hb : B ≥ 1000000
  · rw [if_pos (decide_eq_true hb)]; omega
  · rw [if_neg (fun z => hb (of_decide_eq_true z))]; omega
theorem pay_one_owe {l B : Int} (h0 : 0 ≤ B) (h : 1 < owedF l B) : 1 ≤ owedF (pLeft l B 1) (pBegun l B 1) := by
  rw [pay_one_left h0 h, pay_one_begun h0 h]
  unfold owedF at *
  by_cases hb : B < 1000000
  · rw [if_pos (decide_eq_true hb), if_neg (fun z => by have := of_decide_eq_true z; omega)]; omega
  · rw [if_neg (fun z => hb (of_decide_eq_true z)), if_pos (decide_eq_true (by omega))]; omega
theorem row_last {row : Row} (h : row ≠ []) : ∃ r, row.getLast? = some (lastDay row, r) := by
  rcases List.eq_nil_or_concat row with e | ⟨ys, p, e⟩
  · exact absurd e h
  · rw [List.concat_eq_append] at e
    refine ⟨p.2, ?_⟩
    rw [e, lastDay_snoc, last_snoc]
end
end Lp
namespace Lp
/-! ## a plan's run: paid so far, left, begun, day -/
structure Run where
  p : Int
  l : Int
  b : Int
  d : Int
/-- a due day with a part of c -/
def Run.due (row : Row) (c : Int) (s : Run) (D : Int) : Run :=
  ⟨s.p + min c (owedF s.l (thenF s.l s.b s.d row D)), pLeft s.l (thenF s.l s.b s.d row D) (min c (owedF s.l (thenF s.l s.b s.d row D))), pBegun s.l (thenF s.l s.b s.d row D) (min c (owedF s.l (thenF s.l s.b s.d row D))), D⟩
/-- what is paid and what is owed then -/
def Run.out (s : Run) : Int := s.p + owedF s.l s.b
theorem pay_out {l b c : Int} (hl : 0 ≤ l) (hb : 0 ≤ b) (h0 : 0 ≤ c) (h1 : c ≤ owedF l b) : owedF (pLeft l b c) (pBegun l b c) = owedF l b - c := by
  unfold pLeft pBegun
  split
  · rename_i e
    unfold owedF at *
    omega
  · rename_i e
    unfold owedF at *
    omega
theorem pay_left {l b c : Int} (hl : 0 ≤ l) (hb : 0 ≤ b) (h0 : 0 ≤ c) (h1 : c ≤ owedF l b) : 0 ≤ pLeft l b c ∧ pLeft l b c ≤ l := by
  unfold pLeft
  split
  · omega
  · rename_i e
    unfold owedF at *
    omega
/-- B has paid no less than A, and has no more left; B may be done -/
structure Ahead (A B : Run) : Prop where
  d : A.d = B.d
  a0 : 0 ≤ A.l
  a1 : 0 ≤ A.b
  b0 : 0 ≤ B.l
  b1 : 0 ≤ B.b
  l : B.l ≤ A.l
  w : (A.p ≤ B.p ∧ 1000000 * (B.p + B.l) + B.b ≤ 1000000 * (A.p + A.l) + A.b) ∨ (B.l = 0 ∧ B.b = 0 ∧ B.p ≤ A.out)
theorem Ahead.out {A B : Run} (h : Ahead A B) : B.out ≤ A.out := by
  have := h.a0; have := h.a1; have := h.b0; have := h.b1
  rcases h.w with ⟨h1, h2⟩ | ⟨h1, h2, h3⟩
  · unfold Run.out owedF; omega
  · have e : B.out = B.p := by unfold Run.out owedF; rw [h1, h2]; omega
    rw [e]; exact h3
theorem Ahead.owed {A B : Run} (h : Ahead A B) : owedF B.l B.b ≤ owedF A.l A.b := by
  have := h.a0; have := h.a1; have := h.b0; have := h.b1
  rcases h.w with ⟨h1, h2⟩ | ⟨h1, h2, h3⟩
  · unfold owedF; omega
  · rw [h1, h2]; unfold owedF; omega
/-- one payment each, of runs that stand on the same day -/
theorem Ahead.pay {A B : Run} {c e : Int} (h : Ahead A B) (h0 : 0 ≤ c) (hc : c ≤ e) :
    Ahead ⟨A.p + min c (owedF A.l A.b), pLeft A.l A.b (min c (owedF A.l A.b)), pBegun A.l A.b (min c (owedF A.l A.b)), A.d⟩ ⟨B.p + min e (owedF B.l B.b), pLeft B.l B.b (min e (owedF B.l B.b)), pBegun B.l B.b (min e (owedF B.l B.b)), B.d⟩ := by
  obtain ⟨hd, a0, a1, b0, b1, hl, w⟩ := h
  have oa : 0 ≤ owedF A.l A.b := by unfold owedF; omega
  have ob : 0 ≤ owedF B.l B.b := by unfold owedF; omega
  have pa := pay_left a0 a1 (c := min c (owedF A.l A.b)) (by omega) (by omega)
  have pb := pay_left b0 b1 (c := min e (owedF B.l B.b)) (by omega) (by omega)
  have qa := pBegun_ok (l := A.l) a1 (show 0 ≤ min c (owedF A.l A.b) by omega)
  have qb := pBegun_ok (l := B.l) b1 (show 0 ≤ min e (owedF B.l B.b) by omega)
  have outA := pay_out a0 a1 (c := min c (owedF A.l A.b)) (by omega) (by omega)
  have done : owedF B.l B.b ≤ e → B.p + owedF B.l B.b ≤ A.out → Ahead ⟨A.p + min c (owedF A.l A.b), pLeft A.l A.b (min c (owedF A.l A.b)), pBegun A.l A.b (min c (owedF A.l A.b)), A.d⟩ ⟨B.p + min e (owedF B.l B.b), pLeft B.l B.b (min e (owedF B.l B.b)), pBegun B.l B.b (min e (owedF B.l B.b)), B.d⟩ := by
    intro h1 h2
    have em : min e (owedF B.l B.b) = owedF B.l B.b := by omega
    have e1 : pLeft B.l B.b (owedF B.l B.b) = 0 := by unfold pLeft; rw [if_pos rfl]
    have e2 : pBegun B.l B.b (owedF B.l B.b) = 0 := by unfold pBegun; rw [if_pos rfl]
    rw [em, e1, e2]
    refine ⟨hd, pa.1, qa.1, Int.le_refl 0, Int.le_refl 0, pa.1, .inr ⟨rfl, rfl, ?_⟩⟩
    unfold Run.out at *
    dsimp only
    rw [outA]
    omega
  rcases w with ⟨h1, h2⟩ | ⟨h1, h2, h3⟩
  · by_cases ho : owedF B.l B.b ≤ e
    · refine done ho ?_
      unfold Run.out owedF
      omega
    · have em : min e (owedF B.l B.b) = e := by omega
      have hab : owedF B.l B.b ≤ owedF A.l A.b := by unfold owedF; omega
      have cm : min c (owedF A.l A.b) = c := by omega
      have e1 : pLeft B.l B.b e = B.l - (e - min e (B.b / 1000000)) := by unfold pLeft; rw [if_neg (by omega)]
      have e2 : pBegun B.l B.b e = B.b - 1000000 * min e (B.b / 1000000) := by unfold pBegun; rw [if_neg (by omega)]
      have e3 : pLeft A.l A.b c = A.l - (c - min c (A.b / 1000000)) := by unfold pLeft; rw [if_neg (by omega)]
      have e4 : pBegun A.l A.b c = A.b - 1000000 * min c (A.b / 1000000) := by unfold pBegun; rw [if_neg (by omega)]
      rw [em] at pb qb ⊢
      rw [cm] at pa qa ⊢
      refine ⟨hd, pa.1, qa.1, pb.1, qb.1, ?_, .inl ⟨?_, ?_⟩⟩
      · dsimp only
        rw [e1, e3]
        omega
      · dsimp only; omega
      · dsimp only
        rw [e1, e2, e3, e4]
        omega
  · have eo : owedF B.l B.b = 0 := by rw [h1, h2]; rfl
    refine done (by omega) ?_
    rw [eo, Int.add_zero]
    exact h3
theorem Ahead.go {A B : Run} {row : Row} {D : Int} (h : Ahead A B) (hr : RatesOk row) (hD : A.d ≤ D) : Ahead ⟨A.p, A.l, thenF A.l A.b A.d row D, D⟩ ⟨B.p, B.l, thenF B.l B.b B.d row D, D⟩ := by
  obtain ⟨hd, a0, a1, b0, b1, hl, w⟩ := h
  have g := (grownF_bounds hr hD).1
  have ga : 0 ≤ A.l * grownF row A.d D := Int.mul_nonneg a0 g
  have gb : 0 ≤ B.l * grownF row A.d D := Int.mul_nonneg b0 g
  have gl : B.l * grownF row A.d D ≤ A.l * grownF row A.d D := Int.mul_le_mul_of_nonneg_right hl g
  unfold thenF
  rw [← hd]
  refine ⟨rfl, a0, by dsimp only; omega, b0, by dsimp only; omega, hl, ?_⟩
  rcases w with ⟨h1, h2⟩ | ⟨h1, h2, h3⟩
  · exact .inl ⟨h1, by dsimp only; omega⟩
  · refine .inr ⟨h1, ?_, ?_⟩
    · dsimp only
      rw [h1, h2, Int.zero_mul]; rfl
    · unfold Run.out owedF at *
      dsimp only
      omega
theorem Ahead.due {A B : Run} {row : Row} {c e D : Int} (h : Ahead A B) (hr : RatesOk row) (hD : A.d ≤ D) (h0 : 0 ≤ c) (hc : c ≤ e) : Ahead (A.due row c D) (B.due row e D) := (h.go hr hD).pay h0 hc
/-- all due days -/
def Run.plan (row : Row) (c : Int) (s : Run) (days : List Int) : Run := days.foldl (Run.due row c) s
theorem Ahead.plan {row : Row} {c e : Int} (hr : RatesOk row) (h0 : 0 ≤ c) (hc : c ≤ e) : ∀ {days : List Int} {A B : Run}, Ahead A B → (∀ D ∈ days, A.d ≤ D) → days.Pairwise (· < ·) → Ahead (A.plan row c days) (B.plan row e days)
  | [], _, _, h, _, _ => h
  | D :: days, A, B, h, hd, hp => by
    have h1 := h.due hr (hd D (List.mem_cons_self)) h0 hc
    have hp2 := List.pairwise_cons.mp hp
    exact Ahead.plan (days := days) hr h0 hc h1 (fun F hF => Int.le_of_lt (hp2.1 F hF)) hp2.2
theorem Ahead.refl {A : Run} (h0 : 0 ≤ A.l) (h1 : 0 ≤ A.b) : Ahead A A := ⟨rfl, h0, h1, h0, h1, Int.le_refl _, .inl ⟨Int.le_refl _, Int.le_refl _⟩⟩
/-- what a part settles, a greater one settles -/
theorem settles_more {row : Row} {c e : Int} {days : List Int} {A : Run} (hr : RatesOk row) (h0 : 0 ≤ c) (hc : c ≤ e) (a0 : 0 ≤ A.l) (a1 : 0 ≤ A.b) (hd : ∀ D ∈ days, A.d ≤ D) (hp : days.Pairwise (· < ·)) :
    owedF (A.plan row e days).l (A.plan row e days).b ≤ owedF (A.plan row c days).l (A.plan row c days).b := (Ahead.plan hr h0 hc (.refl a0 a1) hd hp).owed
/-- an early payment costs no more than it saves -/
theorem early_saves {row : Row} {c e : Int} {days : List Int} {l b d : Int} (hr : RatesOk row) (h0 : 0 ≤ c) (he : 0 ≤ e) (ho : e ≤ owedF l b) (a0 : 0 ≤ l) (a1 : 0 ≤ b) (hd : ∀ D ∈ days, d ≤ D) (hp : days.Pairwise (· < ·)) :
    (Run.plan row c ⟨e, pLeft l b e, pBegun l b e, d⟩ days).out ≤ (Run.plan row c ⟨0, l, b, d⟩ days).out := by
  have oa : 0 ≤ owedF l b := by unfold owedF; omega
  have h := Ahead.pay (A := ⟨0, l, b, d⟩) (B := ⟨0, l, b, d⟩) (c := 0) (e := e) (.refl a0 a1) (Int.le_refl 0) he
  have e1 : min e (owedF l b) = e := by omega
  have e2 : min 0 (owedF l b) = 0 := by omega
  dsimp only at h
  rw [e1, e2, Int.zero_add, Int.zero_add] at h
  have hh : Ahead ⟨0, l, b, d⟩ ⟨e, pLeft l b e, pBegun l b e, d⟩ := by
    by_cases z : owedF l b = 0
    · have l0 : l = 0 ∧ b = 0 := by unfold owedF at z; omega
      have ez : e = 0 := by omega
      obtain ⟨rfl, rfl⟩ := l0
      subst ez
      exact .refl (A := ⟨0, 0, 0, d⟩) (Int.le_refl 0) (Int.le_refl 0)
    · have p1 : pLeft l b 0 = l := by unfold pLeft; rw [if_neg (by omega)]; omega
      have p2 : pBegun l b 0 = b := by unfold pBegun; rw [if_neg (by omega)]; omega
      rw [p1, p2] at h
      exact h
  exact (Ahead.plan hr h0 (Int.le_refl c) hh hd hp).out
end Lp
namespace Lp
/-! ## due days, plans -/
/-- days that rise, the first not ahead of f, none behind the last day of all -/
def daysOk : Int → List Int → Bool
  | _, [] => true
  | f, d :: t => if d < f ∨ 100000 < d then false else daysOk (d + 1) t
theorem daysOk_le : ∀ {days : List Int} {f : Int}, daysOk f days = true → ∀ D ∈ days, f ≤ D ∧ D ≤ 100000
  | [], _, _, D, h => by cases h
  | d :: t, f, e, D, h => by
    rw [daysOk] at e
    by_cases c : d < f ∨ 100000 < d
    · rw [if_pos c] at e; cases e
    · rw [if_neg c] at e
      rcases List.mem_cons.mp h with z | z
      · rw [z]; omega
      · have := daysOk_le e D z; omega
theorem daysOk_asc : ∀ {days : List Int} {f : Int}, daysOk f days = true → days.Pairwise (· < ·)
  | [], _, _ => List.Pairwise.nil
  | d :: t, f, e => by
    rw [daysOk] at e
    by_cases c : d < f ∨ 100000 < d
    · rw [if_pos c] at e; cases e
    · rw [if_neg c] at e
      exact List.pairwise_cons.mpr ⟨fun x hx => by have := daysOk_le e x hx; omega, daysOk_asc e⟩
theorem daysOk_cons {d f : Int} {t : List Int} (e : daysOk f (d :: t) = true) : f ≤ d ∧ d ≤ 100000 ∧ daysOk (d + 1) t = true := by
  rw [daysOk] at e
  by_cases c : d < f ∨ 100000 < d
  · rw [if_pos c] at e; cases e
  · rw [if_neg c] at e; exact ⟨by omega, by omega, e⟩
theorem daysOk_weak {f g : Int} (h : f ≤ g) : ∀ {days : List Int}, daysOk g days = true → daysOk f days = true
  | [], _ => rfl
  | d :: t, e => by
    have := daysOk_cons e
    rw [daysOk, if_neg (by omega)]
    exact this.2.2
/-- day, paid, interest, off, left -/
abbrev P5 := Int × Int × Int × Int × Int
def partF (p l B : Int) : Int := min p (owedF l B)
def planRows (row : Row) (p : Int) : Int → Int → Int → List Int → List P5
  | _, _, _, [] => []
  | l, b, d, D :: t => if partF p l (thenF l b d row D) = 0 then [] else
      (D, partF p l (thenF l b d row D), pInt l (thenF l b d row D) (partF p l (thenF l b d row D)), pOff l (thenF l b d row D) (partF p l (thenF l b d row D)), pLeft l (thenF l b d row D) (partF p l (thenF l b d row D))) ::
        planRows row p (pLeft l (thenF l b d row D) (partF p l (thenF l b d row D))) (pBegun l (thenF l b d row D) (partF p l (thenF l b d row D))) D t
def planEnd (row : Row) (p : Int) : Int → Int → Int → List Int → Int × Int × Int
  | l, b, d, [] => (l, b, d)
  | l, b, d, D :: t => if partF p l (thenF l b d row D) = 0 then (l, b, d) else
        planEnd row p (pLeft l (thenF l b d row D) (partF p l (thenF l b d row D))) (pBegun l (thenF l b d row D) (partF p l (thenF l b d row D))) D t
theorem planRows_len (row : Row) (p : Int) : ∀ (days : List Int) (l b d : Int), (planRows row p l b d days).length ≤ days.length
  | [], _, _, _ => Nat.le_refl _
  | D :: t, l, b, d => by
    rw [planRows]
    split
    · exact Nat.zero_le _
    · have := planRows_len row p t (pLeft l (thenF l b d row D) (partF p l (thenF l b d row D))) (pBegun l (thenF l b d row D) (partF p l (thenF l b d row D))) D
      simp only [List.length_cons]; omega
def lastOr : Int → List Int → Int
  | d, [] => d
  | _, D :: t => lastOr D t
theorem lastOr_get : ∀ {days : List Int} {d : Int}, days ≠ [] → days.getLast? = some (lastOr d days)
  | [], _, h => absurd rfl h
  | [D], _, _ => rfl
  | D :: E :: t, d, _ => by
    rw [List.getLast?_cons_cons]
    exact lastOr_get (days := E :: t) (d := D) (by simp)
theorem lastOr_le : ∀ {days : List Int} {d f : Int}, d ≤ f → daysOk f days = true → d ≤ lastOr d days
  | [], _, _, _, _ => Int.le_refl _
  | D :: t, d, f, h, e => by
    have := daysOk_cons e
    have := lastOr_le (days := t) (d := D) (f := D + 1) (by omega) this.2.2
    show d ≤ lastOr D t
    omega
theorem lastOr_hi : ∀ {days : List Int} {d f : Int}, d ≤ 100000 → daysOk f days = true → lastOr d days ≤ 100000
  | [], _, _, h, _ => h
  | D :: t, d, f, h, e => lastOr_hi (days := t) (d := D) (daysOk_cons e).2.1 (daysOk_cons e).2.2
def costF (row : Row) (p l b d : Int) (days : List Int) : Int := (Run.plan row p ⟨0, l, b, d⟩ days).out
def owedEnd (row : Row) (p l b d : Int) (days : List Int) : Int := owedF (Run.plan row p ⟨0, l, b, d⟩ days).l (Run.plan row p ⟨0, l, b, d⟩ days).b
theorem owed_zero {l b : Int} (hl : 0 ≤ l) (hb : 0 ≤ b) (h : owedF l b = 0) : l = 0 ∧ b = 0 := by unfold owedF at h; omega
theorem owed_00 : owedF 0 0 = 0 := rfl
theorem run_due (row : Row) (p s l b d D : Int) : Run.due row p ⟨s, l, b, d⟩ D = ⟨s + partF p l (thenF l b d row D), pLeft l (thenF l b d row D) (partF p l (thenF l b d row D)), pBegun l (thenF l b d row D) (partF p l (thenF l b d row D)), D⟩ := rfl
theorem run_cons (row : Row) (p : Int) (s : Run) (D : Int) (t : List Int) : Run.plan row p s (D :: t) = Run.plan row p (Run.due row p s D) t := rfl
theorem then_00 (d D : Int) (row : Row) : thenF 0 0 d row D = 0 := by unfold thenF; rw [Int.zero_mul]; rfl
theorem run_zero (row : Row) {p : Int} (hp : 0 ≤ p) : ∀ (days : List Int) (s d : Int), Run.plan row p ⟨s, 0, 0, d⟩ days = ⟨s, 0, 0, lastOr d days⟩
  | [], s, d => rfl
  | D :: t, s, d => by
    have e : partF p 0 0 = 0 := by unfold partF; rw [owed_00]; omega
    rw [run_cons, run_due, then_00, e, show pLeft 0 0 0 = 0 from rfl, show pBegun 0 0 0 = 0 from rfl, Int.add_zero]
    exact run_zero row hp t s D
theorem run_day (row : Row) (p : Int) : ∀ (days : List Int) (s : Run), (Run.plan row p s days).d = lastOr s.d days
  | [], _ => rfl
  | D :: t, s => by rw [run_cons]; exact run_day row p t _
/-- what is paid is told by the rows, and the loan stands as the run; but that an ended plan's loan stands at its own day -/
theorem plan_run (row : Row) {p : Int} (hr : RatesOk row) (hp : 0 ≤ p) : ∀ (days : List Int) (s l b d : Int), 0 ≤ l → 0 ≤ b → daysOk d days = true →
    s + ((planRows row p l b d days).map fun r => r.2.1).sum = (Run.plan row p ⟨s, l, b, d⟩ days).p ∧ (planEnd row p l b d days).1 = (Run.plan row p ⟨s, l, b, d⟩ days).l ∨ p = 0
  | [], s, l, b, d, _, _, _ => .inl ⟨by simp [planRows, Run.plan], rfl⟩
  | D :: t, s, l, b, d, hl, hb, hd => by
    by_cases p0 : p = 0
    · exact .inr p0
    obtain ⟨h1, h2, h3⟩ := daysOk_cons hd
    have g := (grownF_bounds hr h1).1
    have hB : 0 ≤ thenF l b d row D := by
      have : 0 ≤ l * grownF row d D := Int.mul_nonneg hl g
      unfold thenF; omega
    rw [planRows, planEnd, run_cons, run_due]
    generalize thenF l b d row D = B at hB
    have ho : 0 ≤ owedF l B := by unfold owedF; omega
    by_cases c : partF p l B = 0
    · rw [if_pos c, if_pos c]
      have z : owedF l B = 0 := by unfold partF at c; omega
      obtain ⟨e1, e2⟩ := owed_zero hl hB z
      rw [c, e1, e2, show pLeft 0 0 0 = 0 from rfl, show pBegun 0 0 0 = 0 from rfl, run_zero row hp]
      exact .inl ⟨by simp, rfl⟩
    · rw [if_neg c, if_neg c]
      have c1 : 1 ≤ partF p l B := by unfold partF at c ⊢; omega
      have c2 : partF p l B ≤ owedF l B := by unfold partF; omega
      have a1 := pLeft_ok hl hB c1 c2
      have a2 := pBegun_ok (l := l) hB (show 0 ≤ partF p l B by omega)
      rcases plan_run row hr hp t (s + partF p l B) _ _ D a1.1 a2.1 (daysOk_weak (by omega) h3) with ih | ih
      · refine .inl ⟨?_, ih.2⟩
        rw [← ih.1, List.map_cons, List.sum_cons]
        dsimp only
        omega
      · exact absurd ih p0
theorem planEnd_num {row : Row} (hr : RatesOk row) {p : Int} (hp : 1 ≤ p) : ∀ (days : List Int) (l b d : Int), NumOk l b d → daysOk d days = true →
    NumOk (planEnd row p l b d days).1 (planEnd row p l b d days).2.1 (planEnd row p l b d days).2.2 ∧ (planEnd row p l b d days).2.2 ≤ lastOr d days
  | [], l, b, d, n, _ => ⟨n, Int.le_refl _⟩
  | D :: t, l, b, d, n, hd => by
    obtain ⟨h1, h2, h3⟩ := daysOk_cons hd
    have n2 := n.walk hr h1 h2
    rw [planEnd]
    generalize thenF l b d row D = B at n2
    by_cases c : partF p l B = 0
    · rw [if_pos c]
      exact ⟨n, by show d ≤ lastOr D t; have := lastOr_le (days := t) (d := D) (f := D + 1) (by omega) h3; omega⟩
    · rw [if_neg c]
      have ho : 0 ≤ owedF l B := by have := n2.l0; have := n2.b0; unfold owedF; omega
      have c1 : 1 ≤ partF p l B := by unfold partF at c ⊢; omega
      have c2 : partF p l B ≤ owedF l B := by unfold partF; omega
      exact planEnd_num hr hp t _ _ D (n2.pay c1 c2) (daysOk_weak (by omega) h3)
/-- what is owed on the last due day behind the plan -/
theorem planEnd_owed {row : Row} (hr : RatesOk row) {p : Int} (hp : 1 ≤ p) : ∀ (days : List Int) (s l b d : Int), NumOk l b d → daysOk d days = true →
    owedF (planEnd row p l b d days).1 (thenF (planEnd row p l b d days).1 (planEnd row p l b d days).2.1 (planEnd row p l b d days).2.2 row (lastOr d days)) = owedF (Run.plan row p ⟨s, l, b, d⟩ days).l (Run.plan row p ⟨s, l, b, d⟩ days).b
  | [], s, l, b, d, n, _ => by
    show owedF l (thenF l b d row d) = owedF l b
    unfold thenF; rw [grownF_same, Int.mul_zero, Int.add_zero]
  | D :: t, s, l, b, d, n, hd => by
    obtain ⟨h1, h2, h3⟩ := daysOk_cons hd
    have n2 := n.walk hr h1 h2
    have hB0 : thenF l b d row D = 0 → l = 0 → b = 0 := fun e z => by
      unfold thenF at e; rw [z, Int.zero_mul] at e; omega
    rw [planEnd, run_cons, run_due]
    show owedF _ (thenF _ _ _ row (lastOr D t)) = _
    generalize hBe : thenF l b d row D = B at n2 hB0
    have ho : 0 ≤ owedF l B := by have := n2.l0; have := n2.b0; unfold owedF; omega
    by_cases c : partF p l B = 0
    · rw [if_pos c]
      have z : owedF l B = 0 := by unfold partF at c; omega
      obtain ⟨e1, e2⟩ := owed_zero n2.l0 n2.b0 z
      have e3 := hB0 e2 e1
      rw [c, e1, e2, e3, show pLeft 0 0 0 = 0 from rfl, show pBegun 0 0 0 = 0 from rfl, run_zero row (by omega)]
      show owedF 0 (thenF 0 0 d row (lastOr D t)) = owedF 0 0
      rw [then_00]
    · rw [if_neg c]
      have c1 : 1 ≤ partF p l B := by unfold partF at c ⊢; omega
      have c2 : partF p l B ≤ owedF l B := by unfold partF; omega
      exact planEnd_owed hr hp t (s + partF p l B) _ _ D (n2.pay c1 c2) (daysOk_weak (by omega) h3)
theorem cost_eq {row : Row} (hr : RatesOk row) {p l b d : Int} (hp : 1 ≤ p) {days : List Int} (n : NumOk l b d) (hd : daysOk d days = true) :
    ((planRows row p l b d days).map fun r => r.2.1).sum + owedF (planEnd row p l b d days).1 (thenF (planEnd row p l b d days).1 (planEnd row p l b d days).2.1 (planEnd row p l b d days).2.2 row (lastOr d days)) = costF row p l b d days := by
  have h1 := plan_run row hr (show 0 ≤ p by omega) days 0 l b d n.l0 n.b0 hd
  rw [planEnd_owed hr hp days 0 l b d n hd]
  rcases h1 with h1 | h1
  · unfold costF Run.out
    rw [← h1.1]; omega
  · omega
/-! ### the least part -/
structure LeastF (row : Row) (l b d : Int) (days : List Int) (v : Int) : Prop where
  lo : 0 ≤ v
  done : owedEnd row v l b d days = 0
  less : ∀ c, 0 ≤ c → c < v → owedEnd row c l b d days ≠ 0
/-- the sums of the stretches -/
def sumsOf (row : Row) : Int → List Int → List Int
  | _, [] => []
  | d, D :: t => grownF row d D :: sumsOf row D t
theorem sumsOf_len (row : Row) : ∀ (days : List Int) (d : Int), (sumsOf row d days).length = days.length
  | [], _ => rfl
  | D :: t, d => by rw [sumsOf, List.length_cons, List.length_cons, sumsOf_len row t D]
theorem sums_at {row : Row} : ∀ {days : List Int} {d f x y : Int} {i : Nat}, d ≤ f → daysOk f days = true → (d :: days.dropLast)[i]? = some x → days[i]? = some y → (sumsOf row d days)[i]? = some (grownF row x y) ∧ x ≤ y ∧ d ≤ x ∧ y ≤ 100000
  | [], _, _, _, _, _, _, _, _, e2 => by simp at e2
  | D :: t, d, f, x, y, 0, h, hd, e1, e2 => by
    have := daysOk_cons hd
    simp at e1 e2
    subst e1 e2
    exact ⟨rfl, by omega, Int.le_refl _, this.2.1⟩
  | D :: t, d, f, x, y, i + 1, h, hd, e1, e2 => by
    have h3 := daysOk_cons hd
    have e3 : (D :: t.dropLast)[i]? = some x := by
      cases t with
      | nil => simp at e2
      | cons E t' => simpa using e1
    have e4 : t[i]? = some y := by simpa using e2
    have ih := sums_at (row := row) (d := D) (f := D + 1) (by omega) h3.2.2 e3 e4
    exact ⟨by rw [sumsOf, List.getElem?_cons_succ]; exact ih.1, ih.2.1, by omega, ih.2.2.2⟩
theorem daysOk_head {f e D : Int} {t : List Int} (h : daysOk f (D :: t) = true) (he : e ≤ D) : daysOk e (D :: t) = true := by
  have := daysOk_cons h
  rw [daysOk, if_neg (by omega)]
  exact this.2.2
theorem owedEnd_num {row : Row} (hr : RatesOk row) {p : Int} (hp : 0 ≤ p) : ∀ (days : List Int) (s l b d : Int), NumOk l b d → daysOk d days = true →
    NumOk (Run.plan row p ⟨s, l, b, d⟩ days).l (Run.plan row p ⟨s, l, b, d⟩ days).b (Run.plan row p ⟨s, l, b, d⟩ days).d
  | [], s, l, b, d, n, _ => n
  | D :: t, s, l, b, d, n, hd => by
    obtain ⟨h1, h2, h3⟩ := daysOk_cons hd
    have n2 := n.walk hr h1 h2
    rw [run_cons, run_due]
    generalize thenF l b d row D = B at n2
    have ho : 0 ≤ owedF l B := by have := n2.l0; have := n2.b0; unfold owedF; omega
    have c2 : partF p l B ≤ owedF l B := by unfold partF; omega
    have c1 : 0 ≤ partF p l B := by unfold partF; omega
    refine owedEnd_num hr hp t _ _ _ D ?_ (daysOk_weak (by omega) h3)
    have a := pay_left n2.l0 n2.b0 c1 c2
    have b' := pBegun_ok (l := l) n2.b0 c1
    exact ⟨a.1, Int.le_trans a.2 n2.l1, b'.1, Int.le_trans b'.2 n2.b1, n2.d0, n2.d1⟩
/-- all that is owed on the first due day pays back all -/
theorem owed_settles {row : Row} (hr : RatesOk row) {l b d D : Int} {t : List Int} (n : NumOk l b d) (hd : daysOk d (D :: t) = true) : owedEnd row (owedF l (thenF l b d row D)) l b d (D :: t) = 0 := by
  obtain ⟨h1, h2, h3⟩ := daysOk_cons hd
  have n2 := n.walk hr h1 h2
  unfold owedEnd
  rw [run_cons, run_due]
  generalize thenF l b d row D = B at n2
  have ho : 0 ≤ owedF l B := by have := n2.l0; have := n2.b0; unfold owedF; omega
  have e : partF (owedF l B) l B = owedF l B := by unfold partF; omega
  have e1 : pLeft l B (owedF l B) = 0 := by unfold pLeft; rw [if_pos rfl]
  have e2 : pBegun l B (owedF l B) = 0 := by unfold pBegun; rw [if_pos rfl]
  rw [e, e1, e2, run_zero row ho]
  rfl
theorem owedEnd_more {row : Row} (hr : RatesOk row) {l b d c e : Int} {days : List Int} (n : NumOk l b d) (hd : daysOk d days = true) (h0 : 0 ≤ c) (hc : c ≤ e) : owedEnd row e l b d days ≤ owedEnd row c l b d days :=
  settles_more (A := ⟨0, l, b, d⟩) hr h0 hc n.l0 n.b0 (fun D hD => (daysOk_le hd D hD).1) (daysOk_asc hd)
theorem owedEnd_nonneg {row : Row} (hr : RatesOk row) {p l b d : Int} (hp : 0 ≤ p) {days : List Int} (n : NumOk l b d) (hd : daysOk d days = true) : 0 ≤ owedEnd row p l b d days := by
  have h := owedEnd_num hr hp days 0 l b d n hd
  have := h.l0; have := h.b0
  unfold owedEnd owedF
  omega
/-- nothing paid: no less is owed -/
theorem owed_none {row : Row} (hr : RatesOk row) : ∀ (days : List Int) (s l b d : Int), 0 ≤ l → 0 ≤ b → 1 ≤ owedF l b → daysOk d days = true → 1 ≤ owedF (Run.plan row 0 ⟨s, l, b, d⟩ days).l (Run.plan row 0 ⟨s, l, b, d⟩ days).b
  | [], s, l, b, d, _, _, h, _ => h
  | D :: t, s, l, b, d, hl, hb, h, hd => by
    obtain ⟨h1, h2, h3⟩ := daysOk_cons hd
    have g := (grownF_bounds hr h1).1
    have hB : b ≤ thenF l b d row D := by
      have : 0 ≤ l * grownF row d D := Int.mul_nonneg hl g
      unfold thenF; omega
    rw [run_cons, run_due]
    generalize thenF l b d row D = B at hB
    have ho : 1 ≤ owedF l B := by unfold owedF at *; omega
    have e : partF 0 l B = 0 := by unfold partF; omega
    have e1 : pLeft l B 0 = l := by unfold pLeft; rw [if_neg (by omega)]; omega
    have e2 : pBegun l B 0 = B := by unfold pBegun; rw [if_neg (by omega)]; omega
    rw [e, e1, e2]
    exact owed_none hr t _ l B D hl (by omega) ho (daysOk_weak (by omega) h3)
theorem LeastF.zero {row : Row} {l b d v : Int} {days : List Int} (h : LeastF row l b d days v) (hl : 0 ≤ l) (hb : 0 ≤ b) (ho : owedF l b = 0) : v = 0 := by
  obtain ⟨e1, e2⟩ := owed_zero hl hb ho
  subst e1 e2
  by_cases c : v = 0
  · exact c
  · have lo := h.lo
    refine absurd ?_ (h.less 0 (Int.le_refl 0) (by omega))
    unfold owedEnd
    rw [run_zero row (Int.le_refl 0)]
    rfl
theorem LeastF.pos {row : Row} (hr : RatesOk row) {l b d v : Int} {days : List Int} (h : LeastF row l b d days v) (hl : 0 ≤ l) (hb : 0 ≤ b) (ho : owedF l b ≠ 0) (hd : daysOk d days = true) : 1 ≤ v := by
  have h1 : 1 ≤ owedF l b := by unfold owedF at *; omega
  have lo := h.lo
  by_cases c : v = 0
  · have := owed_none hr days 0 l b d hl hb h1 hd
    have e := h.done
    rw [c] at e
    unfold owedEnd at e
    omega
  · omega
theorem early_out {row : Row} (hr : RatesOk row) {p c l b d : Int} {days : List Int} (hp : 0 ≤ p) (n : NumOk l b d) (hd : daysOk d days = true) (h1 : 0 ≤ c) (h2 : c ≤ owedF l b) :
    c + costF row p (pLeft l b c) (pBegun l b c) d days ≤ costF row p l b d days := by
  have h := early_saves hr hp h1 h2 n.l0 n.b0 (fun D hD => (daysOk_le hd D hD).1) (daysOk_asc hd) (row := row) (days := days) (d := d)
  have sh : ∀ (days : List Int) (s l b d : Int), (Run.plan row p ⟨s, l, b, d⟩ days).out = s + (Run.plan row p ⟨0, l, b, d⟩ days).out := by
    intro days
    induction days with
    | nil => intro s l b d; simp [Run.plan, Run.out]
    | cons D t ih =>
      intro s l b d
      rw [run_cons, run_cons, run_due, run_due, ih, ih (0 + _)]
      omega
  rw [sh] at h
  exact h
end Lp
namespace Lp
open PySem L2
section
variable {σ : L2.St} {H : Hp} {Q : VK} {E : XK} {D : Ends} {K : PySem.W.Frag} {te ta tb : TE} {tt tu : TT} {t u w : TS}
/-! ## lists of ints -/
def IntsAt (H : Hp) (a : Addr) (ns : List Int) : Prop := H a = some (.lst (ns.map V.int))
theorem IntsAt.same {H H' : Hp} {a : Addr} {ns : List Int} (h : IntsAt H a ns) (s : Same H H') : IntsAt H' a ns := s _ _ h
theorem IntsAt.sq {H : Hp} {a : Addr} {ns : List Int} (h : IntsAt H a ns) : SqL K H a (ns.map V.int) := SqL.of h
theorem IntsAt.butI {H H' : Hp} {a x C dx : Addr} {ns : List Int} {fs : List (Str × V)} (h : IntsAt H a ns) (k : But x H H') (hx : H x = some (.ins C dx fs)) : IntsAt H' a ns := k _ _ (ne_of h hx (by intro z; cases z)) h
theorem ints_at {ns : List Int} {i : Nat} {v : V} (e : (ns.map V.int)[i]? = some v) : ∃ n, ns[i]? = some n ∧ v = .int n := by
  rw [List.getElem?_map] at e
  cases h : ns[i]? with
  | none => rw [h] at e; cases e
  | some n => rw [h] at e; exact ⟨n, rfl, (Option.some.inj e).symm⟩
theorem drop_cons {α : Type} {l : List α} {i : Nat} {x : α} (h : l[i]? = some x) : l.drop i = x :: l.drop (i + 1) := by
  obtain ⟨hl, e⟩ := List.getElem?_eq_some_iff.mp h
  rw [List.drop_eq_getElem_cons hl, e]
theorem g_lenI {p : Addr} {ns : List Int} {n : Int} (h : IntsAt H p ns) (e : (ns.length : Int) = n) (q : Q (.int n) H) : rLen K [.ref p] H Q := g_len h.sq (by rw [List.length_map]; exact e) q
theorem g_ixI {p : Addr} {ns : List Int} {i v : Int} {j : Nat} (h : IntsAt H p ns) (ei : i = (j : Int)) (e : ns[j]? = some v) (q : Q (.int v) H) : rIxL K (.ref p) (.int i) H Q :=
  g_ixL h.sq ei (by rw [List.getElem?_map, e]; rfl) q
theorem g_ixIlast {p : Addr} {ns : List Int} {i v : Int} (h : IntsAt H p ns) (ei : i = -1) (e : ns.getLast? = some v) (q : Q (.int v) H) : rIxL K (.ref p) (.int i) H Q := by
  obtain ⟨ys, ex⟩ := List.getLast?_eq_some_iff.mp e
  refine ⟨p, _, i, .int v, rfl, rfl, h.sq, ?_, q⟩
  rw [ei, ex, List.map_append]
  exact atI_last _ _
theorem g_forI {i : Nat} {a : Addr} {ns : List Int} {g : TG} (hv : σ[i]? = some (some (.ref a))) (hx : IntsAt H a ns) (Pv : L2.St → Nat → L2.St → Hp → Prop) (h0 : Pv σ 0 σ H) (hl : ∀ i σ' H', Pv σ i σ' H' → IntsAt H' a ns)
    (hs : ∀ i n σ' H', ns[i]? = some n → Pv σ i σ' H' → g (.int n) σ' H' fun σ2 H2 => t { D with nx := Pv σ (i + 1), ct := Pv σ (i + 1), bk := D.nx } σ2 H2) (hd : ∀ σ' H', Pv σ ns.length σ' H' → D.nx σ' H') : tFor (iList K (tVar i)) g t D σ H :=
  g_forL hv hx.sq Pv h0 (fun i σ' H' _ p => (hl i σ' H' p).sq) (fun i x σ' H' e p => by
    obtain ⟨n, e1, rfl⟩ := ints_at e
    exact hs i n σ' H' e1 p) (fun σ' H' p => hd σ' H' (by rw [List.length_map] at p; exact p))
/-! ## while -/
def WhGo (W : Nat → L2.St → Hp → Prop) (m : Nat) (t : TS) (D : Ends) (σ : L2.St) (H : Hp) : Prop := ∃ N : L2.St → Hp → Prop, (∀ σ' H', N σ' H' → ∃ m', m' < m ∧ W m' σ' H') ∧ t { D with nx := N, ct := N, bk := D.nx } σ H
theorem g_go {W : Nat → L2.St → Hp → Prop} {m : Nat} (q : t { D with nx := fun σ' H' => ∃ m', m' < m ∧ W m' σ' H', ct := fun σ' H' => ∃ m', m' < m ∧ W m' σ' H', bk := D.nx } σ H) : WhGo W m t D σ H := ⟨_, fun _ _ h => h, q⟩
theorem g_while (W : L2.St → Nat → L2.St → Hp → Prop) (h0 : ∃ m, W σ m σ H) (hs : ∀ m σ' H', W σ m σ' H' → tt σ' H' fun b H1 => if b = true then WhGo (W σ) m t D σ' H1 else D.nx σ' H1) : tWhile tt t D σ H := ⟨W σ, h0, hs⟩
theorem g_seq_while (h : tWhile tt t { D with nx := u D } σ H) : tSeq (tWhile tt t) u D σ H := h
/-! ## comprehensions -/
theorem g_lcL {i : Nat} {a : Addr} {xs : List V} {g : TG} {vs : List Nat} (hv : σ[i]? = some (some (.ref a))) (hx : SqL K H a xs) (Pv : Addr → Nat → Hp → Prop) (h0 : ∀ D, H D = none → Pv D 0 (upd H D (.lst []))) (hl : ∀ D i H', Pv D i H' → SqL K H' a xs)
    (hs : ∀ D i x H', xs[i]? = some x → Pv D i H' → g x (wipe σ vs) H' fun σ2 H2 => wipe σ2 vs = wipe σ vs ∧ tt σ2 H2 fun b H3 =>
      if b = true then te σ2 H3 fun y H4 => ∃ acc, H4 D = some (.lst acc) ∧ acc.length < sizeLine ∧ Pv D (i + 1) (upd H4 D (.lst (acc ++ [y]))) else Pv D (i + 1) H3)
    (hd : ∀ D H', H D = none → Pv D xs.length H' → Q (.ref D) H') : tLc (iList K (tVar i)) g tt te vs σ H Q :=
  ⟨_, hv, a, rfl, ⟨xs, hx⟩, fun D hD => lc_list (Pv D) (h0 D hD) (fun i H' _ p => hl D i H' p) (hs D) (fun H' p => hd D H' hD p)⟩
theorem g_lcZ {i j : Nat} {a b : Addr} {xs ys : List V} {g : TG} {vs : List Nat} (hv : σ[i]? = some (some (.ref a))) (hw : σ[j]? = some (some (.ref b))) (hx : SqL K H a xs) (hy : SqL K H b ys) (Pv : Addr → Nat → Hp → Prop) (h0 : ∀ D, H D = none → Pv D 0 (upd H D (.lst [])))
    (hl : ∀ D i H', Pv D i H' → SqL K H' a xs ∧ SqL K H' b ys)
    (hs : ∀ D i x y T H', xs[i]? = some x → ys[i]? = some y → Pv D i H' → H' T = none → g (.ref T) (wipe σ vs) (upd H' T (.tup [x, y])) fun σ2 H2 => wipe σ2 vs = wipe σ vs ∧ tt σ2 H2 fun b H3 =>
      if b = true then te σ2 H3 fun y H4 => ∃ acc, H4 D = some (.lst acc) ∧ acc.length < sizeLine ∧ Pv D (i + 1) (upd H4 D (.lst (acc ++ [y]))) else Pv D (i + 1) H3)
    (hd : ∀ D H', H D = none → Pv D (min xs.length ys.length) H' → Q (.ref D) H') : tLc (iZip K (tCons (tVar i) (tCons (tVar j) tNil))) g tt te vs σ H Q :=
  ⟨_, hv, _, hw, a, b, xs, ys, rfl, hx, hy, fun D hD => lc_it (walk_zip rfl) (Pv D) (h0 D hD) (fun i H' _ p => hl D i H' p) (fun i v H1 H' _ p y => by
    obtain ⟨T, x, z, rfl, nT, rfl, e1, e2⟩ := y
    exact hs D i x z T H1 e1 e2 p nT) (fun H' p => hd D H' hD p)⟩
/-- the turn's end: an item more at the new list -/
theorem g_lcEnd {D' : Addr} {acc : List V} {y : V} {P : Hp → Prop} (h : H D' = some (.lst acc)) (hz : acc.length ≤ 100000) (q : P (upd H D' (.lst (acc ++ [y])))) : ∃ acc, H D' = some (.lst acc) ∧ acc.length < sizeLine ∧ P (upd H D' (.lst (acc ++ [y]))) := ⟨acc, h, Nat.lt_of_le_of_lt hz (by decide), q⟩
theorem g_yes {Q : Bool → Hp → Prop} (q : Q true H) : tYes σ H Q := q
theorem g_sum {l : Addr} {ns : List Int} (h : IntsAt H l ns) (q : Q (.int ns.sum) H) : rSum K [.ref l] H Q := ⟨l, ns, rfl, h.sq, q⟩
theorem cut_init (xs : List V) : cutV xs none (some (-1)) = xs.dropLast := by
  unfold cutV HT.sIx
  rw [List.dropLast_eq_take]
  simp
  omega
theorem g_slInit {l : Addr} {ns : List Int} {k : Int} (h : IntsAt H l ns) (hk : k = -1) (q : ∀ p H', H p = none → Same H H' → IntsAt H' p ns.dropLast → Q (.ref p) H') : rSlL K (.ref l) none (some k) H Q := by
  refine ⟨l, _, rfl, h.sq, fun p np => q p _ np (same_new np) ?_⟩
  rw [hk, cut_init, ← List.map_dropLast]
  exact upd_same
theorem g_slToI {l : Addr} {ns : List Int} {k : Int} (h : IntsAt H l ns) (h0 : 0 ≤ k) (h1 : k ≤ ns.length) (q : ∀ p H', H p = none → Same H H' → IntsAt H' p (ns.take k.toNat) → Q (.ref p) H') : rSlL K (.ref l) none (some k) H Q := by
  refine ⟨l, _, rfl, h.sq, fun p np => q p _ np (same_new np) ?_⟩
  rw [cut_to _ h0 (by rw [List.length_map]; exact h1), ← List.map_take]
  exact upd_same
theorem g_slFromI {l : Addr} {ns : List Int} {k : Int} (h : IntsAt H l ns) (h0 : 0 ≤ k) (h1 : k ≤ ns.length) (q : ∀ p H', H p = none → Same H H' → IntsAt H' p (ns.drop k.toNat) → Q (.ref p) H') : rSlL K (.ref l) (some k) none H Q := by
  refine ⟨l, _, rfl, h.sq, fun p np => q p _ np (same_new np) ?_⟩
  rw [cut_from _ h0 (by rw [List.length_map]; exact h1), ← List.map_drop]
  exact upd_same
theorem g_newI {ns : List Int} {xs : List V} (e : xs = ns.map V.int) (hl : ns.length ≤ 100) (h : ∀ p H', H p = none → Same H H' → IntsAt H' p ns → Q (.ref p) H') : NewL xs H Q := by
  subst e
  exact g_newL (by rw [List.length_map]; exact hl) h
theorem g_catI {l b : Addr} {ns ms : List Int} (h1 : IntsAt H l ns) (h2 : IntsAt H b ms) (hz : ns.length + ms.length ≤ 100000) (q : ∀ p H', H p = none → Same H H' → IntsAt H' p (ns ++ ms) → Q (.ref p) H') : rCat (.ref l) (.ref b) H Q :=
  g_cat h1 h2 (by rw [List.length_map, List.length_map]; exact hz) fun p H' hp s h => q p H' hp s (by unfold IntsAt; rw [List.map_append]; exact h)
theorem pe_fldK {X : Cx} {K : PySem.W.Frag} {e : Expr} {f : Str} {pos : Pos} {ta : TE} (hK : X.K = K) (he : PE X e ta) (hb : attributeBase e f X.env (eval e X.env) = eval e X.env) : PE X (.Attribute e f pos) (tFld K ta f) := by
  subst hK; exact pe_fld he hb
theorem pg_tupK {X : Cx} {K : PySem.W.Frag} {n : Nat} {es : List Expr} {k : Nat} {pos : Pos} {t : TGs} (hK : X.K = K) (hc : X.calm = true) (h : PGs X es t) (hn : (assignEach es X.env).length = n) (hst : (assignEach es X.env).findIdx? (·.1) = none) : PG X (.Tuple es k pos) (gTup K n t) := by
  subst hK; exact pg_tup hc h hn hst
/-! ## tuples of five -/
inductive FivesAt (H : Hp) : List V → List P5 → Prop
  | nil : FivesAt H [] []
  | cons {q : Addr} {r : P5} {xs : List V} {rows : List P5} : H q = some (.tup [.int r.1, .int r.2.1, .int r.2.2.1, .int r.2.2.2.1, .int r.2.2.2.2]) → FivesAt H xs rows → FivesAt H (.ref q :: xs) (r :: rows)
theorem FivesAt.len {H : Hp} : ∀ {xs : List V} {rows : List P5}, FivesAt H xs rows → xs.length = rows.length
  | _, _, .nil => rfl
  | _, _, .cons _ t => by rw [List.length_cons, List.length_cons, t.len]
theorem FivesAt.mono {H H' : Hp} (s : ∀ q ps, H q = some (.tup ps) → H' q = some (.tup ps)) : ∀ {xs : List V} {rows : List P5}, FivesAt H xs rows → FivesAt H' xs rows
  | _, _, .nil => .nil
  | _, _, .cons h t => .cons (s _ _ h) (t.mono s)
theorem FivesAt.app {H : Hp} : ∀ {xs ys : List V} {r1 r2 : List P5}, FivesAt H xs r1 → FivesAt H ys r2 → FivesAt H (xs ++ ys) (r1 ++ r2)
  | _, _, _, _, .nil, t => t
  | _, _, _, _, .cons h t, u => .cons h (t.app u)
theorem FivesAt.got {H : Hp} : ∀ {xs : List V} {rows : List P5} {i : Nat} {v : V}, FivesAt H xs rows → xs[i]? = some v → ∃ r q, rows[i]? = some r ∧ v = .ref q ∧ H q = some (.tup [.int r.1, .int r.2.1, .int r.2.2.1, .int r.2.2.2.1, .int r.2.2.2.2])
  | _, _, i, _, .nil, e => by simp at e
  | _, _, 0, _, .cons h t, e => by simp at e; subst e; exact ⟨_, _, rfl, rfl, h⟩
  | _, _, i + 1, _, .cons h t, e => by
    obtain ⟨r, q, h1, h2, h3⟩ := t.got (i := i) (by simpa using e)
    exact ⟨r, q, by simpa using h1, h2, h3⟩
def PlanAt (H : Hp) (l : Addr) (rows : List P5) : Prop := ∃ xs, H l = some (.lst xs) ∧ FivesAt H xs rows
theorem PlanAt.same {H H' : Hp} {l : Addr} {rows : List P5} (h : PlanAt H l rows) (s : Same H H') : PlanAt H' l rows := by
  obtain ⟨xs, h1, h2⟩ := h
  exact ⟨xs, s _ _ h1, h2.mono fun q ps e => s _ _ e⟩
theorem PlanAt.butI {H H' : Hp} {l x C dx : Addr} {rows : List P5} {fs : List (Str × V)} (h : PlanAt H l rows) (k : But x H H') (hx : H x = some (.ins C dx fs)) : PlanAt H' l rows := by
  obtain ⟨xs, h1, h2⟩ := h
  exact ⟨xs, k _ _ (ne_of h1 hx (by intro z; cases z)) h1, h2.mono fun q ps e => k _ _ (ne_of e hx (by intro z; cases z)) e⟩
theorem PlanAt.snoc {H : Hp} {l q : Addr} {rows : List P5} {xs : List V} {r : P5} (h2 : FivesAt H xs rows) (hl : H l = some (.lst xs)) (hq : H q = some (.tup [.int r.1, .int r.2.1, .int r.2.2.1, .int r.2.2.2.1, .int r.2.2.2.2])) : PlanAt (upd H l (.lst (xs ++ [.ref q]))) l (rows ++ [r]) := by
  refine ⟨_, upd_same, ?_⟩
  have k : ∀ q ps, H q = some (.tup ps) → upd H l (.lst (xs ++ [.ref q])) q = some (.tup ps) := fun q ps e => by
    rw [upd_ne (ne_of e hl (by intro z; cases z))]; exact e
  refine FivesAt.app (h2.mono fun q ps e => ?_) (.cons ?_ .nil)
  · rw [upd_ne (ne_of e hl (by intro z; cases z))]; exact e
  · rw [upd_ne (ne_of hq hl (by intro z; cases z))]; exact hq
/-! ## the plans' promises -/
/-- a loan under a good row -/
structure GoodL (C : Addr) (H : Hp) (x : Addr) (l b d : Int) (r : Addr) (row : Row) : Prop where
  L : LoanAt C H x l b d r row
  n : NumOk l b d
  ok : RowOk row
  last : lastDay row ≤ 100000
  len : row.length ≤ 1000
theorem GoodL.same {C : Addr} {H H' : Hp} {x : Addr} {l b d : Int} {r : Addr} {row : Row} (h : GoodL C H x l b d r row) (s : Same H H') : GoodL C H' x l b d r row := ⟨h.L.same s, h.n, h.ok, h.last, h.len⟩
def sp_check_days (C BD : Addr) : Sp := fun vs H Q E => ∃ x a l b d r row days, vs = [.ref x, .ref a] ∧ LoanAt C H x l b d r row ∧ NumOk l b d ∧ IntsAt H a days ∧ (daysOk d days = false → E (.ref BD) none H) ∧ (daysOk d days = true → Q .non H)
def sp_check_some (C BD : Addr) : Sp := fun vs H Q E => ∃ x a l b d r row days, vs = [.ref x, .ref a] ∧ LoanAt C H x l b d r row ∧ NumOk l b d ∧ IntsAt H a days ∧ (days = [] ∨ daysOk d days = false → E (.ref BD) none H) ∧ (days ≠ [] → daysOk d days = true → Q .non H)
def sp_check_part (BP : Addr) : Sp := fun vs H Q E => ∃ p, vs = [.int p] ∧ (p < 1 → E (.ref BP) none H) ∧ (1 ≤ p → Q .non H)
def sp_pay_parts (C : Addr) : Sp := fun vs H Q _ => ∃ x a p l b d r row days, vs = [.ref x, .ref a, .int p] ∧ LoanAt C H x l b d r row ∧ NumOk l b d ∧ RatesOk row ∧ IntsAt H a days ∧ daysOk d days = true ∧ days.length ≤ 1000 ∧ 1 ≤ p ∧
  ∀ o H', H o = none → But x H H' → LoanAt C H' x (planEnd row p l b d days).1 (planEnd row p l b d days).2.1 (planEnd row p l b d days).2.2 r row → PlanAt H' o (planRows row p l b d days) → Q (.ref o) H'
def sp_plan (C BD BP : Addr) : Sp := fun vs H Q E => ∃ x a p l b d r row days, vs = [.ref x, .ref a, .int p] ∧ GoodL C H x l b d r row ∧ IntsAt H a days ∧ days.length ≤ 1000 ∧ (daysOk d days = false → E (.ref BD) none H) ∧
  (daysOk d days = true → (p < 1 → E (.ref BP) none H) ∧ (1 ≤ p → ∀ o H', H o = none → Same H H' → PlanAt H' o (planRows row p l b d days) → Q (.ref o) H'))
def sp_cost (C BD BP : Addr) : Sp := fun vs H Q E => ∃ x a p l b d r row days, vs = [.ref x, .ref a, .int p] ∧ GoodL C H x l b d r row ∧ IntsAt H a days ∧ days.length ≤ 1000 ∧ (days = [] ∨ daysOk d days = false → E (.ref BD) none H) ∧
  (days ≠ [] → daysOk d days = true → (p < 1 → E (.ref BP) none H) ∧ (1 ≤ p → ∀ H', Same H H' → Q (.int (costF row p l b d days)) H'))
def savedF (row : Row) (p l b d : Int) (days : List Int) (e c : Int) : Int := costF row p l b d days - c - costF row p (pLeft l (thenF l b d row e) c) (pBegun l (thenF l b d row e) c) e days
def sp_saved (C BD BP : Addr) : Sp := fun vs H Q E => ∃ x a p e c l b d r row days, vs = [.ref x, .ref a, .int p, .int e, .int c] ∧ GoodL C H x l b d r row ∧ IntsAt H a days ∧ days.length ≤ 1000 ∧ (days = [] ∨ daysOk d days = false → E (.ref BD) none H) ∧
  (days ≠ [] → daysOk d days = true → (p < 1 → E (.ref BP) none H) ∧ (1 ≤ p → (e < d ∨ days.headD 0 < e → ∀ H', Same H H' → E (.ref BD) none H') ∧
    (¬ (e < d ∨ days.headD 0 < e) → (c < 1 ∨ owedF l (thenF l b d row e) < c → ∀ H', Same H H' → E (.ref BP) none H') ∧ (¬ (c < 1 ∨ owedF l (thenF l b d row e) < c) → ∀ H', Same H H' → Q (.int (savedF row p l b d days e c)) H'))))
def sp_stretches (C : Addr) : Sp := fun vs H Q _ => ∃ x a l b d r row days, vs = [.ref x, .ref a] ∧ LoanAt C H x l b d r row ∧ NumOk l b d ∧ IntsAt H a days ∧ days ≠ [] ∧ daysOk d days = true ∧ days.length ≤ 1000 ∧ ∀ o H', H o = none → Same H H' → IntsAt H' o (sumsOf row d days) → Q (.ref o) H'
def sp_pays_back (C : Addr) : Sp := fun vs H Q _ => ∃ x a p l b d r row days, vs = [.ref x, .ref a, .int p] ∧ LoanAt C H x l b d r row ∧ NumOk l b d ∧ RatesOk row ∧ IntsAt H a (sumsOf row d days) ∧ daysOk d days = true ∧ 0 ≤ p ∧ ∀ H', Same H H' → Q (.bl (decide (owedEnd row p l b d days = 0))) H'
def sp_least (C BD : Addr) : Sp := fun vs H Q E => ∃ x a l b d r row days, vs = [.ref x, .ref a] ∧ GoodL C H x l b d r row ∧ IntsAt H a days ∧ days.length ≤ 1000 ∧ (days = [] ∨ daysOk d days = false → E (.ref BD) none H) ∧
  (days ≠ [] → daysOk d days = true → ∀ v H', Same H H' → LeastF row l b d days v → Q (.int v) H')
end
end Lp
namespace Lp
open PySem L2
/-! ## a text some times -/
def repS (x : Str) (n : Int) : Str := if n < 1 then Str.empty else if (n == 1 || x.length == 0) = true then x else ⟨(List.replicate n.toNat x.cps).foldl (· ++ ·) #[]⟩
theorem fold_size {a : Array Nat} : ∀ (n : Nat) (acc : Array Nat), ((List.replicate n a).foldl (· ++ ·) acc).size = acc.size + n * a.size
  | 0, acc => by simp
  | n + 1, acc => by
    rw [List.replicate_succ, List.foldl_cons, fold_size n, Array.size_append, Nat.add_mul]
    omega
def rRepS : R2 := fun x y H Q => ∃ s n, x = .str s ∧ y = .int n ∧ -1000 ≤ n ∧ n ≤ 1000 ∧ s.length ≤ 1000 ∧ Q (.str (repS s n)) H
theorem op_rep_str {X : Cx} : OpR X (binaryOp .Mult) rRepS := by
  intro pins s σ H x y v u Q I rx ry h
  obtain ⟨z, n, rfl, rfl, n0, n1, hz, q⟩ := h
  obtain ⟨t, rfl⟩ := rx
  obtain ⟨t', rfl⟩ := ry
  have hmul : z.length * n.toNat ≤ 1000 * 1000 := Nat.mul_le_mul hz (by omega)
  refine PySem.P.mul_str (by rw [decide_eq_false (by omega), decide_eq_false (by omega)]; rfl) (fun h1 _ => ?_) (fun h1 _ => ?_) ?_
  · have : (z.length : Int) ≤ (2 ^ 63 - 1) / n := by
      refine Int.le_ediv_of_mul_le (by omega) ?_
      have e : n = (n.toNat : Int) := by omega
      rw [e]
      have : ((z.length * n.toNat : Nat) : Int) ≤ 1000 * 1000 := by omega
      rw [Int.natCast_mul] at this
      omega
    omega
  · unfold Builtin.Str.tooLong
    refine decide_eq_false ?_
    have : (1000 * 1000 : Nat) ≤ sizeLine := by decide
    omega
  · unfold repS at q
    split
    · rename_i c
      rw [if_pos c] at q
      exact ⟨by decide, .str Str.empty, H, I.tok _, ⟨_, rfl⟩, q⟩
    · rename_i c
      rw [if_neg c] at q
      split
      · rename_i c2
        rw [if_pos c2] at q
        exact ⟨.str z, H, I, ⟨_, rfl⟩, q⟩
      · rename_i c2
        rw [if_neg c2] at q
        refine ⟨?_, .str _, H, I.tok _, ⟨_, rfl⟩, q⟩
        show ((List.replicate n.toNat z.cps).foldl (· ++ ·) #[]).size ≤ sizeLine
        rw [fold_size]
        have e : z.cps.size = z.length := rfl
        have : (1000 * 1000 : Nat) ≤ sizeLine := by decide
        have e2 := Nat.mul_comm z.length n.toNat
        rw [e, ← e2]
        simp
        omega
/-! ## days of the law's own -/
theorem daysOk_snoc : ∀ {l : List Int} {f x : Int}, daysOk f (l ++ [x]) = true ↔ daysOk f l = true ∧ lastOr (f - 1) l < x ∧ x ≤ 100000
  | [], f, x => by
    show (if x < f ∨ 100000 < x then false else true) = true ↔ true = true ∧ f - 1 < x ∧ x ≤ 100000
    by_cases c : x < f ∨ 100000 < x
    · rw [if_pos c]; simp; omega
    · rw [if_neg c]; simp; omega
  | d :: t, f, x => by
    show (if d < f ∨ 100000 < d then false else daysOk (d + 1) (t ++ [x])) = true ↔ (if d < f ∨ 100000 < d then false else daysOk (d + 1) t) = true ∧ lastOr d t < x ∧ x ≤ 100000
    have ih := daysOk_snoc (l := t) (f := d + 1) (x := x)
    rw [show d + 1 - 1 = d by omega] at ih
    by_cases c : d < f ∨ 100000 < d
    · rw [if_pos c, if_pos c]; simp
    · rw [if_neg c, if_neg c]; exact ih
def daysN (c a w : Int) : Nat → List Int
  | 0 => [a + c % 4]
  | n + 1 => daysN c a w n ++ [(daysN c a w n).getLast?.getD 0 + 1 + mixed (c + 17 * (1 + (n : Int))) w]
def daysBy (c a m w : Int) : List Int := (daysN c a w (m - 1).toNat).take m.toNat
theorem daysN_len (c a w : Int) : ∀ n, (daysN c a w n).length = n + 1
  | 0 => rfl
  | n + 1 => by rw [daysN, List.length_append, daysN_len c a w n]; rfl
theorem daysN_last (c a w : Int) (n : Nat) : ∃ d, (daysN c a w n).getLast? = some d := by
  cases n with
  | zero => exact ⟨_, rfl⟩
  | succ n => exact ⟨_, by rw [daysN]; exact last_snoc _ _⟩
theorem daysN_ok (c a : Int) {w : Int} (hw : 0 < w) (f : Int) (hf : f ≤ a) : ∀ n : Nat, a + 3 + (n : Int) * w ≤ 100000 → daysOk f (daysN c a w n) = true ∧ lastOr (f - 1) (daysN c a w n) ≤ a + 3 + (n : Int) * w
  | 0, h => by
    have h0 := Int.emod_nonneg c (b := 4) (by decide)
    have h1 := Int.emod_lt_of_pos c (b := 4) (by decide)
    rw [show ((0 : Nat) : Int) * w = 0 by simp] at *
    constructor
    · show (if a + c % 4 < f ∨ 100000 < a + c % 4 then false else true) = true
      rw [if_neg (by omega)]
    · show a + c % 4 ≤ a + 3 + 0
      omega
  | n + 1, h => by
    have e : ((n + 1 : Nat) : Int) * w = (n : Int) * w + w := by rw [Int.natCast_succ, Int.add_mul, Int.one_mul]
    rw [e] at h ⊢
    have ih := daysN_ok c a hw f hf n (by omega)
    have lg : (daysN c a w n).getLast? = some (lastOr (f - 1) (daysN c a w n)) := lastOr_get (by
      intro z; have := daysN_len c a w n; rw [z] at this; cases this)
    have m0 := mixed_lo (c := c + 17 * (1 + (n : Int))) hw
    have m1 := mixed_hi (c := c + 17 * (1 + (n : Int))) hw
    have lo : lastOr (f - 1) (daysN c a w n ++ [(daysN c a w n).getLast?.getD 0 + 1 + mixed (c + 17 * (1 + (n : Int))) w]) = (daysN c a w n).getLast?.getD 0 + 1 + mixed (c + 17 * (1 + (n : Int))) w := by
      have z : (daysN c a w n ++ [(daysN c a w n).getLast?.getD 0 + 1 + mixed (c + 17 * (1 + (n : Int))) w]).getLast? = _ := lastOr_get (d := f - 1) (by simp)
      rw [last_snoc] at z
      exact (Option.some.inj z).symm
    rw [daysN, daysOk_snoc, lo, lg]
    show (_ ∧ lastOr (f - 1) (daysN c a w n) < lastOr (f - 1) (daysN c a w n) + 1 + _ ∧ lastOr (f - 1) (daysN c a w n) + 1 + _ ≤ _) ∧ lastOr (f - 1) (daysN c a w n) + 1 + _ ≤ _
    exact ⟨⟨ih.1, by omega, by omega⟩, by omega⟩
theorem daysBy_len {c a m w : Int} (h : 0 ≤ m) : ((daysBy c a m w).length : Int) = m := by
  unfold daysBy; rw [List.length_take, daysN_len]; omega
theorem daysBy_ok {c a m w : Int} (hw : 0 < w) {f : Int} (hf : f ≤ a) (h : a + 3 + (m - 1).toNat * w ≤ 100000) : daysOk f (daysBy c a m w) = true := by
  unfold daysBy
  by_cases hm : 1 ≤ m
  · rw [List.take_of_length_le (by rw [daysN_len]; omega)]
    exact (daysN_ok c a hw f hf _ h).1
  · rw [show m.toNat = 0 by omega, List.take_zero]; rfl
theorem pay_nothing {l B : Int} (hl : 0 ≤ l) (hB : 0 ≤ B) : pLeft l B 0 = l ∧ pBegun l B 0 = B := by
  by_cases c : 0 = owedF l B
  · obtain ⟨e1, e2⟩ := owed_zero hl hB c.symm
    rw [e1, e2]; exact ⟨rfl, rfl⟩
  · unfold pLeft pBegun
    rw [if_neg c, if_neg c]; omega
section
variable {σ : L2.St} {H : Hp} {Q : VK} {E : XK} {D : Ends} {K : PySem.W.Frag} {te ta tb : TE} {tt tu : TT} {t u w : TS}
theorem g_repS {s : Str} {n : Int} (h0 : -1000 ≤ n) (h1 : n ≤ 1000) (hs : s.length ≤ 1000) (q : Q (.str (repS s n)) H) : rRepS (.str s) (.int n) H Q := ⟨s, n, rfl, rfl, h0, h1, hs, q⟩
theorem g_revL {a : Addr} {xs : List V} {i : Nat} (hv : σ[i]? = some (some (.ref a))) (hx : SqL K H a xs) (q : ∀ p H', H p = none → Same H H' → H' p = some (.lst xs.reverse) → Q (.ref p) H') : tRevL K (tVar i) σ H Q := ⟨_, hv, a, xs, rfl, hx, fun p np => q p _ np (same_new np) upd_same⟩
/-! ## lists of ints, of words as data -/
def intsD (ns : List Int) : PyData := .list (ns.map .int)
theorem ints_dpAll {K : PySem.W.Frag} {H : Hp} : ∀ ns : List Int, DpAll K H (ns.map V.int) (ns.map PyData.int)
  | [] => .nil
  | n :: t => .cons (.int n) (ints_dpAll t)
theorem IntsAt.dp {K : PySem.W.Frag} {H : Hp} {a : Addr} {ns : List Int} (h : IntsAt H a ns) : Dp K H (.ref a) (intsD ns) := .lst h.sq (ints_dpAll ns)
theorem intsD_lay : ∀ ns : List Int, PyData.canLayAll0 (ns.map PyData.int) = true
  | [] => by simp [PyData.canLayAll0]
  | p :: r => by simp [PyData.canLayAll0, PyData.canLay0, intsD_lay r]
theorem intsD_dep : ∀ ns : List Int, PyData.depthAll (ns.map PyData.int) ≤ 3
  | [] => by simp [PyData.depthAll]
  | p :: r => by
    have := intsD_dep r
    simp only [List.map_cons, PyData.depthAll, PyData.depth]
    omega
theorem intsD_lay0 (ns : List Int) : (intsD ns).canLay0 = true := by
  unfold intsD; simp only [PyData.canLay0]; exact intsD_lay ns
theorem intsD_shaped (ns : List Int) : SeqAt.shaped (intsD ns) = true := by
  have h1 := intsD_dep ns
  have h2 : PyData.depth (intsD ns) ≤ 64 := by unfold intsD; simp only [PyData.depth]; omega
  unfold SeqAt.shaped
  rw [Bool.and_eq_true]
  exact ⟨intsD_lay0 ns, decide_eq_true h2⟩
theorem g_neInts {a b : Addr} {ns : List Int} (ha : IntsAt H a ns) (hb : IntsAt H b ns) (q : Q (.bl false) H) : rNeD K (.ref a) (.ref b) H Q :=
  ⟨_, _, ha.dp, hb.dp, intsD_shaped _, intsD_shaped _, by rw [SeqAt.eqv_refl _ (intsD_lay0 _)]; exact q⟩
theorem g_eqInts {a b : Addr} {ns : List Int} (ha : IntsAt H a ns) (hb : IntsAt H b ns) (q : Q (.bl true) H) : rEqD K (.ref a) (.ref b) H Q :=
  ⟨_, _, ha.dp, hb.dp, intsD_shaped _, intsD_shaped _, by rw [SeqAt.eqv_refl _ (intsD_lay0 _)]; exact q⟩
theorem g_listOfI {p : Addr} {ns : List Int} (h : IntsAt H p ns) (q : ∀ l H', H l = none → Same H H' → IntsAt H' l ns → Q (.ref l) H') : rListOf K [.ref p] H Q :=
  ⟨p, _, rfl, .inl h.sq, fun l hl => q l _ hl (same_new hl) upd_same⟩
def StrsAt (H : Hp) (a : Addr) (ws : List Str) : Prop := H a = some (.lst (ws.map V.str))
theorem strs_at {ns : List Str} {i : Nat} {v : V} (e : (ns.map V.str)[i]? = some v) : ∃ n, ns[i]? = some n ∧ v = .str n := by
  rw [List.getElem?_map] at e
  cases h : ns[i]? with
  | none => rw [h] at e; cases e
  | some n => rw [h] at e; exact ⟨n, rfl, (Option.some.inj e).symm⟩
theorem g_newS {ns : List Str} {xs : List V} (e : xs = ns.map V.str) (hl : ns.length ≤ 100) (h : ∀ p H', H p = none → Same H H' → StrsAt H' p ns → Q (.ref p) H') : NewL xs H Q := by
  subst e
  exact g_newL (by rw [List.length_map]; exact hl) h
/-! ## promises of the law's helpers about plans -/
def sp_days_by : Sp := fun vs H Q _ => ∃ c a m w, vs = [.int c, .int a, .int m, .int w] ∧ 0 ≤ m ∧ m ≤ 1000 ∧ 0 < w ∧ ∀ l H', H l = none → Same H H' → IntsAt H' l (daysBy c a m w) → Q (.ref l) H'
theorem g_days_by {c a m w : Int} (h1 : 0 ≤ m) (h2 : m ≤ 1000) (h3 : 0 < w) (q : ∀ l H', H l = none → Same H H' → IntsAt H' l (daysBy c a m w) → Q (.ref l) H') : sp_days_by ([.int c, .int a, .int m, .int w] ++ []) H Q E := ⟨c, a, m, w, rfl, h1, h2, h3, q⟩
def sp_loan_by (K : PySem.W.Frag) (C : Addr) : Sp := fun vs H Q _ => ∃ (a : Addr) (ns : List Int) (lr : Addr) (row : Row), vs = [.ref a, .ref lr] ∧ SqL K H a (ns.map V.int) ∧ RowAt H lr row ∧ RowOk row ∧ lastDay row ≤ 90000 ∧ row.length ≤ 60 ∧
  ∀ t x s q l b d r row' H', H x = none → Same H H' → H' t = some (.tup [.ref x, .ref s, .ref q]) → H' s = some (.tup [.int l, .int b, .int d]) → RowAt H' q row' → LoanAt C H' x l b d r row' → NumOk l b d → d ≤ 3000 → RowOk row' → lastDay row' ≤ 95000 → row'.length ≤ 60 → row.length ≤ row'.length → Q (.ref t) H'
def sp_behind : Sp := fun vs H Q _ => ∃ t lr a p l b d row days, vs = [.ref t, .ref lr, .ref a, .int p] ∧ H t = some (.tup [.int l, .int b, .int d]) ∧ RowAt H lr row ∧ RowOk row ∧ row.length ≤ 100 ∧ NumOk l b d ∧ IntsAt H a days ∧ daysOk d days = true ∧ 0 ≤ p ∧
  ∀ o H', Same H H' → H' o = some (.tup [.int (Run.plan row p ⟨0, l, b, d⟩ days).p, .int (owedEnd row p l b d days)]) → Q (.ref o) H'
theorem g_behind {t lr a : Addr} {p l b d : Int} {row : Row} {days : List Int} (h1 : H t = some (.tup [.int l, .int b, .int d])) (h2 : RowAt H lr row) (h3 : RowOk row) (h4 : row.length ≤ 100) (h5 : NumOk l b d) (h6 : IntsAt H a days) (h7 : daysOk d days = true) (h8 : 0 ≤ p)
  (q : ∀ o H', Same H H' → H' o = some (.tup [.int (Run.plan row p ⟨0, l, b, d⟩ days).p, .int (owedEnd row p l b d days)]) → Q (.ref o) H') : sp_behind ([.ref t, .ref lr, .ref a, .int p] ++ []) H Q E := ⟨t, lr, a, p, l, b, d, row, days, rfl, h1, h2, h3, h4, h5, h6, h7, h8, q⟩
/-- a loan that stands, its numbers in a tuple, its row in a list of the law's own -/
structure St9 (C : Addr) (H : Hp) (x t q : Addr) (l b d : Int) (r : Addr) (row : Row) : Prop where
  L : LoanAt C H x l b d r row
  t : H t = some (.tup [.int l, .int b, .int d])
  q : RowAt H q row
  n : NumOk l b d
  ok : RowOk row
  last : lastDay row ≤ 100000
  len : row.length ≤ 60
theorem St9.same {C : Addr} {H H' : Hp} {x t q : Addr} {l b d : Int} {r : Addr} {row : Row} (h : St9 C H x t q l b d r row) (s : Same H H') : St9 C H' x t q l b d r row := ⟨h.L.same s, s _ _ h.t, h.q.same s, h.n, h.ok, h.last, h.len⟩
theorem St9.good {C : Addr} {H : Hp} {x t q : Addr} {l b d : Int} {r : Addr} {row : Row} (h : St9 C H x t q l b d r row) : GoodL C H x l b d r row := ⟨h.L, h.n, h.ok, h.last, by have := h.len; omega⟩
def sp_days_good : Sp := fun vs H Q _ => ∃ a at' days, vs = [.ref a, .int at'] ∧ IntsAt H a days ∧ Q (.bl (daysOk at' days)) H
def sp_turned : Sp := fun vs H Q _ => ∃ a at' c days, vs = [.ref a, .int at', .int c] ∧ IntsAt H a days ∧ days.length ≤ 500 ∧ ∀ l H' days', Same H H' → IntsAt H' l days' → days'.length = days.length → Q (.ref l) H'
def dueW (w : Str) (days : List Int) (d p e c o : Int) : Str :=
  if daysOk d days = false ∨ (days = [] ∧ w ≠ "plan") then "day" else if w ≠ "least" ∧ p < 1 then "pay" else if w = "saved" ∧ ¬ (d ≤ e ∧ e ≤ days.headD 0) then "day" else if w = "saved" ∧ ¬ (1 ≤ c ∧ c ≤ o) then "pay" else ""
def IsWord (w : Str) : Prop := w = "plan" ∨ w = "least" ∨ w = "cost" ∨ w = "saved"
theorem dueW_day {w : Str} {days : List Int} {d p e c o : Int} (h : daysOk d days = false ∨ (days = [] ∧ w ≠ "plan")) : dueW w days d p e c o = "day" := if_pos h
theorem dueW_pay {w : Str} {days : List Int} {d p e c o : Int} (h1 : ¬ (daysOk d days = false ∨ (days = [] ∧ w ≠ "plan"))) (h : w ≠ "least" ∧ p < 1) : dueW w days d p e c o = "pay" := by unfold dueW; rw [if_neg h1, if_pos h]
theorem dueW_day2 {w : Str} {days : List Int} {d p e c o : Int} (h1 : ¬ (daysOk d days = false ∨ (days = [] ∧ w ≠ "plan"))) (h2 : ¬ (w ≠ "least" ∧ p < 1)) (h : w = "saved" ∧ ¬ (d ≤ e ∧ e ≤ days.headD 0)) : dueW w days d p e c o = "day" := by unfold dueW; rw [if_neg h1, if_neg h2, if_pos h]
theorem dueW_pay2 {w : Str} {days : List Int} {d p e c o : Int} (h1 : ¬ (daysOk d days = false ∨ (days = [] ∧ w ≠ "plan"))) (h2 : ¬ (w ≠ "least" ∧ p < 1)) (h3 : ¬ (w = "saved" ∧ ¬ (d ≤ e ∧ e ≤ days.headD 0))) (h : w = "saved" ∧ ¬ (1 ≤ c ∧ c ≤ o)) : dueW w days d p e c o = "pay" := by unfold dueW; rw [if_neg h1, if_neg h2, if_neg h3, if_pos h]
theorem dueW_ok {w : Str} {days : List Int} {d p e c o : Int} (h1 : ¬ (daysOk d days = false ∨ (days = [] ∧ w ≠ "plan"))) (h2 : ¬ (w ≠ "least" ∧ p < 1)) (h3 : ¬ (w = "saved" ∧ ¬ (d ≤ e ∧ e ≤ days.headD 0))) (h4 : ¬ (w = "saved" ∧ ¬ (1 ≤ c ∧ c ≤ o))) : dueW w days d p e c o = "" := by unfold dueW; rw [if_neg h1, if_neg h2, if_neg h3, if_neg h4]
def sp_due12 : Sp := fun vs H Q _ => ∃ w a d p t o e c days, vs = [.str w, .ref a, .int d, .int p, .ref t, .int o] ∧ IsWord w ∧ IntsAt H a days ∧ H t = some (.tup [.int e, .int c]) ∧ Q (.str (dueW w days d p e c o)) H
def sp_asked (C : Addr) : Sp := fun vs H Q _ => ∃ w x a p t o e c l b d r row days, vs = [.str w, .ref x, .ref a, .int p, .ref t] ∧ IsWord w ∧ GoodL C H x l b d r row ∧ IntsAt H a days ∧ days.length ≤ 1000 ∧ H t = some (.tup [.int e, .int c]) ∧ (d ≤ e → e ≤ 100000 → o = owedF l (thenF l b d row e)) ∧ ∀ H', Same H H' → Q (.str (dueW w days d p e c o)) H'
theorem dueW_good {w : Str} {days : List Int} {d p e c o : Int} (h1 : daysOk d days = true) (h2 : days ≠ []) (h3 : 1 ≤ p) (h4 : w ≠ "saved") : dueW w days d p e c o = "" :=
  dueW_ok (by rw [h1]; exact fun h => h.elim (fun h => nomatch h) (fun h => h2 h.1)) (fun h => by omega) (fun h => h4 h.1) (fun h => h4 h.1)
theorem dueW_now {days : List Int} {d p now : Int} (h1 : daysOk d days = true) (h2 : days ≠ []) (h3 : 1 ≤ p) (h4 : d ≤ days.headD 0) (h5 : 0 ≤ now) : dueW "saved" days d p d (max 1 now) now = repS "pay" (if decide (now = 0) = true then 1 else 0) := by
  have k1 : ¬ (daysOk d days = false ∨ (days = [] ∧ ("saved" : Str) ≠ "plan")) := by rw [h1]; exact fun h => h.elim (fun h => nomatch h) (fun h => h2 h.1)
  have k2 : ¬ (("saved" : Str) ≠ "least" ∧ p < 1) := fun h => by omega
  have k3 : ¬ (("saved" : Str) = "saved" ∧ ¬ (d ≤ d ∧ d ≤ days.headD 0)) := fun h => h.2 ⟨Int.le_refl _, h4⟩
  by_cases z : now = 0
  · rw [dueW_pay2 k1 k2 k3 ⟨rfl, by omega⟩, if_pos (decide_eq_true z)]
    rfl
  · rw [dueW_ok k1 k2 k3 (fun h => h.2 (by omega)), if_neg (fun h => z (of_decide_eq_true h))]
    rfl
def sp_good_then (C : Addr) : Sp := fun vs H Q _ => ∃ x t q f l b d r row, vs = [.ref x, .ref t, .ref q, .int f] ∧ St9 C H x t q l b d r row ∧ d ≤ f ∧ f ≤ 90000 ∧ ∀ H', Q (.bl true) H'
end
end Lp
namespace Lp
open PySem L2
/-! ## a plan's list as data -/
def fiveD (r : P5) : PyData := .tuple [.int r.1, .int r.2.1, .int r.2.2.1, .int r.2.2.2.1, .int r.2.2.2.2]
def planD (rows : List P5) : PyData := .list (rows.map fiveD)
theorem FivesAt.dp {K : PySem.W.Frag} {H : Hp} : ∀ {xs : List V} {rows : List P5}, FivesAt H xs rows → DpAll K H xs (rows.map fiveD)
  | _, _, .nil => .nil
  | _, _, .cons h t => .cons (.tup (SqT.of h) (.cons (.int _) (.cons (.int _) (.cons (.int _) (.cons (.int _) (.cons (.int _) .nil)))))) t.dp
theorem PlanAt.dp {K : PySem.W.Frag} {H : Hp} {l : Addr} {rows : List P5} (h : PlanAt H l rows) : Dp K H (.ref l) (planD rows) := by
  obtain ⟨xs, h1, h2⟩ := h
  exact .lst (SqL.of h1) h2.dp
theorem planD_lay : ∀ rows : List P5, PyData.canLayAll0 (rows.map fiveD) = true
  | [] => by simp [PyData.canLayAll0]
  | p :: r => by simp [PyData.canLayAll0, PyData.canLay0, fiveD, planD_lay r]
theorem planD_dep : ∀ rows : List P5, PyData.depthAll (rows.map fiveD) ≤ 3
  | [] => by simp [PyData.depthAll]
  | p :: r => by
    have := planD_dep r
    simp only [List.map_cons, fiveD, PyData.depthAll, PyData.depth]
    omega
theorem planD_lay0 (rows : List P5) : (planD rows).canLay0 = true := by
  unfold planD; simp only [PyData.canLay0]; exact planD_lay rows
theorem planD_shaped (rows : List P5) : SeqAt.shaped (planD rows) = true := by
  have h1 := planD_dep rows
  have h2 : PyData.depth (planD rows) ≤ 64 := by unfold planD; simp only [PyData.depth]; omega
  unfold SeqAt.shaped
  rw [Bool.and_eq_true]
  exact ⟨planD_lay0 rows, decide_eq_true h2⟩
section
variable {σ : L2.St} {H : Hp} {Q : VK} {E : XK} {D : Ends} {K : PySem.W.Frag} {te ta tb : TE} {tt tu : TT} {t u w : TS}
theorem g_nePlan {a b : Addr} {rows : List P5} (ha : PlanAt H a rows) (hb : PlanAt H b rows) (q : Q (.bl false) H) : rNeD K (.ref a) (.ref b) H Q :=
  ⟨_, _, ha.dp, hb.dp, planD_shaped _, planD_shaped _, by rw [SeqAt.eqv_refl _ (planD_lay0 _)]; exact q⟩
theorem g_listOfP {p : Addr} {rows : List P5} (h : PlanAt H p rows) (q : ∀ l H', H l = none → Same H H' → PlanAt H' l rows → Q (.ref l) H') : rListOf K [.ref p] H Q := by
  obtain ⟨xs, h1, h2⟩ := h
  exact ⟨p, xs, rfl, .inl (SqL.of h1), fun l hl => q l _ hl (same_new hl) ⟨xs, upd_same, h2.mono fun q ps e => same_new hl _ _ e⟩⟩
theorem g_lenP {p : Addr} {rows : List P5} {n : Int} (h : PlanAt H p rows) (e : (rows.length : Int) = n) (q : Q (.int n) H) : rLen K [.ref p] H Q := by
  obtain ⟨xs, h1, h2⟩ := h
  exact g_len (SqL.of h1) (by rw [h2.len]; exact e) q
theorem g_isPlan {p : Addr} {rows : List P5} (h : PlanAt H p rows) (q : Q (.bl true) H) : rIsi K [.ref p, .ty "list"] H Q := by
  obtain ⟨xs, h1, h2⟩ := h
  exact g_isLst h1 q
theorem FivesAt.get {H : Hp} : ∀ {xs : List V} {rows : List P5} {i : Nat} {r : P5}, FivesAt H xs rows → rows[i]? = some r → ∃ q, xs[i]? = some (.ref q) ∧ H q = some (.tup [.int r.1, .int r.2.1, .int r.2.2.1, .int r.2.2.2.1, .int r.2.2.2.2])
  | _, _, i, _, .nil, e => by simp at e
  | _, _, 0, _, .cons h t, e => by simp at e; subst e; exact ⟨_, rfl, h⟩
  | _, _, i + 1, _, .cons h t, e => by
    obtain ⟨q, h1, h2⟩ := t.get (i := i) (by simpa using e)
    exact ⟨q, by simpa using h1, h2⟩
theorem g_ixP {p : Addr} {rows : List P5} {i : Int} {j : Nat} {r : P5} (h : PlanAt H p rows) (ei : i = (j : Int)) (e : rows[j]? = some r) (q : ∀ t, H t = some (.tup [.int r.1, .int r.2.1, .int r.2.2.1, .int r.2.2.2.1, .int r.2.2.2.2]) → Q (.ref t) H) : rIxL K (.ref p) (.int i) H Q := by
  obtain ⟨xs, h1, h2⟩ := h
  obtain ⟨t, e1, e2⟩ := h2.get e
  exact g_ixL (SqL.of h1) ei e1 (q t e2)
theorem g_unpT4 {i1 i2 i3 i4 : Nat} {p : Addr} {a b c d : V} {R : L2.St → Hp → Prop} (h : H p = some (.tup [a, b, c, d])) (q : R ((((σ.set i1 (some a)).set i2 (some b)).set i3 (some c)).set i4 (some d)) H) :
    gTup K 4 (gCons (gName i1) (gCons (gName i2) (gCons (gName i3) (gCons (gName i4) gNil)))) (.ref p) σ H R := ⟨p, _, rfl, SqT.of h, rfl, a, _, rfl, b, _, rfl, c, _, rfl, d, _, rfl, rfl, q⟩
/-! ## promises -/
def sp_done_more (C : Addr) : Sp := fun vs H Q _ => ∃ x ts lq c l b d r row, vs = [.ref x, .ref ts, .ref lq, .int c] ∧ St9 C H x ts lq l b d r row ∧ lastDay row ≤ 95000 ∧ d ≤ 90000 ∧
  ∀ t ts' lq' l' b' r' row' H', But x H H' → H' t = some (.tup [.ref ts', .ref lq']) → St9 C H' x ts' lq' l' b' d r' row' → Q (.ref t) H'
def sp_row_of : Sp := fun vs H Q _ => ∃ c, vs = [.int c] ∧ ∀ l row H', Same H H' → RowAt H' l row → RowOk row → lastDay row ≤ 90000 → row.length ≤ 60 → Q (.ref l) H'
theorem g_row_of {c : Int} (q : ∀ l row H', Same H H' → RowAt H' l row → RowOk row → lastDay row ≤ 90000 → row.length ≤ 60 → Q (.ref l) H') : sp_row_of ([.int c] ++ []) H Q E := ⟨c, rfl, q⟩
def sp_dues (K : PySem.W.Frag) : Sp := fun vs H Q _ => ∃ (a : Addr) (ns : List Int) (at' : Int), vs = [.ref a, .int at'] ∧ SqL K H a (ns.map V.int) ∧ 0 ≤ at' ∧ at' ≤ 3000 ∧ ∀ l days H', Same H H' → IntsAt H' l days → daysOk at' days = true → days.length ≤ 401 → Q (.ref l) H'
def sp_dues1 (K : PySem.W.Frag) : Sp := fun vs H Q _ => ∃ (a : Addr) (ns : List Int) (at' : Int), vs = [.ref a, .int at'] ∧ SqL K H a (ns.map V.int) ∧ 0 ≤ at' ∧ at' ≤ 3000 ∧ ∀ l days H', Same H H' → IntsAt H' l days → daysOk at' days = true → days ≠ [] → days.length ≤ 401 → Q (.ref l) H'
def sp_dues2 (K : PySem.W.Frag) : Sp := fun vs H Q _ => ∃ (a : Addr) (ns : List Int) (at' : Int) (few : Bool), vs = [.ref a, .int at', .bl few] ∧ SqL K H a (ns.map V.int) ∧ 0 ≤ at' ∧ at' ≤ 3000 ∧ ∀ l days H', Same H H' → IntsAt H' l days → daysOk at' days = true → days ≠ [] → days.length ≤ 401 → Q (.ref l) H'
def sp_part_by : Sp := fun vs H Q _ => ∃ c o s, vs = [.int c, .int o, .int s] ∧ Builtin.Int.intBits c ≤ 1048576 ∧ 0 ≤ s ∧ ∀ p H', Same H H' → 1 ≤ p → Q (.int p) H'
def sp_five : Sp := fun vs H Q _ => ∃ t u a b c d e, vs = [.ref t, .ref u] ∧ H t = some (.tup [.int a, .int b, .int c, .int d, .int e]) ∧ H u = some (.tup [.int a, .int b, .int c, .int d, .int e]) ∧ Q (.bl true) H
theorem g_five {t u : Addr} {a b c d e : Int} (h1 : H t = some (.tup [.int a, .int b, .int c, .int d, .int e])) (h2 : H u = some (.tup [.int a, .int b, .int c, .int d, .int e])) (q : Q (.bl true) H) : sp_five ([.ref t, .ref u] ++ []) H Q E := ⟨t, u, a, b, c, d, e, rfl, h1, h2, q⟩
def sp_gone : Sp := fun vs H Q _ => ∃ o ts lq a p l b d row days, vs = [.ref o, .ref ts, .ref lq, .ref a, .int p] ∧ H ts = some (.tup [.int l, .int b, .int d]) ∧ RowAt H lq row ∧ RowOk row ∧ row.length ≤ 100 ∧ NumOk l b d ∧ IntsAt H a days ∧ days.length ≤ 1000 ∧ daysOk d days = true ∧ 1 ≤ p ∧ PlanAt H o (planRows row p l b d days) ∧ ∀ H', Same H H' → Q (.bl true) H'
end
end Lp
namespace Lp
open PySem L2
/-! ## a comprehension whose items may raise: own rule -/
theorem note_frame {e : Value} {c d : Env} (h : c.frame = d.frame) : noteFrame e c = noteFrame e d := by
  unfold noteFrame frameOf
  rw [h]
/-- what is wished behind the block that ran in cv: the value is used, or the error goes on -/
def CpGo (M : Model) (A : Around) (E : Value → Shared → Prop) (use : Value → Sem Unit) (Q : Value → Shared → Prop) (acc : Value) (cv : Env) (r : Result) (t : Shared) : Prop :=
  match r with
  | .ok _ => wpAny M A (use acc) (fun _ t2 => ∃ m, t2.heap.Ns cv.locals m ∧ ∀ g, Heap.SameBut cv.locals t2.heap g → Q .none { t2 with heap := g }) E t
  | .error x => ∃ m, t.heap.Ns cv.locals m ∧ ∀ g, Heap.SameBut cv.locals t.heap g → wpAny M A (passOn "comprehension.variables-let-go" x cv : Sem Value) (fun _ _ => False) E { t with heap := g }
theorem comp_used {M : Model} {A : Around} {E : Value → Shared → Prop} {env : Env} {t0 : Shared} {ex : Expr} {sc : Scope} {ps : Pos} {mk fst : Sem Value} {c0 : Comprehension} {cs : List Comprehension} {clo : List (Str × Addr)} {use : Value → Sem Unit} {Q : Value → Shared → Prop}
    (h1 : clausesOf ex = c0 :: cs) (h2 : ∀ x, foldedSetIterable c0.iter env x = pure x) (h3 : closureFor sc env = pure clo) (h4 : sc.kind = .function) (h5 : ∀ y ∈ sc.names, y.2 = .local → sc.names.lookup y.1 = some .local)
    (run : wpAny M A fst (fun x t1 => wpAny M A (pyIter x) (fun it t2 => wpAny M A mk (fun acc t3 => wpAny M A (newFunctionEnv sc env.globals clo [] env.qual none .none (some env)) (fun cv t4 =>
      codeAny M A (.compStart ex 0 it acc { cv with scope := relabel sc env }) (CpGo M A E use Q acc { cv with scope := relabel sc env }) t4) E t3) E t2) E t1) E t0) :
    wpAny M A (comprehension ex sc env ps mk false fst (some use)) Q E t0 := by
  have nx : ∀ {f : Value → Shared → Prop} (u : Value) (t : Shared), f u t → f u t := fun _ _ z => z
  unfold comprehension
  rw [h3, h1]
  refine wpAny_bind (wpAny_mono run (fun x t1 r1 => ?_) nx)
  refine wpAny_bind (wpAny_standAt (wpAny_bind (wpAny_of_eq (h2 x) ?_)))
  refine wpAny_bind (wpAny_holding (wpAny_mono r1 (fun it t2 r2 => ?_) nx))
  refine wpAny_standIf (wpAny_bind (wpAny_mono r2 (fun acc t3 r3 => ?_) nx))
  refine wpAny_bind (wpAny_pure (wpAny_bind (wpAny_mono r3 (fun cv t4 r4 => ?_) nx)))
  dsimp only
  have hv : ∀ y ∈ (sc.names.filter fun y => (y.2 == .local || y.2 == .cell) && y.1 != (".0" : Str)).reverse, y.2 = .local → Env.kindOf { cv with scope := relabel sc env } y.1 = some .local := fun y hy hl =>
    lookup_relabel_local (h5 y (List.mem_filter.mp (List.mem_reverse.mp hy)).1 hl)
  have hw : ∀ y ∈ (sc.names.filter fun y => (y.2 == .local || y.2 == .cell) && y.1 != (".0" : Str)).reverse.drop 1 ++ (sc.names.filter fun y => (y.2 == .local || y.2 == .cell) && y.1 != (".0" : Str)).reverse.take 1, y.2 = .local →
      Env.kindOf { cv with scope := relabel sc env } y.1 = some .local := fun y hy hl =>
    (List.mem_append.mp hy).elim (fun z => hv y (List.mem_of_mem_drop z) hl) (fun z => hv y (List.mem_of_mem_take z) hl)
  refine wpAny_holding (wpAny_bind (wpAny_attempt (wpAny_holding (wpAny_run (codeAny_mono r4 fun r t5 hr => ?_)))))
  cases r with
  | ok f =>
    refine wpAny_bind (wpAny_rule (wpAny_bind (wpAny_holding (wpAny_mono hr (fun _ t6 h6 => ?_) nx))))
    obtain ⟨m, hn, hq⟩ := h6
    exact wpAny_bind (wpAny_comp_letGo (cenv := { cv with scope := relabel sc env }) h4 _ t6 m hw hn fun g m' _ sb => wpAny_pure (hq g sb))
  | error x =>
    obtain ⟨m, hn, hq⟩ := hr
    exact wpAny_bind (wpAny_holding (wpAny_comp_letGo (cenv := { cv with scope := relabel sc env }) h4 _ t5 m hv hn fun g m' _ sb => wpAny_mono (hq g sb) (fun _ _ z => z.elim) nx))
/-! ### the error goes out of the block -/
theorem frames_but {B B' h h' : Heap} : ∀ {l : List Env}, h.FunFrames B l → (∀ L ∈ frs l, h'.get? L = h.get? L) → (∀ b, B.get? b = none → B'.get? b = none) → h'.FunFrames B' l
  | [], _, _, _ => trivial
  | env :: l, f, k, n => by
    obtain ⟨f1, ⟨L, o, fL, fn, fo, fd⟩, f2⟩ := f
    refine ⟨f1, ⟨L, o, fL, n L fn, ?_, fd⟩, frames_but f2 (fun b hb => k b ?_) n⟩
    · rw [k L (List.mem_filterMap.mpr ⟨env, List.mem_cons_self, fL⟩)]; exact fo
    · obtain ⟨e, he, q⟩ := List.mem_filterMap.mp hb
      exact List.mem_filterMap.mpr ⟨e, List.mem_cons_of_mem _ he, q⟩
theorem hid {h : Heap} {C b : Addr} {o : Obj} (e : (PySem.W.hideAll h [C]).get? b = some o) : h.get? b = some o ∧ b ≠ C :=
  ⟨PySem.W.of_hideAll _ e, fun z => by rw [z, PySem.W.hideAll_none _ (List.mem_singleton.mpr rfl)] at e; cases e⟩
theorem hid_none {h : Heap} {C b : Addr} (e : h.get? b = none) : (PySem.W.hideAll h [C]).get? b = none := by
  cases q : (PySem.W.hideAll h [C]).get? b with
  | none => rfl
  | some o => rw [(hid q).1] at e; cases e
theorem hid_get {h : Heap} {C b : Addr} {o : Obj} (e : h.get? b = some o) (n : b ≠ C) : (PySem.W.hideAll h [C]).get? b = some o := PySem.W.hideAll_get _ e (fun z => n (List.mem_singleton.mp z))
section
variable {X : Cx} {W : WX}
theorem block_error {pins pj : List (Addr × Obj)} {σ σj : L2.St} {H3 Hj : Hp} {s3 s9 t : Shared} {scope : Scope} {fp : List Addr} {cl : List (Str × Addr)} {use : Value → Sem Unit} {Q : Value → Shared → Prop} {acc u : Value}
    (hs : X.stack = X.env :: X.outer) (hf : X.env.frame = some X.env.locals) (tk : Takes X W) (hW : ∀ c d τ τ' G, W c d τ G → W c d τ' G) (I3 : Inv X pins σ H3 s3) (f3 : ∀ b ∈ fp, FpOk X pins H3 b ∧ b < s3.heap.objs.size)
    (IJ : Inv (X.blk s3 H3 scope (compEnvC scope cl s3.heap.objs.size X.env) fp) pj σj Hj s9) (c : L2.CX X.prog X.w X.stack Hj s9 (WE W σj) u t) :
    notedBy (model X.prog X.w) X.A (compEnvC scope cl s3.heap.objs.size X.env) (fun e t2 => CpGo (model X.prog X.w) X.A X.xe use Q acc (compEnvC scope cl s3.heap.objs.size X.env) (.error e) t2) u t := by
  generalize hce : compEnvC scope cl s3.heap.objs.size X.env = ce at IJ ⊢
  have cL : ce.locals = s3.heap.objs.size := by subst hce; rfl
  have cF : ce.frame = X.env.frame := by subst hce; rfl
  obtain ⟨a0, B0, H0, c0, d0, eu0, fl0, _⟩ := id c
  obtain ⟨a, B, sI, pk, τ, G, k, d, rfl, J, nb, up, sky, na, os, ag, wk⟩ := XE.of_call (X := X.blk s3 H3 scope ce fp) (W := W) (E := WE W σj) IJ (fun k d G h => h) c
  have e0 : a0 = a := (Value.ref.inj eu0).symm
  subst e0
  have JX : Inv X pins σ G sI := I3.call' (ch := fp) J.os J.base J.hok J.bare fun b hb => ⟨(f3 b hb).1.2.2.2.1, (f3 b hb).1.2.1, (f3 b hb).1.2.2.2.2.1, (f3 b hb).1.2.2.2.2.2⟩
  have nC : G s3.heap.objs.size = none := by
    have z : G ce.locals = none := J.free
    rw [cL] at z; exact z
  obtain ⟨p0, p1, p2, p3, p4, p5⟩ := I3.fpOk (Nat.le_refl _) nC
  obtain ⟨mI, hnI, _⟩ := J.loc
  have hnI : sI.heap.Ns ce.locals mI := hnI
  rw [cL] at hnI
  obtain ⟨oC, esC, epC, hoC, hdC, hkC, hfC⟩ := hnI
  have nfC : ∀ vs, oC.data ≠ .fields vs := fun vs z => by rw [hdC] at z; cases z
  have hfr : X.A.frames = some (X.env :: X.outer) := by rw [I3.ok.frames, hs]
  generalize s3.heap.objs.size = C at *
  -- behind the note
  have fin : ∀ h1, HandSPX.HeldZ B (X.env :: X.outer) a0 (Zc k d) X.env.locals h1 → t.heap.UpToSlots h1 → CpGo (model X.prog X.w) X.A X.xe use Q acc ce (.error (.ref a0)) { t with heap := h1 } := fun h1 hh up1 => by
    obtain ⟨st, nBa, ff, oe, vs, TT, oT, ts, he, hz, hd, hv1, hnT, hTe, hT, hdT, hv3⟩ := hh
    obtain ⟨sl1, g1⟩ := up C oC hoC nfC
    obtain ⟨sl2, g2⟩ := up1 C _ g1 nfC
    have aC : a0 ≠ C := fun z => by
      rw [z, g2] at he
      have z2 := Option.some.inj he
      rw [← z2] at hd
      exact nfC _ hd
    have tC : TT ≠ C := fun z => by
      rw [z, g2] at hT
      have z2 := Option.some.inj hT
      rw [← z2] at hdT
      exact nfC _ hdT
    refine ⟨mI, ?_, fun g sb => ?_⟩
    · rw [cL]
      exact ⟨_, esC, epC, g2, hdC, hkC, hfC⟩
    rw [cL] at sb
    have held : HandSPX.HeldZ (PySem.W.hideAll B [C]) (X.env :: X.outer) a0 (Zc k d) X.env.locals g := by
      refine ⟨fun b o e => ?_, hid_none nBa, frames_but ff (fun L hL => sb.2 L fun z => ?_) (fun b e => hid_none e), oe, vs, TT, oT, ts, (sb.2 _ aC).trans he, hz, hd, hv1, hid_none hnT, hTe, (sb.2 _ tC).trans hT, hdT, hv3⟩
      · rw [sb.2 b (hid e).2]
        exact st b o (hid e).1
      · rw [← hs] at hL
        rcases List.mem_cons.mp (JX.stkSub _ hL) with q | q
        · exact p1 (z.symm.trans q)
        · exact p2 (by rw [← z]; exact q)
    unfold passOn
    refine wpAny_bind (wpAny_field (s := { t with heap := g }) ((sb.2 _ aC).trans he) hd hv1 ?_)
    rw [if_neg (show ¬ ((Value.ref TT == Value.none) = true) by simp)]
    rw [cF, hf]
    refine wpAny_bind (HandSPX.setFlight_onZ (s := { t with heap := g }) held fun g3 held3 up3 => ?_)
    refine wpAny_throw (tk _ _ ?_)
    refine ⟨a0, PySem.W.hideAll B [C], { sI with heap := PySem.W.hideAll sI.heap [C], toks := sI.toks }, pins, σ, G, k, d, rfl, ?_, fun b o e hb => ?_, fun b o e hn => ?_, ?_, na, os, ag, hW _ _ _ _ _ wk⟩
    · exact JX.turned (it := C) (fun b o n e => hid_get e n) p0 p1 p3 p4 p5
    · exact hid_get (nb b o (hid e).1 hb) (hid e).2
    · obtain ⟨e1, n1⟩ := hid e
      obtain ⟨z1, w1⟩ := up b o e1 hn
      obtain ⟨z2, w2⟩ := up1 b _ w1 hn
      have w3 : g.get? b = some _ := (sb.2 b n1).trans w2
      obtain ⟨z4, w4⟩ := up3 b _ w3 hn
      exact ⟨z4, w4⟩
    · rw [hs]
      exact .inr (.inr held3)
  unfold notedBy
  rw [note_frame cF]
  have sky : Sky B (X.env :: X.outer) a0 (Zc k d) ce.locals t.heap := by rw [← hs]; exact sky
  rcases sky with ⟨hB, hn, hl, oe, vs, he, hz, hd, h1⟩ | fl | hh
  · exact HandSPX.look_newZ Zc.steady hfr hl hf he hB hn hd h1 hz fin
  · exact HandSPX.looks_onZ Zc.steady hfr hf fl fin
  · exfalso
    obtain ⟨_, _, _, oe, vs, TT, oT, ts, he, _, hd, hv1, _, _, hT, hdT, hv3⟩ := hh
    obtain ⟨_, _, _, oe', vs', TT', oT', ts', he', _, hd', hv1', _, _, hT', hdT', hv3'⟩ := fl0
    rw [he] at he'
    have q1 := Option.some.inj he'
    subst q1
    rw [hd] at hd'
    have q2 : vs = vs' := by injection hd'
    subst q2
    rw [hv1] at hv1'
    have q3 : TT = TT' := by injection hv1' with z; injection z
    subst q3
    rw [hT] at hT'
    have q4 := Option.some.inj hT'
    subst q4
    rw [hdT] at hdT'
    have q5 : ts = ts' := by injection hdT'
    subst q5
    rw [hv3] at hv3'
    injection hv3' with z
    unfold rawInt at z
    cases z
/-- the block of [elt for tg in iter if ..] whose items may let an error of W out; the value is used -/
theorem block_run {pins : List (Addr × Obj)} {t0 : Shared} {σ : L2.St} {H : Hp} {Q : VK} {elt tg iter : Expr} {ifs : List Expr} {scope : Scope} {own : List (Str × Nat)} {pos ps2 : Pos} {wi : TI} {g : TG} {tt : TT} {te : TE} {use : Value → Sem Unit} {Qf : Value → Shared → Prop}
    (hs : X.stack = X.env :: X.outer) (hf : X.env.frame = some X.env.locals) (hc : X.calm = true) (hN : X.N.Nodup) (tk : Takes X W) (hW : ∀ c d τ τ' G, W c d τ G → W c d τ' G) (I : Inv X pins σ H t0) (hi : PI X tg iter wi) (ok : BlkOk X.N X.env.scope scope own)
    (hg : ∀ (s : Shared) (G : Hp) (C : Addr) (cl : List (Str × Addr)) (fp : List Addr), PG (X.blk s G scope (compEnvC scope cl C X.env) fp) tg g) (ht : ∀ (s : Shared) (G : Hp) (C : Addr) (cl : List (Str × Addr)) (fp : List Addr), PTs (X.blk s G scope (compEnvC scope cl C X.env) fp) ifs tt)
    (he : ∀ (s : Shared) (G : Hp) (C : Addr) (cl : List (Str × Addr)) (fp : List Addr) (pn : List (Addr × Obj)) (xe : Value → Shared → Prop), (∀ τ, PassesAt (L2.CX X.prog X.w) ((X.blk s G scope (compEnvC scope cl C X.env) fp).tr pn xe) τ (WE W τ)) →
      PE ((X.blk s G scope (compEnvC scope cl C X.env) fp).tr pn xe) elt te)
    (hfs : ∀ x, foldedSetIterable iter X.env x = pure x) (h : tLc wi g tt te (own.map (·.2)) σ H Q)
    (hend : ∀ D C t m H', Inv X pins σ H' t → Q (.ref D) H' → t.heap.Ns C m → FpOk X pins H' C → wpAny (model X.prog X.w) X.A (use (.ref D)) (fun _ t2 => ∃ m, t2.heap.Ns C m ∧ ∀ k, Heap.SameBut C t2.heap k → Qf .none { t2 with heap := k }) X.xe t) :
    wpAny (model X.prog X.w) X.A (comprehension (.ListComp elt [⟨tg, iter, ifs, 0⟩] scope pos) scope X.env ps2 (newList []) false (eval iter X.env) (some use)) Qf X.xe t0 := by
  have caught : ∀ y ∈ scope.names, y.2 = .free → ∃ c, X.env.cells.lookup y.1 = some c := fun y hy e => I.ok.has _ (ok.free y hy e)
  refine comp_used rfl hfs (closure_ok caught) ok.kind (fun y hy e => by rw [ok.uniq y hy, e]) (thn (hi.run pins t0 σ H _ I h) fun xv t1 hx => thn hx fun itv t2 z2 => ?_)
  obtain ⟨it, fp, tn, J, H2, e2, I2, T, st2, f2, q⟩ := z2
  subst e2
  refine wpAny_newObj_type (newEnv_comp ?_) (by show 0 ≤ sizeLine; decide)
  generalize hD : t2.heap.objs.size = D
  obtain ⟨Wt, ⟨m0, w0⟩, turn⟩ := q D (I2.hok.fresh (Nat.le_of_eq hD))
  generalize ht3 : ({ t2 with heap := t2.heap.push { cls := .type "list", data := .seq ([] : List Value).toArray } } : Shared) = t3
  have p3 : t3.heap = t2.heap.push { cls := .type "list", data := .seq ([] : List Value).toArray } := by subst ht3; rfl
  have I3 : Inv X pins σ (upd H2 D (.lst [])) t3 := by
    subst ht3
    refine I2.laid (t' := t2.toks) (fun b o e => Heap.get?_push_of_some _ e) (Nat.le_of_eq hD) ⟨Nat.zero_le _, [], 0, .nil, ?_⟩
    subst hD
    exact Heap.get?_push_size _ rfl
  have lt2 : ∀ b ∈ fp, b < t2.heap.objs.size := fun b hb => by
    obtain ⟨o, e, _⟩ := T.obj _ _ st2 b hb
    exact Heap.lt_size e
  have f3 : ∀ b ∈ fp, FpOk X pins (upd H2 D (.lst [])) b ∧ b < t3.heap.objs.size := fun b hb => by
    have l := lt2 b hb
    have z := f2 b hb
    refine ⟨⟨?_, z.2⟩, by rw [p3, Heap.size_push]; exact Nat.lt_succ_of_lt l⟩
    rw [upd_ne (by rw [← hD]; exact Nat.ne_of_lt l)]
    exact z.1
  have st3 : tn 0 t3.heap := T.keep _ _ _ st2 fun b _ o e => by rw [p3]; exact Heap.get?_push_of_some _ e
  have I4 := block_start I3 ok hN f3
  generalize hcl : cellsFrom (t3.heap.objs.size + 1) scope.names (cloFrom X.env.cells scope.names []) = cl at I4
  have pg := hg t3 (upd H2 D (.lst [])) t3.heap.objs.size cl fp
  have pt := ht t3 (upd H2 D (.lst [])) t3.heap.objs.size cl fp
  have pe := he t3 (upd H2 D (.lst [])) t3.heap.objs.size cl fp
  show codeAny _ _ (.compStart (.ListComp elt [⟨tg, iter, ifs, 0⟩] scope pos) 0 (.ref it) (.ref D) (compEnvC scope cl t3.heap.objs.size X.env))
    (CpGo (model X.prog X.w) X.A X.xe use Qf (.ref D) (compEnvC scope cl t3.heap.objs.size X.env)) { t3 with heap := pushCells (t3.heap.push { cls := .type "dict", data := .dict #[] }) scope.names }
  have berr : ∀ {pj : List (Addr × Obj)} {σj : L2.St} {Hj : Hp} {t9 t : Shared} {u : Value}, Inv (X.blk t3 (upd H2 D (.lst [])) scope (compEnvC scope cl t3.heap.objs.size X.env) fp) pj σj Hj t9 → L2.CX X.prog X.w X.stack Hj t9 (WE W σj) u t → _ := fun i c => block_error (use := use) (Q := Qf) (acc := .ref D) hs hf tk hW I3 f3 i c
  have nfp : ∀ b ∈ fp, (upd H2 D (.lst [])) b = none := fun b hb => (f3 b hb).1.1
  generalize hce : compEnvC scope cl t3.heap.objs.size X.env = ce at I4 pg pt pe berr ⊢
  have cL : ce.locals = t3.heap.objs.size := by subst hce; rfl
  generalize hH3 : upd H2 D (.lst []) = H3 at I3 I4 pg pt pe w0 nfp f3 berr
  generalize ht4 : ({ t3 with heap := pushCells (t3.heap.push { cls := .type "dict", data := .dict #[] }) scope.names } : Shared) = t4 at I4 ⊢
  have st4 : tn 0 t4.heap := T.keep _ _ _ st3 fun b _ o e => by subst ht4; exact pushCells_keeps _ _ _ _ (Heap.get?_push_of_some _ e)
  have still : ∀ {σ' : L2.St} {H' : Hp} {t : Shared}, Inv (X.blk t3 H3 scope ce fp) [] σ' H' t → (∀ b ∈ fp, H' b = none) → ∀ b ∈ fp, FpOk (X.blk t3 H3 scope ce fp) [] H' b := fun {_ _ _} i n b hb =>
    ⟨n b hb, (i.ok.exf b hb).1, i.ok.exfs b hb, .inl hb, fun x c e => (i.ok.exf b hb).2 x c e, fun p hp => nomatch (show p ∈ ([] : List (Addr × Obj)) from hp)⟩
  have loop : codeAny (model X.prog X.w) X.A (.compLoop (.ListComp elt [⟨tg, iter, ifs, 0⟩] scope pos) 0 (.ref it) (.ref D) ce) (CpGo (model X.prog X.w) X.A X.xe use Qf (.ref D) ce) t4 := by
    refine compLoop_any (fun n t => ∃ i H', Inv (X.blk t3 H3 scope ce fp) [] (wipe σ (own.map (·.2))) H' t ∧ tn i t.heap ∧ (∀ b ∈ fp, H' b = none) ∧ Wt i n H') ?_ m0 ⟨0, H3, I4, st4, nfp, w0⟩
    rintro n t5 ⟨i, H5, I5, st5, n5, w5⟩
    rcases turn i n H5 w5 with ⟨stop, done⟩ | ⟨go, Nx, hNx, step⟩
    · have td := T.done (X.blk t3 H3 scope ce fp) rfl rfl rfl hc i [] t5 _ H5 (fun _ _ => False) I5 (still I5 n5) st5 stop
      refine thnF td fun r t6 ⟨hr, I6⟩ => ?_
      subst hr
      have I7 : Inv X pins σ H5 t6 := I3.call' (ch := fp) I6.os I6.base I6.hok I6.bare fun b hb => ⟨(f3 b hb).1.2.2.2.1, (f3 b hb).1.2.1, (f3 b hb).1.2.2.2.2.1, (f3 b hb).1.2.2.2.2.2⟩
      have nC : H5 t3.heap.objs.size = none := by have z : H5 ce.locals = none := I6.free; rwa [cL] at z
      obtain ⟨m, hn, _⟩ := I6.loc
      have hn : t6.heap.Ns ce.locals m := hn
      rw [cL] at hn
      have last := hend D t3.heap.objs.size t6 m H5 I7 done hn (I3.fpOk (Nat.le_refl _) nC)
      rw [← cL] at last
      exact last
    · have ti := T.item (X.blk t3 H3 scope ce fp) rfl rfl rfl hc i [] t5 _ H5 (fun _ _ => False) I5 (still I5 n5) st5 go
      refine thnF ti fun r t6 ⟨u, hr, h6⟩ => ?_
      subst hr
      refine thnF h6 fun _ t7 ⟨x, H7, I7, r7, y7, st7, n7⟩ => ?_
      have I7' := I7.pinned (still I7 n7) (T.obj _ _ st7)
      refine thnF (pg.run _ t7 _ H7 x u _ I7' r7 (step x H7 y7)) fun _ t8 ⟨σ8, H8, I8, hw8, q8⟩ => ?_
      refine thnF (pt.run _ t8 σ8 H8 _ I8 q8) fun b t9 ⟨H9, I9, q9⟩ => ?_
      have turned : ∀ {t : Shared} {H' : Hp}, Inv (X.blk t3 H3 scope ce fp) ([] ++ pinsAt fp t7.heap) σ8 H' t → Nx H' → ∃ m, m < n ∧ ∃ i H', Inv (X.blk t3 H3 scope ce fp) [] (wipe σ (own.map (·.2))) H' t ∧ tn i t.heap ∧ (∀ b ∈ fp, H' b = none) ∧ Wt i m H' := fun {t H'} J' nx => by
        obtain ⟨m', lt, w'⟩ := hNx H' nx
        have pin : ∀ b ∈ fp, ∀ o, t7.heap.get? b = some o → t.heap.get? b = some o ∧ H' b = none := fun b hb o e => by
          have z := J'.pin (b, o) (List.mem_append_right _ (List.mem_append_right _ (mem_pinsAt hb e)))
          exact ⟨z.1, z.2.1⟩
        refine ⟨m', lt, i + 1, H', (J'.unpinned (pins := [])).weak (by rw [← hw8, wipe_length]) (fun j v e => ?_), T.keep _ _ _ st7 fun b hb o e => (pin b hb o e).1, fun b hb => ?_, w'⟩
        · rw [← hw8] at e
          exact (wipe_some e).1
        · obtain ⟨o, e, _⟩ := T.obj _ _ st7 b hb
          exact (pin b hb o e).2
      cases b with
      | false =>
        simp only [Bool.false_eq_true, if_false] at q9 ⊢
        exact turned I9 q9
      | true =>
        simp only [if_true] at q9 ⊢
        have okB : (X.blk t3 H3 scope ce fp).Ok := I9.ok
        have pr := (pe ((X.blk t3 H3 scope ce fp).pn ++ ([] ++ pinsAt fp t7.heap)) (fun e t => ∃ pj σj Hj t0, Inv (X.blk t3 H3 scope ce fp) pj σj Hj t0 ∧ L2.CX X.prog X.w X.stack Hj t0 (WE W σj) e t)
          (fun τ pj Hj t0 e t i c => ⟨_, τ, Hj, t0, i.ofTry okB, c⟩)).run [] t9 σ8 H9 _ (I9.toTry _) q9
        refine wpAny_mono pr (fun z t10 ⟨yv, H10, I10, r10, acc, hD10, hz10, nx⟩ => ?_) (fun e t ⟨pj, σj, Hj, t0, i, c⟩ => berr i c)
        exact app_ok (X := X.blk t3 H3 scope ce fp) (I10.ofTry okB) hD10 hz10 r10 fun t11 I11 => turned I11 nx
  exact codeAny_compStart_list loop (T.self X.A 0 _ _ _ st4 loop)
/-- name = [..] on one line -/
theorem ps_setLcX {i : Nat} {y : Str} {py : Pos} {elt tg iter : Expr} {ifs : List Expr} {scope : Scope} {own : List (Str × Nat)} {pos spos : Pos} {wi : TI} {g : TG} {tt : TT} {te : TE}
    (hs : X.stack = X.env :: X.outer) (hf : X.env.frame = some X.env.locals) (hc : X.calm = true) (hN : X.N.Nodup) (tk : Takes X W) (hW : ∀ c d τ τ' G, W c d τ G → W c d τ' G) (hy : X.N[i]? = some y) (hyl : X.env.scope.names.lookup y = some .local)
    (hsw : swapsWith (.ListComp elt [⟨tg, iter, ifs, 0⟩] scope pos) (some (.Name y py)) spos.line X.env = pure true) (hi : PI X tg iter wi) (ok : BlkOk X.N X.env.scope scope own)
    (hg : ∀ (s : Shared) (G : Hp) (C : Addr) (cl : List (Str × Addr)) (fp : List Addr), PG (X.blk s G scope (compEnvC scope cl C X.env) fp) tg g) (ht : ∀ (s : Shared) (G : Hp) (C : Addr) (cl : List (Str × Addr)) (fp : List Addr), PTs (X.blk s G scope (compEnvC scope cl C X.env) fp) ifs tt)
    (he : ∀ (s : Shared) (G : Hp) (C : Addr) (cl : List (Str × Addr)) (fp : List Addr) (pn : List (Addr × Obj)) (xe : Value → Shared → Prop), (∀ τ, PassesAt (L2.CX X.prog X.w) ((X.blk s G scope (compEnvC scope cl C X.env) fp).tr pn xe) τ (WE W τ)) →
      PE ((X.blk s G scope (compEnvC scope cl C X.env) fp).tr pn xe) elt te)
    (hfs : ∀ x, foldedSetIterable iter X.env x = pure x) : PS X (.Assign [.Name y py] (.ListComp elt [⟨tg, iter, ifs, 0⟩] scope pos) spos) (tAsg (tLc wi g tt te (own.map (·.2))) (gName i)) := by
  refine ⟨fun pins t σ H D I h => ?_⟩
  rw [exec_Assign_Name_used _ _ _ _ hsw]
  have h : tLc wi g tt te (own.map (·.2)) σ H (fun x G => gName i x σ G D.nx) := h
  refine wpAny_bind (wpAny_standAt (wpAny_bind ?_))
  show wpAny _ X.A (do let _ ← comprehension (.ListComp elt [⟨tg, iter, ifs, 0⟩] scope pos) scope X.env (firstIterPos [⟨tg, iter, ifs, 0⟩] pos) (newList []) false (eval iter X.env) (some (assign (.Name y py) X.env))) _ _ t
  refine wpAny_bind (thn (block_run (Qf := fun _ t' => SP X pins D .next t') hs hf hc hN tk hW I hi ok hg ht he hfs h fun L C t' m H' I' q hn fpc => ?_) fun _ _ z => wpAny_pure (wpAny_pure z))
  refine wpAny_assign_Name (store_ok2 (v := V.ref L) I' hN hy (.inl hyl) rfl (fun t2 I2 ⟨a, sb, ha⟩ => ?_) (.inr hyl))
  obtain ⟨p0, p1, p2, p3, p4, p5⟩ := fpc
  have nCa : C ≠ a := fun z => by
    rcases ha with w | w
    · exact p1 (z.trans w)
    · exact p4 y a w z.symm
  exact ⟨m, hn.sameBut sb nCa, fun k sbk => ⟨_, H', I2.turned (t' := t2.toks) (fun b o hb e => (sbk.2 b hb).trans e) p0 p1 p3 p4 p5, q⟩⟩
end
end Lp
namespace Lp
open PySem
/-! ## notes -/
def digs (w : Str) : Bool := w.cps.toList.all fun c => decide (48 ≤ c ∧ c ≤ 57)
/-- figures, at most thirty, the first no nought but of the number 0 itself -/
def wordOk (w : Str) : Bool := decide (1 ≤ w.length) && digs w && decide (w.length ≤ 30) && !(decide (w.cps.toList.head? = some 48) && decide (2 ≤ w.length))
def wordVal (w : Str) : Int := ((NumText.digitsVal w.cps.toList : Nat) : Int)
theorem wordVal_lo (w : Str) : 0 ≤ wordVal w := Int.natCast_nonneg _
theorem str_ext {a b : Str} (h : a.cps.toList = b.cps.toList) : a = b := by
  obtain ⟨a⟩ := a
  obtain ⟨b⟩ := b
  have : a = b := Array.toList_inj.mp h
  rw [this]
theorem len_list (w : Str) : w.cps.toList.length = w.length := Array.length_toList
theorem digs_all {w : Str} (h : digs w = true) : NumText.AllDigits w.cps.toList := fun c hc => of_decide_eq_true (List.all_eq_true.mp h c hc)
theorem digs_int {w : Str} (h : digs w = true) (h1 : 1 ≤ w.length) (h2 : w.length ≤ 640) : intText? w = some (wordVal w) :=
  PySem.intText_digits (digs_all h) (fun e => by have := len_list w; rw [e] at this; simp at this; omega) (by omega)
theorem digit_low : ∀ c, c < 128 → Unicode.isDigit c = decide (48 ≤ c ∧ c ≤ 57) := by decide +kernel
theorem ascii_digit (w : Str) : (Txt.isascii w && Txt.isdigit w) = (decide (1 ≤ w.length) && digs w) := by
  unfold Txt.isascii Txt.isdigit digs
  rw [Bool.eq_iff_iff]
  simp only [Bool.and_eq_true, decide_eq_true_eq, ← Array.all_toList, List.all_eq_true]
  constructor
  · rintro ⟨h1, h2, h3⟩
    refine ⟨h2, fun c hc => ?_⟩
    have a := h1 c hc
    have b := h3 c hc
    rw [digit_low c a] at b
    exact of_decide_eq_true b
  · rintro ⟨h1, h2⟩
    refine ⟨fun c hc => ?_, h1, fun c hc => ?_⟩
    · have := h2 c hc; omega
    · have := h2 c hc
      rw [digit_low c (by omega)]
      exact decide_eq_true this
theorem nought {w : Str} (h : w.cps.toList.head? = some 48) : (w ≠ ("0" : Str)) ↔ 2 ≤ w.length := by
  have l := len_list w
  constructor
  · intro n
    cases e : w.cps.toList with
    | nil => rw [e] at h; cases h
    | cons a t =>
      rw [e] at h l
      cases t with
      | nil =>
        exfalso
        refine n (str_ext ?_)
        rw [e]
        have : a = 48 := Option.some.inj h
        rw [this]; rfl
      | cons b t => simp only [List.length_cons] at l; omega
  · intro n e
    rw [e] at n
    exact absurd n (by decide)
def many (w : Str) : Option Nat := if w = "pay" then some 2 else if w = "rate" then some 2 else if w = "owe" then some 1 else none
def noteW (ws : List Str) : Option (Str × List Int) := match ws with
  | [] => none
  | w :: rest => if many w = some rest.length ∧ rest.all wordOk = true then some (w, rest.map wordVal) else none
def noteF (line : Str) : Option (Str × List Int) := noteW (Txt.split line " ")
theorem sp_eq : (" " : Str) = ⟨#[32]⟩ := by decide +kernel
theorem split_ne (line : Str) : Txt.split line " " ≠ [] := fun e => by
  have := PyProof.Rows.split_pos line " "
  rw [e] at this; simp at this
theorem split_many (line : Str) : (Txt.split line " ").length ≤ line.length + 2 := PyProof.Rows.split_le line " "
theorem mem_sum : ∀ {ls : List Nat} {n : Nat}, n ∈ ls → n ≤ ls.sum
  | m :: t, n, h => by
    rw [List.sum_cons]
    rcases List.mem_cons.mp h with z | z
    · omega
    · have := mem_sum z; omega
theorem split_short {line w : Str} (h : w ∈ Txt.split line " ") : w.length ≤ line.length + 1 := by
  have := PyProof.Rows.split_weight line " " (by decide +kernel)
  have := mem_sum (List.mem_map_of_mem (f := fun z : Str => z.length) h)
  omega
/-! ### words put together -/
theorem join_cps (c : Nat) : ∀ ws : List Str, (Str.join ⟨#[c]⟩ ws).cps.toList = (match ws with | [] => [] | w :: r => w.cps.toList ++ (r.map fun z : Str => c :: z.cps.toList).flatten)
  | [] => rfl
  | [w] => by simp [Str.join]
  | w :: x :: r => by
    have ih := join_cps c (x :: r)
    show (w ++ (⟨#[c]⟩ : Str) ++ Str.join ⟨#[c]⟩ (x :: r)).cps.toList = _
    show ((w.cps ++ #[c]) ++ (Str.join ⟨#[c]⟩ (x :: r)).cps).toList = _
    rw [Array.toList_append, Array.toList_append, ih]
    simp
theorem free_split {c : Nat} : ∀ {a b : List Nat} {s t : List Nat}, c ∉ a → c ∉ b → a ++ c :: s = b ++ c :: t → a = b ∧ s = t
  | [], [], s, t, _, _, h => ⟨rfl, (List.cons.inj h).2⟩
  | [], y :: b, s, t, _, hb, h => by
    have := (List.cons.inj h).1
    exact absurd (by rw [this]; simp) hb
  | x :: a, [], s, t, ha, _, h => by
    have := (List.cons.inj h).1
    exact absurd (by rw [← this]; simp) ha
  | x :: a, y :: b, s, t, ha, hb, h => by
    obtain ⟨e1, e2⟩ := List.cons.inj h
    have := free_split (fun z => ha (List.mem_cons_of_mem _ z)) (fun z => hb (List.mem_cons_of_mem _ z)) e2
    exact ⟨by rw [e1, this.1], this.2⟩
theorem free_end {c : Nat} : ∀ {a b t : List Nat}, c ∉ a → a = b ++ c :: t → False := fun {a b t} ha h => ha (by rw [h]; simp)
theorem join_inj (c : Nat) : ∀ {ws vs : List Str}, ws ≠ [] → vs ≠ [] → (∀ w ∈ ws, c ∉ w.cps.toList) → (∀ v ∈ vs, c ∉ v.cps.toList) → (Str.join ⟨#[c]⟩ ws).cps.toList = (Str.join ⟨#[c]⟩ vs).cps.toList → ws = vs
  | [], _, h, _, _, _, _ => absurd rfl h
  | _ :: _, [], _, h, _, _, _ => absurd rfl h
  | [w], [v], _, _, _, _, h => by
    have e : w = v := str_ext h
    rw [e]
  | [w], v :: v2 :: r, _, _, hw, _, h => by
    rw [join_cps, join_cps] at h
    simp only [List.map_nil, List.flatten_nil, List.append_nil, List.map_cons, List.flatten_cons, List.cons_append] at h
    exact (free_end (hw w (by simp)) h).elim
  | w :: w2 :: q, [v], _, _, _, hv, h => by
    rw [join_cps, join_cps] at h
    simp only [List.map_nil, List.flatten_nil, List.append_nil, List.map_cons, List.flatten_cons, List.cons_append] at h
    exact (free_end (hv v (by simp)) h.symm).elim
  | w :: w2 :: q, v :: v2 :: r, _, _, hw, hv, h => by
    rw [join_cps, join_cps] at h
    simp only [List.map_cons, List.flatten_cons, List.cons_append] at h
    obtain ⟨e1, e2⟩ := free_split (hw w (by simp)) (hv v (by simp)) h
    have e3 : (Str.join ⟨#[c]⟩ (w2 :: q)).cps.toList = (Str.join ⟨#[c]⟩ (v2 :: r)).cps.toList := by rw [join_cps, join_cps]; exact e2
    have e4 := join_inj c (ws := w2 :: q) (vs := v2 :: r) (by simp) (by simp) (fun z hz => hw z (List.mem_cons_of_mem _ hz)) (fun z hz => hv z (List.mem_cons_of_mem _ hz)) e3
    rw [str_ext e1, e4]
/-- words without blanks, joined by blanks, are split into them -/
theorem split_join {ws : List Str} (h : ws ≠ []) (hf : ∀ w ∈ ws, 32 ∉ w.cps.toList) : Txt.split (Str.join " " ws) " " = ws := by
  have e := StrLaws.join_split (Str.join " " ws) " "
  refine join_inj 32 (split_ne _) h (fun w hw => ?_) hf ?_
  · rw [sp_eq] at hw
    exact StrLaws.split_free _ 32 w hw
  · rw [← sp_eq, e]
end Lp
namespace Lp
open PySem L2
/-! ## texts: rules by name -/
def rStrAny : List V → Hp → VK → Prop := fun xs H Q => (∃ i : Int, xs = [.int i] ∧ i.natAbs.log2 < 1920 ∧ Q (.str (Str.ofString (toString i))) H) ∨ ∃ a : Str, xs = [.str a] ∧ Q (.str a) H
theorem c_str {X : Cx} : CallR X (.type "str") rStrAny := by
  intro pins s σ H xs us Q I r h
  rcases h with h | h
  · exact call_str_int pins s σ H xs us Q I r h
  · exact SkE.call_str_str pins s σ H xs us Q I r h
def rLenS : List V → Hp → VK → Prop := fun xs H Q => ∃ z : Str, xs = [.str z] ∧ z.length ≤ sizeLine ∧ Q (.int z.length) H
theorem c_lenS {X : Cx} : CallR X (.builtin "len") rLenS := call_len_str
def rIntS : List V → Hp → VK → Prop := fun xs H Q => ∃ (a : Str) (n : Int), xs = [.str a] ∧ PySem.intText? a = some n ∧ a.length ≤ 640 ∧ Q (.int n) H
theorem c_intS {X : Cx} : CallR X (.type "int") rIntS := call_int_str
def rSplit1 : V → List V → Hp → VK → Prop := fun x xs H Q => ∃ a b : Str, x = .str a ∧ xs = [.str b] ∧ (b.length == 0) = false ∧ a.length + 2 ≤ sizeLine ∧ rNewStrs (Txt.split a b) H Q
theorem m_split {X : Cx} : MtR X "str.split" rSplit1 := mt_split
def rJoin1 (K : PySem.W.Frag) : V → List V → Hp → VK → Prop := fun x xs H Q => ∃ (a : Str) (p : Addr) (ys : List Str), x = .str a ∧ xs = [.ref p] ∧ (SqL K H p (ys.map V.str) ∨ SqT K H p (ys.map V.str)) ∧ (ys.map (·.length)).sum + ys.length * a.length ≤ 16777216 ∧ Q (.str (Txt.join a ys)) H
theorem m_join {X : Cx} : MtR X "str.join" (rJoin1 X.K) := mt_join
def rOf (g : Str → Bool) : V → List V → Hp → VK → Prop := fun x xs H Q => ∃ a : Str, x = .str a ∧ xs = [] ∧ True ∧ Q (.bl (g a)) H
theorem m_isascii {X : Cx} : MtR X "str.isascii" (rOf Txt.isascii) := mt_isascii
theorem m_isdigit {X : Cx} : MtR X "str.isdigit" (rOf Txt.isdigit) := mt_isdigit
def rUpper : V → List V → Hp → VK → Prop := fun x xs H Q => ∃ a : Str, x = .str a ∧ xs = [] ∧ a.length ≤ 5592405 ∧ Q (.str (Txt.upper a)) H
theorem m_upper {X : Cx} : MtR X "str.upper" rUpper := mt_upper
def rAddS : R2 := fun x y H Q => ∃ i j : Str, x = .str i ∧ y = .str j ∧ i.length + j.length ≤ sizeLine ∧ Q (.str (i ++ j)) H
theorem op_addS {X : Cx} : OpR X (binaryOp .Add) rAddS := op_add_str
def rNotSign : R2 := fun x y H Q => ∃ (c : Nat) (z : Str), x = .str ⟨#[c]⟩ ∧ y = .str z ∧ Q (.bl (!decide (c ∈ z.cps.toList))) H
theorem op_notSign {X : Cx} : OpR X (compareOp .NotIn) rNotSign := op_notIn_sign
def rNotKd (K : PySem.W.Frag) (d : Addr) : R2 := fun x y H Q => ∃ (z : Str) (r : Option Value), x = .str z ∧ y = .ref d ∧ PySem.W.nsIn K d z = some r ∧ Q (.bl (!r.isSome)) H
theorem op_notKd {X : Cx} {d : Addr} {es : Array DictEntry} {n : Nat} (D : KDict X.K X.w d es n) : OpR X (compareOp .NotIn) (rNotKd X.K d) := op_notIn_kd D
/-! ## a written dict of three numbers -/
structure Tbl3 (K : PySem.W.Frag) (w : World) (d : Addr) (a b c : Str) (x y z : Int) : Prop where
  h : ∃ (es : Array DictEntry) (n : Nat) (h1 h2 h3 : Int) (t1 t2 t3 u1 u2 u3 : Tok), KDict K w d es n ∧ es.toList = [⟨h1, .str a t1, .int x u1⟩, ⟨h2, .str b t2, .int y u2⟩, ⟨h3, .str c t3, .int z u3⟩]
theorem Tbl3.in {K : PySem.W.Frag} {w : World} {d : Addr} {a b c : Str} {x y z : Int} (T : Tbl3 K w d a b c x y z) (k : Str) : ∃ u1 u2 u3 : Tok, PySem.W.nsIn K d k = some (if a == k then some (.int x u1) else if b == k then some (.int y u2) else if c == k then some (.int z u3) else none) := by
  obtain ⟨es, n, h1, h2, h3, t1, t2, t3, u1, u2, u3, D, e⟩ := T.h
  refine ⟨u1, u2, u3, ?_⟩
  unfold PySem.W.nsIn
  rw [D.at_]
  dsimp only
  rw [e]
  have s : ∀ (q : Str) (t : Tok), (Value.str q t).isStr k = (q == k) := fun q t => rfl
  simp only [List.find?, s]
  cases a == k with
  | true => rfl
  | false =>
    cases b == k with
    | true => rfl
    | false =>
      cases c == k with
      | true => rfl
      | false => rfl
theorem op_notTbl {X : Cx} {d : Addr} {a b c : Str} {x y z : Int} (T : Tbl3 X.K X.w d a b c x y z) : OpR X (compareOp .NotIn) (rNotKd X.K d) := by
  obtain ⟨es, n, _, _, _, _, _, _, _, _, _, D, _⟩ := T.h
  exact op_notIn_kd D
theorem many_in {K : PySem.W.Frag} {w : World} {d : Addr} (T : Tbl3 K w d "pay" "rate" "owe" 2 2 1) (k : Str) : ∃ r, PySem.W.nsIn K d k = some r ∧ ((many k = none ∧ r = none) ∨ ∃ (n : Nat) (tk : Tok), many k = some n ∧ r = some (.int (n : Int) tk)) := by
  obtain ⟨u1, u2, u3, h⟩ := T.in k
  refine ⟨_, h, ?_⟩
  unfold many
  by_cases h1 : k = "pay"
  · subst h1
    exact .inr ⟨2, u1, rfl, rfl⟩
  · rw [if_neg h1, show (("pay" : Str) == k) = false by simpa using fun z => h1 z.symm]
    by_cases h2 : k = "rate"
    · subst h2
      exact .inr ⟨2, u2, rfl, rfl⟩
    · rw [if_neg h2, show (("rate" : Str) == k) = false by simpa using fun z => h2 z.symm]
      by_cases h3 : k = "owe"
      · subst h3
        exact .inr ⟨1, u3, rfl, rfl⟩
      · rw [if_neg h3, show (("owe" : Str) == k) = false by simpa using fun z => h3 z.symm]
        exact .inl ⟨rfl, rfl⟩
theorem dig_mem (c : Nat) : c ∈ ("0123456789" : Str).cps.toList ↔ 48 ≤ c ∧ c ≤ 57 := by
  have e : ("0123456789" : Str).cps.toList = [48, 49, 50, 51, 52, 53, 54, 55, 56, 57] := by decide +kernel
  rw [e]
  simp only [List.mem_cons, List.not_mem_nil, or_false]
  omega
theorem str_assoc (a b c : Str) : a ++ b ++ c = a ++ (b ++ c) := by
  refine str_ext ?_
  show ((a.cps ++ b.cps) ++ c.cps).toList = (a.cps ++ (b.cps ++ c.cps)).toList
  rw [Array.append_assoc]
theorem sum_set : ∀ (ws : List Str) (i : Nat) (s : Str), ((ws.set i s).map fun z : Str => z.length).sum ≤ (ws.map fun z : Str => z.length).sum + s.length
  | [], i, s => by simp
  | w :: r, 0, s => by simp only [List.set_cons_zero, List.map_cons, List.sum_cons]; omega
  | w :: r, i + 1, s => by
    have := sum_set r i s
    simp only [List.set_cons_succ, List.map_cons, List.sum_cons]; omega
section
variable {σ : L2.St} {H : Hp} {Q : VK} {E : XK} {D : Ends} {K : PySem.W.Frag} {te ta tb : TE} {tt tu : TT} {t u w : TS}
theorem g_ixTbl {w : World} {d : Addr} {a b c k : Str} {x y z i : Int} {tk : Tok} (T : Tbl3 K w d a b c x y z) (h : PySem.W.nsIn K d k = some (some (.int i tk))) (q : Q (.int i) H) : rIxD K w (.ref d) (.str k) H Q := by
  obtain ⟨es, n, _, _, _, _, _, _, _, _, _, D, _⟩ := T.h
  exact ⟨d, k, .int i, rfl, rfl, ⟨es, n, _, D.at_, D.lit, h, ⟨tk, rfl⟩⟩, q⟩
theorem g_tyS {a : Str} {R : Prop} (q : R) : tyV K "str" (.str a) H ∧ R := ⟨rfl, q⟩
theorem g_bm0 {r : V → List V → Hp → VK → Prop} {T : String} (h : ta σ H fun x H1 => tyV K T x H1 ∧ r x [] H1 Q) : tBM0 K T r ta σ H Q := h
theorem g_splitS {a : Str} (ha : a.length ≤ 100000) (q : ∀ p H', H p = none → Same H H' → StrsAt H' p (Txt.split a " ") → Q (.ref p) H') : rSplit1 (.str a) [.str " "] H Q :=
  ⟨a, " ", rfl, rfl, by decide +kernel, Nat.le_trans (Nat.add_le_add_right ha 2) (by decide), fun p hp => q p _ hp (same_new hp) upd_same⟩
theorem g_rOf {g : Str → Bool} {a : Str} (q : Q (.bl (g a)) H) : rOf g (.str a) [] H Q := ⟨a, rfl, rfl, trivial, q⟩
theorem g_lenS {a : Str} (ha : a.length ≤ 100000) (q : Q (.int a.length) H) : rLenS [.str a] H Q := ⟨a, rfl, Nat.le_trans ha (by decide), q⟩
theorem g_addS {a b : Str} (h : a.length + b.length ≤ 100000) (q : Q (.str (a ++ b)) H) : rAddS (.str a) (.str b) H Q := ⟨a, b, rfl, rfl, Nat.le_trans h (by decide), q⟩
theorem g_ixS {a : Str} {i : Int} {j : Nat} {c : Nat} (h : a.length ≤ 100000) (ei : i = (j : Int)) (e : a.cps.toList[j]? = some c) (q : Q (.str ⟨#[c]⟩) H) : rIxS (.str a) (.int i) H Q :=
  ⟨a, i, c, rfl, rfl, Nat.le_trans h (by decide), by rw [ei]; exact atI_nat e, q⟩
theorem g_slS {a : Str} {lo hi : Option Int} (h : a.length ≤ 100000) (q : ∀ b : Str, b.length ≤ a.length → Q (.str b) H) : rSlS (.str a) lo hi H Q :=
  ⟨a, rfl, Nat.le_trans h (by decide), q _ (by
    unfold cutS
    show (Array.mk _).size ≤ _
    simp only [List.size_toArray, List.length_take, List.length_drop, len_list]
    omega)⟩
theorem g_intS {a : Str} {n : Int} (h : PySem.intText? a = some n) (hl : a.length ≤ 640) (q : Q (.int n) H) : rIntS [.str a] H Q := ⟨a, n, rfl, h, hl, q⟩
theorem g_strI {i : Int} (h1 : -(10 ^ 61) ≤ i) (h2 : i ≤ 10 ^ 61) (q : Q (.str (Str.ofString (toString i))) H) : rStrAny [.int i] H Q := .inl ⟨i, rfl, log2_of (small_nat h1 h2), q⟩
theorem g_strS {a : Str} (q : Q (.str a) H) : rStrAny [.str a] H Q := .inr ⟨a, rfl, q⟩
theorem g_ixSt {p : Addr} {ws : List Str} {i : Int} {j : Nat} {v : Str} (h : StrsAt H p ws) (ei : i = (j : Int)) (e : ws[j]? = some v) (q : Q (.str v) H) : rIxL K (.ref p) (.int i) H Q :=
  g_ixL (SqL.of h) ei (by rw [List.getElem?_map, e]; rfl) q
theorem g_lenSt {p : Addr} {ws : List Str} {n : Int} (h : StrsAt H p ws) (e : (ws.length : Int) = n) (q : Q (.int n) H) : rLen K [.ref p] H Q := g_len (SqL.of h) (by rw [List.length_map]; exact e) q
theorem g_slSt {p : Addr} {ws : List Str} {i : Int} {k : Nat} (h : StrsAt H p ws) (ei : i = (k : Int)) (q : ∀ p' H', H p' = none → Same H H' → StrsAt H' p' (ws.drop k) → Q (.ref p') H') : rSlL K (.ref p) (some i) none H Q :=
  ei ▸ g_slLF (SqL.of h) fun p' H' hp s e => q p' H' hp s (by unfold StrsAt; rw [List.map_drop]; exact e)
theorem g_catSt {l b : Addr} {ns ms : List Str} (h1 : StrsAt H l ns) (h2 : StrsAt H b ms) (hz : ns.length + ms.length ≤ 100000) (q : ∀ p H', H p = none → Same H H' → StrsAt H' p (ns ++ ms) → Q (.ref p) H') : rCat (.ref l) (.ref b) H Q :=
  g_cat h1 h2 (by rw [List.length_map, List.length_map]; exact hz) fun p H' hp s h => q p H' hp s (by unfold StrsAt; rw [List.map_append]; exact h)
theorem g_joinS {p : Addr} {ws : List Str} (h : StrsAt H p ws) (hz : (ws.map (·.length)).sum + ws.length ≤ 100000) (q : Q (.str (Str.join " " ws)) H) : rJoin1 K (.str " ") [.ref p] H Q := by
  refine ⟨" ", p, ws, rfl, rfl, .inl (SqL.of h), ?_, ?_⟩
  · have : (" " : Str).length = 1 := by decide +kernel
    rw [this]; omega
  · have e : Txt.join " " ws = Str.join " " ws := StrLaws.glued_eq_join _ _
    rw [e]; exact q
theorem g_upper {a : Str} (h : a.length ≤ 100000) (q : Q (.str (Txt.upper a)) H) : rUpper (.str a) [] H Q := ⟨a, rfl, rfl, by omega, q⟩
theorem g_notSign {c : Nat} {z : Str} (q : Q (.bl (!decide (c ∈ z.cps.toList))) H) : rNotSign (.str ⟨#[c]⟩) (.str z) H Q := ⟨c, z, rfl, rfl, q⟩
theorem g_notKd {d : Addr} {z : Str} {r : Option Value} (h : PySem.W.nsIn K d z = some r) (q : Q (.bl (!r.isSome)) H) : rNotKd K d (.str z) (.ref d) H Q := ⟨z, r, rfl, rfl, h, q⟩
theorem g_notKdT {d : Addr} {z : Str} (h : PySem.W.nsIn K d z = some none) (q : Q (.bl true) H) : rNotKd K d (.str z) (.ref d) H Q := ⟨z, none, rfl, rfl, h, q⟩
theorem g_notKdF {d : Addr} {z : Str} {v : Value} (h : PySem.W.nsIn K d z = some (some v)) (q : Q (.bl false) H) : rNotKd K d (.str z) (.ref d) H Q := ⟨z, some v, rfl, rfl, h, q⟩
theorem g_ixKd {w : World} {d : Addr} {z : Str} {i : Int} {t : Tok} {es : Array DictEntry} {n : Nat} (D : KDict K w d es n) (h : PySem.W.nsIn K d z = some (some (.int i t))) (q : Q (.int i) H) : rIxD K w (.ref d) (.str z) H Q :=
  ⟨d, z, .int i, rfl, rfl, ⟨es, n, _, D.at_, D.lit, h, ⟨t, rfl⟩⟩, q⟩
theorem g_notInSt {p : Addr} {w : Str} {ws : List Str} (h : StrsAt H p ws) (q : Q (.bl (!ws.any fun z => z == w)) H) : rIn K true (.str w) (.ref p) H Q := by
  refine ⟨p, _, rfl, .inl (SqL.of h), rfl, ?_, ?_⟩
  · rw [List.all_map, List.all_eq_true]; intro x _; rfl
  · have e : inV (.str w) (ws.map V.str) = ws.any fun z => z == w := by unfold inV; rw [List.any_map]; rfl
    rw [e]; exact q
theorem g_min {l : Addr} {ns : List Int} (h : IntsAt H l ns) (h0 : ns ≠ []) (q : ∀ m, m ∈ ns → (∀ y, y ∈ ns → m ≤ y) → Q (.int m) H) : rMin K [.ref l] H Q := ⟨l, ns, rfl, h.sq, List.length_pos_iff.mpr h0, q⟩
theorem g_isStr {a : Str} (q : Q (.bl true) H) : rIsi K [.str a, .ty "str"] H Q := ⟨_, _, _, _, true, rfl, .ty _, .base (.str a), kit_ty (by decide +kernel), q⟩
theorem g_isNR {a : Addr} (q : Q (.bl false) H) : rIsN0 (.ref a) .non H Q := ⟨rfl, by rw [decide_eq_false (by intro z; cases z)]; exact q⟩
theorem g_star {tr : TA} {Q : List V → Hp → Prop} {te : TE} (h : te σ H fun x H1 => ∃ p xs, x = V.ref p ∧ (SqT K H1 p xs ∨ SqL K H1 p xs) ∧ tr σ H1 fun ys H2 => Q (xs ++ ys) H2) : StX.tStar K te tr σ H Q := h
/-- a comprehension over a list that is made here -/
def LcV (K : PySem.W.Frag) (g : TG) (tt : TT) (te : TE) (vs : List Nat) (σ : L2.St) (Q : VK) (x : V) (H : Hp) : Prop := ∃ a, x = .ref a ∧ (∃ xs, SqL K H a xs) ∧ ∀ D, H D = none → ∃ W : Nat → Nat → Hp → Prop, (∃ m, W 0 m (upd H D (.lst []))) ∧ ∀ i m H, W i m H →
  ((Itl K a).stop i H ∧ Q (.ref D) H) ∨ ((Itl K a).go i H ∧ ∃ Nx : Hp → Prop, (∀ H', Nx H' → ∃ m', m' < m ∧ W (i + 1) m' H') ∧ ∀ x H', (Itl K a).yld i H x H' → g x (wipe σ vs) H' fun σ2 H2 => wipe σ2 vs = wipe σ vs ∧ tt σ2 H2 fun b H3 =>
    if b = true then te σ2 H3 fun y H4 => ∃ acc, H4 D = some (.lst acc) ∧ acc.length < sizeLine ∧ Nx (upd H4 D (.lst (acc ++ [y]))) else Nx H3)
theorem g_lcE {tl : TE} {g : TG} {vs : List Nat} (h : tl σ H fun x H1 => LcV K g tt te vs σ Q x H1) : tLc (iList K tl) g tt te vs σ H Q := h
theorem g_lcV {a : Addr} {xs : List V} {g : TG} {vs : List Nat} (hx : SqL K H a xs) (Pv : Addr → Nat → Hp → Prop) (h0 : ∀ D, H D = none → Pv D 0 (upd H D (.lst []))) (hl : ∀ D i H', Pv D i H' → SqL K H' a xs)
    (hs : ∀ D i x H', xs[i]? = some x → Pv D i H' → g x (wipe σ vs) H' fun σ2 H2 => wipe σ2 vs = wipe σ vs ∧ tt σ2 H2 fun b H3 =>
      if b = true then te σ2 H3 fun y H4 => ∃ acc, H4 D = some (.lst acc) ∧ acc.length < sizeLine ∧ Pv D (i + 1) (upd H4 D (.lst (acc ++ [y]))) else Pv D (i + 1) H3)
    (hd : ∀ D H', H D = none → Pv D xs.length H' → Q (.ref D) H') : LcV K g tt te vs σ Q (.ref a) H :=
  ⟨a, rfl, ⟨xs, hx⟩, fun D hD => lc_list (Pv D) (h0 D hD) (fun i H' _ p => hl D i H' p) (hs D) (fun H' p => hd D H' hD p)⟩
theorem g_lcT {i : Nat} {a : Addr} {xs : List V} {g : TG} {vs : List Nat} (hv : σ[i]? = some (some (.ref a))) (hx : SqT K H a xs) (Pv : Addr → Nat → Hp → Prop) (h0 : ∀ D, H D = none → Pv D 0 (upd H D (.lst []))) (hl : ∀ D i H', Pv D i H' → SqT K H' a xs)
    (hs : ∀ D i x H', xs[i]? = some x → Pv D i H' → g x (wipe σ vs) H' fun σ2 H2 => wipe σ2 vs = wipe σ vs ∧ tt σ2 H2 fun b H3 =>
      if b = true then te σ2 H3 fun y H4 => ∃ acc, H4 D = some (.lst acc) ∧ acc.length < sizeLine ∧ Pv D (i + 1) (upd H4 D (.lst (acc ++ [y]))) else Pv D (i + 1) H3)
    (hd : ∀ D H', H D = none → Pv D xs.length H' → Q (.ref D) H') : tLc (iTup K (tVar i)) g tt te vs σ H Q :=
  ⟨_, hv, a, rfl, ⟨xs, hx⟩, fun D hD => lc_tup (Pv D) (h0 D hD) (fun i H' _ p => hl D i H' p) (hs D) (fun H' p => hd D H' hD p)⟩
/-- for over a text -/
theorem g_forS {i : Nat} {z : Str} {g : TG} (hv : σ[i]? = some (some (.str z))) (Pv : L2.St → Nat → L2.St → Hp → Prop) (h0 : Pv σ 0 σ H)
    (hs : ∀ i c σ' H', z.cps.toList[i]? = some c → Pv σ i σ' H' → g (.str ⟨#[c]⟩) σ' H' fun σ2 H2 => t { D with nx := Pv σ (i + 1), ct := Pv σ (i + 1), bk := D.nx } σ2 H2) (hd : ∀ σ' H', Pv σ z.length σ' H' → D.nx σ' H') : tFor (iStr (tVar i)) g t D σ H :=
  ⟨_, hv, z, rfl, for_it walk_str (Pv σ) h0 (fun _ _ _ _ _ => trivial) (fun i v σ' H1 H' _ p y => by
    obtain ⟨e1, c, hc, e2⟩ := y
    subst e1 e2
    exact hs i c σ' _ (by rw [Array.getElem?_toList]; exact hc) p) hd⟩
/-! ## promises -/
def sp_number_of (NN : Addr) : Sp := fun vs H Q E => ∃ w : Str, vs = [.str w] ∧ w.length ≤ 90000 ∧ (wordOk w = false → E (.ref NN) none H) ∧ (wordOk w = true → Q (.int (wordVal w)) H)
def sp_read (NN : Addr) : Sp := fun vs H Q E => ∃ line : Str, vs = [.str line] ∧ line.length ≤ 40000 ∧ (noteF line = none → ∀ H', Same H H' → E (.ref NN) none H') ∧
  (∀ w ns, noteF line = some (w, ns) → ∀ t H', Same H H' → H' t = some (.tup (.str w :: ns.map V.int)) → Q (.ref t) H')
def tS (n : Int) : Str := Str.ofString (toString n)
def sp_shown : Sp := fun vs H Q _ => ∃ (t : Addr) (w : Str) (ns : List Int), vs = [.ref t] ∧ H t = some (.tup (.str w :: ns.map V.int)) ∧ ns.length ≤ 2 ∧ (∀ n ∈ ns, 0 ≤ n ∧ n ≤ 10 ^ 60) ∧ w.length ≤ 100 ∧ ∀ H', Same H H' → Q (.str (Str.join " " (w :: ns.map tS))) H'
def numL (w : Str) : Int := if wordOk w = true then wordVal w else -1
def sp_number_l : Sp := fun vs H Q _ => ∃ w : Str, vs = [.str w] ∧ w.length ≤ 90000 ∧ Q (.int (numL w)) H
def sp_due13 : Sp := fun vs H Q _ => ∃ line : Str, vs = [.str line] ∧ line.length ≤ 40000 ∧ (noteF line = none → ∀ H', Same H H' → Q .non H') ∧
  (∀ w ns, noteF line = some (w, ns) → ∀ t p H', Same H H' → H' t = some (.tup [.str w, .ref p]) → IntsAt H' p ns → Q (.ref t) H')
def sp_alike : Sp := fun vs H Q _ => ∃ (t u p : Addr) (w : Str) (ns : List Int), vs = [.ref t, .ref u] ∧ H t = some (.tup (.str w :: ns.map V.int)) ∧ H u = some (.tup [.str w, .ref p]) ∧ IntsAt H p ns ∧ ns.length ≤ 100 ∧ Q (.bl true) H
def sp_refused : Sp := fun vs H Q _ => ∃ line : Str, vs = [.str line] ∧ line.length ≤ 40000 ∧ noteF line = none ∧ ∀ H', Q (.bl true) H'
def sp_one_sign : Sp := fun vs H Q _ => ∃ (line : Str) (c : Int) (b : Bool), vs = [.str line, .int c, .bl b] ∧ 1 ≤ line.length ∧ line.length ≤ 7000 ∧ ∀ s : Str, s.length ≤ 20000 → Q (.str s) H
def sp_altered : Sp := fun vs H Q _ => ∃ (line : Str) (c : Int), vs = [.str line, .int c] ∧ 2 ≤ (Txt.split line " ").length ∧ 1 ≤ line.length ∧ line.length ≤ 7000 ∧ ∀ (s : Str) H', Same H H' → s.length ≤ 40000 → Q (.str s) H'
def sp_number_by : Sp := fun vs H Q _ => ∃ c : Int, vs = [.int c] ∧ Builtin.Int.intBits c ≤ 1048576 ∧ ∀ n : Int, 0 ≤ n → n < 10 ^ 30 → Q (.int n) H
end
/-! ## a list whose second item is replaced text: a token is out behind the first -/
def TokE (X : Cx) (e : Expr) (t : TE) : Prop := ∀ (pins : List (Addr × Obj)) (s : Shared) (σ : L2.St) (H : Hp) (Q : VK), Inv X pins σ H s → t σ H Q → wpAny (model X.prog X.w) X.A (eval e X.env) (fun v s1 => 1 ≤ s1.toks ∧ EP X pins σ Q v s1) X.xe s
theorem tok_op {X : Cx} {y : Str} {j : Nat} {c0 pos : Pos} {op : Operator} {r : R2} {f : Expr} {tf : TE} (ho : OpR X (binaryOp op) r) (hb : PE X f tf) : TokE X (.BinOp (.Constant (.str y) j c0) op f pos) (tOp r (tC (.str y)) tf) := by
  intro pins s σ H Q I h
  refine wpAny_BinOp (Calls.Constant_str ?_)
  have I1 := I.tok (s.toks + 1)
  refine wpAny_mono (PySem.wpAny_toks (hb.run pins _ σ H _ I1 h)) (fun u s2 q => ?_) (fun _ _ z => z.2)
  obtain ⟨k2, y2, H2, I2, r2, q2⟩ := q
  refine wpAny_mono (PySem.wpAny_toks (ho pins s2 σ H2 (.str y) y2 _ u Q I2 ⟨_, rfl⟩ r2 q2)) (fun v s3 q => ⟨?_, q.2⟩) (fun _ _ z => z.2)
  have a : s.toks + 1 ≤ s2.toks := k2
  have b : s2.toks ≤ s3.toks := q.1
  omega
theorem pa_tok {X : Cx} {e f : Expr} {te tf : TE} (ha : TokE X e te) (hb : L2.PET X f tf) (h1 : starEach [e, f] X.env = [(false, eval e X.env), (false, eval f X.env)] := by rfl) : PA X [e, f] (tCons te (tCons tf tNil)) := by
  refine ⟨fun pos pins s σ H Q I h => ?_⟩
  rw [h1]
  show wpAny _ _ (spliced [(false, eval e X.env), (false, eval f X.env)]) _ _ s
  refine Calls.spliced_cons (wpAny_mono (ha pins s σ H _ I h) (fun u s1 q => ?_) (fun _ _ z => z))
  obtain ⟨k, x, H1, I1, r1, q1⟩ := q
  refine Calls.spliced_cons (thn (hb pins s1 σ H1 _ k I1 q1) fun u2 s2 ⟨x2, H2, I2, r2, q2⟩ => ?_)
  exact Calls.spliced_nil ⟨[x, x2], H2, I2, .cons r1 (.cons r2 .nil), q2⟩
end Lp
namespace Lp
open PySem L2
/-! ## rows that are notes, and rows that are none -/
theorem tS_cps (m : Nat) : (tS ((m : Nat) : Int)).cps.toList = (Nat.toDigits 10 m).map Char.toNat := PySem.W.KIN.signs_num m
theorem tS_free32 (n : Int) : 32 ∉ (tS n).cps.toList := (PyProof.Rows.intText_free_32 n).mp
theorem digit_sign : ∀ d, d < 10 → 48 ≤ (Nat.digitChar d).toNat ∧ (Nat.digitChar d).toNat ≤ 57 := by decide +kernel
theorem toDigits_digits (m : Nat) : ∀ c ∈ (Nat.toDigits 10 m).map Char.toNat, 48 ≤ c ∧ c ≤ 57 := by
  induction m using Nat.strongRecOn with
  | _ m ih =>
    intro c hc
    by_cases h : m < 10
    · rw [Nat.toDigits_of_lt_base h] at hc
      simp only [List.map_cons, List.map_nil, List.mem_singleton] at hc
      rw [hc]; exact digit_sign m h
    · rw [Nat.toDigits_of_base_le (by decide) (by omega)] at hc
      rw [List.map_append, List.mem_append] at hc
      rcases hc with hc | hc
      · exact ih (m / 10) (by omega) c hc
      · simp only [List.map_cons, List.map_nil, List.mem_singleton] at hc
        rw [hc]; exact digit_sign _ (Nat.mod_lt _ (by decide))
theorem toDigits_len {m k : Nat} (hk : 1 ≤ k) (h : m < 10 ^ k) : (Nat.toDigits 10 m).length ≤ k := by
  induction k generalizing m with
  | zero => omega
  | succ k ih =>
    by_cases hm : m < 10
    · rw [Nat.toDigits_of_lt_base hm]; simp
    · rw [Nat.toDigits_of_base_le (by decide) (by omega), List.length_append]
      have : m / 10 < 10 ^ k := by rw [Nat.pow_succ] at h; omega
      have k1 : 1 ≤ k := by
        rcases Nat.eq_zero_or_pos k with z | z
        · rw [z] at h; simp at h; omega
        · exact z
      have := ih k1 this
      simp; omega
theorem toDigits_pos (m : Nat) : 1 ≤ (Nat.toDigits 10 m).length := by
  by_cases hm : m < 10
  · rw [Nat.toDigits_of_lt_base hm]; simp
  · rw [Nat.toDigits_of_base_le (by decide) (by omega), List.length_append]; simp
theorem toDigits_head (m : Nat) (h : 1 ≤ m) : ((Nat.toDigits 10 m).map Char.toNat).head? ≠ some 48 := by
  induction m using Nat.strongRecOn with
  | _ m ih =>
    by_cases hm : m < 10
    · rw [Nat.toDigits_of_lt_base hm]
      have : ∀ d, d < 10 → 1 ≤ d → (Nat.digitChar d).toNat ≠ 48 := by decide +kernel
      have := this m hm h
      simpa using this
    · rw [Nat.toDigits_of_base_le (by decide) (by omega), List.map_append]
      have h2 := ih (m / 10) (by omega) (by omega)
      have p := toDigits_pos (m / 10)
      cases hd : Nat.toDigits 10 (m / 10) with
      | nil => rw [hd] at p; simp at p
      | cons a t => rw [hd] at h2; simpa using h2
theorem tS_good {n : Int} (h0 : 0 ≤ n) (h1 : n < 10 ^ 30) : wordOk (tS n) = true ∧ wordVal (tS n) = n ∧ digs (tS n) = true ∧ 1 ≤ (tS n).length ∧ (tS n).length ≤ 30 := by
  obtain ⟨m, rfl⟩ := Int.eq_ofNat_of_zero_le h0
  have e := tS_cps m
  have el : (tS (m : Int)).length = (Nat.toDigits 10 m).length := by rw [← len_list, e, List.length_map]
  have d : digs (tS (m : Int)) = true := by
    unfold digs
    rw [e, List.all_eq_true]
    exact fun c hc => decide_eq_true (toDigits_digits m c hc)
  have l1 : 1 ≤ (tS (m : Int)).length := by rw [el]; exact toDigits_pos m
  have l2 : (tS (m : Int)).length ≤ 30 := by rw [el]; exact toDigits_len (by decide) (by omega)
  refine ⟨?_, ?_, d, l1, l2⟩
  · unfold wordOk
    rw [decide_eq_true l1, d, decide_eq_true l2]
    rcases Nat.eq_zero_or_pos m with z | z
    · subst z; decide +kernel
    · rw [decide_eq_false (by rw [e]; exact toDigits_head m z)]; rfl
  · unfold wordVal
    rw [e, PySem.W.KIN.val_back]
theorem wordOk_digs {w : Str} (h : wordOk w = true) : digs w = true := by
  unfold wordOk at h
  simp only [Bool.and_eq_true] at h
  exact h.1.1.2
theorem not_digs {w : Str} {c : Nat} (hc : c ∈ w.cps.toList) (h : ¬ (48 ≤ c ∧ c ≤ 57)) : ¬ wordOk w = true := fun z =>
  h (digs_all (wordOk_digs z) c hc)
theorem str_app (a b : Str) : (a ++ b).cps.toList = a.cps.toList ++ b.cps.toList := by
  show (a.cps ++ b.cps).toList = _
  rw [Array.toList_append]
theorem many_cases {w : Str} {k : Nat} (h : many w = some k) : (w = "pay" ∧ k = 2) ∨ (w = "rate" ∧ k = 2) ∨ (w = "owe" ∧ k = 1) := by
  unfold many at h
  by_cases h1 : w = "pay"
  · rw [if_pos h1] at h; exact .inl ⟨h1, (Option.some.inj h).symm⟩
  · rw [if_neg h1] at h
    by_cases h2 : w = "rate"
    · rw [if_pos h2] at h; exact .inr (.inl ⟨h2, (Option.some.inj h).symm⟩)
    · rw [if_neg h2] at h
      by_cases h3 : w = "owe"
      · rw [if_pos h3] at h; exact .inr (.inr ⟨h3, (Option.some.inj h).symm⟩)
      · rw [if_neg h3] at h; cases h
theorem note_parts {line w : Str} {ns : List Int} (h : noteF line = some (w, ns)) : ∃ rest, Txt.split line " " = w :: rest ∧ line = Str.join " " (w :: rest) ∧ many w = some rest.length ∧ rest.all wordOk = true ∧ ns = rest.map wordVal := by
  unfold noteF noteW at h
  have hj := StrLaws.join_split line " "
  cases hws : Txt.split line " " with
  | nil => rw [hws] at h; cases h
  | cons w0 rest =>
    rw [hws] at h hj
    dsimp only at h
    by_cases hc : many w0 = some rest.length ∧ rest.all wordOk = true
    · rw [if_pos hc] at h
      obtain ⟨rfl, rfl⟩ := Prod.mk.inj (Option.some.inj h)
      exact ⟨rest, rfl, hj.symm, hc.1, hc.2, rfl⟩
    · rw [if_neg hc] at h; cases h
theorem note_len {line w : Str} {ns : List Int} (h : noteF line = some (w, ns)) : many w = some ns.length := by
  obtain ⟨rest, _, _, h1, _, rfl⟩ := note_parts h
  rw [List.length_map]; exact h1
theorem note_pos {line w : Str} {ns : List Int} (h : noteF line = some (w, ns)) : ∀ n ∈ ns, 0 ≤ n := by
  obtain ⟨rest, _, _, h1, _, rfl⟩ := note_parts h
  intro n hn
  obtain ⟨x, _, rfl⟩ := List.mem_map.mp hn
  exact wordVal_lo x
theorem join_head {w : Str} {c : Nat} (hc : w.cps.toList.head? = some c) (rest : List Str) : (Str.join " " (w :: rest)).cps.toList.head? = some c := by
  cases rest with
  | nil => exact hc
  | cons a r =>
    show (w ++ " " ++ Str.join " " (a :: r)).cps.toList.head? = some c
    rw [str_app, str_app, List.head?_append, List.head?_append, hc]; rfl
theorem odd_head {line : Str} (h : line.cps.toList.head? ≠ some 112 ∧ line.cps.toList.head? ≠ some 114 ∧ line.cps.toList.head? ≠ some 111) : noteF line = none := by
  cases hn : noteF line with
  | none => rfl
  | some p =>
    obtain ⟨w, ns⟩ := p
    obtain ⟨rest, _, e, hm, _, _⟩ := note_parts hn
    rcases many_cases hm with ⟨z, _⟩ | ⟨z, _⟩ | ⟨z, _⟩
    · exact absurd (by rw [e, z]; exact join_head (by decide +kernel) rest) h.1
    · exact absurd (by rw [e, z]; exact join_head (by decide +kernel) rest) h.2.1
    · exact absurd (by rw [e, z]; exact join_head (by decide +kernel) rest) h.2.2
theorem odd_owe {X : Str} {c : Nat} (hc : c ∈ X.cps.toList) (h : ¬ (48 ≤ c ∧ c ≤ 57)) : noteF ("owe " ++ X) = none := by
  cases hn : noteF ("owe " ++ X) with
  | none => rfl
  | some p =>
    obtain ⟨w, ns⟩ := p
    obtain ⟨rest, _, e, hm, ha, _⟩ := note_parts hn
    have hh : ("owe " ++ X : Str).cps.toList.head? = some 111 := by
      rw [str_app]
      show ((("owe " : Str).cps.toList) ++ _).head? = _
      rw [List.head?_append, show ("owe " : Str).cps.toList.head? = some 111 by decide +kernel]; rfl
    rcases many_cases hm with ⟨z, _⟩ | ⟨z, _⟩ | ⟨z, k⟩
    · rw [e, z, join_head (c := 112) (by decide +kernel)] at hh; cases hh
    · rw [e, z, join_head (c := 114) (by decide +kernel)] at hh; cases hh
    · obtain ⟨x, rfl⟩ : ∃ x, rest = [x] := by
        match rest, k with
        | [x], _ => exact ⟨x, rfl⟩
      rw [z] at e
      have e2 : ("owe " ++ X : Str) = "owe" ++ " " ++ x := e
      rw [show ("owe" ++ " " : Str) = "owe " by decide +kernel] at e2
      have e3 := congrArg (fun s : Str => s.cps.toList) e2
      simp only [str_app] at e3
      have e4 : X = x := str_ext (List.append_cancel_left e3)
      subst e4
      exact absurd (List.all_eq_true.mp ha X (by simp)) (not_digs hc h)
theorem good_note {w : Str} {ns : List Int} (hm : many w = some ns.length) (hb : ∀ n ∈ ns, 0 ≤ n ∧ n < 10 ^ 30) :
    Txt.split (Str.join " " (w :: ns.map tS)) " " = w :: ns.map tS ∧ noteF (Str.join " " (w :: ns.map tS)) = some (w, ns) := by
  have hw : 32 ∉ w.cps.toList := by
    rcases many_cases hm with ⟨z, _⟩ | ⟨z, _⟩ | ⟨z, _⟩ <;> rw [z] <;> decide +kernel
  have hs : Txt.split (Str.join " " (w :: ns.map tS)) " " = w :: ns.map tS := by
    refine split_join (by simp) fun v hv => ?_
    rcases List.mem_cons.mp hv with rfl | hv
    · exact hw
    · obtain ⟨n, _, rfl⟩ := List.mem_map.mp hv
      exact tS_free32 n
  refine ⟨hs, ?_⟩
  unfold noteF noteW
  rw [hs]
  dsimp only
  have ha : (ns.map tS).all wordOk = true := by
    rw [List.all_eq_true]
    intro v hv
    obtain ⟨n, hn, rfl⟩ := List.mem_map.mp hv
    exact (tS_good (hb n hn).1 (hb n hn).2).1
  rw [if_pos ⟨by rw [List.length_map]; exact hm, ha⟩, List.map_map]
  have : ns.map (wordVal ∘ tS) = ns := by
    conv => rhs; rw [← List.map_id ns]
    exact List.map_congr_left fun n hn => (tS_good (hb n hn).1 (hb n hn).2).2.1
  rw [this]
abbrev okS (x : Str) : Prop := ∀ c ∈ x.cps.toList, c < 128
theorem okS_app {a b : Str} (ha : okS a) (hb : okS b) : okS (a ++ b) := fun c hc => by
  rw [str_app, List.mem_append] at hc
  rcases hc with hc | hc
  · exact ha c hc
  · exact hb c hc
theorem okS_tS (n : Int) : okS (tS n) := fun c hc => by
  rcases Nat.lt_or_ge c 128 with z | z
  · exact z
  · exact absurd hc (PyProof.Rows.int_text_free' c ⟨by omega, by omega⟩ n)
theorem okS_str {x : Str} (h : okS x) : PyData.strOk x = true := by
  unfold PyData.strOk
  rw [Array.all_eq_true_iff_forall_mem]
  intro c hc
  have := h c (Array.mem_toList_iff.mpr hc)
  exact decide_eq_true (by omega)
theorem odd_const : ∀ v ∈ (["", "pay", "pay 1", "owe", "owe 01", "rate 1 -2", "PAY 1 1", "pay  1 1", "pay 1 1 ", "rate 90000 5\n", "Pay 1 1", "Rate 90000 5", "owe -0", "owe 0x5", "pay 00 1"] : List Str), v.length ≤ 20000 ∧ noteF v = none ∧ okS v := by decide +kernel
theorem odd_31 : ((Str.ofString "owe " ++ repS "1" 31 : Str)).length ≤ 20000 ∧ noteF (Str.ofString "owe " ++ repS "1" 31) = none ∧ okS (Str.ofString "owe " ++ repS "1" 31) := by decide +kernel
theorem owe_two {d : Int} : noteF ("owe " ++ tS d ++ " 1") = none := by
  rw [str_assoc]
  exact odd_owe (c := 32) (by rw [str_app, List.mem_append]; exact .inr (by decide +kernel)) (by decide)
/-! ## what a desk does -/
structure S4 where
  l : Int
  b : Int
  d : Int
  row : Row
def stepF (s : S4) : Option (Str × List Int) → Str × S4
  | none => ("no note", s)
  | some (w, ns) =>
    if w = "owe" then (if ns.getD 0 0 < s.d ∨ 100000 < ns.getD 0 0 then ("bad day", s) else (tS (owedF s.l (thenF s.l s.b s.d s.row (ns.getD 0 0))), s))
    else if w = "rate" then (if ns.getD 0 0 ≤ max s.d (lastDay s.row) ∨ 100000 < ns.getD 0 0 then ("bad day", s) else if 100000 < ns.getD 1 0 then ("bad rate", s) else ("ok", ⟨s.l, s.b, s.d, s.row ++ [(ns.getD 0 0, ns.getD 1 0)]⟩))
    else if ns.getD 0 0 < s.d ∨ 100000 < ns.getD 0 0 then ("bad day", s)
    else if ns.getD 1 0 < 1 ∨ owedF s.l (thenF s.l s.b s.d s.row (ns.getD 0 0)) < ns.getD 1 0 then ("bad pay", s)
    else (tS (pInt s.l (thenF s.l s.b s.d s.row (ns.getD 0 0)) (ns.getD 1 0)) ++ " " ++ tS (pOff s.l (thenF s.l s.b s.d s.row (ns.getD 0 0)) (ns.getD 1 0)) ++ " " ++ tS (pLeft s.l (thenF s.l s.b s.d s.row (ns.getD 0 0)) (ns.getD 1 0)),
      ⟨pLeft s.l (thenF s.l s.b s.d s.row (ns.getD 0 0)) (ns.getD 1 0), pBegun s.l (thenF s.l s.b s.d s.row (ns.getD 0 0)) (ns.getD 1 0), ns.getD 0 0, s.row⟩)
structure S4.Ok (s : S4) : Prop where
  n : NumOk s.l s.b s.d
  r : RowOk s.row
  la : lastDay s.row ≤ 100000
theorem S4.Ok.step {s : S4} (k : s.Ok) {o : Option (Str × List Int)} (hp : ∀ w ns, o = some (w, ns) → ∀ i, 0 ≤ ns.getD i 0) : (stepF s o).2.Ok ∧ (stepF s o).2.row.length ≤ s.row.length + 1 := by
  cases o with
  | none => exact ⟨k, Nat.le_succ _⟩
  | some p =>
    obtain ⟨w, ns⟩ := p
    have p0 := hp w ns rfl 0
    have p1 := hp w ns rfl 1
    show ((if w = "owe" then _ else _ : Str × S4)).2.Ok ∧ ((if w = "owe" then _ else _ : Str × S4)).2.row.length ≤ _
    generalize ns.getD 0 0 = D at *
    generalize ns.getD 1 0 = c at *
    split
    · split <;> exact ⟨k, Nat.le_succ _⟩
    · split
      · split
        · exact ⟨k, Nat.le_succ _⟩
        · split
          · exact ⟨k, Nat.le_succ _⟩
          · exact ⟨⟨k.n, k.r.snoc (by omega) p1 (by omega), by rw [lastDay_snoc]; show D ≤ 100000; omega⟩, by simp⟩
      · split
        · exact ⟨k, Nat.le_succ _⟩
        · split
          · exact ⟨k, Nat.le_succ _⟩
          · rename_i h1 h2
            have nw := k.n.walk k.r.rate (D := D) (by omega) (by omega)
            exact ⟨⟨nw.pay (by omega) (by omega), k.r, k.la⟩, Nat.le_succ _⟩
theorem step_okS (s : S4) (o : Option (Str × List Int)) : okS (stepF s o).1 := by
  have k1 : okS (Str.ofString "no note") := by decide +kernel
  have k2 : okS (Str.ofString "bad day") := by decide +kernel
  have k3 : okS (Str.ofString "bad rate") := by decide +kernel
  have k4 : okS (Str.ofString "ok") := by decide +kernel
  have k5 : okS (Str.ofString "bad pay") := by decide +kernel
  have k6 : okS (Str.ofString " ") := by decide +kernel
  cases o with
  | none => exact k1
  | some p =>
    obtain ⟨w, ns⟩ := p
    simp only [stepF]
    split
    · split
      · exact k2
      · exact okS_tS _
    · split
      · split
        · exact k2
        · split
          · exact k3
          · exact k4
      · split
        · exact k2
        · split
          · exact k5
          · exact okS_app (okS_app (okS_app (okS_app (okS_tS _) k6) (okS_tS _)) k6) (okS_tS _)
def runF (s : S4) (ls : List Str) : List Str × S4 := ls.foldl (fun p x => (p.1 ++ [(stepF p.2 (noteF x)).1], (stepF p.2 (noteF x)).2)) ([], s)
theorem runF_nil (s : S4) : runF s [] = ([], s) := rfl
theorem runF_snoc (s : S4) (ls : List Str) (x : Str) : runF s (ls ++ [x]) = ((runF s ls).1 ++ [(stepF (runF s ls).2 (noteF x)).1], (stepF (runF s ls).2 (noteF x)).2) := by
  unfold runF; rw [List.foldl_append]; rfl
theorem note_getD {line w : Str} {ns : List Int} (h : noteF line = some (w, ns)) (i : Nat) : 0 ≤ ns.getD i 0 := by
  rw [List.getD_eq_getElem?_getD]
  cases e : ns[i]? with
  | none => exact Int.le_refl _
  | some n => exact note_pos h n (List.mem_of_getElem? e)
theorem runF_ok0 {s : S4} (k : s.Ok) : ∀ (n : Nat) (ls : List Str), ls.length = n → (runF s ls).2.Ok ∧ (runF s ls).2.row.length ≤ s.row.length + ls.length ∧ (runF s ls).1.length = ls.length := by
  intro n
  induction n with
  | zero =>
    intro ls e
    rw [List.length_eq_zero_iff.mp e]
    exact ⟨k, Nat.le_refl _, rfl⟩
  | succ n ih =>
    intro ls e
    rcases List.eq_nil_or_concat ls with z | ⟨ys, x, z⟩
    · rw [z] at e; cases e
    · rw [z, List.concat_eq_append] at e ⊢
      rw [List.length_append, List.length_singleton] at e
      obtain ⟨i1, i2, i3⟩ := ih ys (by omega)
      rw [runF_snoc]
      have st := i1.step (o := noteF x) fun w ns e i => note_getD e i
      refine ⟨st.1, ?_, ?_⟩
      · have := st.2
        rw [List.length_append, List.length_singleton]
        show (stepF (runF s ys).2 (noteF x)).2.row.length ≤ _
        omega
      · show ((runF s ys).1 ++ [_]).length = _
        rw [List.length_append, List.length_append, i3]; rfl
theorem runF_ok {s : S4} (k : s.Ok) (ls : List Str) : (runF s ls).2.Ok ∧ (runF s ls).2.row.length ≤ s.row.length + ls.length ∧ (runF s ls).1.length = ls.length := runF_ok0 k _ ls rfl
theorem runF_okS0 (s : S4) : ∀ (n : Nat) (ls : List Str), ls.length = n → ∀ v ∈ (runF s ls).1, okS v := by
  intro n
  induction n with
  | zero =>
    intro ls e
    rw [List.length_eq_zero_iff.mp e]
    intro v hv; cases hv
  | succ n ih =>
    intro ls e
    rcases List.eq_nil_or_concat ls with z | ⟨ys, x, z⟩
    · rw [z] at e; cases e
    · rw [z, List.concat_eq_append] at e ⊢
      rw [List.length_append, List.length_singleton] at e
      rw [runF_snoc]
      intro v hv
      rcases List.mem_append.mp hv with hv | hv
      · exact ih ys (by omega) v hv
      · rw [List.mem_singleton.mp hv]; exact step_okS _ _
theorem runF_okS (s : S4) (ls : List Str) : ∀ v ∈ (runF s ls).1, okS v := runF_okS0 s _ ls rfl
end Lp
namespace Lp
open PySem L2
/-! ## promises of the desk and of its law -/
def But2 (x y : Addr) (H H' : Hp) : Prop := ∀ b o, b ≠ x → b ≠ y → H b = some o → H' b = some o
theorem But2.same {x y : Addr} {H H' : Hp} (s : Same H H') : But2 x y H H' := fun b o _ _ e => s b o e
theorem But2.trans {x y : Addr} {H H1 H2 : Hp} (a : But2 x y H H1) (b : But2 x y H1 H2) : But2 x y H H2 := fun c o n m h => b c o n m (a c o n m h)
theorem But2.of1 {x y : Addr} {H H' : Hp} (a : But x H H') : But2 x y H H' := fun b o n _ e => a b o n e
theorem But2.of2 {x y : Addr} {H H' : Hp} (a : But y H H') : But2 x y H H' := fun b o _ m e => a b o m e
def StateAt (H : Hp) (st : Addr) (s : S4) (r : Addr) : Prop := H st = some (.lst [.int s.l, .int s.b, .int s.d, .ref r]) ∧ RowAt H r s.row
theorem StateAt.same {H H' : Hp} {st r : Addr} {s : S4} (h : StateAt H st s r) (e : Same H H') : StateAt H' st s r := ⟨e _ _ h.1, h.2.same e⟩
def DeedOk (C : Addr) (H : Hp) (x : Addr) (s : S4) (r : Addr) : Prop := LoanAt C H x s.l s.b s.d r s.row ∧ s.Ok ∧ s.row.length ≤ 200
def sp_done (C BD BR BP : Addr) : Sp := fun vs H Q E => ∃ (x t : Addr) (w : Str) (ns : List Int) (s : S4) (r : Addr), vs = [.ref x, .ref t] ∧ H t = some (.tup (.str w :: ns.map V.int)) ∧ many w = some ns.length ∧ (∀ i, 0 ≤ ns.getD i 0) ∧ DeedOk C H x s r ∧
  (stepF s (some (w, ns)) = (("bad day" : Str), s) → ∀ H', Same H H' → E (.ref BD) none H') ∧ (stepF s (some (w, ns)) = (("bad rate" : Str), s) → ∀ H', Same H H' → E (.ref BR) none H') ∧ (stepF s (some (w, ns)) = (("bad pay" : Str), s) → ∀ H', Same H H' → E (.ref BP) none H') ∧
  ∀ r' H', But x H H' → LoanAt C H' x (stepF s (some (w, ns))).2.l (stepF s (some (w, ns))).2.b (stepF s (some (w, ns))).2.d r' (stepF s (some (w, ns))).2.row → Q (.str (stepF s (some (w, ns))).1) H'
def sp_answer (C : Addr) : Sp := fun vs H Q _ => ∃ (x : Addr) (line : Str) (s : S4) (r : Addr), vs = [.ref x, .str line] ∧ line.length ≤ 40000 ∧ DeedOk C H x s r ∧
  ∀ r' H', But x H H' → LoanAt C H' x (stepF s (noteF line)).2.l (stepF s (noteF line)).2.b (stepF s (noteF line)).2.d r' (stepF s (noteF line)).2.row → Q (.str (stepF s (noteF line)).1) H'
def sp_desk (BA BR : Addr) : Sp := fun vs H Q E => ∃ (a rt : Int) (p : Addr) (ls : List Str), vs = [.int a, .int rt, .ref p] ∧ StrsAt H p ls ∧ ls.length ≤ 90 ∧ (∀ z ∈ ls, z.length ≤ 40000) ∧
  (a < 1 ∨ 1000000000000 < a → ∀ H', Same H H' → E (.ref BA) none H') ∧ (¬ (a < 1 ∨ 1000000000000 < a) → (rt < 0 ∨ 100000 < rt → ∀ H', Same H H' → E (.ref BR) none H') ∧
    (¬ (rt < 0 ∨ 100000 < rt) → ∀ D H', Same H H' → StrsAt H' D (runF ⟨a, 0, 0, [(0, rt)]⟩ ls).1 → Q (.ref D) H'))
def sp_then : Sp := fun vs H Q _ => ∃ (st r : Addr) (s : S4) (D : Int), vs = [.ref st, .int D] ∧ StateAt H st s r ∧ s.Ok ∧ s.row.length ≤ 100 ∧ s.d ≤ D ∧ D ≤ 100000 ∧ Q (.int (thenF s.l s.b s.d s.row D)) H
def sp_odd : Sp := fun vs H Q _ => ∃ (d c : Int), vs = [.str ("owe " ++ tS d), .int c] ∧ 0 ≤ d ∧ d < 10 ^ 30 ∧ ∀ (z : Str) H', Same H H' → noteF z = none → z.length ≤ 20000 → okS z → Q (.str z) H'
def GoodLine (z : Str) : Prop := ∃ (w : Str) (ns : List Int), z = Str.join " " (w :: ns.map tS) ∧ many w = some ns.length ∧ ∀ n ∈ ns, 0 ≤ n ∧ n < 10 ^ 30
def LineOk (g : Bool) (z : Str) : Prop := z.length ≤ 20000 ∧ okS z ∧ ((g = false ∧ noteF z = none) ∨ (g = true ∧ GoodLine z))
def sp_line : Sp := fun vs H Q _ => ∃ (st r : Addr) (s : S4) (c : Int), vs = [.ref st, .int c] ∧ StateAt H st s r ∧ s.Ok ∧ s.row.length ≤ 100 ∧ ∀ (z : Str) H', Same H H' → LineOk (decide (c % 11 < 10)) z → Q (.str z) H'
def sp_paidL : Sp := fun vs H Q _ => ∃ (st r : Addr) (s : S4) (D c : Int), vs = [.ref st, .int D, .int c] ∧ StateAt H st s r ∧ s.Ok ∧ s.row.length ≤ 100 ∧ s.d ≤ D ∧ D ≤ 100000 ∧ 0 ≤ c ∧ c < 10 ^ 30 ∧
  ∀ H', But st H H' → StateAt H' st (stepF s (some ("pay", [D, c]))).2 r → Q (.str (stepF s (some ("pay", [D, c]))).1) H'
def sp_ans : Sp := fun vs H Q _ => ∃ (st r : Addr) (s : S4) (z : Str) (g : Bool), vs = [.ref st, .str z, .bl g] ∧ StateAt H st s r ∧ s.Ok ∧ s.row.length ≤ 100 ∧ LineOk g z ∧
  ∀ H', But2 st r H H' → StateAt H' st (stepF s (noteF z)).2 r → Q (.str (stepF s (noteF z)).1) H'
def sp_no_desk : Sp := fun vs H Q _ => ∃ (a rt : Int), vs = [.int a, .int rt] ∧ (((a < 1 ∨ 1000000000000 < a) ∧ ∀ H', Q (.str "amount") H') ∨ (¬ (a < 1 ∨ 1000000000000 < a) ∧ (rt < 0 ∨ 100000 < rt) ∧ ∀ H', Q (.str "rate") H'))
theorem step_owe1 {s : S4} {D : Int} (h : D < s.d ∨ 100000 < D) : stepF s (some ("owe", [D])) = (("bad day" : Str), s) := by
  simp only [stepF, List.getD_cons_zero, List.getD_cons_succ]
  rw [if_pos True.intro, if_pos h]
theorem step_owe2 {s : S4} {D : Int} (h : ¬ (D < s.d ∨ 100000 < D)) : stepF s (some ("owe", [D])) = (tS (owedF s.l (thenF s.l s.b s.d s.row D)), s) := by
  simp only [stepF, List.getD_cons_zero, List.getD_cons_succ]
  rw [if_pos True.intro, if_neg h]
theorem step_rate1 {s : S4} {D c : Int} (h : D ≤ max s.d (lastDay s.row) ∨ 100000 < D) : stepF s (some ("rate", [D, c])) = (("bad day" : Str), s) := by
  simp only [stepF, List.getD_cons_zero, List.getD_cons_succ]
  rw [if_neg (by decide +kernel), if_pos True.intro, if_pos h]
theorem step_rate2 {s : S4} {D c : Int} (h : ¬ (D ≤ max s.d (lastDay s.row) ∨ 100000 < D)) (hc : 100000 < c) : stepF s (some ("rate", [D, c])) = (("bad rate" : Str), s) := by
  simp only [stepF, List.getD_cons_zero, List.getD_cons_succ]
  rw [if_neg (by decide +kernel), if_pos True.intro, if_neg h, if_pos hc]
theorem step_rate3 {s : S4} {D c : Int} (h : ¬ (D ≤ max s.d (lastDay s.row) ∨ 100000 < D)) (hc : ¬ 100000 < c) : stepF s (some ("rate", [D, c])) = (("ok" : Str), ⟨s.l, s.b, s.d, s.row ++ [(D, c)]⟩) := by
  simp only [stepF, List.getD_cons_zero, List.getD_cons_succ]
  rw [if_neg (by decide +kernel), if_pos True.intro, if_neg h, if_neg hc]
theorem step_pay1 {s : S4} {D c : Int} (h : D < s.d ∨ 100000 < D) : stepF s (some ("pay", [D, c])) = (("bad day" : Str), s) := by
  simp only [stepF, List.getD_cons_zero, List.getD_cons_succ]
  rw [if_neg (by decide +kernel), if_neg (by decide +kernel), if_pos h]
theorem step_pay2 {s : S4} {D c : Int} (h : ¬ (D < s.d ∨ 100000 < D)) (hc : c < 1 ∨ owedF s.l (thenF s.l s.b s.d s.row D) < c) : stepF s (some ("pay", [D, c])) = (("bad pay" : Str), s) := by
  simp only [stepF, List.getD_cons_zero, List.getD_cons_succ]
  rw [if_neg (by decide +kernel), if_neg (by decide +kernel), if_neg h, if_pos hc]
theorem step_pay3 {s : S4} {D c : Int} (h : ¬ (D < s.d ∨ 100000 < D)) (hc : ¬ (c < 1 ∨ owedF s.l (thenF s.l s.b s.d s.row D) < c)) : stepF s (some ("pay", [D, c])) =
    (tS (pInt s.l (thenF s.l s.b s.d s.row D) c) ++ " " ++ tS (pOff s.l (thenF s.l s.b s.d s.row D) c) ++ " " ++ tS (pLeft s.l (thenF s.l s.b s.d s.row D) c), ⟨pLeft s.l (thenF s.l s.b s.d s.row D) c, pBegun s.l (thenF s.l s.b s.d s.row D) c, D, s.row⟩) := by
  simp only [stepF, List.getD_cons_zero, List.getD_cons_succ]
  rw [if_neg (by decide +kernel), if_neg (by decide +kernel), if_neg h, if_neg hc]
theorem state_ne {H : Hp} {st r : Addr} {s : S4} (h : StateAt H st s r) (ok : s.Ok) : st ≠ r := by
  intro z
  obtain ⟨h1, xs, e, hp⟩ := h
  rw [z, e] at h1
  have e2 : xs = [.int s.l, .int s.b, .int s.d, .ref r] := by cases h1; rfl
  rw [e2] at hp
  cases hp
theorem tS_int {n : Int} (h0 : 0 ≤ n) (h1 : n < 10 ^ 30) : PySem.intText? (tS n) = some n := by
  obtain ⟨_, e, d, l1, l2⟩ := tS_good h0 h1
  have := digs_int d l1 (by omega)
  rw [e] at this; exact this
theorem check_one1 {rt : Int} (h : rt < 0 ∨ 100000 < rt) : checkF [(0, rt)] = some false := by
  show (if (0 : Int) ≠ 0 then some true else chk (-1) [(0, rt)]) = _
  rw [if_neg (by decide), chk, if_neg (by omega), if_pos h]
theorem check_one2 {rt : Int} (h : ¬ (rt < 0 ∨ 100000 < rt)) : checkF [(0, rt)] = none := by
  show (if (0 : Int) ≠ 0 then some true else chk (-1) [(0, rt)]) = _
  rw [if_neg (by decide), chk, if_neg (by omega), if_neg h]; rfl
theorem row_one {a rt : Int} (ha : 1 ≤ a) (ha2 : a ≤ 1000000000000) (h0 : 0 ≤ rt) (h1 : rt ≤ 100000) : S4.Ok ⟨a, 0, 0, [(0, rt)]⟩ :=
  ⟨⟨by show 0 ≤ a; omega, ha2, Int.le_refl _, Int.le_refl _, Int.le_refl _, by show (0 : Int) ≤ 100000; decide⟩, ⟨⟨rt, [], rfl⟩, by simp, fun p hp => by rw [List.mem_singleton.mp hp]; exact ⟨h0, h1⟩⟩, by show (0 : Int) ≤ 100000; decide⟩
theorem row_ne_strs {H : Hp} {r D : Addr} {row : Row} {ws : List Str} (h : RowAt H r row) (hne : row ≠ []) (hS : StrsAt H D ws) : r ≠ D := by
  intro z
  obtain ⟨xs, e, hp⟩ := h
  unfold StrsAt at hS
  rw [z, hS] at e
  have e2 : ws.map V.str = xs := by cases e; rfl
  cases hp with
  | nil => exact hne rfl
  | cons ht hr =>
    cases ws with
    | nil => cases e2
    | cons w t => cases e2
section
variable {σ : L2.St} {H : Hp} {Q : VK} {E : XK} {D : Ends} {K : PySem.W.Frag} {te ta tb : TE}
theorem g_unpNNSS {i j : Nat} {p : Addr} {a b c d : V} {t1 u1 t2 u2 : TE} {R : L2.St → Hp → Prop} (h : H p = some (.tup [a, b, c, d]))
    (q : t1 ((σ.set i (some a)).set j (some b)) H fun o H1 => u1 ((σ.set i (some a)).set j (some b)) H1 fun k H2 => rSetL o k c H2 fun H3 => ∃ v ys, [d] = v :: ys ∧ (t2 ((σ.set i (some a)).set j (some b)) H3 fun o H4 => u2 ((σ.set i (some a)).set j (some b)) H4 fun k H5 => rSetL o k v H5 fun H6 => ys = [] ∧ R ((σ.set i (some a)).set j (some b)) H6)) :
    gTup K 4 (gCons (gName i) (gCons (gName j) (gCons (gSub t1 u1 rSetL) (gCons (gSub t2 u2 rSetL) gNil)))) (.ref p) σ H R := by
  exact ⟨p, [a, b, c, d], rfl, SqT.of h, rfl, a, [b, c, d], rfl, b, [c, d], rfl, c, [d], rfl, (by exact q)⟩
def strsD (ws : List Str) : PyData := .list (ws.map PyData.str)
theorem strs_dpAll {K : PySem.W.Frag} {H : Hp} : ∀ ns : List Str, DpAll K H (ns.map V.str) (ns.map PyData.str)
  | [] => .nil
  | n :: t => .cons (.str n) (strs_dpAll t)
theorem strs_dp {a : Addr} {ns : List Str} (h : StrsAt H a ns) : Dp K H (.ref a) (strsD ns) := .lst (SqL.of h) (strs_dpAll ns)
theorem strsD_lay : ∀ ns : List Str, (∀ v ∈ ns, okS v) → PyData.canLayAll0 (ns.map PyData.str) = true
  | [], _ => by simp [PyData.canLayAll0]
  | p :: r, h => by simp [PyData.canLayAll0, PyData.canLay0, strsD_lay r (fun v hv => h v (List.mem_cons_of_mem _ hv)), okS_str (h p List.mem_cons_self)]
theorem strsD_dep : ∀ ns : List Str, PyData.depthAll (ns.map PyData.str) ≤ 3
  | [] => by simp [PyData.depthAll]
  | p :: r => by
    have := strsD_dep r
    simp only [List.map_cons, PyData.depthAll, PyData.depth]
    omega
theorem strsD_lay0 (ns : List Str) (h : ∀ v ∈ ns, okS v) : (strsD ns).canLay0 = true := by
  unfold strsD; simp only [PyData.canLay0]; exact strsD_lay ns h
theorem strsD_shaped (ns : List Str) (h : ∀ v ∈ ns, okS v) : SeqAt.shaped (strsD ns) = true := by
  have h1 := strsD_dep ns
  have h2 : PyData.depth (strsD ns) ≤ 64 := by unfold strsD; simp only [PyData.depth]; omega
  unfold SeqAt.shaped
  rw [Bool.and_eq_true]
  exact ⟨strsD_lay0 ns h, decide_eq_true h2⟩
theorem g_neStrs {a b : Addr} {ns : List Str} (ha : StrsAt H a ns) (hb : StrsAt H b ns) (hk : ∀ v ∈ ns, okS v) (q : Q (.bl false) H) : rNeD K (.ref a) (.ref b) H Q :=
  ⟨_, _, strs_dp ha, strs_dp hb, strsD_shaped _ hk, strsD_shaped _ hk, by rw [SeqAt.eqv_refl _ (strsD_lay0 _ hk)]; exact q⟩
theorem g_eqStrs {a b : Addr} {ns : List Str} (ha : StrsAt H a ns) (hb : StrsAt H b ns) (hk : ∀ v ∈ ns, okS v) (q : Q (.bl true) H) : rEqD K (.ref a) (.ref b) H Q :=
  ⟨_, _, strs_dp ha, strs_dp hb, strsD_shaped _ hk, strsD_shaped _ hk, by rw [SeqAt.eqv_refl _ (strsD_lay0 _ hk)]; exact q⟩
theorem g_slS2 {a : Str} {lo hi : Option Int} (h : a.length ≤ 100000) (q : ∀ b : Str, b.length ≤ a.length → (okS a → okS b) → Q (.str b) H) : rSlS (.str a) lo hi H Q :=
  ⟨a, rfl, Nat.le_trans h (by decide), q _ (by
    unfold cutS
    show (Array.mk _).size ≤ _
    simp only [List.size_toArray, List.length_take, List.length_drop, len_list]
    omega) (fun k c hc => by
    unfold cutS at hc
    exact k c (List.mem_of_mem_drop (List.mem_of_mem_take hc)))⟩
theorem g_ixLastS {p : Addr} {xs : List V} {v : V} (h : H p = some (.lst (xs ++ [v]))) (q : Q v H) : rIxL K (.ref p) (.int (-1)) H Q :=
  ⟨p, xs ++ [v], -1, v, rfl, rfl, SqL.of h, atI_last _ _, q⟩
theorem g_listOfS {p : Addr} {ns : List Str} (h : StrsAt H p ns) (q : ∀ l H', H l = none → Same H H' → StrsAt H' l ns → Q (.ref l) H') : rListOf K [.ref p] H Q :=
  ⟨p, _, rfl, .inl (SqL.of h), fun l hl => q l _ hl (same_new hl) upd_same⟩
theorem g_tryM {Wout : WX} {l : List (Value × (Addr → Value → Option Addr → TS))} {tb : WX → TS} (h : tb (wMany K Wout D l) D σ H) : tTryM K Wout l tb D σ H := h
def LastV (acc : Str) (Q : Str → Hp → Prop) (x : V) (H : Hp) : Prop := FmtV x H fun x2 H2 => ∃ y : Str, x2 = .str y ∧ (acc ++ y).length ≤ sizeLine ∧ Q (acc ++ y) H2
theorem tS_short {i : Int} (h1 : -(10 ^ 61) ≤ i) (h2 : i ≤ 10 ^ 61) : (tS i).length ≤ 3000 := Nat.le_trans (PyProof.Rows.int_text_len_1921 (log2_of (small_nat h1 h2))) (by decide)
theorem g_lastV {acc : Str} {Q : Str → Hp → Prop} {c : Int} (h1 : -(10 ^ 61) ≤ c) (h2 : c ≤ 10 ^ 61) (ha : acc.length ≤ 90000) (q : Q (acc ++ tS c) H) : LastV acc Q (.int c) H :=
  .inr ⟨c, rfl, log2_of (small_nat h1 h2), tS c, rfl, by
    have := tS_short h1 h2
    rw [str_app_len]
    exact Nat.le_trans (m := 100000) (by omega) (by decide), q⟩
theorem g_fs5 {i j : Nat} {a b : Int} (hi : σ[i]? = some (some (.int a))) (hj : σ[j]? = some (some (.int b))) (a1 : -(10 ^ 61) ≤ a) (a2 : a ≤ 10 ^ 61) (b1 : -(10 ^ 61) ≤ b) (b2 : b ≤ 10 ^ 61)
    (h : te σ H fun x H1 => LastV (tS a ++ " " ++ tS b ++ " ") (fun out H2 => Q (.str out) H2) x H1) : tFs [tFmt (tVar i), tC (.str " "), tFmt (tVar j), tC (.str " "), tFmt te] σ H Q := by
  have la := tS_short a1 a2
  have lb := tS_short b1 b2
  have k1 : (" " : Str).length = 1 := by decide +kernel
  have e0 : Str.empty ++ tS a = tS a := PySem.Str.empty_append _
  have big : ∀ n : Nat, n ≤ 100000 → n ≤ sizeLine := fun n h => Nat.le_trans h (by decide)
  refine ⟨_, hi, .inr ⟨a, rfl, log2_of (small_nat a1 a2), tS a, rfl, big _ (by rw [e0]; omega), ?_⟩⟩
  rw [e0]
  refine ⟨" ", rfl, big _ (by rw [str_app_len]; omega), ?_⟩
  refine ⟨_, hj, .inr ⟨b, rfl, log2_of (small_nat b1 b2), tS b, rfl, big _ (by rw [str_app_len, str_app_len]; omega), ?_⟩⟩
  refine ⟨" ", rfl, big _ (by rw [str_app_len, str_app_len, str_app_len]; omega), ?_⟩
  exact h
end
end Lp
namespace Lp
open PySem L2
def topS (i : Nat) : Stmt := PySem.Challenge.pw_loanplan_k14_whole_desk.main.body.getD i (.Pass ⟨0, 0, 0, 0⟩)
abbrev s__wall : Stmt := topS 0
abbrev s_checked : Stmt := topS 11
abbrev s_check_day : Stmt := topS 12
abbrev s_check_pair : Stmt := topS 13
abbrev s_grown : Stmt := topS 14
abbrev s_cents_owed : Stmt := topS 18
abbrev s_paid_down : Stmt := topS 19
abbrev s_Loan_init : Stmt := inClass (topS 20) 0
abbrev s_Loan_stand : Stmt := inClass (topS 20) 1
abbrev s_Loan_owed : Stmt := inClass (topS 20) 2
abbrev s_Loan_pay : Stmt := inClass (topS 20) 3
abbrev s_Loan_change : Stmt := inClass (topS 20) 4
abbrev s_Loan_twin : Stmt := inClass (topS 20) 5
abbrev s_read : Stmt := topS 24
abbrev s_number_of : Stmt := topS 25
abbrev s_desk : Stmt := topS 27
abbrev s_answer : Stmt := topS 28
abbrev s_done : Stmt := topS 29
abbrev s_cell_at : Stmt := topS 31
abbrev s_mixed : Stmt := topS 32
abbrev s_rate_by : Stmt := topS 33
abbrev s_sum_by : Stmt := topS 34
abbrev s_amount_by : Stmt := topS 35
abbrev s_owed : Stmt := topS 36
abbrev s_parts : Stmt := topS 37
abbrev s_then : Stmt := topS 38
abbrev s_odd_line : Stmt := topS 39
abbrev s_line : Stmt := topS 40
abbrev s_paid : Stmt := topS 41
abbrev s_l_answer : Stmt := topS 42
abbrev s_no_desk : Stmt := topS 43
abbrev s_law : Stmt := topS 44

structure Ad where
  a__wall : Addr
  d__wall : FuncData
  a_checked : Addr
  d_checked : FuncData
  a_check_day : Addr
  d_check_day : FuncData
  a_check_pair : Addr
  d_check_pair : FuncData
  a_grown : Addr
  d_grown : FuncData
  a_cents_owed : Addr
  d_cents_owed : FuncData
  a_paid_down : Addr
  d_paid_down : FuncData
  a_Loan_init : Addr
  d_Loan_init : FuncData
  a_Loan_stand : Addr
  d_Loan_stand : FuncData
  a_Loan_owed : Addr
  d_Loan_owed : FuncData
  a_Loan_pay : Addr
  d_Loan_pay : FuncData
  a_Loan_change : Addr
  d_Loan_change : FuncData
  a_Loan_twin : Addr
  d_Loan_twin : FuncData
  a_read : Addr
  d_read : FuncData
  a_number_of : Addr
  d_number_of : FuncData
  a_desk : Addr
  d_desk : FuncData
  a_answer : Addr
  d_answer : FuncData
  a_done : Addr
  d_done : FuncData
  a_cell_at : Addr
  d_cell_at : FuncData
  a_mixed : Addr
  d_mixed : FuncData
  a_rate_by : Addr
  d_rate_by : FuncData
  a_sum_by : Addr
  d_sum_by : FuncData
  a_amount_by : Addr
  d_amount_by : FuncData
  a_owed : Addr
  d_owed : FuncData
  a_parts : Addr
  d_parts : FuncData
  a_then : Addr
  d_then : FuncData
  a_odd_line : Addr
  d_odd_line : FuncData
  a_line : Addr
  d_line : FuncData
  a_paid : Addr
  d_paid : FuncData
  a_l_answer : Addr
  d_l_answer : FuncData
  a_no_desk : Addr
  d_no_desk : FuncData
  a_law : Addr
  d_law : FuncData
  c_LoanError : Addr
  c_BadAmount : Addr
  c_BadRate : Addr
  c_BadDay : Addr
  c_BadPay : Addr
  c_NoNote : Addr
  c_Loan : Addr
  c_NUMBERS : Addr
  t_LAST_DAY : Tok
  t_HIGHEST_RATE : Tok
  t_HIGHEST_AMOUNT : Tok
  t_MILLION : Tok
  t_MOST_FIGURES : Tok
structure Txt (w : World) (K : PySem.W.Frag) (mg : Str → Option Value) (A : Ad) : Prop where
  F__wall : Fun K "_wall" "_wall" s__wall A.a__wall A.d__wall
  B__wall : Binds K A.d__wall ["k"] []
  g__wall : mg "_wall" = some (.ref A.a__wall)
  F_checked : Fun K "checked" "checked" s_checked A.a_checked A.d_checked
  B_checked : Binds K A.d_checked ["rates"] []
  g_checked : mg "checked" = some (.ref A.a_checked)
  F_check_day : Fun K "check_day" "check_day" s_check_day A.a_check_day A.d_check_day
  B_check_day : Binds K A.d_check_day ["day", "first"] []
  g_check_day : mg "check_day" = some (.ref A.a_check_day)
  F_check_pair : Fun K "check_pair" "check_pair" s_check_pair A.a_check_pair A.d_check_pair
  B_check_pair : Binds K A.d_check_pair ["day", "rate", "ahead"] []
  g_check_pair : mg "check_pair" = some (.ref A.a_check_pair)
  F_grown : Fun K "grown" "grown" s_grown A.a_grown A.d_grown
  B_grown : Binds K A.d_grown ["rates", "start", "end"] []
  g_grown : mg "grown" = some (.ref A.a_grown)
  F_cents_owed : Fun K "cents_owed" "cents_owed" s_cents_owed A.a_cents_owed A.d_cents_owed
  B_cents_owed : Binds K A.d_cents_owed ["left", "begun"] []
  g_cents_owed : mg "cents_owed" = some (.ref A.a_cents_owed)
  F_paid_down : Fun K "paid_down" "paid_down" s_paid_down A.a_paid_down A.d_paid_down
  B_paid_down : Binds K A.d_paid_down ["left", "begun", "cents"] []
  g_paid_down : mg "paid_down" = some (.ref A.a_paid_down)
  F_Loan_init : Fun K "__init__" "Loan.__init__" s_Loan_init A.a_Loan_init A.d_Loan_init
  B_Loan_init : Binds K A.d_Loan_init ["self", "amount", "rates"] []
  F_Loan_stand : Fun K "stand" "Loan.stand" s_Loan_stand A.a_Loan_stand A.d_Loan_stand
  B_Loan_stand : Binds K A.d_Loan_stand ["self", "day"] []
  F_Loan_owed : Fun K "owed" "Loan.owed" s_Loan_owed A.a_Loan_owed A.d_Loan_owed
  B_Loan_owed : Binds K A.d_Loan_owed ["self", "day"] []
  F_Loan_pay : Fun K "pay" "Loan.pay" s_Loan_pay A.a_Loan_pay A.d_Loan_pay
  B_Loan_pay : Binds K A.d_Loan_pay ["self", "day", "cents"] []
  F_Loan_change : Fun K "change" "Loan.change" s_Loan_change A.a_Loan_change A.d_Loan_change
  B_Loan_change : Binds K A.d_Loan_change ["self", "day", "rate"] []
  F_Loan_twin : Fun K "twin" "Loan.twin" s_Loan_twin A.a_Loan_twin A.d_Loan_twin
  B_Loan_twin : Binds K A.d_Loan_twin ["self"] []
  F_read : Fun K "read" "read" s_read A.a_read A.d_read
  B_read : Binds K A.d_read ["line"] []
  g_read : mg "read" = some (.ref A.a_read)
  F_number_of : Fun K "number_of" "number_of" s_number_of A.a_number_of A.d_number_of
  B_number_of : Binds K A.d_number_of ["word"] []
  g_number_of : mg "number_of" = some (.ref A.a_number_of)
  F_desk : Fun K "desk" "desk" s_desk A.a_desk A.d_desk
  B_desk : Binds K A.d_desk ["amount", "rate", "lines"] []
  g_desk : mg "desk" = some (.ref A.a_desk)
  F_answer : Fun K "answer" "answer" s_answer A.a_answer A.d_answer
  B_answer : Binds K A.d_answer ["loan", "line"] []
  g_answer : mg "answer" = some (.ref A.a_answer)
  F_done : Fun K "done" "done" s_done A.a_done A.d_done
  B_done : Binds K A.d_done ["loan", "note"] []
  g_done : mg "done" = some (.ref A.a_done)
  F_cell_at : Fun K "_law_cell_at" "_law_cell_at" s_cell_at A.a_cell_at A.d_cell_at
  B_cell_at : Binds K A.d_cell_at ["_law_script", "_law_k"] []
  g_cell_at : mg "_law_cell_at" = some (.ref A.a_cell_at)
  F_mixed : Fun K "_law_mixed" "_law_mixed" s_mixed A.a_mixed A.d_mixed
  B_mixed : Binds K A.d_mixed ["_law_cell", "_law_many"] []
  g_mixed : mg "_law_mixed" = some (.ref A.a_mixed)
  F_rate_by : Fun K "_law_rate_by" "_law_rate_by" s_rate_by A.a_rate_by A.d_rate_by
  B_rate_by : Binds K A.d_rate_by ["_law_cell"] []
  g_rate_by : mg "_law_rate_by" = some (.ref A.a_rate_by)
  F_sum_by : Fun K "_law_sum_by" "_law_sum_by" s_sum_by A.a_sum_by A.d_sum_by
  B_sum_by : Binds K A.d_sum_by ["_law_row", "_law_start", "_law_end"] []
  g_sum_by : mg "_law_sum_by" = some (.ref A.a_sum_by)
  F_amount_by : Fun K "_law_amount_by" "_law_amount_by" s_amount_by A.a_amount_by A.d_amount_by
  B_amount_by : Binds K A.d_amount_by ["_law_cell"] []
  g_amount_by : mg "_law_amount_by" = some (.ref A.a_amount_by)
  F_owed : Fun K "_law_owed" "_law_owed" s_owed A.a_owed A.d_owed
  B_owed : Binds K A.d_owed ["_law_left", "_law_begun"] []
  g_owed : mg "_law_owed" = some (.ref A.a_owed)
  F_parts : Fun K "_law_parts" "_law_parts" s_parts A.a_parts A.d_parts
  B_parts : Binds K A.d_parts ["_law_left", "_law_begun", "_law_cents"] []
  g_parts : mg "_law_parts" = some (.ref A.a_parts)
  F_then : Fun K "_law_then" "_law_then" s_then A.a_then A.d_then
  B_then : Binds K A.d_then ["_law_state", "_law_day"] []
  g_then : mg "_law_then" = some (.ref A.a_then)
  F_odd_line : Fun K "_law_odd_line" "_law_odd_line" s_odd_line A.a_odd_line A.d_odd_line
  B_odd_line : Binds K A.d_odd_line ["_law_line_here", "_law_cell"] []
  g_odd_line : mg "_law_odd_line" = some (.ref A.a_odd_line)
  F_line : Fun K "_law_line" "_law_line" s_line A.a_line A.d_line
  B_line : Binds K A.d_line ["_law_state", "_law_cell"] []
  g_line : mg "_law_line" = some (.ref A.a_line)
  F_paid : Fun K "_law_paid" "_law_paid" s_paid A.a_paid A.d_paid
  B_paid : Binds K A.d_paid ["_law_state", "_law_day", "_law_cents"] []
  g_paid : mg "_law_paid" = some (.ref A.a_paid)
  F_l_answer : Fun K "_law_answer" "_law_answer" s_l_answer A.a_l_answer A.d_l_answer
  B_l_answer : Binds K A.d_l_answer ["_law_state", "_law_line_here", "_law_good"] []
  g_l_answer : mg "_law_answer" = some (.ref A.a_l_answer)
  F_no_desk : Fun K "_law_no_desk" "_law_no_desk" s_no_desk A.a_no_desk A.d_no_desk
  B_no_desk : Binds K A.d_no_desk ["_law_amount", "_law_rate"] []
  g_no_desk : mg "_law_no_desk" = some (.ref A.a_no_desk)
  F_law : Fun K "law" "law" s_law A.a_law A.d_law
  B_law : Binds K A.d_law ["_law_script"] []
  g_law : mg "law" = some (.ref A.a_law)
  n_int : mg "int" = none
  n_isinstance : mg "isinstance" = none
  n_len : mg "len" = none
  n_list : mg "list" = none
  n_max : mg "max" = none
  n_min : mg "min" = none
  n_range : mg "range" = none
  n_reversed : mg "reversed" = none
  n_str : mg "str" = none
  g_LAST_DAY : mg "LAST_DAY" = some (.int 100000 A.t_LAST_DAY)
  g_HIGHEST_RATE : mg "HIGHEST_RATE" = some (.int 100000 A.t_HIGHEST_RATE)
  g_HIGHEST_AMOUNT : mg "HIGHEST_AMOUNT" = some (.int 1000000000000 A.t_HIGHEST_AMOUNT)
  g_MILLION : mg "MILLION" = some (.int 1000000 A.t_MILLION)
  g_MOST_FIGURES : mg "MOST_FIGURES" = some (.int 30 A.t_MOST_FIGURES)
  g_LoanError : mg "LoanError" = some (.ref A.c_LoanError)
  x_LoanError : PySem.W.excIn K A.c_LoanError [.type "ValueError", .type "Exception", .type "BaseException", .type "object"] "ValueError.__new__" = true
  k_LoanError : PySem.W.keepIn K (.ref A.c_LoanError) = true
  b_LoanError : PySem.W.subIn K (.ref A.c_LoanError) (.type "BaseException") = some true
  t_LoanError : PySem.W.typeIn K (.ref A.c_LoanError) = some (.type "type")
  h_LoanError : PySem.W.hasDictIn K A.c_LoanError = true
  g_BadAmount : mg "BadAmount" = some (.ref A.c_BadAmount)
  x_BadAmount : PySem.W.excIn K A.c_BadAmount [.type "ValueError", .type "Exception", .type "BaseException", .type "object"] "ValueError.__new__" = true
  k_BadAmount : PySem.W.keepIn K (.ref A.c_BadAmount) = true
  b_BadAmount : PySem.W.subIn K (.ref A.c_BadAmount) (.type "BaseException") = some true
  t_BadAmount : PySem.W.typeIn K (.ref A.c_BadAmount) = some (.type "type")
  h_BadAmount : PySem.W.hasDictIn K A.c_BadAmount = true
  g_BadRate : mg "BadRate" = some (.ref A.c_BadRate)
  x_BadRate : PySem.W.excIn K A.c_BadRate [.type "ValueError", .type "Exception", .type "BaseException", .type "object"] "ValueError.__new__" = true
  k_BadRate : PySem.W.keepIn K (.ref A.c_BadRate) = true
  b_BadRate : PySem.W.subIn K (.ref A.c_BadRate) (.type "BaseException") = some true
  t_BadRate : PySem.W.typeIn K (.ref A.c_BadRate) = some (.type "type")
  h_BadRate : PySem.W.hasDictIn K A.c_BadRate = true
  g_BadDay : mg "BadDay" = some (.ref A.c_BadDay)
  x_BadDay : PySem.W.excIn K A.c_BadDay [.type "ValueError", .type "Exception", .type "BaseException", .type "object"] "ValueError.__new__" = true
  k_BadDay : PySem.W.keepIn K (.ref A.c_BadDay) = true
  b_BadDay : PySem.W.subIn K (.ref A.c_BadDay) (.type "BaseException") = some true
  t_BadDay : PySem.W.typeIn K (.ref A.c_BadDay) = some (.type "type")
  h_BadDay : PySem.W.hasDictIn K A.c_BadDay = true
  g_BadPay : mg "BadPay" = some (.ref A.c_BadPay)
  x_BadPay : PySem.W.excIn K A.c_BadPay [.type "ValueError", .type "Exception", .type "BaseException", .type "object"] "ValueError.__new__" = true
  k_BadPay : PySem.W.keepIn K (.ref A.c_BadPay) = true
  b_BadPay : PySem.W.subIn K (.ref A.c_BadPay) (.type "BaseException") = some true
  t_BadPay : PySem.W.typeIn K (.ref A.c_BadPay) = some (.type "type")
  h_BadPay : PySem.W.hasDictIn K A.c_BadPay = true
  g_NoNote : mg "NoNote" = some (.ref A.c_NoNote)
  x_NoNote : PySem.W.excIn K A.c_NoNote [.type "ValueError", .type "Exception", .type "BaseException", .type "object"] "ValueError.__new__" = true
  k_NoNote : PySem.W.keepIn K (.ref A.c_NoNote) = true
  b_NoNote : PySem.W.subIn K (.ref A.c_NoNote) (.type "BaseException") = some true
  t_NoNote : PySem.W.typeIn K (.ref A.c_NoNote) = some (.type "type")
  h_NoNote : PySem.W.hasDictIn K A.c_NoNote = true
  u_LoanError_LoanError : PySem.W.subIn K (.ref A.c_LoanError) (.ref A.c_LoanError) = some true
  u_LoanError_BadAmount : PySem.W.subIn K (.ref A.c_LoanError) (.ref A.c_BadAmount) = some false
  u_LoanError_BadRate : PySem.W.subIn K (.ref A.c_LoanError) (.ref A.c_BadRate) = some false
  u_LoanError_BadDay : PySem.W.subIn K (.ref A.c_LoanError) (.ref A.c_BadDay) = some false
  u_LoanError_BadPay : PySem.W.subIn K (.ref A.c_LoanError) (.ref A.c_BadPay) = some false
  u_LoanError_NoNote : PySem.W.subIn K (.ref A.c_LoanError) (.ref A.c_NoNote) = some false
  u_BadAmount_LoanError : PySem.W.subIn K (.ref A.c_BadAmount) (.ref A.c_LoanError) = some true
  u_BadAmount_BadAmount : PySem.W.subIn K (.ref A.c_BadAmount) (.ref A.c_BadAmount) = some true
  u_BadAmount_BadRate : PySem.W.subIn K (.ref A.c_BadAmount) (.ref A.c_BadRate) = some false
  u_BadAmount_BadDay : PySem.W.subIn K (.ref A.c_BadAmount) (.ref A.c_BadDay) = some false
  u_BadAmount_BadPay : PySem.W.subIn K (.ref A.c_BadAmount) (.ref A.c_BadPay) = some false
  u_BadAmount_NoNote : PySem.W.subIn K (.ref A.c_BadAmount) (.ref A.c_NoNote) = some false
  u_BadRate_LoanError : PySem.W.subIn K (.ref A.c_BadRate) (.ref A.c_LoanError) = some true
  u_BadRate_BadAmount : PySem.W.subIn K (.ref A.c_BadRate) (.ref A.c_BadAmount) = some false
  u_BadRate_BadRate : PySem.W.subIn K (.ref A.c_BadRate) (.ref A.c_BadRate) = some true
  u_BadRate_BadDay : PySem.W.subIn K (.ref A.c_BadRate) (.ref A.c_BadDay) = some false
  u_BadRate_BadPay : PySem.W.subIn K (.ref A.c_BadRate) (.ref A.c_BadPay) = some false
  u_BadRate_NoNote : PySem.W.subIn K (.ref A.c_BadRate) (.ref A.c_NoNote) = some false
  u_BadDay_LoanError : PySem.W.subIn K (.ref A.c_BadDay) (.ref A.c_LoanError) = some true
  u_BadDay_BadAmount : PySem.W.subIn K (.ref A.c_BadDay) (.ref A.c_BadAmount) = some false
  u_BadDay_BadRate : PySem.W.subIn K (.ref A.c_BadDay) (.ref A.c_BadRate) = some false
  u_BadDay_BadDay : PySem.W.subIn K (.ref A.c_BadDay) (.ref A.c_BadDay) = some true
  u_BadDay_BadPay : PySem.W.subIn K (.ref A.c_BadDay) (.ref A.c_BadPay) = some false
  u_BadDay_NoNote : PySem.W.subIn K (.ref A.c_BadDay) (.ref A.c_NoNote) = some false
  u_BadPay_LoanError : PySem.W.subIn K (.ref A.c_BadPay) (.ref A.c_LoanError) = some true
  u_BadPay_BadAmount : PySem.W.subIn K (.ref A.c_BadPay) (.ref A.c_BadAmount) = some false
  u_BadPay_BadRate : PySem.W.subIn K (.ref A.c_BadPay) (.ref A.c_BadRate) = some false
  u_BadPay_BadDay : PySem.W.subIn K (.ref A.c_BadPay) (.ref A.c_BadDay) = some false
  u_BadPay_BadPay : PySem.W.subIn K (.ref A.c_BadPay) (.ref A.c_BadPay) = some true
  u_BadPay_NoNote : PySem.W.subIn K (.ref A.c_BadPay) (.ref A.c_NoNote) = some false
  u_NoNote_LoanError : PySem.W.subIn K (.ref A.c_NoNote) (.ref A.c_LoanError) = some true
  u_NoNote_BadAmount : PySem.W.subIn K (.ref A.c_NoNote) (.ref A.c_BadAmount) = some false
  u_NoNote_BadRate : PySem.W.subIn K (.ref A.c_NoNote) (.ref A.c_BadRate) = some false
  u_NoNote_BadDay : PySem.W.subIn K (.ref A.c_NoNote) (.ref A.c_BadDay) = some false
  u_NoNote_BadPay : PySem.W.subIn K (.ref A.c_NoNote) (.ref A.c_BadPay) = some false
  u_NoNote_NoNote : PySem.W.subIn K (.ref A.c_NoNote) (.ref A.c_NoNote) = some true
  g_Loan : mg "Loan" = some (.ref A.c_Loan)
  C_Loan : Cls K A.c_Loan
  M_Loan : Mk K A.c_Loan A.a_Loan_init
  m_Loan_stand : Meth K A.c_Loan "stand" A.a_Loan_stand
  m_Loan_owed : Meth K A.c_Loan "owed" A.a_Loan_owed
  m_Loan_pay : Meth K A.c_Loan "pay" A.a_Loan_pay
  m_Loan_change : Meth K A.c_Loan "change" A.a_Loan_change
  m_Loan_twin : Meth K A.c_Loan "twin" A.a_Loan_twin
  na_left : NoAttr K A.c_Loan "left"
  na_begun : NoAttr K A.c_Loan "begun"
  na_day : NoAttr K A.c_Loan "day"
  na_rates : NoAttr K A.c_Loan "rates"
  g_NUMBERS : mg "NUMBERS" = some (.ref A.c_NUMBERS)
  d_NUMBERS : Tbl3 K w A.c_NUMBERS "pay" "rate" "owe" 2 2 1

local macro_rules | `(tactic| walk_at "z") => `(tactic| first | with_reducible rfl | (simp only [List.set_cons_succ, List.set_cons_zero]; done) | (simp only [List.set_cons_succ, List.set_cons_zero]; rfl) | rfl)
local macro_rules | `(tactic| walk_at "side") => `(tactic| first
  | ((with_reducible show CMul _ _); first
      | exact Or.inr ⟨by decide, by decide⟩ | exact Or.inl ⟨by decide, by decide⟩ | exact Or.inr ⟨by omega, by omega⟩ | exact Or.inl ⟨by omega, by omega⟩)
  | ((with_reducible show CDiv _ _); first | exact ⟨by decide, by decide⟩ | exact ⟨by omega, by omega⟩)
  | ((with_reducible show CPow _ _); exact ⟨by decide, by decide, by decide⟩)
  | (show (0 : Int) < _; first | decide | omega))
local macro_rules | `(tactic| walk_at "v1") => `(tactic| first
  | ((with_reducible refine' g_var ?g1 ?_); (case g1 => (first | (simp only [List.set_cons_succ, List.set_cons_zero]; exact rfl) | exact rfl)))
  | with_reducible refine g_c ?_
  | with_reducible refine g_op ?_
  | with_reducible refine g_i0 ?_
  | ((with_reducible refine' g_i ?g1 ?_); (case g1 => walk_at "side"))
  | with_reducible refine g_eqI ?_
  | with_reducible refine g_neI ?_
  | with_reducible refine g_eqS ?_
  | with_reducible refine g_neS ?_
  | with_reducible refine g_call ?_
  | with_reducible refine g_cons ?_
  | with_reducible refine g_nil ?_
  | with_reducible refine g_seq_asg ?_
  | with_reducible refine g_asg ?_
  | with_reducible refine g_seq_if ?_
  | with_reducible refine g_if ?_
  | with_reducible refine g_isNT ?_
  | with_reducible refine g_isNI ?_
  | with_reducible refine g_notNT ?_
  | with_reducible refine g_notNI ?_
  | with_reducible refine g_test ?_
  | with_reducible refine g_tB ?_
  | with_reducible refine g_bl ?_
  | with_reducible refine g_blV ?_
  | with_reducible refine g_and ?_
  | with_reducible refine g_or ?_
  | with_reducible refine g_not ?_
  | with_reducible refine g_andV ?_
  | with_reducible refine g_orV ?_
  | with_reducible refine g_notV ?_
  | with_reducible refine g_un ?_
  | with_reducible refine g_u ?_
  | with_reducible refine g_cb ?_
  | with_reducible refine g_bm ?_
  | with_reducible refine g_tup ?_
  | with_reducible refine g_lst ?_
  | with_reducible refine g_meth ?_
  | with_reducible refine g_fld ?_
  | with_reducible refine g_chain ?_
  | with_reducible refine g_mk ?_
  | ((with_reducible refine' g_fl ?g1 ?g2 ?g3 ?g4 ?_); (case g1 => assumption); (case g2 => assumption); (case g3 => assumption); (case g4 => first | exact fl_left | exact fl_begun | exact fl_day | exact fl_rates))
  | ((with_reducible refine' g_mt ?g1 ?g2 ?_); (case g1 => assumption); (case g2 => exact fl_no (by decide +kernel) (by decide +kernel) (by decide +kernel) (by decide +kernel)))
  | with_reducible refine g_seq_fld ?_
  | with_reducible refine g_sfld ?_
  | with_reducible refine g_seq_rz ?_
  | with_reducible refine g_rz ?_
  | with_reducible refine g_rzV ?_
  | (with_reducible refine g_fs ?_; intro acc hacc)
  | ((with_reducible refine' g_js ?g1 ?_); (case g1 => assumption))
  | ((with_reducible refine' g_jsC ?g1 ?g2 ?g3 ?_); (case g1 => assumption); (case g2 => first | assumption | decide +kernel); (case g3 => decide); intro acc hacc)
  | with_reducible refine g_jsN ?_
  | with_reducible refine g_fmt ?_
  | ((with_reducible refine' g_fmtI ?g1 ?_); (case g1 => exact small_nat (by omega) (by omega)); intro y hy)
  | with_reducible refine g_sl ?_
  | with_reducible refine g_noPart ?_
  | with_reducible refine g_part ?_
  | with_reducible refine g_partI ?_
  | with_reducible refine g_owed ?_
  | with_reducible refine g_cents_owed ?_
  | ((with_reducible refine' g_two ?g1 ?_); (case g1 => assumption))
  | with_reducible refine g_methW ?_
  | with_reducible refine g_seq_try1 ?_
  | with_reducible refine g_seq_asgL ?_
  | with_reducible refine g_seq_asgSub ?_
  | with_reducible refine g_asgSub ?_
  | with_reducible refine g_seq_tryM ?_
  | with_reducible refine g_seq_tryAs ?_
  | with_reducible refine g_callS ?_
  | with_reducible refine g_callE ?_
  | with_reducible refine g_makeW ?_
  | with_reducible refine g_seq_par3 ?_
  | with_reducible refine g_at_by ?_
  | with_reducible refine g_seq_tryTwo ?_
  | with_reducible refine g_seq_while ?_
  | with_reducible refine g_yes ?_
  | ((with_reducible refine' g_repS ?g1 ?g2 ?g3 ?_); (case g1 => (first | omega | (split <;> decide))); (case g2 => (first | omega | (split <;> decide))); (case g3 => decide +kernel))
  | with_reducible refine g_bm0 ?_
  | with_reducible refine g_tyS ?_
  | with_reducible refine g_rOf ?_
  | with_reducible refine g_strS ?_
  | with_reducible refine g_notSign ?_
  | with_reducible refine g_isNR ?_
  | with_reducible refine g_isStr ?_
  | with_reducible refine g_star ?_
  | with_reducible refine g_seq_next ?_
  | with_reducible refine g_next ?_
  | with_reducible refine g_seq_ret ?_
  | with_reducible refine g_ret ?_
  | with_reducible refine g_seq_seq ?_
  | with_reducible refine g_seq_drop ?_
  | with_reducible refine g_drop ?_
  | with_reducible refine g_seq_par ?_
  | with_reducible refine g_par ?_
  | with_reducible refine g_seq_asgT ?_
  | with_reducible refine g_asgT ?_
  | with_reducible refine g_seq_bk ?_
  | with_reducible refine g_bk ?_
  | with_reducible refine g_seq_ct ?_
  | with_reducible refine g_ct ?_
  | with_reducible refine g_max2 ?_
  | with_reducible refine g_intB ?_
  | with_reducible refine g_intI ?_
  | with_reducible refine g_min2 ?_
  | with_reducible refine g_isInt ?_
  | with_reducible refine g_isBool ?_
  | ((with_reducible refine' g_cell ?g1 ?g2 ?_); (case g1 => first | assumption | exact SqL.same (by assumption) (by assumption)); (case g2 => first | decide | omega))
  | with_reducible refine g_whole ?_
  | ((with_reducible refine' g_mixed ?g1 ?_); (case g1 => first | decide | omega))
  | with_reducible refine g_seq_for ?_
  | with_reducible refine g_gn ?_
  | with_reducible refine g_for1 ?_
  | with_reducible refine g_for2 ?_
  | ((with_reducible refine' g_seq_aug ?g1 ?_); (case g1 => (first | (simp only [List.set_cons_succ, List.set_cons_zero]; exact rfl) | exact rfl)))
  | ((with_reducible refine' g_aug ?g1 ?_); (case g1 => (first | (simp only [List.set_cons_succ, List.set_cons_zero]; exact rfl) | exact rfl)))
  | with_reducible refine g_ip ?_
  | with_reducible refine g_iteT' ?_
  | with_reducible refine g_iteF' ?_
  | with_reducible refine g_iteTT ?_
  | with_reducible refine g_iteFF ?_
  | with_reducible refine g_iteNT ?_
  | with_reducible refine g_iteNF ?_)
local macro_rules | `(tactic| walk_at "v") => `(tactic| ((try simp only [List.set_cons_succ, List.set_cons_zero]); repeat walk_at "v1"))
local macro_rules | `(tactic| walk_at "i") => `(tactic| (simp only [cxOf, L2H.cxH, L2.start, List.map_cons, List.map_nil, List.length_cons, List.length_nil, Nat.reduceAdd, Nat.reduceSub, List.replicate_succ, List.replicate_zero, List.cons_append, List.nil_append, List.append_nil]; walk_at "v"))
local macro_rules | `(tactic| walk_at "cut") => `(tactic| (walk_at "v"; refine g_ite (fun hc => ?_) (fun hc => ?_); (walk_at "v"; rw [if_pos hc]; exact ⟨by walk_at "z", rfl⟩); (rw [if_neg hc]; exact ⟨by walk_at "z", rfl⟩)))
local macro_rules | `(tactic| walk_at "cutv") => `(tactic| (refine g_ite (fun hc => ?_) (fun hc => ?_); (walk_at "v"; rw [if_pos hc]; exact ⟨by walk_at "z", rfl⟩); (rw [if_neg hc]; exact ⟨by walk_at "z", rfl⟩)))

section
variable {P : Program} {w : World} {K : PySem.W.Frag} {mg : Str → Option Value} {base : Heap} {A : Ad}

theorem sc_cell_at : FnScope ["_law_script", "_law_k"] ["_law_script", "_law_k"] (defScope s_cell_at) := ⟨rfl, rfl, rfl, by decide +kernel, rfl, by decide +kernel, by decide +kernel⟩
theorem ok_cell_at (T : Txt w K mg A) : FnOk P w K mg base CX0 1 A.a_cell_at A.d_cell_at ["_law_script", "_law_k"] (sp_cell_at K) := by
  refine T.F_cell_at.ok sc_cell_at (fun vs H Q E h => ?_) (fun cdv Ar outer s H vs Q E hr h => ?_)
  · obtain ⟨a, ns, k, rfl, _⟩ := h
    rfl
  ·
    obtain ⟨a, ns, k, rfl, hS, h0, q⟩ := h
    refine ⟨_, (pss_cons (ps_if (pt_cmpR op_lt (pv 1) (pe_callB c_len rfl T.n_len (by decide +kernel) (pa_cons (pv 0) pa_nil)) (nomark _)) (pss_one (ps_ret (pe_ix ix_list (pv 0) (pv 1) (fun _ _ => rfl))))
 pss_nil)
 (pss_one (ps_ret pe_int))), ?_⟩
    walk_at "i"
    refine g_len hS rfl ?_
    rw [List.length_map]
    walk_at "v"
    refine g_ite (fun hc => ?_) (fun hc => ?_)
    · walk_at "v"
      have hk : k.toNat < ns.length := by omega
      refine g_ixL hS (show k = (k.toNat : Int) by omega) (v := .int (ns[k.toNat])) ?_ ?_
      · rw [List.getElem?_map, List.getElem?_eq_getElem hk]; rfl
      · have e : cellAt ns k = ns[k.toNat] := by unfold cellAt; rw [List.getD_eq_getElem?_getD, List.getElem?_eq_getElem hk]; rfl
        rw [e] at q
        exact q
    · walk_at "v"
      have e : cellAt ns k = 0 := by unfold cellAt; rw [List.getD_eq_getElem?_getD, List.getElem?_eq_none (by omega)]; rfl
      rw [e] at q
      exact q
theorem sc_mixed : FnScope ["_law_cell", "_law_many"] ["_law_cell", "_law_many"] (defScope s_mixed) := ⟨rfl, rfl, rfl, by decide +kernel, rfl, by decide +kernel, by decide +kernel⟩
theorem ok_mixed (T : Txt w K mg A) : FnOk P w K mg base CX0 1 A.a_mixed A.d_mixed ["_law_cell", "_law_many"] sp_mixed := by
  refine T.F_mixed.ok sc_mixed (fun vs H Q E h => ?_) (fun cdv Ar outer s H vs Q E hr h => ?_)
  · obtain ⟨c, m, rfl, _⟩ := h
    rfl
  ·
    obtain ⟨c, m, rfl, h0, q⟩ := h
    refine ⟨_, (pss_one (ps_ret (pe_op op_mod (pe_op op_mod (pe_op op_add (pe_op op_mul (pv 0) pe_int) pe_int) pe_int) (pv 1)))), ?_⟩
    walk_at "i"
    exact q
theorem sc_rate_by : FnScope ["_law_cell"] ["_law_cell"] (defScope s_rate_by) := ⟨rfl, rfl, rfl, by decide +kernel, rfl, by decide +kernel, by decide +kernel⟩
theorem ok_rate_by (T : Txt w K mg A) : FnOk P w K mg base CX0 2 A.a_rate_by A.d_rate_by ["_law_cell"] sp_rate_by := by
  refine T.F_rate_by.ok sc_rate_by (fun vs H Q E h => ?_) (fun cdv Ar outer s H vs Q E hr h => ?_)
  · obtain ⟨c, rfl, _⟩ := h
    rfl
  ·
    obtain ⟨c, rfl, q⟩ := h
    refine ⟨_, (pss_cons (ps_if (pt_cmpR op_eq (pe_op op_mod (pv 0) pe_int) pe_int (nomark _)) (pss_one (ps_ret (pe_ix ix_list (pe_lst (pa_cons pe_int (pa_cons pe_int (pa_cons pe_int (pa_cons pe_int pa_nil))))) (pe_op op_mod (pe_op op_fdiv (pv 0) pe_int) pe_int) (fun _ _ => rfl))))
 pss_nil)
 (pss_cons (ps_if (pt_cmpR op_eq (pe_op op_mod (pv 0) pe_int) pe_int (nomark _)) (pss_one (ps_ret (pe_op op_mod (pe_op op_fdiv (pv 0) pe_int) pe_int)))
 pss_nil)
 (pss_one (ps_ret (pe_call (ok_mixed T) (hr.mono (by decide)) rfl T.g_mixed T.F_mixed.kp T.B_mixed .nil pass0 (pa_cons (pv 0) (pa_cons pe_int pa_nil))))))), ?_⟩
    walk_at "i"
    refine g_ite (fun hc => ?_) (fun hc => ?_)
    · walk_at "v"
      refine g_newL (by show 4 ≤ 100; decide) fun p H1 hp s1 h1 => ?_
      walk_at "v"
      have h4 : c / 5 % 4 = 0 ∨ c / 5 % 4 = 1 ∨ c / 5 % 4 = 2 ∨ c / 5 % 4 = 3 := by omega
      have e : rateBy c = [0, 1, 99999, 100000].getD (c / 5 % 4).toNat 0 := by unfold rateBy; rw [if_pos hc]
      have q1 := q H1 s1
      rw [e] at q1
      rcases h4 with h4 | h4 | h4 | h4
      all_goals
        rw [h4] at q1 ⊢
        refine g_ixL (SqL.of h1) rfl rfl ?_
        exact q1
    · walk_at "v"
      refine g_ite (fun hd => ?_) (fun hd => ?_)
      · walk_at "v"
        have e : rateBy c = c / 5 % 400 := by unfold rateBy; rw [if_neg hc, if_pos hd]
        have q1 := q H (Same.refl _)
        rw [e] at q1
        exact q1
      · walk_at "v"
        have e : rateBy c = mixed c 100001 := by unfold rateBy; rw [if_neg hc, if_neg hd]
        have q1 := q H (Same.refl _)
        rw [e] at q1
        exact q1
theorem sc_grown : FnScope ["rates", "start", "end", "total", "untaken", "first", "rate", "before"] ["rates", "start", "end"] (defScope s_grown) := ⟨rfl, rfl, rfl, by decide +kernel, rfl, by decide +kernel, by decide +kernel⟩
theorem ok_grown (T : Txt w K mg A) : FnOk P w K mg base CX0 1 A.a_grown A.d_grown ["rates", "start", "end"] sp_grown := by
  refine T.F_grown.ok sc_grown (fun vs H Q E h => ?_) (fun cdv Ar outer s H vs Q E hr h => ?_)
  · obtain ⟨l, s, e, row, rfl, _⟩ := h
    rfl
  ·
    obtain ⟨l, st, en, row, rfl, ⟨xs, h1, h2⟩, hse, hs, he, q⟩ := h
    refine ⟨_, (pss_cons (ps_set (i := 3) sc_grown.nd rfl (Or.inl rfl) pe_int)
 (pss_cons (ps_set (i := 4) sc_grown.nd rfl (Or.inl rfl) (pv 2))
 (pss_cons (ps_for PassesOwn.never rfl (pi_reversed rfl T.n_reversed (pa_cons (pv 0) pa_nil)) (pg_tup rfl (pgs_cons (pg_name (i := 5) sc_grown.nd rfl (Or.inl rfl)) (pgs_cons (pg_name (i := 6) sc_grown.nd rfl (Or.inl rfl)) pgs_nil)))
 (pss_cons (ps_set (i := 7) sc_grown.nd rfl (Or.inl rfl) (pe_callB (c_max rfl) rfl T.n_max (by decide +kernel) (pa_cons (pv 1) (pa_cons (pe_op op_sub (pv 5) pe_int) pa_nil))))
 (pss_one (ps_if (pt_cmpR op_lt (pv 7) (pv 4) (nomark _)) (pss_cons (ps_aug (i := 3) sc_grown.nd rfl (Or.inl rfl) (pe_op op_mul (pv 6) (pe_op op_sub (pv 4) (pv 7))) ip_add)
 (pss_one (ps_set (i := 4) sc_grown.nd rfl (Or.inl rfl) (pv 7))))
 pss_nil))))
 (pss_one (ps_ret (pv 3)))))), ?_⟩
    walk_at "i"
    have nn := h2.len
    refine g_forRev rfl (SqL.of h1) (fun σ0 i σ' H' => H' = H ∧ ∃ tot un v1 v2 v3, σ' = ((((σ0.set 3 (some (.int tot))).set 4 (some (.int un))).set 5 v1).set 6 v2).set 7 v3 ∧ st ≤ un ∧ un ≤ en ∧ tot + grownF (row.take (row.length - i)) st un = grownF row st en) ?_ (fun i σ' H' ⟨e, _⟩ => by rw [e]; exact SqL.of h1) ?_ ?_
    · exact ⟨rfl, 0, en, none, none, none, by walk_at "z", hse, Int.le_refl _, by rw [Nat.sub_zero, List.take_length, Int.zero_add]⟩
    · rintro i x σ' H' hi hx ⟨rfl, tot, un, v1, v2, v3, rfl, hu1, hu2, ht⟩
      obtain ⟨p, t, hp, rfl, htu⟩ := h2.got hx
      rw [nn] at hi hp
      have e1 : row.length - i = row.length - 1 - i + 1 := by omega
      rw [e1, take_snoc hp, grownF_snoc _ p hu1] at ht
      refine g_unp2 htu ?_
      walk_at "v"
      refine g_ite (fun hc => ?_) (fun hc => ?_)
      · walk_at "v"
        rw [if_pos hc] at ht
        refine ⟨rfl, tot + p.2 * (un - max st (p.1 - 1)), max st (p.1 - 1), _, _, _, by walk_at "z", by omega, by omega, ?_⟩
        rw [show row.length - (i + 1) = row.length - 1 - i by omega]
        omega
      · walk_at "v"
        rw [if_neg hc] at ht
        refine ⟨rfl, tot, un, _, _, _, by walk_at "z", hu1, hu2, ?_⟩
        rw [show row.length - (i + 1) = row.length - 1 - i by omega]
        exact ht
    · rintro σ' H' ⟨rfl, tot, un, v1, v2, v3, rfl, hu1, hu2, ht⟩
      walk_at "v"
      rw [nn, Nat.sub_self, List.take_zero, grownF_nil] at ht
      have e2 : tot = grownF row st en := by omega
      rw [e2]
      exact q

theorem sc_sum_by : FnScope ["_law_row", "_law_start", "_law_end", "_law_total", "_law_k", "_law_days"] ["_law_row", "_law_start", "_law_end"] (defScope s_sum_by) := ⟨rfl, rfl, rfl, by decide +kernel, rfl, by decide +kernel, by decide +kernel⟩
theorem ok_sum_by (T : Txt w K mg A) : FnOk P w K mg base CX0 1 A.a_sum_by A.d_sum_by ["_law_row", "_law_start", "_law_end"] sp_sum_by := by
  refine T.F_sum_by.ok sc_sum_by (fun vs H Q E h => ?_) (fun cdv Ar outer s H vs Q E hr h => ?_)
  · obtain ⟨l, s, e, row, rfl, _⟩ := h
    rfl
  ·
    obtain ⟨l, st, en, row, rfl, hR, ok, hlen, h0, h1, h2, q⟩ := h
    refine ⟨_, (pss_cons (ps_set (i := 3) sc_sum_by.nd rfl (Or.inl rfl) (pe_op op_mul (pe_ix ix_tup (pe_ix ix_list (pv 0) pe_int (fun _ _ => rfl)) pe_int (fun _ _ => rfl)) (pe_op op_sub (pv 2) (pv 1))))
 (pss_cons (ps_for PassesOwn.never rfl (pi_range2 rfl T.n_range (pa_cons pe_int (pa_cons (pe_callB c_len rfl T.n_len (by decide +kernel) (pa_cons (pv 0) pa_nil)) pa_nil))) (pg_name (i := 4) sc_sum_by.nd rfl (Or.inl rfl))
 (pss_cons (ps_set (i := 5) sc_sum_by.nd rfl (Or.inl rfl) (pe_op op_sub (pv 2) (pe_callB (c_max rfl) rfl T.n_max (by decide +kernel) (pa_cons (pv 1) (pa_cons (pe_op op_sub (pe_ix ix_tup (pe_ix ix_list (pv 0) (pv 4) (fun _ _ => rfl)) pe_int (fun _ _ => rfl)) pe_int) pa_nil)))))
 (pss_one (ps_if (pt_cmpR op_gt (pv 5) pe_int (nomark _)) (pss_one (ps_set (i := 3) sc_sum_by.nd rfl (Or.inl rfl) (pe_op op_add (pv 3) (pe_op op_mul (pe_op op_sub (pe_ix ix_tup (pe_ix ix_list (pv 0) (pv 4) (fun _ _ => rfl)) pe_int (fun _ _ => rfl)) (pe_ix ix_tup (pe_ix ix_list (pv 0) (pe_op op_sub (pv 4) pe_int) (fun _ _ => rfl)) pe_int (fun _ _ => rfl))) (pv 5)))))
 pss_nil))))
 (pss_one (ps_ret (pv 3))))), ?_⟩
    obtain ⟨r0, h00⟩ := row_0 ok
    have pos := ok.pos
    walk_at "i"
    refine g_ixRow hR (j := 0) rfl h00 fun t2 ht2 => ?_
    walk_at "v"
    refine g_ixT (j := 1) ht2 rfl ?_
    walk_at "v"
    refine g_lenRow hR rfl ?_
    refine g_rg2 ⟨by decide, by decide, by omega, by omega⟩ (fun σ0 i σ' H' => H' = H ∧ ∃ v1 v2, σ' = ((σ0.set 3 (some (.int (grownF (row.take (i + 1)) st en)))).set 4 v1).set 5 v2) ?_ ?_ ?_
    · refine ⟨rfl, none, none, ?_⟩
      rw [take_snoc h00, List.take_zero, List.nil_append, grownF_one h0 h1]
      all_goals (try walk_at "z")
    · rintro i σ' H' hi ⟨rfl, v1, v2, rfl⟩
      have hi2 : i + 1 < row.length := by omega
      have e1 : (1 : Int) + (i : Int) = ((i + 1 : Nat) : Int) := by omega
      have e2 : (1 : Int) + (i : Int) - 1 = (i : Int) := by omega
      obtain ⟨d1, r1, hd1, -⟩ := row_at (row := row) (i := ((i + 1 : Nat) : Int)) (by omega) (by omega)
      obtain ⟨d2, r2, hd2, -⟩ := row_at (row := row) (i := (i : Int)) (by omega) (by omega)
      rw [Int.toNat_natCast] at hd1 hd2
      have step := grownF_take ok hd2 hd1 h1
      walk_at "v"
      refine g_ixRow hR e1 hd1 fun t3 ht3 => ?_
      walk_at "v"
      refine g_ixT (j := 0) ht3 rfl ?_
      walk_at "v"
      refine g_ite (fun hc => ?_) (fun hc => ?_)
      · walk_at "v"
        refine g_ixRow hR e1 hd1 fun t4 ht4 => ?_
        walk_at "v"
        refine g_ixT (j := 1) ht4 rfl ?_
        walk_at "v"
        refine g_ixRow hR e2 hd2 fun t5 ht5 => ?_
        walk_at "v"
        refine g_ixT (j := 1) ht5 rfl ?_
        walk_at "v"
        rw [if_pos hc] at step
        refine ⟨rfl, some (.int (1 + (i : Int))), some (.int (en - max st (d1 - 1))), ?_⟩
        rw [step]
        all_goals (try walk_at "z")
      · walk_at "v"
        rw [if_neg hc] at step
        refine ⟨rfl, some (.int (1 + (i : Int))), some (.int (en - max st (d1 - 1))), ?_⟩
        rw [step]
        all_goals (try walk_at "z")
    · rintro σ' H' ⟨rfl, v1, v2, rfl⟩
      walk_at "v"
      have e3 : row.take (((row.length : Int) - 1).toNat + 1) = row := List.take_of_length_le (by omega)
      rw [e3]
      exact q

theorem sc_check_day : FnScope ["day", "first"] ["day", "first"] (defScope s_check_day) := ⟨rfl, rfl, rfl, by decide +kernel, rfl, by decide +kernel, by decide +kernel⟩
theorem ok_check_day (T : Txt w K mg A) : FnOk P w K mg base (L2.CX P w) 1 A.a_check_day A.d_check_day ["day", "first"] (sp_check_day A.c_BadDay) := by
  refine T.F_check_day.okX sc_check_day (fun vs H Q E h => ?_) (fun cdv Ar outer s H vs Q E hr h => ?_)
  · obtain ⟨d, f, rfl, _⟩ := h
    rfl
  ·
    obtain ⟨d, f, rfl, hf0, hf1, q1, q2⟩ := h
    refine ⟨_, (pss_one (ps_if (PW.pt (pw_or (pt_cmpR op_lt (pv 0) (pv 1) (nomark _)) (pw_or1 (pt_cmpR op_gt (pv 0) (pe_glob (v := .int 100000) rfl T.g_LAST_DAY ⟨A.t_LAST_DAY, rfl⟩) (nomark _))))) (pss_one (ps_rz rfl (takes_of rfl rfl rfl rfl) T.x_BadDay T.g_BadDay T.k_BadDay (raises_own T.b_BadDay T.t_BadDay) rfl (pa_cons (pe_fs (.cons pe_str (.cons (pe_fmt (pv 1)) (.cons pe_str (.cons (pe_fmt (pe_glob (v := .int 100000) rfl T.g_LAST_DAY ⟨A.t_LAST_DAY, rfl⟩)) .nil))))) pa_nil)))
 pss_nil)), ?_⟩
    walk_at "i"
    refine g_ite (fun hc => ?_) (fun hc => ?_)
    · walk_at "v"
      exact q1 (.inl hc)
    · walk_at "v"
      refine g_ite (fun hc2 => ?_) (fun hc2 => ?_)
      · walk_at "v"
        exact q1 (.inr hc2)
      · walk_at "v"
        exact q2 (by omega)
theorem sc_check_pair : FnScope ["day", "rate", "ahead"] ["day", "rate", "ahead"] (defScope s_check_pair) := ⟨rfl, rfl, rfl, by decide +kernel, rfl, by decide +kernel, by decide +kernel⟩
theorem ok_check_pair (T : Txt w K mg A) : FnOk P w K mg base (L2.CX P w) 2 A.a_check_pair A.d_check_pair ["day", "rate", "ahead"] (sp_check_pair A.c_BadDay A.c_BadRate) := by
  refine T.F_check_pair.okX sc_check_pair (fun vs H Q E h => ?_) (fun cdv Ar outer s H vs Q E hr h => ?_)
  · obtain ⟨d, r, a, rfl, _⟩ := h
    rfl
  ·
    obtain ⟨d, r, a, rfl, ha0, ha1, q1, q2⟩ := h
    refine ⟨_, (pss_cons (ps_expr (pe_call (ok_check_day T) (hr.mono (by decide)) rfl T.g_check_day T.F_check_day.kp T.B_check_day .nil (passes_call (takes_of rfl rfl rfl rfl) fun _ _ _ _ h => h) (pa_cons (pv 0) (pa_cons (pe_op op_add (pv 2) pe_int) pa_nil))))
 (pss_one (ps_if (PW.pt (pw_or (pt_cmpR op_lt (pv 1) pe_int (nomark _)) (pw_or1 (pt_cmpR op_gt (pv 1) (pe_glob (v := .int 100000) rfl T.g_HIGHEST_RATE ⟨A.t_HIGHEST_RATE, rfl⟩) (nomark _))))) (pss_one (ps_rz rfl (takes_of rfl rfl rfl rfl) T.x_BadRate T.g_BadRate T.k_BadRate (raises_own T.b_BadRate T.t_BadRate) rfl (pa_cons (pe_fs (.cons pe_str (.cons (pe_fmt (pe_glob (v := .int 100000) rfl T.g_HIGHEST_RATE ⟨A.t_HIGHEST_RATE, rfl⟩)) .nil))) pa_nil)))
 pss_nil))), ?_⟩
    walk_at "i"
    refine g_check_day (by omega) (by omega) (fun hc => q1 (by omega)) (fun hc => ?_)
    have q3 := q2 (by omega)
    walk_at "v"
    refine g_ite (fun hc3 => ?_) (fun hc3 => ?_)
    · walk_at "v"
      exact q3.1 (.inl hc3)
    · walk_at "v"
      refine g_ite (fun hc4 => ?_) (fun hc4 => ?_)
      · walk_at "v"
        exact q3.1 (.inr hc4)
      · walk_at "v"
        exact q3.2 (by omega)
theorem sc_checked : FnScope ["rates", "ahead", "day", "rate"] ["rates"] (defScope s_checked) := ⟨rfl, rfl, rfl, by decide +kernel, rfl, by decide +kernel, by decide +kernel⟩
theorem ok_checked (T : Txt w K mg A) : FnOk P w K mg base (L2.CX P w) 3 A.a_checked A.d_checked ["rates"] (sp_checked A.c_BadDay A.c_BadRate) := by
  refine T.F_checked.okX sc_checked (fun vs H Q E h => ?_) (fun cdv Ar outer s H vs Q E hr h => ?_)
  · obtain ⟨l, row, rfl, _⟩ := h
    rfl
  ·
    obtain ⟨l, row, rfl, hR, hlen, q1, q2, q3⟩ := h
    refine ⟨_, (pss_cons (ps_if (PW.pt (pw_or (pt_cmpR op_eq (pe_callB c_len rfl T.n_len (by decide +kernel) (pa_cons (pv 0) pa_nil)) pe_int (nomark _)) (pw_or1 (pt_cmpR op_ne (pe_ix ix_tup (pe_ix ix_list (pv 0) pe_int (fun _ _ => rfl)) pe_int (fun _ _ => rfl)) pe_int (nomark _))))) (pss_one (ps_rz rfl (takes_of rfl rfl rfl rfl) T.x_BadDay T.g_BadDay T.k_BadDay (raises_own T.b_BadDay T.t_BadDay) rfl (pa_cons pe_str pa_nil)))
 pss_nil)
 (pss_cons (ps_set (i := 1) sc_checked.nd rfl (Or.inl rfl) (pe_un un_neg pe_int))
 (pss_cons (ps_for (passes_of rfl) rfl (pi_list (pv 0)) (pg_tup rfl (pgs_cons (pg_name (i := 2) sc_checked.nd rfl (Or.inl rfl)) (pgs_cons (pg_name (i := 3) sc_checked.nd rfl (Or.inl rfl)) pgs_nil)))
 (pss_cons (ps_expr (pe_call (ok_check_pair T) (hr.mono (by decide)) rfl T.g_check_pair T.F_check_pair.kp T.B_check_pair .nil (passes_call (takes_of rfl rfl rfl rfl) fun _ _ _ _ h => h) (pa_cons (pv 2) (pa_cons (pv 3) (pa_cons (pv 1) pa_nil)))))
 (pss_one (ps_set (i := 1) sc_checked.nd rfl (Or.inl rfl) (pv 2)))))
 (pss_one (ps_ret (pe_callTy c_list rfl T.n_list (by decide +kernel) (pa_cons (pv 0) pa_nil))))))), ?_⟩
    walk_at "i"
    refine g_lenRow hR rfl ?_
    walk_at "v"
    refine g_ite (fun hc => ?_) (fun hc => ?_)
    · walk_at "v"
      refine q1 ?_
      have e : row = [] := List.length_eq_zero_iff.mp (by omega)
      rw [e]; rfl
    · walk_at "v"
      obtain ⟨d0, r0, t0, er⟩ : ∃ d0 r0 t0, row = (d0, r0) :: t0 := by
        cases row with
        | nil => exact absurd rfl hc
        | cons p t => exact ⟨p.1, p.2, t, rfl⟩
      have h00 : row[0]? = some (d0, r0) := by rw [er]; rfl
      refine g_ixRow hR (j := 0) rfl h00 fun t1 ht1 => ?_
      walk_at "v"
      refine g_ixT (j := 0) ht1 rfl ?_
      walk_at "v"
      refine g_ite (fun hc2 => ?_) (fun hc2 => ?_)
      · walk_at "v"
        refine q1 ?_
        rw [er]; show (if d0 ≠ 0 then some true else _) = _
        rw [if_pos hc2]
      · walk_at "v"
        have e0 : checkF row = chk (-1) row := by
          rw [er]; show (if d0 ≠ 0 then some true else _) = _
          rw [if_neg hc2]
        obtain ⟨xs, h1, h2⟩ := id hR
        refine g_forL rfl (SqL.of h1) (fun σ0 i σ' H' => H' = H ∧ ∃ a v1 v2, σ' = ((σ0.set 1 (some (.int a))).set 2 v1).set 3 v2 ∧ -1 ≤ a ∧ a ≤ 100000 ∧ checkF row = chk a (row.drop i)) ⟨rfl, -1, none, none, by walk_at "z", by decide, by decide, e0⟩ (fun i σ' H' _ ⟨e, _⟩ => by rw [e]; exact SqL.of h1) ?_ ?_
        · rintro i x σ' H' hx ⟨rfl, a, v1, v2, rfl, b0, b1, ec⟩
          obtain ⟨p, t, hp, rfl, ht⟩ := h2.got hx
          have ed : row.drop i = p :: row.drop (i + 1) := by
            obtain ⟨hl, e⟩ := List.getElem?_eq_some_iff.mp hp
            rw [List.drop_eq_getElem_cons hl, e]
          obtain ⟨d, r⟩ := p
          rw [ed, chk] at ec
          refine g_unp2 ht ?_
          walk_at "v"
          refine ⟨d, r, a, rfl, by omega, by omega, fun hb => ?_, fun hb => ⟨fun hr => ?_, fun hr => ?_⟩⟩
          · rw [if_pos hb] at ec
            exact q1 ec
          · rw [if_neg hb, if_pos hr] at ec
            exact q2 ec
          · rw [if_neg hb, if_neg hr] at ec
            walk_at "v"
            refine ⟨rfl, d, some (.int d), some (.int r), by walk_at "z", by omega, by omega, ec⟩
        · rintro σ' H' ⟨rfl, a, v1, v2, rfl, b0, b1, ec⟩
          rw [h2.len, List.drop_length] at ec
          walk_at "v"
          exact g_listOf hR fun l' H' hl s hr => q3 ec l' H' hl s hr
theorem sc_Loan_init : FnScope ["self", "amount", "rates"] ["self", "amount", "rates"] (defScope s_Loan_init) := ⟨rfl, rfl, rfl, by decide +kernel, rfl, by decide +kernel, by decide +kernel⟩
theorem ok_Loan_init (T : Txt w K mg A) : FnOk P w K mg base (L2.CX P w) 4 A.a_Loan_init A.d_Loan_init ["self", "amount", "rates"] (sp_init A.c_Loan A.c_BadAmount A.c_BadDay A.c_BadRate) := by
  refine T.F_Loan_init.okX sc_Loan_init (fun vs H Q E h => ?_) (fun cdv Ar outer s H vs Q E hr h => ?_)
  · obtain ⟨x, a, l, dx, row, rfl, _⟩ := h
    rfl
  ·
    obtain ⟨x, a, l, dx, row, rfl, hx, hR, hlen, q1, q2⟩ := h
    have cL := T.C_Loan
    have n1 := T.na_left
    have n2 := T.na_begun
    have n3 := T.na_day
    have n4 := T.na_rates
    refine ⟨_, (pss_cons (ps_if (PW.pt (pw_or (pt_cmpR op_lt (pv 1) pe_int (nomark _)) (pw_or1 (pt_cmpR op_gt (pv 1) (pe_glob (v := .int 1000000000000) rfl T.g_HIGHEST_AMOUNT ⟨A.t_HIGHEST_AMOUNT, rfl⟩) (nomark _))))) (pss_one (ps_rz rfl (takes_of rfl rfl rfl rfl) T.x_BadAmount T.g_BadAmount T.k_BadAmount (raises_own T.b_BadAmount T.t_BadAmount) rfl (pa_cons (pe_fs (.cons pe_str (.cons (pe_fmt (pe_glob (v := .int 1000000000000) rfl T.g_HIGHEST_AMOUNT ⟨A.t_HIGHEST_AMOUNT, rfl⟩)) (.cons pe_str .nil)))) pa_nil)))
 pss_nil)
 (pss_cons (ps_fld (pv 0) (pv 1) rfl)
 (pss_cons (ps_fld (pv 0) pe_int rfl)
 (pss_cons (ps_fld (pv 0) pe_int rfl)
 (pss_one (ps_fld (pv 0) (pe_call (ok_checked T) (hr.mono (by decide)) rfl T.g_checked T.F_checked.kp T.B_checked .nil (passes_call (takes_of rfl rfl rfl rfl) fun _ _ _ _ h => h) (pa_cons (pv 2) pa_nil)) rfl)))))), ?_⟩
    walk_at "i"
    refine g_ite (fun hc => ?_) (fun hc => ?_)
    · walk_at "v"
      exact q1 (.inl hc)
    · walk_at "v"
      refine g_ite (fun hc2 => ?_) (fun hc2 => ?_)
      · walk_at "v"
        exact q1 (.inr hc2)
      · obtain ⟨k1, k2, k3⟩ := q2 (by omega)
        walk_at "v"
        have hlx : l ≠ x := by
          obtain ⟨xs, e, _⟩ := hR
          exact ne_of e hx (by intro z; cases z)
        refine g_sf hx cL n1 (by show 0 < 1000; decide) fun H1 b1 hx1 => ?_
        walk_at "v"
        refine g_sf hx1 cL n2 (by show 1 < 1000; decide) fun H2 b2 hx2 => ?_
        walk_at "v"
        refine g_sf hx2 cL n3 (by show 2 < 1000; decide) fun H3 b3 hx3 => ?_
        have b4 := (b1.trans b2).trans b3
        have notT : ∀ ps, H x ≠ some (.tup ps) := fun ps e => by rw [hx] at e; cases e
        have hR3 := hR.but b4 hlx notT
        walk_at "v"
        refine ⟨l, row, rfl, hR3, hlen, fun e => k1 e H3 b4, fun e => k2 e H3 b4, fun e l' H4 hl' s4 hR4 => ?_⟩
        walk_at "v"
        refine g_sf (s4 _ _ hx3) cL n4 (by show 3 < 1000; decide) fun H5 b5 hx5 => ?_
        have hl'x : l' ≠ x := fun z => by rw [z, hx3] at hl'; cases hl'
        refine k3 e l' H5 ?_ ((b4.trans (But.same s4)).trans b5) ?_ ?_
        · cases e2 : H l' with
          | none => rfl
          | some o => rw [b4 _ _ hl'x e2] at hl'; cases hl'
        · rw [hx5]
          rw [put_all]
        · exact hR4.but b5 hl'x (fun ps e => by rw [s4 _ _ hx3] at e; cases e)
theorem sc_cents_owed : FnScope ["left", "begun"] ["left", "begun"] (defScope s_cents_owed) := ⟨rfl, rfl, rfl, by decide +kernel, rfl, by decide +kernel, by decide +kernel⟩
theorem ok_cents_owed (T : Txt w K mg A) : FnOk P w K mg base CX0 1 A.a_cents_owed A.d_cents_owed ["left", "begun"] sp_cents_owed := by
  refine T.F_cents_owed.ok sc_cents_owed (fun vs H Q E h => ?_) (fun cdv Ar outer s H vs Q E hr h => ?_)
  · obtain ⟨l, b, rfl, _⟩ := h
    rfl
  ·
    obtain ⟨l, b, rfl, q⟩ := h
    refine ⟨_, (pss_one (ps_ret (pe_op op_add (pv 0) (pe_op op_fdiv (pe_op op_sub (pe_op op_add (pv 1) (pe_glob (v := .int 1000000) rfl T.g_MILLION ⟨A.t_MILLION, rfl⟩)) pe_int) (pe_glob (v := .int 1000000) rfl T.g_MILLION ⟨A.t_MILLION, rfl⟩))))), ?_⟩
    walk_at "i"
    rw [← owedF_eq] at q
    exact q
theorem sc_paid_down : FnScope ["left", "begun", "cents", "interest"] ["left", "begun", "cents"] (defScope s_paid_down) := ⟨rfl, rfl, rfl, by decide +kernel, rfl, by decide +kernel, by decide +kernel⟩
theorem ok_paid_down (T : Txt w K mg A) : FnOk P w K mg base CX0 2 A.a_paid_down A.d_paid_down ["left", "begun", "cents"] sp_paid_down := by
  refine T.F_paid_down.ok sc_paid_down (fun vs H Q E h => ?_) (fun cdv Ar outer s H vs Q E hr h => ?_)
  · obtain ⟨l, b, c, rfl, _⟩ := h
    rfl
  ·
    obtain ⟨l, b, c, rfl, q⟩ := h
    refine ⟨_, (pss_cons (ps_if (pt_cmpR op_eq (pv 2) (pe_call (ok_cents_owed T) (hr.mono (by decide)) rfl T.g_cents_owed T.F_cents_owed.kp T.B_cents_owed .nil pass0 (pa_cons (pv 0) (pa_cons (pv 1) pa_nil))) (nomark _)) (pss_one (ps_ret (pe_tup (pa_cons pe_int (pa_cons pe_int pa_nil)))))
 pss_nil)
 (pss_cons (ps_set (i := 3) sc_paid_down.nd rfl (Or.inl rfl) (pe_callB (c_min rfl) rfl T.n_min (by decide +kernel) (pa_cons (pv 2) (pa_cons (pe_op op_fdiv (pv 1) (pe_glob (v := .int 1000000) rfl T.g_MILLION ⟨A.t_MILLION, rfl⟩)) pa_nil))))
 (pss_one (ps_ret (pe_tup (pa_cons (pe_op op_sub (pv 0) (pe_op op_sub (pv 2) (pv 3))) (pa_cons (pe_op op_sub (pv 1) (pe_op op_mul (pv 3) (pe_glob (v := .int 1000000) rfl T.g_MILLION ⟨A.t_MILLION, rfl⟩))) pa_nil))))))), ?_⟩
    walk_at "i"
    refine g_ite (fun hc => ?_) (fun hc => ?_)
    · walk_at "v"
      refine g_newT (by simp) fun t H1 ht s1 h1 => ?_
      have e1 : pLeft l b c = 0 := by unfold pLeft; rw [if_pos hc]
      have e2 : pBegun l b c = 0 := by unfold pBegun; rw [if_pos hc]
      rw [e1, e2] at q
      exact q t H1 ht s1 h1
    · walk_at "v"
      refine g_newT (by simp) fun t H1 ht s1 h1 => ?_
      have e1 : pLeft l b c = l - (c - min c (b / 1000000)) := by unfold pLeft; rw [if_neg hc]
      have e2 : pBegun l b c = b - min c (b / 1000000) * 1000000 := by unfold pBegun; rw [if_neg hc]; omega
      rw [e1, e2] at q
      exact q t H1 ht s1 h1
theorem sc_Loan_stand : FnScope ["self", "day"] ["self", "day"] (defScope s_Loan_stand) := ⟨rfl, rfl, rfl, by decide +kernel, rfl, by decide +kernel, by decide +kernel⟩
theorem ok_Loan_stand (T : Txt w K mg A) : FnOk P w K mg base (L2.CX P w) 2 A.a_Loan_stand A.d_Loan_stand ["self", "day"] (sp_stand A.c_Loan A.c_BadDay) := by
  refine T.F_Loan_stand.okX sc_Loan_stand (fun vs H Q E h => ?_) (fun cdv Ar outer s H vs Q E hr h => ?_)
  · obtain ⟨x, D, l, b, d, r, row, rfl, _⟩ := h
    rfl
  ·
    obtain ⟨x, D, l, b, d, r, row, rfl, ⟨⟨dx, hx⟩, hR⟩, nk, q1, q2⟩ := h
    obtain ⟨nl0, nl1, nb0, nb1, nd0, nd1⟩ := nk
    have cL := T.C_Loan
    have n1 := T.na_left
    have n2 := T.na_begun
    have n3 := T.na_day
    have n4 := T.na_rates
    refine ⟨_, (pss_cons (ps_expr (pe_call (ok_check_day T) (hr.mono (by decide)) rfl T.g_check_day T.F_check_day.kp T.B_check_day .nil (passes_call (takes_of rfl rfl rfl rfl) fun _ _ _ _ h => h) (pa_cons (pv 1) (pa_cons (pe_fld (pv 0) rfl) pa_nil))))
 (pss_one (ps_ret (pe_tup (pa_cons (pe_fld (pv 0) rfl) (pa_cons (pe_op op_add (pe_fld (pv 0) rfl) (pe_op op_mul (pe_fld (pv 0) rfl) (pe_call (ok_grown T) (hr.mono (by decide)) rfl T.g_grown T.F_grown.kp T.B_grown .nil pass0 (pa_cons (pe_fld (pv 0) rfl) (pa_cons (pe_fld (pv 0) rfl) (pa_cons (pv 1) pa_nil)))))) pa_nil)))))), ?_⟩
    walk_at "i"
    refine g_check_day (by omega) (by omega) q1 (fun hc => ?_)
    have q3 := q2 hc
    walk_at "v"
    refine g_grown hR (by omega) (by omega) (by omega) ?_
    walk_at "v"
    refine g_newT (by simp) fun t H1 ht s1 h1 => ?_
    exact q3 t H1 ht s1 h1
theorem sc_Loan_owed : FnScope ["self", "day", "left", "begun"] ["self", "day"] (defScope s_Loan_owed) := ⟨rfl, rfl, rfl, by decide +kernel, rfl, by decide +kernel, by decide +kernel⟩
theorem ok_Loan_owed (T : Txt w K mg A) : FnOk P w K mg base (L2.CX P w) 3 A.a_Loan_owed A.d_Loan_owed ["self", "day"] (sp_owedL A.c_Loan A.c_BadDay) := by
  refine T.F_Loan_owed.okX sc_Loan_owed (fun vs H Q E h => ?_) (fun cdv Ar outer s H vs Q E hr h => ?_)
  · obtain ⟨x, D, l, b, d, r, row, rfl, _⟩ := h
    rfl
  ·
    obtain ⟨x, D, l, b, d, r, row, rfl, hL, nk, q1, q2⟩ := h
    obtain ⟨⟨dx, hx⟩, hR⟩ := id hL
    refine ⟨_, (pss_cons (ps_asg (pe_meth (pv 0) T.C_Loan T.m_Loan_stand (ok_Loan_stand T) (hr.mono (by decide)) T.B_Loan_stand .nil (passes_call (takes_of rfl rfl rfl rfl) fun _ _ _ _ h => h) (pa_cons (pv 1) pa_nil)) (pg_tup rfl (pgs_cons (pg_name (i := 2) sc_Loan_owed.nd rfl (Or.inl rfl)) (pgs_cons (pg_name (i := 3) sc_Loan_owed.nd rfl (Or.inl rfl)) pgs_nil))))
 (pss_one (ps_ret (pe_call (ok_cents_owed T) (hr.mono (by decide)) rfl T.g_cents_owed T.F_cents_owed.kp T.B_cents_owed .nil pass0 (pa_cons (pv 2) (pa_cons (pv 3) pa_nil)))))), ?_⟩
    walk_at "i"
    refine ⟨x, D, l, b, d, r, row, rfl, hL, nk, q1, fun hb t H1 ht s1 h1 => ?_⟩
    walk_at "v"
    refine g_unp2 h1 ?_
    walk_at "v"
    exact q2 hb H1 s1
theorem sc_Loan_pay : FnScope ["self", "day", "cents", "left", "begun", "owed", "off"] ["self", "day", "cents"] (defScope s_Loan_pay) := ⟨rfl, rfl, rfl, by decide +kernel, rfl, by decide +kernel, by decide +kernel⟩
theorem ok_Loan_pay (T : Txt w K mg A) : FnOk P w K mg base (L2.CX P w) 3 A.a_Loan_pay A.d_Loan_pay ["self", "day", "cents"] (sp_pay A.c_Loan A.c_BadDay A.c_BadPay) := by
  refine T.F_Loan_pay.okX sc_Loan_pay (fun vs H Q E h => ?_) (fun cdv Ar outer s H vs Q E hr h => ?_)
  · obtain ⟨x, D, c, l, b, d, r, row, rfl, _⟩ := h
    rfl
  ·
    obtain ⟨x, D, c, l, b, d, r, row, rfl, hL, nk, hro, q1, q2⟩ := h
    obtain ⟨⟨dx, hx⟩, hR⟩ := id hL
    have cL := T.C_Loan
    have n1 := T.na_left
    have n2 := T.na_begun
    have n3 := T.na_day
    have n4 := T.na_rates
    refine ⟨_, (pss_cons (ps_asg (pe_meth (pv 0) T.C_Loan T.m_Loan_stand (ok_Loan_stand T) (hr.mono (by decide)) T.B_Loan_stand .nil (passes_call (takes_of rfl rfl rfl rfl) fun _ _ _ _ h => h) (pa_cons (pv 1) pa_nil)) (pg_tup rfl (pgs_cons (pg_name (i := 3) sc_Loan_pay.nd rfl (Or.inl rfl)) (pgs_cons (pg_name (i := 4) sc_Loan_pay.nd rfl (Or.inl rfl)) pgs_nil))))
 (pss_cons (ps_set (i := 5) sc_Loan_pay.nd rfl (Or.inl rfl) (pe_call (ok_cents_owed T) (hr.mono (by decide)) rfl T.g_cents_owed T.F_cents_owed.kp T.B_cents_owed .nil pass0 (pa_cons (pv 3) (pa_cons (pv 4) pa_nil))))
 (pss_cons (ps_if (PW.pt (pw_or (pt_cmpR op_lt (pv 2) pe_int (nomark _)) (pw_or1 (pt_cmpR op_gt (pv 2) (pv 5) (nomark _))))) (pss_one (ps_rz rfl (takes_of rfl rfl rfl rfl) T.x_BadPay T.g_BadPay T.k_BadPay (raises_own T.b_BadPay T.t_BadPay) rfl (pa_cons (pe_fs (.cons pe_str (.cons (pe_fmt (pv 5)) (.cons pe_str .nil)))) pa_nil)))
 pss_nil)
 (pss_cons (ps_asg (pe_call (ok_paid_down T) (hr.mono (by decide)) rfl T.g_paid_down T.F_paid_down.kp T.B_paid_down .nil pass0 (pa_cons (pv 3) (pa_cons (pv 4) (pa_cons (pv 2) pa_nil)))) (pg_tup rfl (pgs_cons (pg_fld (pv 0)) (pgs_cons (pg_fld (pv 0)) pgs_nil))))
 (pss_cons (ps_fld (pv 0) (pv 1) rfl)
 (pss_cons (ps_set (i := 6) sc_Loan_pay.nd rfl (Or.inl rfl) (pe_op op_sub (pv 3) (pe_fld (pv 0) rfl)))
 (pss_one (ps_ret (pe_tup (pa_cons (pe_op op_sub (pv 2) (pv 6)) (pa_cons (pv 6) pa_nil))))))))))), ?_⟩
    walk_at "i"
    refine ⟨x, D, l, b, d, r, row, rfl, hL, nk, q1, fun hb t H1 ht s1 h1 => ?_⟩
    obtain ⟨q3, q4⟩ := q2 hb
    have nw := nk.walk hro (D := D) (by omega) (by omega)
    obtain ⟨wl0, wl1, wb0, wb1, wd0, wd1⟩ := nw
    generalize hB : thenF l b d row D = B at *
    have ob : owedF l B ≤ 10 ^ 60 ∧ -(10 ^ 60) ≤ owedF l B := by unfold owedF; omega
    have hx1 := s1 _ _ hx
    walk_at "v"
    refine g_unp2 h1 ?_
    walk_at "v"
    refine g_ite (fun hc => ?_) (fun hc => ?_)
    · walk_at "v"
      exact q3 (.inl hc) H1 s1
    · walk_at "v"
      refine g_ite (fun hc2 => ?_) (fun hc2 => ?_)
      · walk_at "v"
        exact q3 (.inr hc2) H1 s1
      · have q5 := q4 (by omega)
        walk_at "v"
        refine g_paid_down fun t2 H2 ht2 s2' h2 => ?_
        have s2 := s1.trans s2'
        have hx2 := s2 _ _ hx
        walk_at "v"
        refine g_unpF h2 ?_
        walk_at "v"
        refine g_sf hx2 cL n1 fl_len fun H3 b3 hx3 => ?_
        rw [put_left] at hx3
        refine g_lastF ?_
        walk_at "v"
        refine g_sf hx3 cL n2 fl_len fun H4 b4 hx4 => ⟨by trivial, ?_⟩
        rw [put_begun] at hx4
        walk_at "v"
        refine g_sf hx4 cL n3 fl_len fun H5 b5 hx5 => ?_
        rw [put_day] at hx5
        walk_at "v"
        refine g_newT (by simp) fun t6 H6 ht6 s6 h6 => ?_
        have bt := (((But.same s2).trans b3).trans b4).trans b5
        have btx := bt.trans (But.same s6)
        have ht0 : t6 ≠ x := fun z => by rw [z, hx5] at ht6; cases ht6
        have hrx : r ≠ x := by
          obtain ⟨xs, e, _⟩ := hR
          exact ne_of e hx (by intro z; cases z)
        have fresh : H t6 = none := by
          cases e2 : H t6 with
          | none => rfl
          | some o => rw [bt _ _ ht0 e2] at ht6; cases ht6
        have hR6 := hR.but btx hrx (fun ps e => by rw [hx] at e; cases e)
        have hx6 := s6 _ _ hx5
        have e0 := pSum l B c
        have e1 := pLeft_off l B c
        have e3 : pInt l B c = c - (l - pLeft l B c) := by omega
        have e4 : pOff l B c = l - pLeft l B c := by omega
        rw [e3, e4] at q5
        exact q5 t6 H6 fresh btx ⟨⟨dx, hx6⟩, hR6⟩ h6
theorem sc_Loan_change : FnScope ["self", "day", "rate"] ["self", "day", "rate"] (defScope s_Loan_change) := ⟨rfl, rfl, rfl, by decide +kernel, rfl, by decide +kernel, by decide +kernel⟩
theorem ok_Loan_change (T : Txt w K mg A) : FnOk P w K mg base (L2.CX P w) 3 A.a_Loan_change A.d_Loan_change ["self", "day", "rate"] (sp_change A.c_Loan A.c_BadDay A.c_BadRate) := by
  refine T.F_Loan_change.okX sc_Loan_change (fun vs H Q E h => ?_) (fun cdv Ar outer s H vs Q E hr h => ?_)
  · obtain ⟨x, D, rt, l, b, d, r, row, rfl, _⟩ := h
    rfl
  ·
    obtain ⟨x, D, rt, l, b, d, r, row, rfl, hL, nk, hne, hlen, hld, q1, q2⟩ := h
    obtain ⟨⟨dx, hx⟩, hR⟩ := id hL
    obtain ⟨nl0, nl1, nb0, nb1, nd0, nd1⟩ := nk
    have cL := T.C_Loan
    have n1 := T.na_left
    have n2 := T.na_begun
    have n3 := T.na_day
    have n4 := T.na_rates
    obtain ⟨ld, lr, hlast⟩ : ∃ ld lr, row.getLast? = some (ld, lr) := by
      rcases List.eq_nil_or_concat row with e | ⟨ys, p, e⟩
      · exact absurd e hne
      · exact ⟨p.1, p.2, by rw [e, List.concat_eq_append, last_snoc]⟩
    have eld : lastDay row = ld := by unfold lastDay; rw [hlast]; rfl
    rw [eld] at q1 q2 hld
    refine ⟨_, (pss_cons (ps_expr (pe_call (ok_check_pair T) (hr.mono (by decide)) rfl T.g_check_pair T.F_check_pair.kp T.B_check_pair .nil (passes_call (takes_of rfl rfl rfl rfl) fun _ _ _ _ h => h) (pa_cons (pv 1) (pa_cons (pv 2) (pa_cons (pe_callB (c_max rfl) rfl T.n_max (by decide +kernel) (pa_cons (pe_fld (pv 0) rfl) (pa_cons (pe_ix ix_tup (pe_ix ix_list (pe_fld (pv 0) rfl) (pe_un un_neg pe_int) (fun _ _ => rfl)) pe_int (fun _ _ => rfl)) pa_nil))) pa_nil)))))
 (pss_one (ps_fld (pv 0) (pe_op op_cat (pe_fld (pv 0) rfl) (pe_lst (pa_cons (pe_tup (pa_cons (pv 1) (pa_cons (pv 2) pa_nil))) pa_nil))) rfl))), ?_⟩
    walk_at "i"
    refine g_ixLast hR rfl hlast fun t0 ht0 => ?_
    walk_at "v"
    refine g_ixT (j := 0) ht0 rfl ?_
    walk_at "v"
    refine ⟨D, rt, max d ld, rfl, by omega, by omega, q1, fun hb => ⟨(q2 hb).1, fun hb2 => ?_⟩⟩
    have q3 := (q2 hb).2 hb2
    walk_at "v"
    refine g_newT (by simp) fun t1 H1 ht1 s1 h1 => ?_
    walk_at "v"
    refine g_newL (by simp) fun l2 H2 hl2 s2 h2 => ?_
    obtain ⟨xs, hx1, hx2⟩ := hR.same (s1.trans s2)
    have hn := hx2.len
    walk_at "v"
    refine g_cat hx1 h2 (by rw [List.length_singleton]; omega) fun l3 H3 hl3 s3 h3 => ?_
    have s4 := (s1.trans s2).trans s3
    walk_at "v"
    refine g_sf (s4 _ _ hx) cL n4 fl_len fun H5 b5 hx5 => ?_
    rw [put_rates] at hx5
    have hl3x : l3 ≠ x := fun z => by rw [z, (s1.trans s2) _ _ hx] at hl3; cases hl3
    have hR3 : RowAt H3 l3 (row ++ [(D, rt)]) := ⟨_, h3, (hx2.mono fun q ps e => s3 _ _ e).app (.cons (s3 _ _ (s2 _ _ h1)) .nil)⟩
    exact q3 l3 H5 ((s1.trans s2).free hl3) ((But.same s4).trans b5) ⟨⟨dx, hx5⟩, hR3.but b5 hl3x (fun ps e => by rw [s4 _ _ hx] at e; cases e)⟩

theorem sc_number_of : FnScope ["word"] ["word"] (defScope s_number_of) := ⟨rfl, rfl, rfl, by decide +kernel, rfl, by decide +kernel, by decide +kernel⟩
theorem ok_number_of (T : Txt w K mg A) : FnOk P w K mg base (L2.CX P w) 1 A.a_number_of A.d_number_of ["word"] (sp_number_of A.c_NoNote) := by
  refine T.F_number_of.okX sc_number_of (fun vs H Q E h => ?_) (fun cdv Ar outer s H vs Q E hr h => ?_)
  · obtain ⟨w, rfl, _⟩ := h
    rfl
  ·
    obtain ⟨w, rfl, hl, q1, q2⟩ := h
    have ad := ascii_digit w
    refine ⟨_, (pss_cons (ps_if (PW.pt (pw_or (pt_not (PW.pt (pw_and (pt_val (pe_bm0 PySem.F.plainAttrs_str PySem.F.slot_str_isascii PySem.F.type_str_isascii m_isascii (pv 0))) (pw_and1 (pt_val (pe_bm0 PySem.F.plainAttrs_str PySem.F.slot_str_isdigit PySem.F.type_str_isdigit m_isdigit (pv 0))))))) (pw_or1 (pt_cmpR op_gt (pe_callB c_lenS rfl T.n_len (by decide +kernel) (pa_cons (pv 0) pa_nil)) (pe_glob (v := .int 30) rfl T.g_MOST_FIGURES ⟨A.t_MOST_FIGURES, rfl⟩) (nomark _))))) (pss_one (ps_rz rfl (takes_of rfl rfl rfl rfl) T.x_NoNote T.g_NoNote T.k_NoNote (raises_own T.b_NoNote T.t_NoNote) rfl (pa_cons (pe_fs (.cons pe_str (.cons (pe_fmt (pe_glob (v := .int 30) rfl T.g_MOST_FIGURES ⟨A.t_MOST_FIGURES, rfl⟩)) (.cons pe_str .nil)))) pa_nil)))
 pss_nil)
 (pss_cons (ps_if (PW.pt (pw_and (pt_cmpR op_eq (pe_ix ix_str (pv 0) pe_int (fun _ _ => rfl)) pe_str (nomark _)) (pw_and1 (pt_cmpR op_ne (pv 0) pe_str (nomark _))))) (pss_one (ps_rz rfl (takes_of rfl rfl rfl rfl) T.x_NoNote T.g_NoNote T.k_NoNote (raises_own T.b_NoNote T.t_NoNote) rfl (pa_cons pe_str pa_nil)))
 pss_nil)
 (pss_one (ps_ret (pe_callTy c_intS rfl T.n_int (by decide +kernel) (pa_cons (pv 0) pa_nil)))))), ?_⟩
    walk_at "i"
    have bad : (Txt.isascii w && Txt.isdigit w) = false → wordOk w = false := fun z => by
      rw [ad] at z
      unfold wordOk
      rw [z]; rfl
    cases ha : Txt.isascii w with
    | false =>
      walk_at "v"
      exact q1 (bad (by rw [ha]; rfl))
    | true =>
      walk_at "v"
      cases hd : Txt.isdigit w with
      | false =>
        walk_at "v"
        exact q1 (bad (by rw [ha, hd]; rfl))
      | true =>
        rw [ha, hd] at ad
        have ad2 := Bool.and_eq_true_iff.mp ad.symm
        have l1 : 1 ≤ w.length := of_decide_eq_true ad2.1
        have dg := ad2.2
        walk_at "v"
        refine g_lenS (by omega) ?_
        walk_at "v"
        refine g_ite (fun hc => ?_) (fun hc => ?_)
        · walk_at "v"
          refine q1 ?_
          unfold wordOk
          rw [decide_eq_false (show ¬ w.length ≤ 30 by omega), Bool.and_false, Bool.false_and]
        · have l30 : w.length ≤ 30 := by omega
          have ok : wordOk w = !(decide (w.cps.toList.head? = some 48) && decide (2 ≤ w.length)) := by
            unfold wordOk
            rw [decide_eq_true l1, dg, decide_eq_true l30]; rfl
          obtain ⟨c, hcc⟩ : ∃ c, w.cps.toList[0]? = some c := ⟨_, List.getElem?_eq_getElem (by rw [len_list]; omega)⟩
          have hh : w.cps.toList.head? = some c := by rw [List.head?_eq_getElem?]; exact hcc
          have c0 : ((⟨#[c]⟩ : Str) = "0") ↔ c = 48 := by
            constructor
            · intro z
              have z2 := congrArg (fun s : Str => s.cps.toList) z
              have z3 : [c] = [48] := z2
              exact (List.cons.inj z3).1
            · intro z; rw [z]; rfl
          walk_at "v"
          refine g_ixS (by omega) (j := 0) rfl hcc ?_
          walk_at "v"
          refine g_ite (fun h0 => ?_) (fun h0 => ?_)
          · have h48 : w.cps.toList.head? = some 48 := by rw [hh, c0.mp h0]
            have ng := nought h48
            rw [decide_eq_true h48, Bool.true_and] at ok
            walk_at "v"
            refine g_ite (fun hn => ?_) (fun hn => ?_)
            · walk_at "v"
              refine q1 ?_
              rw [ok, decide_eq_true (ng.mp hn)]; rfl
            · walk_at "v"
              refine g_intS (digs_int dg l1 (by omega)) (by omega) ?_
              refine q2 ?_
              rw [ok, decide_eq_false (fun z => hn (ng.mpr z))]; rfl
          · walk_at "v"
            refine g_intS (digs_int dg l1 (by omega)) (by omega) ?_
            refine q2 ?_
            rw [ok, decide_eq_false (fun z => h0 (c0.mpr (by rw [hh] at z; exact Option.some.inj z)))]; rfl
theorem sc_read : FnScope ["line", "words", "numbers", "word"] ["line"] (defScope s_read) := ⟨rfl, rfl, rfl, by decide +kernel, rfl, by decide +kernel, by decide +kernel⟩
theorem ok_read (T : Txt w K mg A) : FnOk P w K mg base (L2.CX P w) 2 A.a_read A.d_read ["line"] (sp_read A.c_NoNote) := by
  refine T.F_read.okX sc_read (fun vs H Q E h => ?_) (fun cdv Ar outer s H vs Q E hr h => ?_)
  · obtain ⟨line, rfl, _⟩ := h
    rfl
  ·
    obtain ⟨line, rfl, hl, q1, q2⟩ := h
    have sn := split_ne line
    have sm := split_many line
    have ss := fun w => split_short (line := line) (w := w)
    unfold noteF at q1 q2
    refine ⟨_, (pss_cons (ps_set (i := 1) sc_read.nd rfl (Or.inl rfl) (pe_bm PySem.F.plainAttrs_str PySem.F.slot_str_split PySem.F.type_str_split m_split (pv 0) (pa_cons pe_str pa_nil)))
 (pss_cons (ps_if (PW.pt (pw_or (pt_cmpR (op_notTbl T.d_NUMBERS) (pe_ix ix_list (pv 1) pe_int (fun _ _ => rfl)) (pe_glob (v := .ref A.c_NUMBERS) rfl T.g_NUMBERS rfl) rfl) (pw_or1 (pt_cmpR op_ne (pe_callB c_len rfl T.n_len (by decide +kernel) (pa_cons (pv 1) pa_nil)) (pe_op op_add pe_int (pe_ix (ix_kdict) (pe_glob (v := .ref A.c_NUMBERS) rfl T.g_NUMBERS rfl) (pe_ix ix_list (pv 1) pe_int (fun _ _ => rfl)) (fun _ _ => rfl))) (nomark _))))) (pss_one (ps_rz rfl (takes_of rfl rfl rfl rfl) T.x_NoNote T.g_NoNote T.k_NoNote (raises_own T.b_NoNote T.t_NoNote) rfl (pa_cons pe_str pa_nil)))
 pss_nil)
 (pss_cons (ps_setLcX (i := 2) (own := [("word", 3)]) (W := fun cls d _ H => E cls d H) rfl rfl rfl sc_read.nd (takes_of rfl rfl rfl rfl) (fun _ _ _ _ _ h => h) rfl rfl (sw_true rfl rfl rfl (by decide +kernel)) (pi_list (pe_slice sl_list (pv 1) (po_some pe_int) po_none)) (blkOk_by (own := [("word", 3)]) (N := ["line", "words", "numbers", "word"]) (sc := defScope s_read) (by decide +kernel)) (fun _ _ _ _ _ => (pg_name (i := 3) sc_read.nd rfl (Or.inl rfl) (Or.inr rfl))) (fun _ _ _ _ _ => pts_nil) (fun _ _ _ _ _ pn xe hp => (pe_callS (ok_number_of T) (hr.mono (by decide)) rfl T.g_number_of T.F_number_of.kp T.B_number_of hp (pa_cons (pv 3) pa_nil))) (fun _ => rfl))
 (pss_one (ps_ret (pe_tup (pa_cons (pe_ix ix_list (pv 1) pe_int (fun _ _ => rfl)) (StX.pa_star (pv 2) pa_nil)))))))), ?_⟩
    walk_at "i"
    refine g_splitS (by omega) fun p1 H1 hp1 s1 hW => ?_
    generalize Txt.split line " " = ws at *
    obtain ⟨w0, rest, ew⟩ : ∃ w r, ws = w :: r := by
      cases ws with
      | nil => exact absurd rfl sn
      | cons w r => exact ⟨w, r, rfl⟩
    subst ew
    have h0 : (w0 :: rest)[0]? = some w0 := rfl
    unfold noteW at q1 q2
    dsimp only at q1 q2
    obtain ⟨r, hr1, hr2⟩ := many_in T.d_NUMBERS w0
    walk_at "v"
    refine g_ixSt hW (j := 0) rfl h0 ?_
    walk_at "v"
    rcases hr2 with ⟨m1, rfl⟩ | ⟨n, tk, m1, rfl⟩
    · refine g_notKdT hr1 ?_
      walk_at "v"
      have hno : ¬ (many w0 = some rest.length ∧ rest.all wordOk = true) := fun z => by rw [m1] at z; cases z.1
      exact q1 (if_neg hno) H1 s1
    · refine g_notKdF hr1 ?_
      walk_at "v"
      refine g_lenSt hW rfl ?_
      walk_at "v"
      refine g_ixSt hW (j := 0) rfl h0 ?_
      refine g_ixTbl T.d_NUMBERS hr1 ?_
      walk_at "v"
      refine g_ite (fun hc => ?_) (fun hc => ?_)
      · walk_at "v"
        have hno : ¬ (many w0 = some rest.length ∧ rest.all wordOk = true) := fun z => by
          have z1 := z.1
          rw [m1] at z1
          have z2 := Option.some.inj z1
          refine hc ?_
          simp only [List.length_cons]
          omega
        exact q1 (if_neg hno) H1 s1
      · have hn : many w0 = some rest.length := by
          rw [m1]
          simp only [List.length_cons] at hc
          have : (n : Int) = rest.length := by omega
          rw [Int.ofNat_inj.mp this]
        have n2 : rest.length ≤ 2 := by
          unfold many at hn
          split at hn
          · have z := Option.some.inj hn; omega
          · split at hn
            · have z := Option.some.inj hn; omega
            · split at hn
              · have z := Option.some.inj hn; omega
              · cases hn
        walk_at "v"
        refine g_lcE ?_
        walk_at "v"
        refine g_slSt hW (k := 1) rfl fun p2 H2 hp2 s2 hR => ?_
        rw [show (w0 :: rest).drop 1 = rest from rfl] at hR
        refine g_lcV (SqL.of hR) (fun D i H' => H2 D = none ∧ Same H2 H' ∧ IntsAt H' D ((rest.take i).map wordVal) ∧ (rest.take i).all wordOk = true) (fun D hD => ⟨hD, same_new hD, upd_same, rfl⟩) (fun D i H' ⟨_, s, _⟩ => SqL.of (s _ _ hR)) ?_ ?_
        · rintro D i x H' hx ⟨nD, s3, hI, ha⟩
          obtain ⟨wd, hwd, rfl⟩ := strs_at hx
          have mem : wd ∈ rest := List.mem_of_getElem? hwd
          have lw := ss wd (List.mem_cons_of_mem _ mem)
          walk_at "v"
          refine ⟨rfl, ?_⟩
          simp only [wipe, List.set_cons_succ, List.set_cons_zero]
          walk_at "v"
          refine ⟨wd, rfl, by omega, fun hb => ?_, fun hb => ?_⟩
          · have hno : ¬ (many w0 = some rest.length ∧ rest.all wordOk = true) := fun z => by
              have := List.all_eq_true.mp z.2 wd mem
              rw [hb] at this; cases this
            exact q1 (if_neg hno) H' ((s1.trans s2).trans s3)
          · refine ⟨_, hI, Nat.lt_of_le_of_lt (m := 100000) (by rw [List.length_map, List.length_map, List.length_take]; omega) (by decide), nD, same_upd s3 nD, ?_, ?_⟩
            · unfold IntsAt
              rw [upd_same, take_snoc hwd, List.map_append, List.map_append]
              rfl
            · rw [take_snoc hwd, List.all_append, ha]
              simp [hb]
        · rintro D H3 hD ⟨_, s3, hI, ha⟩
          rw [List.length_map, List.take_length] at hI ha
          have s13 := (s1.trans s2).trans s3
          walk_at "v"
          refine g_ixSt (s3 _ _ (s2 _ _ hW)) (j := 0) rfl h0 ?_
          refine g_star ?_
          refine ⟨_, rfl, ?_⟩
          refine ⟨D, _, rfl, .inr hI.sq, ?_⟩
          walk_at "v"
          rw [List.append_nil]
          refine g_newT (by simp; omega) fun t4 H4 ht4 s4 h4 => ?_
          exact q2 w0 (rest.map wordVal) (if_pos ⟨hn, ha⟩) t4 H4 (s13.trans s4) h4
theorem sc_amount_by : FnScope ["_law_cell"] ["_law_cell"] (defScope s_amount_by) := ⟨rfl, rfl, rfl, by decide +kernel, rfl, by decide +kernel, by decide +kernel⟩
theorem ok_amount_by (T : Txt w K mg A) : FnOk P w K mg base CX0 2 A.a_amount_by A.d_amount_by ["_law_cell"] sp_amount_by := by
  refine T.F_amount_by.ok sc_amount_by (fun vs H Q E h => ?_) (fun cdv Ar outer s H vs Q E hr h => ?_)
  · obtain ⟨c, rfl, _⟩ := h
    rfl
  ·
    obtain ⟨c, rfl, q⟩ := h
    refine ⟨_, (pss_cons (ps_if (pt_cmpR op_eq (pe_op op_mod (pv 0) pe_int) pe_int (nomark _)) (pss_one (ps_ret (pe_ix ix_list (pe_lst (pa_cons pe_int (pa_cons pe_int (pa_cons pe_int (pa_cons pe_int pa_nil))))) (pe_op op_mod (pe_op op_fdiv (pv 0) pe_int) pe_int) (fun _ _ => rfl))))
 pss_nil)
 (pss_cons (ps_if (pt_cmpR op_eq (pe_op op_mod (pv 0) pe_int) pe_int (nomark _)) (pss_one (ps_ret (pe_op op_add pe_int (pe_op op_mod (pe_op op_fdiv (pv 0) pe_int) pe_int))))
 pss_nil)
 (pss_one (ps_ret (pe_op op_add pe_int (pe_op op_mod (pe_op op_add (pe_op op_mul (pe_call (ok_mixed T) (hr.mono (by decide)) rfl T.g_mixed T.F_mixed.kp T.B_mixed .nil pass0 (pa_cons (pv 0) (pa_cons pe_int pa_nil))) pe_int) pe_int) pe_int)))))), ?_⟩
    walk_at "i"
    refine g_ite (fun hc => ?_) (fun hc => ?_)
    · walk_at "v"
      refine g_newL (by simp) fun p H1 hp s1 h1 => ?_
      walk_at "v"
      have h4 : c / 4 % 4 = 0 ∨ c / 4 % 4 = 1 ∨ c / 4 % 4 = 2 ∨ c / 4 % 4 = 3 := by omega
      have e : amountBy c = [1, 2, 999999999999, 1000000000000].getD (c / 4 % 4).toNat 0 := by unfold amountBy; rw [if_pos hc]
      have q1 := q H1 s1
      rw [e] at q1
      rcases h4 with h4 | h4 | h4 | h4
      all_goals
        rw [h4] at q1 ⊢
        refine g_ixL (SqL.of h1) rfl rfl ?_
        exact q1
    · walk_at "v"
      refine g_ite (fun hd => ?_) (fun hd => ?_)
      · walk_at "v"
        have e : amountBy c = 1 + c / 4 % 5000 := by unfold amountBy; rw [if_neg hc, if_pos hd]
        have q1 := q H (Same.refl _)
        rw [e] at q1
        exact q1
      · walk_at "v"
        have e : amountBy c = 1 + (mixed c 2147483647 * 467 + 5) % 1000000000000 := by unfold amountBy; rw [if_neg hc, if_neg hd]
        have q1 := q H (Same.refl _)
        rw [e] at q1
        exact q1
theorem sc_owed : FnScope ["_law_left", "_law_begun"] ["_law_left", "_law_begun"] (defScope s_owed) := ⟨rfl, rfl, rfl, by decide +kernel, rfl, by decide +kernel, by decide +kernel⟩
theorem ok_owed (T : Txt w K mg A) : FnOk P w K mg base CX0 1 A.a_owed A.d_owed ["_law_left", "_law_begun"] sp_owed := by
  refine T.F_owed.ok sc_owed (fun vs H Q E h => ?_) (fun cdv Ar outer s H vs Q E hr h => ?_)
  · obtain ⟨l, b, rfl, _⟩ := h
    rfl
  ·
    obtain ⟨l, b, rfl, q⟩ := h
    refine ⟨_, (pss_one (ps_ret (pe_op op_add (pv 0) (pe_op op_fdiv (pe_op op_add (pv 1) pe_int) pe_int)))), ?_⟩
    walk_at "i"
    exact q
theorem sc_parts : FnScope ["_law_left", "_law_begun", "_law_cents", "_law_owed_here", "_law_interest", "_law_off"] ["_law_left", "_law_begun", "_law_cents"] (defScope s_parts) := ⟨rfl, rfl, rfl, by decide +kernel, rfl, by decide +kernel, by decide +kernel⟩
theorem ok_parts (T : Txt w K mg A) : FnOk P w K mg base CX0 1 A.a_parts A.d_parts ["_law_left", "_law_begun", "_law_cents"] sp_parts := by
  refine T.F_parts.ok sc_parts (fun vs H Q E h => ?_) (fun cdv Ar outer s H vs Q E hr h => ?_)
  · obtain ⟨l, b, c, rfl, _⟩ := h
    rfl
  ·
    obtain ⟨l, b, c, rfl, q⟩ := h
    refine ⟨_, (pss_cons (ps_set (i := 3) sc_parts.nd rfl (Or.inl rfl) (pe_op op_add (pv 0) (pe_op op_fdiv (pe_op op_add (pv 1) pe_int) pe_int)))
 (pss_cons (ps_if (pt_cmpR op_eq (pv 2) (pv 3) (nomark _)) (pss_one (ps_ret (pe_tup (pa_cons (pe_op op_sub (pv 3) (pv 0)) (pa_cons (pv 0) (pa_cons pe_int (pa_cons pe_int pa_nil)))))))
 pss_nil)
 (pss_cons (ps_set (i := 4) sc_parts.nd rfl (Or.inl rfl) (pe_callB (c_min rfl) rfl T.n_min (by decide +kernel) (pa_cons (pv 2) (pa_cons (pe_op op_fdiv (pv 1) pe_int) pa_nil))))
 (pss_cons (ps_set (i := 5) sc_parts.nd rfl (Or.inl rfl) (pe_op op_sub (pv 2) (pv 4)))
 (pss_one (ps_ret (pe_tup (pa_cons (pv 4) (pa_cons (pv 5) (pa_cons (pe_op op_sub (pv 0) (pv 5)) (pa_cons (pe_op op_sub (pv 1) (pe_op op_mul pe_int (pv 4))) pa_nil))))))))))), ?_⟩
    walk_at "i"
    have eo : l + (b + 999999) / 1000000 = owedF l b := rfl
    rw [eo]
    refine g_ite (fun hc => ?_) (fun hc => ?_)
    · walk_at "v"
      refine g_newT (by simp) fun t H1 ht s1 h1 => ?_
      have e1 : pInt l b c = owedF l b - l := by unfold pInt; rw [if_pos hc]
      have e2 : pOff l b c = l := by unfold pOff; rw [if_pos hc]
      have e3 : pLeft l b c = 0 := by unfold pLeft; rw [if_pos hc]
      have e4 : pBegun l b c = 0 := by unfold pBegun; rw [if_pos hc]
      rw [e1, e2, e3, e4] at q
      exact q t H1 ht s1 h1
    · walk_at "v"
      refine g_newT (by simp) fun t H1 ht s1 h1 => ?_
      have e1 : pInt l b c = min c (b / 1000000) := by unfold pInt; rw [if_neg hc]
      have e2 : pOff l b c = c - min c (b / 1000000) := by unfold pOff; rw [if_neg hc]
      have e3 : pLeft l b c = l - (c - min c (b / 1000000)) := by unfold pLeft; rw [if_neg hc]
      have e4 : pBegun l b c = b - 1000000 * min c (b / 1000000) := by unfold pBegun; rw [if_neg hc]
      rw [e1, e2, e3, e4] at q
      exact q t H1 ht s1 h1
theorem sc_done : FnScope ["loan", "note", "day", "interest", "off"] ["loan", "note"] (defScope s_done) := ⟨rfl, rfl, rfl, by decide +kernel, rfl, by decide +kernel, by decide +kernel⟩
theorem ok_done (T : Txt w K mg A) : FnOk P w K mg base (L2.CX P w) 4 A.a_done A.d_done ["loan", "note"] (sp_done A.c_Loan A.c_BadDay A.c_BadRate A.c_BadPay) := by
  refine T.F_done.okX sc_done (fun vs H Q E h => ?_) (fun cdv Ar outer s H vs Q E hr h => ?_)
  · obtain ⟨x, t, w, ns, s, r, rfl, _⟩ := h
    rfl
  ·
    obtain ⟨x, t, w, ns, s, r, rfl, ht, hm, h0, ⟨hL, ok, hlen⟩, qD, qR, qP, q⟩ := h
    obtain ⟨⟨dx, hx⟩, hR⟩ := id hL
    have cL := T.C_Loan
    have n1 := T.na_left
    have n2 := T.na_begun
    have n3 := T.na_day
    have n4 := T.na_rates
    refine ⟨_, (pss_cons (ps_set (i := 2) sc_done.nd rfl (Or.inl rfl) (pe_ix ix_tup (pv 1) pe_int (fun _ _ => rfl)))
 (pss_cons (ps_if (pt_cmpR op_eq (pe_ix ix_tup (pv 1) pe_int (fun _ _ => rfl)) pe_str (nomark _)) (pss_one (ps_ret (pe_callTy c_str rfl T.n_str (by decide +kernel) (pa_cons (pe_meth (pv 0) T.C_Loan T.m_Loan_owed (ok_Loan_owed T) (hr.mono (by decide)) T.B_Loan_owed .nil (passes_call (takes_of rfl rfl rfl rfl) fun _ _ _ _ h => h) (pa_cons (pv 2) pa_nil)) pa_nil))))
 pss_nil)
 (pss_cons (ps_if (pt_cmpR op_eq (pe_ix ix_tup (pv 1) pe_int (fun _ _ => rfl)) pe_str (nomark _)) (pss_cons (ps_expr (pe_meth (pv 0) T.C_Loan T.m_Loan_change (ok_Loan_change T) (hr.mono (by decide)) T.B_Loan_change .nil (passes_call (takes_of rfl rfl rfl rfl) fun _ _ _ _ h => h) (pa_cons (pv 2) (pa_cons (pe_ix ix_tup (pv 1) pe_int (fun _ _ => rfl)) pa_nil))))
 (pss_one (ps_ret pe_str)))
 pss_nil)
 (pss_cons (ps_asg (pe_meth (pv 0) T.C_Loan T.m_Loan_pay (ok_Loan_pay T) (hr.mono (by decide)) T.B_Loan_pay .nil (passes_call (takes_of rfl rfl rfl rfl) fun _ _ _ _ h => h) (pa_cons (pv 2) (pa_cons (pe_ix ix_tup (pv 1) pe_int (fun _ _ => rfl)) pa_nil))) (pg_tup rfl (pgs_cons (pg_name (i := 3) sc_done.nd rfl (Or.inl rfl)) (pgs_cons (pg_name (i := 4) sc_done.nd rfl (Or.inl rfl)) pgs_nil))))
 (pss_one (ps_ret (pe_fs (.cons (pe_fmt (pv 3)) (.cons pe_str (.cons (pe_fmt (pv 4)) (.cons pe_str (.cons (pe_fmt (pe_fld (pv 0) rfl)) .nil)))))))))))), ?_⟩
    have hrow := ok.r.ne
    have hla := ok.la
    rcases many_cases hm with ⟨rfl, k⟩ | ⟨rfl, k⟩ | ⟨rfl, k⟩
    · obtain ⟨D, c, rfl⟩ : ∃ D c, ns = [D, c] := by
        match ns, k with
        | [D, c], _ => exact ⟨D, c, rfl⟩
      walk_at "i"
      refine g_ixT (j := 1) ht rfl ?_
      walk_at "v"
      refine g_ixT (j := 0) ht rfl ?_
      walk_at "v"
      refine g_ite (fun h => absurd h (by decide +kernel)) (fun _ => ?_)
      walk_at "v"
      refine g_ixT (j := 0) ht rfl ?_
      walk_at "v"
      refine g_ite (fun h => absurd h (by decide +kernel)) (fun _ => ?_)
      walk_at "v"
      refine g_ixT (j := 2) ht rfl ?_
      walk_at "v"
      refine ⟨x, D, c, s.l, s.b, s.d, r, s.row, rfl, hL, ok.n, ok.r.rate, fun hb => qD (step_pay1 hb) H (Same.refl _), fun hb => ⟨fun hc H1 s1 => qP (step_pay2 hb hc) H1 s1, fun hc t1 H1 ht1 b1 hL1 e1 => ?_⟩⟩
      rw [step_pay3 hb hc] at q
      have nw := ok.n.walk ok.r.rate (D := D) (by omega) (by omega)
      have np := nw.pay (c := c) (by omega) (by omega)
      obtain ⟨wl0, wl1, wb0, wb1, wd0, wd1⟩ := nw
      obtain ⟨pl0, pl1, pb0, pb1, pd0, pd1⟩ := np
      generalize hB : thenF s.l s.b s.d s.row D = B at *
      have e1' := pSum s.l B c
      have e2' := pLeft_off s.l B c
      have ob : owedF s.l B ≤ 10 ^ 60 ∧ -(10 ^ 60) ≤ owedF s.l B := by unfold owedF; omega
      walk_at "v"
      refine g_unp2 e1 ?_
      refine g_ret ?_
      obtain ⟨⟨dx1, hx1⟩, hR1⟩ := id hL1
      refine g_fs5 (a := pInt s.l B c) (b := pOff s.l B c) rfl rfl (by omega) (by omega) (by omega) (by omega) ?_
      walk_at "v"
      have la := tS_short (i := pInt s.l B c) (by omega) (by omega)
      have lb := tS_short (i := pOff s.l B c) (by omega) (by omega)
      have k1 : (Str.ofString " ").length = 1 := by decide +kernel
      exact g_lastV (by omega) (by omega) (by rw [str_app_len, str_app_len, str_app_len]; omega) (q r H1 b1 hL1)
    · obtain ⟨D, c, rfl⟩ : ∃ D c, ns = [D, c] := by
        match ns, k with
        | [D, c], _ => exact ⟨D, c, rfl⟩
      have c0 : 0 ≤ c := h0 1
      walk_at "i"
      refine g_ixT (j := 1) ht rfl ?_
      walk_at "v"
      refine g_ixT (j := 0) ht rfl ?_
      walk_at "v"
      refine g_ite (fun h => absurd h (by decide +kernel)) (fun _ => ?_)
      walk_at "v"
      refine g_ixT (j := 0) ht rfl ?_
      walk_at "v"
      refine g_ite (fun _ => ?_) (fun h => absurd rfl h)
      walk_at "v"
      refine g_ixT (j := 2) ht rfl ?_
      walk_at "v"
      refine ⟨x, D, c, s.l, s.b, s.d, r, s.row, rfl, hL, ok.n, hrow, by omega, hla, fun hb => qD (step_rate1 hb) H (Same.refl _), fun hb => ⟨fun hc => qR (step_rate2 hb (by omega)) H (Same.refl _), fun hc r1 H1 hr1 b1 hL1 => ?_⟩⟩
      rw [step_rate3 hb (by omega)] at q
      walk_at "v"
      exact q r1 H1 b1 hL1
    · obtain ⟨D, rfl⟩ : ∃ D, ns = [D] := by
        match ns, k with
        | [D], _ => exact ⟨D, rfl⟩
      walk_at "i"
      refine g_ixT (j := 1) ht rfl ?_
      walk_at "v"
      refine g_ixT (j := 0) ht rfl ?_
      walk_at "v"
      refine g_ite (fun _ => ?_) (fun h => absurd rfl h)
      walk_at "v"
      refine ⟨x, D, s.l, s.b, s.d, r, s.row, rfl, hL, ok.n, fun hb => qD (step_owe1 hb) H (Same.refl _), fun hb H1 s1 => ?_⟩
      rw [step_owe2 hb] at q
      have nw := ok.n.walk ok.r.rate (D := D) (by omega) (by omega)
      obtain ⟨wl0, wl1, wb0, wb1, wd0, wd1⟩ := nw
      generalize hB : thenF s.l s.b s.d s.row D = B at *
      have ob : owedF s.l B ≤ 10 ^ 60 ∧ -(10 ^ 60) ≤ owedF s.l B := by unfold owedF; omega
      walk_at "v"
      refine g_strI (by omega) (by omega) ?_
      exact q r H1 (But.same s1) (hL.same s1)
theorem sc_answer : FnScope ["loan", "line"] ["loan", "line"] (defScope s_answer) := ⟨rfl, rfl, rfl, by decide +kernel, rfl, by decide +kernel, by decide +kernel⟩
theorem ok_answer (T : Txt w K mg A) : FnOk P w K mg base CX0 5 A.a_answer A.d_answer ["loan", "line"] (sp_answer A.c_Loan) := by
  refine T.F_answer.ok sc_answer (fun vs H Q E h => ?_) (fun cdv Ar outer s H vs Q E hr h => ?_)
  · obtain ⟨x, line, s, r, rfl, _⟩ := h
    rfl
  ·
    obtain ⟨x, line, s, r, rfl, hl, dk, q⟩ := h
    obtain ⟨hL, ok, hlen⟩ := id dk
    refine ⟨_, (pss_one (ps_tryM (Wout := fun _ _ _ _ => False) rfl rfl takes0 (fun W pn xe tk _ => (pss_one (ps_ret (pe_callS (ok_done T) (hr.mono (by decide)) rfl T.g_done T.F_done.kp T.B_done (fun σ => passAt tk σ) (pa_cons (pv 0) (pa_cons (pe_callS (ok_read T) (hr.mono (by decide)) rfl T.g_read T.F_read.kp T.B_read (fun σ => passAt tk σ) (pa_cons (pv 1) pa_nil)) pa_nil))))))
 (.cons ⟨rfl, by decide, Or.inl T.g_NoNote⟩ (fun a oe cls d pn hz hf => (pss_one (ps_ret pe_str))) (.cons ⟨rfl, by decide, Or.inl T.g_BadDay⟩ (fun a oe cls d pn hz hf => (pss_one (ps_ret pe_str))) (.cons ⟨rfl, by decide, Or.inl T.g_BadRate⟩ (fun a oe cls d pn hz hf => (pss_one (ps_ret pe_str))) (.cons ⟨rfl, by decide, Or.inl T.g_BadPay⟩ (fun a oe cls d pn hz hf => (pss_one (ps_ret pe_str))) .nil)))))), ?_⟩
    walk_at "i"
    refine g_tryM ?_
    walk_at "v"
    refine ⟨line, rfl, hl, fun hn H1 s1 => ?_, fun w ns hn t H1 s1 ht => ?_⟩
    · refine g_hitM (PySem.W.exm_ref T.b_NoNote T.h_NoNote T.t_NoNote T.u_NoNote_NoNote) fun a ha => ?_
      walk_at "v"
      rw [hn] at q
      exact q r H1 (But.same s1) (hL.same s1)
    · rw [hn] at q
      walk_at "v"
      refine ⟨x, t, w, ns, s, r, rfl, ht, note_len hn, note_getD hn, ⟨hL.same s1, ok, hlen⟩, fun e H2 s2 => ?_, fun e H2 s2 => ?_, fun e H2 s2 => ?_, fun r' H2 b2 hL2 => ?_⟩
      · rw [e] at q
        refine g_missM (PySem.W.exm_ref T.b_NoNote T.h_NoNote T.t_NoNote T.u_BadDay_NoNote) ?_
        refine g_hitM (PySem.W.exm_ref T.b_BadDay T.h_BadDay T.t_BadDay T.u_BadDay_BadDay) fun a ha => ?_
        walk_at "v"
        exact q r H2 (But.same (s1.trans s2)) (hL.same (s1.trans s2))
      · rw [e] at q
        refine g_missM (PySem.W.exm_ref T.b_NoNote T.h_NoNote T.t_NoNote T.u_BadRate_NoNote) ?_
        refine g_missM (PySem.W.exm_ref T.b_BadDay T.h_BadDay T.t_BadDay T.u_BadRate_BadDay) ?_
        refine g_hitM (PySem.W.exm_ref T.b_BadRate T.h_BadRate T.t_BadRate T.u_BadRate_BadRate) fun a ha => ?_
        walk_at "v"
        exact q r H2 (But.same (s1.trans s2)) (hL.same (s1.trans s2))
      · rw [e] at q
        refine g_missM (PySem.W.exm_ref T.b_NoNote T.h_NoNote T.t_NoNote T.u_BadPay_NoNote) ?_
        refine g_missM (PySem.W.exm_ref T.b_BadDay T.h_BadDay T.t_BadDay T.u_BadPay_BadDay) ?_
        refine g_missM (PySem.W.exm_ref T.b_BadRate T.h_BadRate T.t_BadRate T.u_BadPay_BadRate) ?_
        refine g_hitM (PySem.W.exm_ref T.b_BadPay T.h_BadPay T.t_BadPay T.u_BadPay_BadPay) fun a ha => ?_
        walk_at "v"
        exact q r H2 (But.same (s1.trans s2)) (hL.same (s1.trans s2))
      · exact q r' H2 ((But.same s1).trans b2) hL2
theorem sc_desk : FnScope ["amount", "rate", "lines", "loan", "answers", "line"] ["amount", "rate", "lines"] (defScope s_desk) := ⟨rfl, rfl, rfl, by decide +kernel, rfl, by decide +kernel, by decide +kernel⟩
theorem ok_desk (T : Txt w K mg A) : FnOk P w K mg base (L2.CX P w) 6 A.a_desk A.d_desk ["amount", "rate", "lines"] (sp_desk A.c_BadAmount A.c_BadRate) := by
  refine T.F_desk.okX sc_desk (fun vs H Q E h => ?_) (fun cdv Ar outer s H vs Q E hr h => ?_)
  · obtain ⟨a, rt, p, ls, rfl, _⟩ := h
    rfl
  ·
    obtain ⟨a, rt, p, ls, rfl, hS, hlen, hz, q1, q2⟩ := h
    refine ⟨_, (pss_cons (ps_set (i := 3) sc_desk.nd rfl (Or.inl rfl) (pe_make T.M_Loan (ok_Loan_init T) (hr.mono (by decide)) rfl T.g_Loan T.B_Loan_init .nil (passes_call (takes_of rfl rfl rfl rfl) fun _ _ _ _ h => h) (pa_cons (pv 0) (pa_cons (pe_lst (pa_cons (pe_tup (pa_cons pe_int (pa_cons (pv 1) pa_nil))) pa_nil)) pa_nil))))
 (pss_cons (ps_set (i := 4) sc_desk.nd rfl (Or.inl rfl) (pe_lst pa_nil))
 (pss_cons (ps_for (passes_of rfl) rfl (pi_list (pv 2)) (pg_name (i := 5) sc_desk.nd rfl (Or.inl rfl))
 (pss_one (ps_expr (pe_bm PySem.F.plainAttrs_list PySem.F.slot_list_append PySem.F.type_list_append mt_append (pv 4) (pa_cons (pe_call (ok_answer T) (hr.mono (by decide)) rfl T.g_answer T.F_answer.kp T.B_answer .nil pass0 (pa_cons (pv 3) (pa_cons (pv 5) pa_nil))) pa_nil)))))
 (pss_one (ps_ret (pv 4)))))), ?_⟩
    walk_at "i"
    refine g_newT (by simp) fun t1 H1 ht1 s1 h1 => ?_
    walk_at "v"
    refine g_newL (by simp) fun l2 H2 hl2 s2 h2 => ?_
    have hR2 : RowAt H2 l2 [(0, rt)] := ⟨_, h2, .cons (s2 _ _ h1) .nil⟩
    have s12 := s1.trans s2
    walk_at "v"
    by_cases ha : a < 1 ∨ 1000000000000 < a
    · intro x dx nx nd ne
      have sx : Same H2 (upd (upd H2 dx (.own x)) x (.ins A.c_Loan dx [])) := fun b o e => by
        rw [upd_ne (ne_of_none e nx), upd_ne (ne_of_none e nd)]; exact e
      exact ⟨x, a, l2, dx, _, rfl, upd_same, hR2.same sx, by simp, fun _ => q1 ha _ (s12.trans sx), fun h => absurd ha h⟩
    by_cases hb : rt < 0 ∨ 100000 < rt
    · intro x dx nx nd ne
      have sx : Same H2 (upd (upd H2 dx (.own x)) x (.ins A.c_Loan dx [])) := fun b o e => by
        rw [upd_ne (ne_of_none e nx), upd_ne (ne_of_none e nd)]; exact e
      refine ⟨x, a, l2, dx, _, rfl, upd_same, hR2.same sx, by simp, fun h => absurd h ha, fun _ => ⟨fun e => ?_, fun _ H3 b3 => (q2 ha).1 hb H3 fun b o e => b3 b o (ne_of_none (s12 _ _ e) nx) (sx _ _ (s12 _ _ e)), fun e => ?_⟩⟩
      · rw [check_one1 hb] at e; cases e
      · rw [check_one1 hb] at e; cases e
    have q3 := (q2 ha).2 hb
    have k0 : S4.Ok ⟨a, 0, 0, [(0, rt)]⟩ := row_one (by omega) (by omega) (by omega) (by omega)
    generalize hs0 : (⟨a, 0, 0, [(0, rt)]⟩ : S4) = s0 at *
    have hl0 : s0.row.length = 1 := by rw [← hs0]; rfl
    refine g_mkLoan hR2 (by simp) (by omega) (by omega) (check_one2 hb) fun x r H3 hx hr s3 hL => ?_
    have hL0 : LoanAt A.c_Loan H3 x s0.l s0.b s0.d r s0.row := by rw [← hs0]; exact hL
    walk_at "v"
    refine g_newS (ns := []) rfl (by simp) fun D H4 hD s4 hS4 => ?_
    have s14 := (s12.trans s3).trans s4
    have nx : H x = none := s12.free hx
    have nD : H D = none := (s12.trans s3).free hD
    walk_at "v"
    refine g_forL rfl (SqL.of (s14 _ _ hS)) (fun σ0 i σ' H' => Same H H' ∧ StrsAt H' D (runF s0 (ls.take i)).1 ∧ (∃ r', LoanAt A.c_Loan H' x (runF s0 (ls.take i)).2.l (runF s0 (ls.take i)).2.b (runF s0 (ls.take i)).2.d r' (runF s0 (ls.take i)).2.row) ∧ ∃ v, σ' = σ0.set 5 v) ⟨s14, hS4, ⟨r, hL0.same s4⟩, none, by walk_at "z"⟩ (fun i σ' H' _ ⟨s, _⟩ => SqL.of (s _ _ hS)) ?_ ?_
    · rintro i y σ' H' hy ⟨s5, h5, ⟨r5, hL5⟩, v, rfl⟩
      obtain ⟨z, hz1, rfl⟩ := strs_at hy
      obtain ⟨k1, k2, k3⟩ := runF_ok k0 (ls.take i)
      rw [List.length_take] at k2 k3
      have lz := hz z (List.mem_of_getElem? hz1)
      have stp := runF_snoc s0 (ls.take i) z
      rw [← take_snoc hz1] at stp
      have hgood := k1.step (o := noteF z) fun w ns e i => note_getD e i
      generalize hsi : (runF s0 (ls.take i)).2 = si at *
      generalize hai : (runF s0 (ls.take i)).1 = ai at *
      obtain ⟨⟨dx5, hx5⟩, hR5⟩ := id hL5
      have Dx : D ≠ x := by
        unfold StrsAt at h5
        exact ne_of h5 hx5 (by intro z; cases z)
      walk_at "v"
      refine g_tyL h5 ?_
      walk_at "v"
      refine ⟨x, z, si, r5, rfl, lz, ⟨hL5, k1, by omega⟩, fun r6 H6 b6 hL6 => ?_⟩
      obtain ⟨⟨dx6, hx6⟩, hR6⟩ := id hL6
      have h6 : StrsAt H6 D ai := by
        unfold StrsAt at h5 ⊢
        exact b6 _ _ Dx h5
      have rD := row_ne_strs hR6 hgood.1.r.ne h6
      walk_at "v"
      refine g_append h6 (by rw [List.length_map]; omega) ?_
      walk_at "v"
      refine ⟨?_, ?_, ⟨r6, ?_⟩, _, by walk_at "z"⟩
      · intro b o e
        rw [upd_ne (ne_of_none e nD)]
        exact b6 _ _ (ne_of_none e nx) (s5 _ _ e)
      · rw [stp]
        unfold StrsAt
        rw [upd_same, List.map_append]; rfl
      · rw [stp]
        exact ⟨⟨dx6, by rw [upd_ne (Ne.symm Dx)]; exact hx6⟩, hR6.but but_upd rD (fun ps e => by unfold StrsAt at h6; rw [h6] at e; cases e)⟩
    · rintro σ' H' ⟨s5, h5, _, v, rfl⟩
      rw [List.length_map, List.take_length] at h5
      walk_at "v"
      exact q3 D H' s5 h5

theorem sc_then : FnScope ["_law_state", "_law_day"] ["_law_state", "_law_day"] (defScope s_then) := ⟨rfl, rfl, rfl, by decide +kernel, rfl, by decide +kernel, by decide +kernel⟩
theorem ok_then (T : Txt w K mg A) : FnOk P w K mg base CX0 2 A.a_then A.d_then ["_law_state", "_law_day"] sp_then := by
  refine T.F_then.ok sc_then (fun vs H Q E h => ?_) (fun cdv Ar outer s H vs Q E hr h => ?_)
  · obtain ⟨st, r, s, D, rfl, _⟩ := h
    rfl
  ·
    obtain ⟨st, r, s, D, rfl, ⟨hst, hR⟩, ok, hlen, h1, h2, q⟩ := h
    obtain ⟨nl0, nl1, nb0, nb1, nd0, nd1⟩ := ok.n
    have hro := ok.r
    have gb := grownF_bounds hro.rate h1
    refine ⟨_, (pss_one (ps_ret (pe_op op_add (pe_ix ix_list (pv 0) pe_int (fun _ _ => rfl)) (pe_op op_mul (pe_ix ix_list (pv 0) pe_int (fun _ _ => rfl)) (pe_call (ok_sum_by T) (hr.mono (by decide)) rfl T.g_sum_by T.F_sum_by.kp T.B_sum_by .nil pass0 (pa_cons (pe_ix ix_list (pv 0) pe_int (fun _ _ => rfl)) (pa_cons (pe_ix ix_list (pv 0) pe_int (fun _ _ => rfl)) (pa_cons (pv 1) pa_nil)))))))), ?_⟩
    walk_at "i"
    refine g_ixL (SqL.of hst) (j := 1) rfl rfl ?_
    walk_at "v"
    refine g_ixL (SqL.of hst) (j := 0) rfl rfl ?_
    walk_at "v"
    refine g_ixL (SqL.of hst) (j := 3) rfl rfl ?_
    walk_at "v"
    refine g_ixL (SqL.of hst) (j := 2) rfl rfl ?_
    walk_at "v"
    refine g_sum_by hR hro hlen (by omega) h1 (by omega) ?_
    walk_at "v"
    exact q
theorem sc_paid : FnScope ["_law_state", "_law_day", "_law_cents", "_law_begun", "_law_interest", "_law_off"] ["_law_state", "_law_day", "_law_cents"] (defScope s_paid) := ⟨rfl, rfl, rfl, by decide +kernel, rfl, by decide +kernel, by decide +kernel⟩
theorem ok_paid (T : Txt w K mg A) : FnOk P w K mg base CX0 3 A.a_paid A.d_paid ["_law_state", "_law_day", "_law_cents"] sp_paidL := by
  refine T.F_paid.ok sc_paid (fun vs H Q E h => ?_) (fun cdv Ar outer s H vs Q E hr h => ?_)
  · obtain ⟨st, r, s, D, c, rfl, _⟩ := h
    rfl
  ·
    obtain ⟨st, r, s, D, c, rfl, hS, ok, hlen, h1, h2, c0, c1, q⟩ := h
    obtain ⟨hst, hR⟩ := id hS
    refine ⟨_, (pss_cons (ps_set (i := 3) sc_paid.nd rfl (Or.inl rfl) (pe_call (ok_then T) (hr.mono (by decide)) rfl T.g_then T.F_then.kp T.B_then .nil pass0 (pa_cons (pv 0) (pa_cons (pv 1) pa_nil))))
 (pss_cons (ps_if (pt_not (pt_chain op_le op_le pe_int (pv 2) (pe_call (ok_owed T) (hr.mono (by decide)) rfl T.g_owed T.F_owed.kp T.B_owed .nil pass0 (pa_cons (pe_ix ix_list (pv 0) pe_int (fun _ _ => rfl)) (pa_cons (pv 3) pa_nil))))) (pss_one (ps_ret pe_str))
 pss_nil)
 (pss_cons (ps_asg (pe_call (ok_parts T) (hr.mono (by decide)) rfl T.g_parts T.F_parts.kp T.B_parts .nil pass0 (pa_cons (pe_ix ix_list (pv 0) pe_int (fun _ _ => rfl)) (pa_cons (pv 3) (pa_cons (pv 2) pa_nil)))) (pg_tup rfl (pgs_cons (pg_name (i := 4) sc_paid.nd rfl (Or.inl rfl)) (pgs_cons (pg_name (i := 5) sc_paid.nd rfl (Or.inl rfl)) (pgs_cons (pg_sub (pv 0) pe_int set_list) (pgs_cons (pg_sub (pv 0) pe_int set_list) pgs_nil))))))
 (pss_cons (ps_asg (pv 1) (pg_sub (pv 0) pe_int set_list))
 (pss_one (ps_ret (pe_op op_addS (pe_op op_addS (pe_op op_addS (pe_op op_addS (pe_callTy c_str rfl T.n_str (by decide +kernel) (pa_cons (pv 4) pa_nil)) pe_str) (pe_callTy c_str rfl T.n_str (by decide +kernel) (pa_cons (pv 5) pa_nil))) pe_str) (pe_callTy c_str rfl T.n_str (by decide +kernel) (pa_cons (pe_ix ix_list (pv 0) pe_int (fun _ _ => rfl)) pa_nil))))))))), ?_⟩
    walk_at "i"
    refine ⟨st, r, s, D, rfl, hS, ok, hlen, h1, h2, ?_⟩
    have nw := ok.n.walk ok.r.rate (D := D) (by omega) (by omega)
    have hb : ¬ (D < s.d ∨ 100000 < D) := by omega
    obtain ⟨wl0, wl1, wb0, wb1, wd0, wd1⟩ := id nw
    have bad : (c < 1 ∨ owedF s.l (thenF s.l s.b s.d s.row D) < c) → Q (.str "bad pay") H := fun hc => by
      rw [step_pay2 hb hc] at q
      exact q H (But.same (Same.refl _)) hS
    have good := fun hc => step_pay3 (s := s) (D := D) (c := c) hb hc
    have np := fun h1 h2 => nw.pay (c := c) h1 h2
    generalize hB : thenF s.l s.b s.d s.row D = B at *
    have ob : owedF s.l B ≤ 10 ^ 60 ∧ -(10 ^ 60) ≤ owedF s.l B := by unfold owedF; omega
    walk_at "v"
    refine g_ite (fun hc1 => ?_) (fun hc1 => ?_)
    · refine g_call ?_
      walk_at "v"
      refine g_ixL (SqL.of hst) (j := 0) rfl rfl ?_
      walk_at "v"
      cases hc2 : decide (c ≤ owedF s.l B) with
      | false =>
        have hc2 := of_decide_eq_false hc2
        walk_at "v"
        exact bad (by omega)
      | true =>
        have hc2 := of_decide_eq_true hc2
        have hc : ¬ (c < 1 ∨ owedF s.l B < c) := by omega
        rw [good hc] at q
        have e1' := pSum s.l B c
        have e2' := pLeft_off s.l B c
        obtain ⟨pl0, pl1, pb0, pb1, pd0, pd1⟩ := np (by omega) (by omega)
        walk_at "v"
        refine g_ixL (SqL.of hst) (j := 0) rfl rfl ?_
        walk_at "v"
        refine g_parts fun t1 H1 ht1 s1 e1 => ?_
        walk_at "v"
        have hst1 := s1 _ _ hst
        refine g_unpNNSS e1 ?_
        walk_at "v"
        refine g_setL hst1 (j := 0) rfl ?_
        refine ⟨_, _, rfl, ?_⟩
        walk_at "v"
        refine g_setL upd_same (j := 1) rfl ?_
        refine ⟨by trivial, ?_⟩
        walk_at "v"
        refine g_setL upd_same (j := 2) rfl ?_
        walk_at "v"
        have bt : But st H _ := (((But.same s1).trans (but_upd (x := st) (o := .lst [.int (pLeft s.l B c), .int s.b, .int s.d, .ref r]))).trans (but_upd (x := st) (o := .lst [.int (pLeft s.l B c), .int (pBegun s.l B c), .int s.d, .ref r]))).trans (but_upd (x := st) (o := .lst [.int (pLeft s.l B c), .int (pBegun s.l B c), .int D, .ref r]))
        have h4 : (upd (upd (upd H1 st (.lst [.int (pLeft s.l B c), .int s.b, .int s.d, .ref r])) st (.lst [.int (pLeft s.l B c), .int (pBegun s.l B c), .int s.d, .ref r])) st (.lst [.int (pLeft s.l B c), .int (pBegun s.l B c), .int D, .ref r])) st = some (.lst [.int (pLeft s.l B c), .int (pBegun s.l B c), .int D, .ref r]) := upd_same
        have hR4 := hR.but bt (Ne.symm (state_ne hS ok)) (fun ps e => by rw [hst] at e; cases e)
        have q4 := q _ bt ⟨h4, hR4⟩
        have la := tS_short (i := pInt s.l B c) (by omega) (by omega)
        have lb := tS_short (i := pOff s.l B c) (by omega) (by omega)
        have lc := tS_short (i := pLeft s.l B c) (by omega) (by omega)
        have k1 : (Str.ofString " ").length = 1 := by decide +kernel
        unfold tS at la lb lc
        refine g_strI (by omega) (by omega) ?_
        walk_at "v"
        refine g_addS (by omega) ?_
        walk_at "v"
        refine g_strI (by omega) (by omega) ?_
        refine g_addS (by rw [str_app_len]; omega) ?_
        walk_at "v"
        refine g_addS (by rw [str_app_len, str_app_len]; omega) ?_
        walk_at "v"
        refine g_ixL (SqL.of h4) (j := 0) rfl rfl ?_
        walk_at "v"
        refine g_strI (by omega) (by omega) ?_
        refine g_addS (by rw [str_app_len, str_app_len, str_app_len]; omega) ?_
        exact q4
    · walk_at "v"
      exact bad (by omega)
theorem sc_no_desk : FnScope ["_law_amount", "_law_rate"] ["_law_amount", "_law_rate"] (defScope s_no_desk) := ⟨rfl, rfl, rfl, by decide +kernel, rfl, by decide +kernel, by decide +kernel⟩
theorem ok_no_desk (T : Txt w K mg A) : FnOk P w K mg base CX0 7 A.a_no_desk A.d_no_desk ["_law_amount", "_law_rate"] sp_no_desk := by
  refine T.F_no_desk.ok sc_no_desk (fun vs H Q E h => ?_) (fun cdv Ar outer s H vs Q E hr h => ?_)
  · obtain ⟨a, rt, rfl, _⟩ := h
    rfl
  ·
    obtain ⟨a, rt, rfl, hq⟩ := h
    refine ⟨_, (pss_cons (ps_tryM (Wout := fun _ _ _ _ => False) rfl rfl takes0 (fun W pn xe tk _ => (pss_one (ps_expr (pe_callS (ok_desk T) (hr.mono (by decide)) rfl T.g_desk T.F_desk.kp T.B_desk (fun σ => passAt tk σ) (pa_cons (pv 0) (pa_cons (pv 1) (pa_cons (pe_lst (pa_cons pe_str pa_nil)) pa_nil)))))))
 (.cons ⟨rfl, by decide, Or.inl T.g_BadAmount⟩ (fun a oe cls d pn hz hf => (pss_one (ps_ret pe_str))) (.cons ⟨rfl, by decide, Or.inl T.g_BadRate⟩ (fun a oe cls d pn hz hf => (pss_one (ps_ret pe_str))) .nil)))
 (pss_one (ps_ret pe_str))), ?_⟩
    walk_at "i"
    refine g_newS (ns := ["owe 0"]) rfl (by simp) fun p H1 hp s1 hS => ?_
    walk_at "v"
    refine ⟨a, rt, p, ["owe 0"], rfl, hS, by simp, fun z hz => by rw [List.mem_singleton.mp hz]; decide +kernel, fun h H2 s2 => ?_, fun h => ⟨fun h2 H2 s2 => ?_, fun h2 => ?_⟩⟩
    · refine g_hitM (PySem.W.exm_ref T.b_BadAmount T.h_BadAmount T.t_BadAmount T.u_BadAmount_BadAmount) fun e he => ?_
      walk_at "v"
      rcases hq with ⟨_, q⟩ | ⟨h3, _⟩
      · exact q H2
      · exact absurd h h3
    · refine g_missM (PySem.W.exm_ref T.b_BadAmount T.h_BadAmount T.t_BadAmount T.u_BadRate_BadAmount) ?_
      refine g_hitM (PySem.W.exm_ref T.b_BadRate T.h_BadRate T.t_BadRate T.u_BadRate_BadRate) fun e he => ?_
      walk_at "v"
      rcases hq with ⟨h3, _⟩ | ⟨_, _, q⟩
      · exact absurd h3 h
      · exact q H2
    · rcases hq with ⟨h3, _⟩ | ⟨_, h4, _⟩
      · exact absurd h3 h
      · exact absurd h4 h2
theorem sc_l_answer : FnScope ["_law_state", "_law_line_here", "_law_good", "_law_words", "_law_day"] ["_law_state", "_law_line_here", "_law_good"] (defScope s_l_answer) := ⟨rfl, rfl, rfl, by decide +kernel, rfl, by decide +kernel, by decide +kernel⟩
theorem ok_l_answer (T : Txt w K mg A) : FnOk P w K mg base CX0 4 A.a_l_answer A.d_l_answer ["_law_state", "_law_line_here", "_law_good"] sp_ans := by
  refine T.F_l_answer.ok sc_l_answer (fun vs H Q E h => ?_) (fun cdv Ar outer s H vs Q E hr h => ?_)
  · obtain ⟨st, r, s, z, g, rfl, _⟩ := h
    rfl
  ·
    obtain ⟨st, r, s, z, g, rfl, hS, ok, hlen, ⟨lz, _, hg⟩, q⟩ := h
    obtain ⟨hst, hR⟩ := id hS
    have hne := state_ne hS ok
    refine ⟨_, (pss_cons (ps_set (i := 3) sc_l_answer.nd rfl (Or.inl rfl) (pe_bm PySem.F.plainAttrs_str PySem.F.slot_str_split PySem.F.type_str_split m_split (pv 1) (pa_cons pe_str pa_nil)))
 (pss_cons (ps_if (pt_not (pt_val (pv 2))) (pss_one (ps_ret pe_str))
 pss_nil)
 (pss_cons (ps_set (i := 4) sc_l_answer.nd rfl (Or.inl rfl) (pe_callTy c_intS rfl T.n_int (by decide +kernel) (pa_cons (pe_ix ix_list (pv 3) pe_int (fun _ _ => rfl)) pa_nil)))
 (pss_cons (ps_if (pt_cmpR op_eq (pe_ix ix_list (pv 3) pe_int (fun _ _ => rfl)) pe_str (nomark _)) (pss_cons (ps_if (PW.pt (pw_or (pt_cmpR op_le (pv 4) (pe_ix ix_list (pv 0) pe_int (fun _ _ => rfl)) (nomark _)) (pw_or (pt_cmpR op_le (pv 4) (pe_ix ix_tup (pe_ix ix_list (pe_ix ix_list (pv 0) pe_int (fun _ _ => rfl)) (pe_un un_neg pe_int) (fun _ _ => rfl)) pe_int (fun _ _ => rfl)) (nomark _)) (pw_or1 (pt_cmpR op_gt (pv 4) pe_int (nomark _)))))) (pss_one (ps_ret pe_str))
 pss_nil)
 (pss_cons (ps_if (pt_cmpR op_gt (pe_callTy c_intS rfl T.n_int (by decide +kernel) (pa_cons (pe_ix ix_list (pv 3) pe_int (fun _ _ => rfl)) pa_nil)) pe_int (nomark _)) (pss_one (ps_ret pe_str))
 pss_nil)
 (pss_cons (ps_expr (pe_bm PySem.F.plainAttrs_list PySem.F.slot_list_append PySem.F.type_list_append mt_append (pe_ix ix_list (pv 0) pe_int (fun _ _ => rfl)) (pa_cons (pe_tup (pa_cons (pv 4) (pa_cons (pe_callTy c_intS rfl T.n_int (by decide +kernel) (pa_cons (pe_ix ix_list (pv 3) pe_int (fun _ _ => rfl)) pa_nil)) pa_nil))) pa_nil)))
 (pss_one (ps_ret pe_str)))))
 pss_nil)
 (pss_cons (ps_if (pt_not (pt_chain op_le op_le (pe_ix ix_list (pv 0) pe_int (fun _ _ => rfl)) (pv 4) pe_int)) (pss_one (ps_ret pe_str))
 pss_nil)
 (pss_cons (ps_if (pt_cmpR op_eq (pe_ix ix_list (pv 3) pe_int (fun _ _ => rfl)) pe_str (nomark _)) (pss_one (ps_ret (pe_callTy c_str rfl T.n_str (by decide +kernel) (pa_cons (pe_call (ok_owed T) (hr.mono (by decide)) rfl T.g_owed T.F_owed.kp T.B_owed .nil pass0 (pa_cons (pe_ix ix_list (pv 0) pe_int (fun _ _ => rfl)) (pa_cons (pe_call (ok_then T) (hr.mono (by decide)) rfl T.g_then T.F_then.kp T.B_then .nil pass0 (pa_cons (pv 0) (pa_cons (pv 4) pa_nil))) pa_nil))) pa_nil))))
 pss_nil)
 (pss_one (ps_ret (pe_call (ok_paid T) (hr.mono (by decide)) rfl T.g_paid T.F_paid.kp T.B_paid .nil pass0 (pa_cons (pv 0) (pa_cons (pv 4) (pa_cons (pe_callTy c_intS rfl T.n_int (by decide +kernel) (pa_cons (pe_ix ix_list (pv 3) pe_int (fun _ _ => rfl)) pa_nil)) pa_nil)))))))))))), ?_⟩
    walk_at "i"
    refine g_splitS (by omega) fun p1 H1 hp1 s1 hW => ?_
    rcases hg with ⟨rfl, hn⟩ | ⟨rfl, w, ns, rfl, hm, hb⟩
    · walk_at "v"
      rw [hn] at q
      exact q H1 (But2.same s1) (hS.same s1)
    obtain ⟨hsp, hnt⟩ := good_note hm hb
    rw [hsp] at hW
    rw [hnt] at q
    have hS1 := hS.same s1
    have hst1 := hS1.1
    have hR1 := hS1.2
    obtain ⟨ld, lr, hlast⟩ : ∃ ld lr, s.row.getLast? = some (ld, lr) := by
      rcases List.eq_nil_or_concat s.row with e | ⟨ys, p, e⟩
      · exact absurd e ok.r.ne
      · exact ⟨p.1, p.2, by rw [e, List.concat_eq_append, last_snoc]⟩
    have eld : lastDay s.row = ld := by unfold lastDay; rw [hlast]; rfl
    have nk := ok.n.d0
    walk_at "v"
    rcases many_cases hm with ⟨rfl, k⟩ | ⟨rfl, k⟩ | ⟨rfl, k⟩
    · obtain ⟨D, c, rfl⟩ : ∃ D c, ns = [D, c] := by
        match ns, k with
        | [D, c], _ => exact ⟨D, c, rfl⟩
      have bD := hb D (by simp)
      have bc := hb c (by simp)
      have lD := (tS_good bD.1 bD.2).2.2.2.2
      have lc := (tS_good bc.1 bc.2).2.2.2.2
      refine g_ixSt hW (j := 1) rfl rfl ?_
      walk_at "v"
      refine g_intS (tS_int bD.1 bD.2) (by omega) ?_
      walk_at "v"
      refine g_ixSt hW (j := 0) rfl rfl ?_
      walk_at "v"
      refine g_ite (fun h => absurd h (by decide +kernel)) (fun _ => ?_)
      walk_at "v"
      have bad : (D < s.d ∨ 100000 < D) → Q (.str "bad day") H1 := fun hc => by
        rw [step_pay1 hc] at q
        exact q H1 (But2.same s1) hS1
      refine g_ixL (SqL.of hst1) (j := 2) rfl rfl ?_
      walk_at "v"
      refine g_ite (fun a1 => ?_) (fun a1 => ?_)
      · walk_at "v"
        cases a2 : decide (D ≤ 100000) with
        | false =>
          have a2 := of_decide_eq_false a2
          walk_at "v"
          exact bad (by omega)
        | true =>
          have a2 := of_decide_eq_true a2
          walk_at "v"
          refine g_ixSt hW (j := 0) rfl rfl ?_
          walk_at "v"
          refine g_ite (fun h => absurd h (by decide +kernel)) (fun _ => ?_)
          walk_at "v"
          refine g_ixSt hW (j := 2) rfl rfl ?_
          walk_at "v"
          refine g_intS (tS_int bc.1 bc.2) (by omega) ?_
          walk_at "v"
          exact ⟨st, r, s, D, c, rfl, hS1, ok, hlen, a1, a2, bc.1, bc.2, fun H2 b2 hS2 => q H2 ((But2.same s1).trans (But2.of1 b2)) hS2⟩
      · walk_at "v"
        exact bad (by omega)
    · obtain ⟨D, c, rfl⟩ : ∃ D c, ns = [D, c] := by
        match ns, k with
        | [D, c], _ => exact ⟨D, c, rfl⟩
      have bD := hb D (by simp)
      have bc := hb c (by simp)
      have lD := (tS_good bD.1 bD.2).2.2.2.2
      have lc := (tS_good bc.1 bc.2).2.2.2.2
      have bad : (D ≤ max s.d (lastDay s.row) ∨ 100000 < D) → Q (.str "bad day") H1 := fun hc => by
        rw [step_rate1 hc] at q
        exact q H1 (But2.same s1) hS1
      refine g_ixSt hW (j := 1) rfl rfl ?_
      walk_at "v"
      refine g_intS (tS_int bD.1 bD.2) (by omega) ?_
      walk_at "v"
      refine g_ixSt hW (j := 0) rfl rfl ?_
      walk_at "v"
      refine g_ite (fun _ => ?_) (fun h => absurd rfl h)
      walk_at "v"
      refine g_ixL (SqL.of hst1) (j := 2) rfl rfl ?_
      walk_at "v"
      refine g_ite (fun a1 => ?_) (fun a1 => ?_)
      · walk_at "v"
        exact bad (by omega)
      · walk_at "v"
        refine g_ixL (SqL.of hst1) (j := 3) rfl rfl ?_
        walk_at "v"
        refine g_ixLast hR1 rfl hlast fun t0 ht0 => ?_
        walk_at "v"
        refine g_ixT (j := 0) ht0 rfl ?_
        walk_at "v"
        refine g_ite (fun a2 => ?_) (fun a2 => ?_)
        · walk_at "v"
          exact bad (by omega)
        · walk_at "v"
          refine g_ite (fun a3 => ?_) (fun a3 => ?_)
          · walk_at "v"
            exact bad (by omega)
          · have hno : ¬ (D ≤ max s.d (lastDay s.row) ∨ 100000 < D) := by omega
            walk_at "v"
            refine g_ixSt hW (j := 2) rfl rfl ?_
            walk_at "v"
            refine g_intS (tS_int bc.1 bc.2) (by omega) ?_
            walk_at "v"
            refine g_ite (fun a4 => ?_) (fun a4 => ?_)
            · walk_at "v"
              rw [step_rate2 hno a4] at q
              exact q H1 (But2.same s1) hS1
            · rw [step_rate3 hno a4] at q
              obtain ⟨xs, hx1, hx2⟩ := id hR1
              walk_at "v"
              refine g_ixL (SqL.of hst1) (j := 3) rfl rfl ?_
              walk_at "v"
              refine g_tyL hx1 ?_
              walk_at "v"
              refine g_ixSt hW (j := 2) rfl rfl ?_
              walk_at "v"
              refine g_intS (tS_int bc.1 bc.2) (by omega) ?_
              walk_at "v"
              refine g_newT (by simp) fun t2 H2 ht2 s2 h2 => ?_
              walk_at "v"
              refine g_append (s2 _ _ hx1) (by rw [hx2.len]; omega) ?_
              walk_at "v"
              have hr2 : H2 r = some (.lst xs) := s2 _ _ hx1
              have nt : ∀ ps, H2 r ≠ some (.tup ps) := fun ps e => by rw [hr2] at e; cases e
              have tr : t2 ≠ r := fun z => nt _ (by rw [← z]; exact h2)
              refine q _ ((But2.same (s1.trans s2)).trans (But2.of2 but_upd)) ⟨?_, ?_⟩
              · rw [upd_ne hne]; exact s2 _ _ hst1
              · refine ⟨_, upd_same, ((hx2.mono fun q' ps e => s2 _ _ e).mono fun q' ps e => ?_).app (.cons ?_ .nil)⟩
                · rw [upd_ne (fun z => nt ps (by rw [← z]; exact e))]; exact e
                · rw [upd_ne tr]; exact h2
    · obtain ⟨D, rfl⟩ : ∃ D, ns = [D] := by
        match ns, k with
        | [D], _ => exact ⟨D, rfl⟩
      have bD := hb D (by simp)
      have lD := (tS_good bD.1 bD.2).2.2.2.2
      have bad : (D < s.d ∨ 100000 < D) → Q (.str "bad day") H1 := fun hc => by
        rw [step_owe1 hc] at q
        exact q H1 (But2.same s1) hS1
      refine g_ixSt hW (j := 1) rfl rfl ?_
      walk_at "v"
      refine g_intS (tS_int bD.1 bD.2) (by omega) ?_
      walk_at "v"
      refine g_ixSt hW (j := 0) rfl rfl ?_
      walk_at "v"
      refine g_ite (fun h => absurd h (by decide +kernel)) (fun _ => ?_)
      walk_at "v"
      refine g_ixL (SqL.of hst1) (j := 2) rfl rfl ?_
      walk_at "v"
      refine g_ite (fun a1 => ?_) (fun a1 => ?_)
      · walk_at "v"
        cases a2 : decide (D ≤ 100000) with
        | false =>
          have a2 := of_decide_eq_false a2
          walk_at "v"
          exact bad (by omega)
        | true =>
          have a2 := of_decide_eq_true a2
          rw [step_owe2 (by omega)] at q
          have nw := ok.n.walk ok.r.rate (D := D) (by omega) (by omega)
          obtain ⟨wl0, wl1, wb0, wb1, wd0, wd1⟩ := nw
          walk_at "v"
          refine g_ixSt hW (j := 0) rfl rfl ?_
          walk_at "v"
          refine g_ite (fun _ => ?_) (fun h => absurd rfl h)
          walk_at "v"
          refine g_ixL (SqL.of hst1) (j := 0) rfl rfl ?_
          walk_at "v"
          refine ⟨st, r, s, D, rfl, hS1, ok, hlen, a1, a2, ?_⟩
          have ob : owedF s.l (thenF s.l s.b s.d s.row D) ≤ 10 ^ 60 ∧ -(10 ^ 60) ≤ owedF s.l (thenF s.l s.b s.d s.row D) := by unfold owedF; omega
          walk_at "v"
          refine g_strI (by omega) (by omega) ?_
          exact q H1 (But2.same s1) hS1
      · walk_at "v"
        exact bad (by omega)

theorem kb1 : (Str.ofString " ").length = 1 := by decide +kernel
theorem kb2 : (Str.ofString "\n").length = 1 := by decide +kernel
theorem kb3 : (Str.ofString "\t").length = 1 := by decide +kernel
theorem kb4 : (Str.ofString " 1").length = 2 := by decide +kernel
theorem kb5 : (Str.ofString "Owe").length = 3 := by decide +kernel
theorem kb6 : (Str.ofString "owe +").length = 5 := by decide +kernel
theorem kb7 : (Str.ofString "_0").length = 2 := by decide +kernel
theorem kb8 : (Str.ofString ".").length = 1 := by decide +kernel
theorem kb9 : (Str.ofString "owe ").length = 4 := by decide +kernel
theorem kb10 : (Str.ofString "a").length = 1 := by decide +kernel
theorem kb11 : (repS (Str.ofString "1") 31).length = 31 := by decide +kernel
theorem owe_plus (b : Str) : noteF (Str.ofString "owe +" ++ b) = none := by
  rw [show (Str.ofString "owe +" : Str) = "owe " ++ "+" by decide +kernel, str_assoc]
  exact odd_owe (c := 43) (by rw [str_app, List.mem_append]; exact .inl (by decide +kernel)) (by decide)
theorem owe_a (b : Str) : noteF (Str.ofString "owe " ++ b ++ Str.ofString "a") = none := by
  rw [str_assoc]
  exact odd_owe (c := 97) (by rw [str_app, List.mem_append]; exact .inr (by decide +kernel)) (by decide)
theorem sc_odd_line : FnScope ["_law_line_here", "_law_cell", "_law_some"] ["_law_line_here", "_law_cell"] (defScope s_odd_line) := ⟨rfl, rfl, rfl, by decide +kernel, rfl, by decide +kernel, by decide +kernel⟩
theorem ok_odd_line (T : Txt w K mg A) : FnOk P w K mg base CX0 1 A.a_odd_line A.d_odd_line ["_law_line_here", "_law_cell"] sp_odd := by
  refine T.F_odd_line.ok sc_odd_line (fun vs H Q E h => ?_) (fun cdv Ar outer s H vs Q E hr h => ?_)
  · obtain ⟨d, c, rfl, _⟩ := h
    rfl
  ·
    obtain ⟨d, c, rfl, d0, d1, q⟩ := h
    obtain ⟨_, _, dg, t1, t2⟩ := tS_good d0 d1
    have dig := digs_all dg
    have hu : Txt.upper ("owe " ++ tS d) = ⟨("owe " ++ tS d : Str).cps.map PyProof.Rows.up1⟩ := PyProof.Rows.upper_ascii fun x hx => by
      rw [str_app, List.mem_append] at hx
      rcases hx with hx | hx
      · exact (show ∀ x ∈ (Str.ofString "owe ").cps.toList, x < 128 by decide +kernel) x hx
      · have := dig x hx; omega
    have hup : noteF (Txt.upper ("owe " ++ tS d)) = none := by
      have e : (Txt.upper ("owe " ++ tS d)).cps.toList.head? = some 79 := by
        rw [hu]
        show (((("owe " : Str) ++ tS d).cps.map PyProof.Rows.up1).toList).head? = some 79
        rw [Array.toList_map, str_app, List.map_append, List.head?_append]
        rfl
      exact odd_head (by rw [e]; decide)
    have o1 : ∀ (X : Str) (k : Nat), k ∈ X.cps.toList → ¬ (48 ≤ k ∧ k ≤ 57) → noteF ("owe " ++ tS d ++ X) = none := fun X k hk hn => by
      rw [str_assoc]
      exact odd_owe (c := k) (by rw [str_app, List.mem_append]; exact .inr hk) hn
    have oh : ∀ (X Y : Str) (k : Nat), X.cps.toList.head? = some k → k ≠ 112 ∧ k ≠ 114 ∧ k ≠ 111 → noteF (X ++ Y) = none := fun X Y k hk hn => by
      have e : (X ++ Y).cps.toList.head? = some k := by rw [str_app, List.head?_append, hk]; rfl
      exact odd_head (by rw [e]; exact ⟨fun z => hn.1 (Option.some.inj z), fun z => hn.2.1 (Option.some.inj z), fun z => hn.2.2 (Option.some.inj z)⟩)
    have ll : (Str.ofString "owe " ++ tS d).length ≤ 34 := by rw [str_app_len, show (Str.ofString "owe ").length = 4 by decide +kernel]; omega
    have hlo : okS (Str.ofString "owe " ++ tS d) := okS_app (by decide +kernel) (okS_tS d)
    have hlu : okS (Txt.upper (Str.ofString "owe " ++ tS d)) := fun c hc => by
      rw [hu] at hc
      have hc2 : c ∈ ((Str.ofString "owe " ++ tS d).cps.toList.map PyProof.Rows.up1) := by rw [← Array.toList_map]; exact hc
      obtain ⟨x, hx, rfl⟩ := List.mem_map.mp hc2
      have := hlo x hx
      unfold PyProof.Rows.up1
      split <;> omega
    have u1 := PyProof.Rows.len_upper (Str.ofString "owe " ++ tS d)
    refine ⟨_, (pss_cons (ps_set (i := 2) sc_odd_line.nd rfl (Or.inl rfl) (pe_lst (pa_cons pe_str (pa_cons pe_str (pa_cons pe_str (pa_cons pe_str (pa_cons pe_str (pa_cons pe_str (pa_cons pe_str (pa_cons pe_str (pa_cons (pe_op op_addS pe_str (pv 0)) (pa_cons (pe_op op_addS (pv 0) pe_str) pa_nil))))))))))))
 (pss_cons (ps_set (i := 2) sc_odd_line.nd rfl (Or.inl rfl) (pe_op op_cat (pv 2) (pe_lst (pa_cons (pe_op op_addS (pv 0) pe_str) (pa_cons (pe_op op_addS pe_str (pv 0)) (pa_cons (pe_op op_addS (pv 0) pe_str) (pa_cons (pe_bm0 PySem.F.plainAttrs_str PySem.F.slot_str_upper PySem.F.type_str_upper m_upper (pv 0)) (pa_cons (pe_op op_addS (pv 0) pe_str) (pa_cons pe_str (pa_cons pe_str pa_nil))))))))))
 (pss_cons (ps_set (i := 2) sc_odd_line.nd rfl (Or.inl rfl) (pe_op op_cat (pv 2) (pe_lst (pa_cons (pe_op op_addS pe_str (pe_slice sl_str (pv 0) (po_some pe_int) po_none)) (pa_cons pe_str (pa_cons pe_str (pa_cons (pe_op op_addS pe_str (pe_slice sl_str (pv 0) (po_some pe_int) po_none)) (pa_cons (pe_op op_addS (pv 0) pe_str) (pa_cons (pe_op op_addS (pv 0) pe_str) (pa_cons pe_str pa_nil))))))))))
 (pss_cons (ps_set (i := 2) sc_odd_line.nd rfl (Or.inl rfl) (pe_op op_cat (pv 2) (pe_lst (pa_cons (pe_op op_addS pe_str (pe_op op_rep_str pe_str pe_int)) (pa_cons pe_str (pa_cons pe_str (pa_cons (pe_op op_addS (pe_op op_addS pe_str (pe_slice sl_str (pv 0) (po_some pe_int) po_none)) pe_str) pa_nil)))))))
 (pss_one (ps_ret (pe_ix ix_list (pv 2) (pe_op op_mod (pv 1) pe_int) (fun _ _ => rfl)))))))), ?_⟩
    generalize hline : (Str.ofString "owe " ++ tS d) = line at *
    walk_at "i"
    refine g_addS (by first | omega | (simp only [str_app_len, kb1, kb2, kb3, kb4, kb5, kb6, kb7, kb8, kb9, kb10, kb11]; omega)) ?_
    walk_at "v"
    refine g_addS (by first | omega | (simp only [str_app_len, kb1, kb2, kb3, kb4, kb5, kb6, kb7, kb8, kb9, kb10, kb11]; omega)) ?_
    walk_at "v"
    refine g_newS (ns := ["", "pay", "pay 1", "owe", "owe 01", "rate 1 -2", "PAY 1 1", "pay  1 1", Str.ofString " " ++ line, line ++ Str.ofString " "]) rfl (by simp) fun p1 H1 hp1 s1 hL1 => ?_
    have m1 : ∀ v ∈ ([Str.ofString "", Str.ofString "pay", Str.ofString "pay 1", Str.ofString "owe", Str.ofString "owe 01", Str.ofString "rate 1 -2", Str.ofString "PAY 1 1", Str.ofString "pay  1 1", Str.ofString " " ++ line, line ++ Str.ofString " "] : List Str), v.length ≤ 20000 ∧ noteF v = none ∧ okS v := by
      intro v hv
      simp only [List.mem_cons, List.not_mem_nil, or_false] at hv
      rcases hv with rfl | rfl | rfl | rfl | rfl | rfl | rfl | rfl | rfl | rfl
      case inr.inr.inr.inr.inr.inr.inr.inr.inl => exact ⟨(by first | omega | (simp only [str_app_len, kb1, kb2, kb3, kb4, kb5, kb6, kb7, kb8, kb9, kb10, kb11]; omega)), oh _ _ 32 (by decide +kernel) (by decide), (by first | exact hlu | exact okS_app hlo (by decide +kernel) | exact okS_app (by decide +kernel) hlo | exact okS_app (by decide +kernel) (by assumption) | exact okS_app (okS_app (by decide +kernel) (by assumption)) (by decide +kernel))⟩
      case inr.inr.inr.inr.inr.inr.inr.inr.inr => exact ⟨(by first | omega | (simp only [str_app_len, kb1, kb2, kb3, kb4, kb5, kb6, kb7, kb8, kb9, kb10, kb11]; omega)), o1 _ 32 (by decide +kernel) (by decide), (by first | exact hlu | exact okS_app hlo (by decide +kernel) | exact okS_app (by decide +kernel) hlo | exact okS_app (by decide +kernel) (by assumption) | exact okS_app (okS_app (by decide +kernel) (by assumption)) (by decide +kernel))⟩
      all_goals exact odd_const _ (by decide +kernel)
    have n1 : ([Str.ofString "", Str.ofString "pay", Str.ofString "pay 1", Str.ofString "owe", Str.ofString "owe 01", Str.ofString "rate 1 -2", Str.ofString "PAY 1 1", Str.ofString "pay  1 1", Str.ofString " " ++ line, line ++ Str.ofString " "] : List Str).length = 10 := rfl
    generalize ([Str.ofString "", Str.ofString "pay", Str.ofString "pay 1", Str.ofString "owe", Str.ofString "owe 01", Str.ofString "rate 1 -2", Str.ofString "PAY 1 1", Str.ofString "pay  1 1", Str.ofString " " ++ line, line ++ Str.ofString " "] : List Str) = L1 at *
    walk_at "v"
    refine g_addS (by first | omega | (simp only [str_app_len, kb1, kb2, kb3, kb4, kb5, kb6, kb7, kb8, kb9, kb10, kb11]; omega)) ?_
    walk_at "v"
    refine g_addS (by first | omega | (simp only [str_app_len, kb1, kb2, kb3, kb4, kb5, kb6, kb7, kb8, kb9, kb10, kb11]; omega)) ?_
    walk_at "v"
    refine g_addS (by first | omega | (simp only [str_app_len, kb1, kb2, kb3, kb4, kb5, kb6, kb7, kb8, kb9, kb10, kb11]; omega)) ?_
    walk_at "v"
    refine g_upper (by omega) ?_
    walk_at "v"
    refine g_addS (by first | omega | (simp only [str_app_len, kb1, kb2, kb3, kb4, kb5, kb6, kb7, kb8, kb9, kb10, kb11]; omega)) ?_
    walk_at "v"
    refine g_newS (ns := [line ++ Str.ofString "\n", Str.ofString "\t" ++ line, line ++ Str.ofString "\t", Txt.upper line, line ++ Str.ofString " 1", "pay 1 1 ", "rate 90000 5\n"]) rfl (by simp) fun p2 H2 hp2 s2 hL2 => ?_
    have m2 : ∀ v ∈ ([line ++ Str.ofString "\n", Str.ofString "\t" ++ line, line ++ Str.ofString "\t", Txt.upper line, line ++ Str.ofString " 1", Str.ofString "pay 1 1 ", Str.ofString "rate 90000 5\n"] : List Str), v.length ≤ 20000 ∧ noteF v = none ∧ okS v := by
      intro v hv
      simp only [List.mem_cons, List.not_mem_nil, or_false] at hv
      rcases hv with rfl | rfl | rfl | rfl | rfl | rfl | rfl
      · exact ⟨(by first | omega | (simp only [str_app_len, kb1, kb2, kb3, kb4, kb5, kb6, kb7, kb8, kb9, kb10, kb11]; omega)), o1 _ 10 (by decide +kernel) (by decide), (by first | exact hlu | exact okS_app hlo (by decide +kernel) | exact okS_app (by decide +kernel) hlo | exact okS_app (by decide +kernel) (by assumption) | exact okS_app (okS_app (by decide +kernel) (by assumption)) (by decide +kernel))⟩
      · exact ⟨(by first | omega | (simp only [str_app_len, kb1, kb2, kb3, kb4, kb5, kb6, kb7, kb8, kb9, kb10, kb11]; omega)), oh _ _ 9 (by decide +kernel) (by decide), (by first | exact hlu | exact okS_app hlo (by decide +kernel) | exact okS_app (by decide +kernel) hlo | exact okS_app (by decide +kernel) (by assumption) | exact okS_app (okS_app (by decide +kernel) (by assumption)) (by decide +kernel))⟩
      · exact ⟨(by first | omega | (simp only [str_app_len, kb1, kb2, kb3, kb4, kb5, kb6, kb7, kb8, kb9, kb10, kb11]; omega)), o1 _ 9 (by decide +kernel) (by decide), (by first | exact hlu | exact okS_app hlo (by decide +kernel) | exact okS_app (by decide +kernel) hlo | exact okS_app (by decide +kernel) (by assumption) | exact okS_app (okS_app (by decide +kernel) (by assumption)) (by decide +kernel))⟩
      · exact ⟨(by first | omega | (simp only [str_app_len, kb1, kb2, kb3, kb4, kb5, kb6, kb7, kb8, kb9, kb10, kb11]; omega)), hup, (by first | exact hlu | exact okS_app hlo (by decide +kernel) | exact okS_app (by decide +kernel) hlo | exact okS_app (by decide +kernel) (by assumption) | exact okS_app (okS_app (by decide +kernel) (by assumption)) (by decide +kernel))⟩
      · exact ⟨(by first | omega | (simp only [str_app_len, kb1, kb2, kb3, kb4, kb5, kb6, kb7, kb8, kb9, kb10, kb11]; omega)), o1 _ 32 (by decide +kernel) (by decide), (by first | exact hlu | exact okS_app hlo (by decide +kernel) | exact okS_app (by decide +kernel) hlo | exact okS_app (by decide +kernel) (by assumption) | exact okS_app (okS_app (by decide +kernel) (by assumption)) (by decide +kernel))⟩
      · exact odd_const _ (by decide +kernel)
      · exact odd_const _ (by decide +kernel)
    have n2 : ([line ++ Str.ofString "\n", Str.ofString "\t" ++ line, line ++ Str.ofString "\t", Txt.upper line, line ++ Str.ofString " 1", Str.ofString "pay 1 1 ", Str.ofString "rate 90000 5\n"] : List Str).length = 7 := rfl
    generalize ([line ++ Str.ofString "\n", Str.ofString "\t" ++ line, line ++ Str.ofString "\t", Txt.upper line, line ++ Str.ofString " 1", Str.ofString "pay 1 1 ", Str.ofString "rate 90000 5\n"] : List Str) = L2 at *
    refine g_catSt (s2 _ _ hL1) hL2 (by omega) fun p3 H3 hp3 s3 hL3 => ?_
    walk_at "v"
    refine g_slS2 (by omega) fun b1 hb1 hs1 => ?_
    have hk1 := hs1 hlo
    refine g_addS (by first | omega | (simp only [str_app_len, kb1, kb2, kb3, kb4, kb5, kb6, kb7, kb8, kb9, kb10, kb11]; omega)) ?_
    walk_at "v"
    refine g_slS2 (by omega) fun b2 hb2 hs2 => ?_
    have hk2 := hs2 hlo
    refine g_addS (by first | omega | (simp only [str_app_len, kb1, kb2, kb3, kb4, kb5, kb6, kb7, kb8, kb9, kb10, kb11]; omega)) ?_
    walk_at "v"
    refine g_addS (by first | omega | (simp only [str_app_len, kb1, kb2, kb3, kb4, kb5, kb6, kb7, kb8, kb9, kb10, kb11]; omega)) ?_
    walk_at "v"
    refine g_addS (by first | omega | (simp only [str_app_len, kb1, kb2, kb3, kb4, kb5, kb6, kb7, kb8, kb9, kb10, kb11]; omega)) ?_
    walk_at "v"
    refine g_newS (ns := [Str.ofString "Owe" ++ b1, "Pay 1 1", "Rate 90000 5", Str.ofString "owe +" ++ b2, line ++ Str.ofString "_0", line ++ Str.ofString ".", "owe -0"]) rfl (by simp) fun p4 H4 hp4 s4 hL4 => ?_
    have m4 : ∀ v ∈ ([Str.ofString "Owe" ++ b1, Str.ofString "Pay 1 1", Str.ofString "Rate 90000 5", Str.ofString "owe +" ++ b2, line ++ Str.ofString "_0", line ++ Str.ofString ".", Str.ofString "owe -0"] : List Str), v.length ≤ 20000 ∧ noteF v = none ∧ okS v := by
      intro v hv
      simp only [List.mem_cons, List.not_mem_nil, or_false] at hv
      rcases hv with rfl | rfl | rfl | rfl | rfl | rfl | rfl
      · exact ⟨(by first | omega | (simp only [str_app_len, kb1, kb2, kb3, kb4, kb5, kb6, kb7, kb8, kb9, kb10, kb11]; omega)), oh _ _ 79 (by decide +kernel) (by decide), (by first | exact hlu | exact okS_app hlo (by decide +kernel) | exact okS_app (by decide +kernel) hlo | exact okS_app (by decide +kernel) (by assumption) | exact okS_app (okS_app (by decide +kernel) (by assumption)) (by decide +kernel))⟩
      · exact odd_const _ (by decide +kernel)
      · exact odd_const _ (by decide +kernel)
      · exact ⟨(by first | omega | (simp only [str_app_len, kb1, kb2, kb3, kb4, kb5, kb6, kb7, kb8, kb9, kb10, kb11]; omega)), owe_plus b2, (by first | exact hlu | exact okS_app hlo (by decide +kernel) | exact okS_app (by decide +kernel) hlo | exact okS_app (by decide +kernel) (by assumption) | exact okS_app (okS_app (by decide +kernel) (by assumption)) (by decide +kernel))⟩
      · exact ⟨(by first | omega | (simp only [str_app_len, kb1, kb2, kb3, kb4, kb5, kb6, kb7, kb8, kb9, kb10, kb11]; omega)), o1 _ 95 (by decide +kernel) (by decide), (by first | exact hlu | exact okS_app hlo (by decide +kernel) | exact okS_app (by decide +kernel) hlo | exact okS_app (by decide +kernel) (by assumption) | exact okS_app (okS_app (by decide +kernel) (by assumption)) (by decide +kernel))⟩
      · exact ⟨(by first | omega | (simp only [str_app_len, kb1, kb2, kb3, kb4, kb5, kb6, kb7, kb8, kb9, kb10, kb11]; omega)), o1 _ 46 (by decide +kernel) (by decide), (by first | exact hlu | exact okS_app hlo (by decide +kernel) | exact okS_app (by decide +kernel) hlo | exact okS_app (by decide +kernel) (by assumption) | exact okS_app (okS_app (by decide +kernel) (by assumption)) (by decide +kernel))⟩
      · exact odd_const _ (by decide +kernel)
    have n4 : ([Str.ofString "Owe" ++ b1, Str.ofString "Pay 1 1", Str.ofString "Rate 90000 5", Str.ofString "owe +" ++ b2, line ++ Str.ofString "_0", line ++ Str.ofString ".", Str.ofString "owe -0"] : List Str).length = 7 := rfl
    generalize ([Str.ofString "Owe" ++ b1, Str.ofString "Pay 1 1", Str.ofString "Rate 90000 5", Str.ofString "owe +" ++ b2, line ++ Str.ofString "_0", line ++ Str.ofString ".", Str.ofString "owe -0"] : List Str) = L4 at *
    refine g_catSt (s4 _ _ hL3) hL4 (by rw [List.length_append]; omega) fun p5 H5 hp5 s5 hL5 => ?_
    walk_at "v"
    refine g_addS (by first | omega | (simp only [str_app_len, kb1, kb2, kb3, kb4, kb5, kb6, kb7, kb8, kb9, kb10, kb11]; omega)) ?_
    walk_at "v"
    refine g_slS2 (by omega) fun b3 hb3 hs3 => ?_
    have hk3 := hs3 hlo
    refine g_addS (by first | omega | (simp only [str_app_len, kb1, kb2, kb3, kb4, kb5, kb6, kb7, kb8, kb9, kb10, kb11]; omega)) ?_
    walk_at "v"
    refine g_addS (by first | omega | (simp only [str_app_len, kb1, kb2, kb3, kb4, kb5, kb6, kb7, kb8, kb9, kb10, kb11]; omega)) ?_
    walk_at "v"
    refine g_newS (ns := [Str.ofString "owe " ++ repS (Str.ofString "1") 31, "owe 0x5", "pay 00 1", Str.ofString "owe " ++ b3 ++ Str.ofString "a"]) rfl (by simp) fun p6 H6 hp6 s6 hL6 => ?_
    have m6 : ∀ v ∈ ([Str.ofString "owe " ++ repS (Str.ofString "1") 31, Str.ofString "owe 0x5", Str.ofString "pay 00 1", Str.ofString "owe " ++ b3 ++ Str.ofString "a"] : List Str), v.length ≤ 20000 ∧ noteF v = none ∧ okS v := by
      intro v hv
      simp only [List.mem_cons, List.not_mem_nil, or_false] at hv
      rcases hv with rfl | rfl | rfl | rfl
      · exact odd_31
      · exact odd_const _ (by decide +kernel)
      · exact odd_const _ (by decide +kernel)
      · exact ⟨(by first | omega | (simp only [str_app_len, kb1, kb2, kb3, kb4, kb5, kb6, kb7, kb8, kb9, kb10, kb11]; omega)), owe_a b3, (by first | exact hlu | exact okS_app hlo (by decide +kernel) | exact okS_app (by decide +kernel) hlo | exact okS_app (by decide +kernel) (by assumption) | exact okS_app (okS_app (by decide +kernel) (by assumption)) (by decide +kernel))⟩
    have n6 : ([Str.ofString "owe " ++ repS (Str.ofString "1") 31, Str.ofString "owe 0x5", Str.ofString "pay 00 1", Str.ofString "owe " ++ b3 ++ Str.ofString "a"] : List Str).length = 4 := rfl
    generalize ([Str.ofString "owe " ++ repS (Str.ofString "1") 31, Str.ofString "owe 0x5", Str.ofString "pay 00 1", Str.ofString "owe " ++ b3 ++ Str.ofString "a"] : List Str) = L6 at *
    refine g_catSt (s6 _ _ hL5) hL6 (by rw [List.length_append, List.length_append]; omega) fun p7 H7 hp7 s7 hL7 => ?_
    walk_at "v"
    generalize hk : c % 28 = k
    have k0 : 0 ≤ k := by omega
    have k1 : k < 28 := by omega
    obtain ⟨v, hv⟩ : ∃ v, (L1 ++ L2 ++ L4 ++ L6)[k.toNat]? = some v := ⟨_, List.getElem?_eq_getElem (by rw [List.length_append, List.length_append, List.length_append]; omega)⟩
    have mv : v.length ≤ 20000 ∧ noteF v = none ∧ okS v := by
      have hm := List.mem_of_getElem? hv
      rw [List.mem_append, List.mem_append, List.mem_append] at hm
      rcases hm with ((z | z) | z) | z
      · exact m1 v z
      · exact m2 v z
      · exact m4 v z
      · exact m6 v z
    refine g_ixSt hL7 (j := k.toNat) (by omega) hv ?_
    exact q v H7 ((((((s1.trans s2).trans s3).trans s4).trans s5).trans s6).trans s7) mv.2.1 mv.1 mv.2.2

theorem sc_line : FnScope ["_law_state", "_law_cell", "_law_day", "_law_size", "_law_rate", "_law_owed_here", "_law_some"] ["_law_state", "_law_cell"] (defScope s_line) := ⟨rfl, rfl, rfl, by decide +kernel, rfl, by decide +kernel, by decide +kernel⟩
theorem ok_line (T : Txt w K mg A) : FnOk P w K mg base CX0 3 A.a_line A.d_line ["_law_state", "_law_cell"] sp_line := by
  refine T.F_line.ok sc_line (fun vs H Q E h => ?_) (fun cdv Ar outer s H vs Q E hr h => ?_)
  · obtain ⟨st, r, s, c, rfl, _⟩ := h
    rfl
  ·
    obtain ⟨st, r, s, c, rfl, hS, ok, hlen, q⟩ := h
    obtain ⟨hst, hR⟩ := id hS
    obtain ⟨nl0, nl1, nb0, nb1, nd0, nd1⟩ := ok.n
    obtain ⟨ld, lr, hlast⟩ : ∃ ld lr, s.row.getLast? = some (ld, lr) := by
      rcases List.eq_nil_or_concat s.row with e | ⟨ys, p, e⟩
      · exact absurd e ok.r.ne
      · exact ⟨p.1, p.2, by rw [e, List.concat_eq_append, last_snoc]⟩
    have eld : lastDay s.row = ld := by unfold lastDay; rw [hlast]; rfl
    have hla := ok.la
    have kO : (Str.ofString "owe ").length = 4 := by decide +kernel
    have kR : (Str.ofString "rate ").length = 5 := by decide +kernel
    have kP : (Str.ofString "pay ").length = 4 := by decide +kernel
    have k1 : (Str.ofString " ").length = 1 := by decide +kernel
    have fit : ∀ n : Int, 0 ≤ n → n < 10 ^ 30 → (Str.ofString (toString n)).length ≤ 30 := fun n a b => (tS_good a b).2.2.2.2
    refine ⟨_, (pss_cons (ps_if (pt_cmpR op_eq (pe_op op_mod (pv 1) pe_int) pe_int (nomark _)) (pss_one (ps_ret (pe_call (ok_odd_line T) (hr.mono (by decide)) rfl T.g_odd_line T.F_odd_line.kp T.B_odd_line .nil pass0 (pa_cons (pe_op op_addS pe_str (pe_callTy c_str rfl T.n_str (by decide +kernel) (pa_cons (pe_ix ix_list (pv 0) pe_int (fun _ _ => rfl)) pa_nil))) (pa_cons (pe_op op_fdiv (pv 1) pe_int) pa_nil)))))
 pss_nil)
 (pss_cons (ps_set (i := 2) sc_line.nd rfl (Or.inl rfl) (pe_op op_add (pe_ix ix_list (pv 0) pe_int (fun _ _ => rfl)) (pe_op op_mod (pe_op op_fdiv (pv 1) pe_int) pe_int)))
 (Evl.pss_cut (ps_if (pt_cmpR op_eq (pe_op op_mod (pe_op op_fdiv (pv 1) pe_int) pe_int) pe_int (nomark _)) (pss_one (ps_set (i := 2) sc_line.nd rfl (Or.inl rfl) (pe_op op_add (pv 2) (pe_call (ok_mixed T) (hr.mono (by decide)) rfl T.g_mixed T.F_mixed.kp T.B_mixed .nil pass0 (pa_cons (pv 1) (pa_cons pe_int pa_nil))))))
 pss_nil)
 (Evl.pss_cut (ps_if (pt_cmpR op_eq (pe_op op_mod (pe_op op_fdiv (pv 1) pe_int) pe_int) pe_int (nomark _)) (pss_one (ps_set (i := 2) sc_line.nd rfl (Or.inl rfl) (pe_ix ix_list (pe_lst (pa_cons (pe_callB (c_max rfl) rfl T.n_max (by decide +kernel) (pa_cons pe_int (pa_cons (pe_op op_sub (pe_ix ix_list (pv 0) pe_int (fun _ _ => rfl)) pe_int) pa_nil))) (pa_cons pe_int (pa_cons (pe_op op_pow pe_int pe_int) pa_nil)))) (pe_op op_mod (pe_op op_fdiv (pv 1) pe_int) pe_int) (fun _ _ => rfl))))
 pss_nil)
 (pss_cons (ps_set (i := 3) sc_line.nd rfl (Or.inl rfl) (pe_op op_fdiv (pv 1) pe_int))
 (pss_cons (ps_if (pt_cmpR op_lt (pe_op op_mod (pv 1) pe_int) pe_int (nomark _)) (pss_one (ps_ret (pe_op op_addS pe_str (pe_callTy c_str rfl T.n_str (by decide +kernel) (pa_cons (pv 2) pa_nil)))))
 pss_nil)
 (pss_cons (ps_if (pt_cmpR op_lt (pe_op op_mod (pv 1) pe_int) pe_int (nomark _)) (pss_cons (ps_set (i := 2) sc_line.nd rfl (Or.inl rfl) (pe_callB (c_max rfl) rfl T.n_max (by decide +kernel) (pa_cons (pv 2) (pa_cons (pe_op op_add (pe_ix ix_tup (pe_ix ix_list (pe_ix ix_list (pv 0) pe_int (fun _ _ => rfl)) (pe_un un_neg pe_int) (fun _ _ => rfl)) pe_int (fun _ _ => rfl)) (pe_op op_mod (pe_op op_fdiv (pv 1) pe_int) pe_int)) pa_nil))))
 (pss_cons (ps_set (i := 4) sc_line.nd rfl (Or.inl rfl) (pe_ix ix_list (pe_lst (pa_cons (pe_call (ok_rate_by T) (hr.mono (by decide)) rfl T.g_rate_by T.F_rate_by.kp T.B_rate_by .nil pass0 (pa_cons (pv 3) pa_nil)) (pa_cons pe_int (pa_cons (pe_op op_pow pe_int pe_int) pa_nil)))) (pe_op op_add (pe_callTy c_int rfl T.n_int (by decide +kernel) (pa_cons (pe_cmpR op_gt (pe_op op_mod (pv 3) pe_int) pe_int (nomark _)) pa_nil)) (pe_callTy c_int rfl T.n_int (by decide +kernel) (pa_cons (pe_cmpR op_gt (pe_op op_mod (pv 3) pe_int) pe_int (nomark _)) pa_nil))) (fun _ _ => rfl)))
 (pss_one (ps_ret (pe_op op_addS (pe_op op_addS (pe_op op_addS pe_str (pe_callTy c_str rfl T.n_str (by decide +kernel) (pa_cons (pv 2) pa_nil))) pe_str) (pe_callTy c_str rfl T.n_str (by decide +kernel) (pa_cons (pv 4) pa_nil)))))))
 pss_nil)
 (pss_cons (ps_set (i := 5) sc_line.nd rfl (Or.inl rfl) (pe_ix ix_list (pv 0) pe_int (fun _ _ => rfl)))
 (Evl.pss_cut (ps_if (pt_chain op_le op_le (pe_ix ix_list (pv 0) pe_int (fun _ _ => rfl)) (pv 2) pe_int) (pss_one (ps_set (i := 5) sc_line.nd rfl (Or.inl rfl) (pe_call (ok_owed T) (hr.mono (by decide)) rfl T.g_owed T.F_owed.kp T.B_owed .nil pass0 (pa_cons (pe_ix ix_list (pv 0) pe_int (fun _ _ => rfl)) (pa_cons (pe_call (ok_then T) (hr.mono (by decide)) rfl T.g_then T.F_then.kp T.B_then .nil pass0 (pa_cons (pv 0) (pa_cons (pv 2) pa_nil))) pa_nil)))))
 pss_nil)
 (pss_cons (ps_set (i := 6) sc_line.nd rfl (Or.inl rfl) (pe_lst (pa_cons pe_int (pa_cons (pe_op op_fdiv (pv 5) pe_int) (pa_cons (pv 5) (pa_cons (pe_op op_add (pv 5) pe_int) (pa_cons pe_int (pa_cons (pe_op op_pow pe_int pe_int) (pa_cons (pe_op op_add pe_int (pe_op op_mod (pe_op op_mul (pe_call (ok_mixed T) (hr.mono (by decide)) rfl T.g_mixed T.F_mixed.kp T.B_mixed .nil pass0 (pa_cons (pv 3) (pa_cons pe_int pa_nil))) pe_int) (pe_op op_add (pv 5) pe_int))) pa_nil)))))))))
 (pss_one (ps_ret (pe_op op_addS (pe_op op_addS (pe_op op_addS pe_str (pe_callTy c_str rfl T.n_str (by decide +kernel) (pa_cons (pv 2) pa_nil))) pe_str) (pe_callTy c_str rfl T.n_str (by decide +kernel) (pa_cons (pe_ix ix_list (pv 6) (pe_op op_mod (pv 3) pe_int) (fun _ _ => rfl)) pa_nil))))))))))))))), ?_⟩
    walk_at "i"
    refine g_ite (fun hc => ?_) (fun hc => ?_)
    · walk_at "v"
      refine g_ixL (SqL.of hst) (j := 2) rfl rfl ?_
      walk_at "v"
      refine g_strI (by omega) (by omega) ?_
      have := fit s.d nd0 (by omega)
      refine g_addS (by omega) ?_
      walk_at "v"
      exact ⟨s.d, c / 11, rfl, nd0, by omega, fun z H' s' hz lz hk => q z H' s' ⟨lz, hk, .inl ⟨decide_eq_false (by omega), hz⟩⟩⟩
    have hg : decide (c % 11 < 10) = true := decide_eq_true (by omega)
    rw [hg] at q
    have out1 : ∀ (D : Int) H', Same H H' → 0 ≤ D → D < 10 ^ 30 → Q (.str (Str.ofString "owe " ++ Str.ofString (toString D))) H' := fun D H' s' a b => by
      refine q _ H' s' ⟨by rw [str_app_len]; have := fit D a b; omega, okS_app (by decide +kernel) (okS_tS D), .inr ⟨rfl, "owe", [D], ?_, rfl, fun n hn => by rw [List.mem_singleton.mp hn]; exact ⟨a, b⟩⟩⟩
      show _ = ("owe" : Str) ++ " " ++ tS D
      rw [show ("owe" ++ " " : Str) = "owe " by decide +kernel]; rfl
    have out2 : ∀ (w x : Str) (D e : Int) H', w ++ " " = x → many w = some 2 → x.length ≤ 5 → okS x → Same H H' → 0 ≤ D → D < 10 ^ 30 → 0 ≤ e → e < 10 ^ 30 → Q (.str (x ++ Str.ofString (toString D) ++ Str.ofString " " ++ Str.ofString (toString e))) H' := fun w x D e H' hx hm lx kx s' a b a2 b2 => by
      have f1 := fit D a b
      have f2 := fit e a2 b2
      refine q _ H' s' ⟨by rw [str_app_len, str_app_len, str_app_len]; omega, okS_app (okS_app (okS_app kx (okS_tS D)) (by decide +kernel)) (okS_tS e), .inr ⟨rfl, w, [D, e], ?_, hm, fun n hn => ?_⟩⟩
      · show _ = w ++ " " ++ (tS D ++ " " ++ tS e)
        rw [hx]
        rw [str_assoc (x ++ _), str_assoc x, ← str_assoc (Str.ofString (toString D))]; rfl
      · simp only [List.mem_cons, List.not_mem_nil, or_false] at hn
        rcases hn with z | z <;> rw [z]
        · exact ⟨a, b⟩
        · exact ⟨a2, b2⟩
    walk_at "v"
    refine g_ixL (SqL.of hst) (j := 2) rfl rfl ?_
    walk_at "v"
    refine g_cutM (fun σ0 σ' H' => H' = H ∧ ∃ D : Int, σ' = σ0.set 2 (some (.int D)) ∧ 0 ≤ D ∧ D < 10 ^ 30) ?_ ?_
    · walk_at "v"
      refine g_ite (fun h2 => ?_) (fun h2 => ?_)
      · walk_at "v"
        exact ⟨rfl, _, by walk_at "z", by have := mixed_lo (c := c) (m := 9000) (by decide); omega, by have := mixed_hi (c := c) (m := 9000) (by decide); omega⟩
      · walk_at "v"
        exact ⟨rfl, _, by walk_at "z", by omega, by omega⟩
    rintro σ' H' ⟨rfl, D, rfl, D0, D1⟩
    walk_at "v"
    refine g_cutM (fun σ0 σ' H2 => Same H' H2 ∧ ∃ D : Int, σ' = σ0.set 2 (some (.int D)) ∧ 0 ≤ D ∧ D < 10 ^ 30) ?_ ?_
    · walk_at "v"
      refine g_ite (fun h2 => ?_) (fun h2 => ?_)
      · walk_at "v"
        refine g_ixL (SqL.of hst) (j := 2) rfl rfl ?_
        walk_at "v"
        refine g_newI (ns := [max 0 (s.d - 1), 100001, 10 ^ Int.toNat 29]) rfl (by simp) fun l1 H1 hl1 s1 hI1 => ?_
        walk_at "v"
        obtain ⟨e, he, e0, e1⟩ : ∃ e, ([max 0 (s.d - 1), 100001, 10 ^ Int.toNat 29] : List Int)[(c / 385 % 3).toNat]? = some e ∧ 0 ≤ e ∧ e < 10 ^ 30 := by
          have h3 : c / 385 % 3 = 0 ∨ c / 385 % 3 = 1 ∨ c / 385 % 3 = 2 := by omega
          rcases h3 with h3 | h3 | h3 <;> rw [h3]
          · exact ⟨_, rfl, by omega, by omega⟩
          · exact ⟨_, rfl, by decide, by decide +kernel⟩
          · exact ⟨_, rfl, by decide +kernel, by decide +kernel⟩
        refine g_ixI hI1 (j := (c / 385 % 3).toNat) (by omega) he ?_
        exact ⟨s1, e, by walk_at "z", e0, e1⟩
      · walk_at "v"
        exact ⟨Same.refl _, _, by walk_at "z", by omega, by omega⟩
    rintro σ' H2 ⟨s2, D, rfl, D0, D1⟩
    have hst2 := s2 _ _ hst
    have hR2 := hR.same s2
    have fD := fit D D0 D1
    walk_at "v"
    refine g_ite (fun h2 => ?_) (fun h2 => ?_)
    · walk_at "v"
      refine g_strI (by omega) (by omega) ?_
      refine g_addS (by omega) ?_
      exact out1 D H2 s2 D0 D1
    walk_at "v"
    refine g_ite (fun h4 => ?_) (fun h4 => ?_)
    · walk_at "v"
      refine g_ixL (SqL.of hst2) (j := 3) rfl rfl ?_
      walk_at "v"
      refine g_ixLast hR2 rfl hlast fun t0 ht0 => ?_
      walk_at "v"
      refine g_ixT (j := 0) ht0 rfl ?_
      have ld0 : 0 ≤ ld := by
        rw [← eld]
        obtain ⟨r0, tl, er⟩ := ok.r.head
        have := RowOk.le_last ok.r.asc (0, r0) (by rw [er]; simp)
        exact this
      walk_at "v"
      refine g_rate_by fun H3 s3 => ?_
      have rb := rateBy_ok (c / 770)
      generalize rateBy (c / 770) = rb0 at *
      walk_at "v"
      refine g_newI (ns := [rb0, 100001, 10 ^ Int.toNat 29]) rfl (by simp) fun l1 H4 hl1 s4 hI4 => ?_
      walk_at "v"
      generalize hD' : max D (ld + c / 385 % 3) = D'
      have D0' : 0 ≤ D' := by omega
      have D1' : D' < 10 ^ 30 := by omega
      have fD' := fit D' D0' D1'
      generalize hk : (if decide (3 < c / 770 % 6) = true then (1 : Int) else 0) + (if decide (4 < c / 770 % 6) = true then (1 : Int) else 0) = k
      have k02 : k = 0 ∨ k = 1 ∨ k = 2 := by rw [← hk]; split <;> split <;> simp
      obtain ⟨e, he, e0, e1⟩ : ∃ e, ([rb0, 100001, 10 ^ Int.toNat 29] : List Int)[k.toNat]? = some e ∧ 0 ≤ e ∧ e < 10 ^ 30 := by
        rcases k02 with h3 | h3 | h3 <;> rw [h3]
        · exact ⟨_, rfl, by omega, by omega⟩
        · exact ⟨_, rfl, by decide, by decide +kernel⟩
        · exact ⟨_, rfl, by decide +kernel, by decide +kernel⟩
      have fe := fit e e0 e1
      refine g_ixI hI4 (j := k.toNat) (by omega) he ?_
      walk_at "v"
      refine g_strI (by omega) (by omega) ?_
      refine g_addS (by omega) ?_
      walk_at "v"
      refine g_addS (by rw [str_app_len]; omega) ?_
      walk_at "v"
      refine g_strI (by omega) (by omega) ?_
      refine g_addS (by rw [str_app_len, str_app_len]; omega) ?_
      exact out2 "rate" "rate " D' e H4 (by decide +kernel) rfl (by omega) (by decide +kernel) ((s2.trans s3).trans s4) D0' D1' e0 e1
    walk_at "v"
    refine g_ixL (SqL.of hst2) (j := 0) rfl rfl ?_
    walk_at "v"
    refine g_cutM (fun σ0 σ' H' => H' = H2 ∧ ∃ o : Int, σ' = σ0.set 5 (some (.int o)) ∧ 0 ≤ o ∧ o ≤ 10 ^ 20) ?_ ?_
    · walk_at "v"
      refine g_ixL (SqL.of hst2) (j := 2) rfl rfl ?_
      walk_at "v"
      refine g_ite (fun a1 => ?_) (fun a1 => ?_)
      · walk_at "v"
        cases a2 : decide (D ≤ 100000) with
        | false =>
          walk_at "v"
          exact ⟨rfl, s.l, by walk_at "z", nl0, by omega⟩
        | true =>
          have a2 := of_decide_eq_true a2
          obtain ⟨wl0, wl1, wb0, wb1, wd0, wd1⟩ := ok.n.walk ok.r.rate (D := D) a1 a2
          walk_at "v"
          refine g_ixL (SqL.of hst2) (j := 0) rfl rfl ?_
          walk_at "v"
          refine ⟨st, r, s, D, rfl, ⟨hst2, hR2⟩, ok, hlen, a1, a2, ?_⟩
          walk_at "v"
          exact ⟨rfl, _, by walk_at "z", by unfold owedF; omega, by unfold owedF; omega⟩
      · walk_at "v"
        exact ⟨rfl, s.l, by walk_at "z", nl0, by omega⟩
    rintro σ' H3 ⟨rfl, o, rfl, o0, o1⟩
    have mx0 := mixed_lo (c := c / 770) (m := 2147483647) (by decide)
    have mo0 : 0 ≤ mixed (c / 770) 2147483647 * 467 % (o + 1) := Int.emod_nonneg _ (by omega)
    have mo1 : mixed (c / 770) 2147483647 * 467 % (o + 1) < o + 1 := Int.emod_lt_of_pos _ (by omega)
    walk_at "v"
    generalize mixed (c / 770) 2147483647 * 467 % (o + 1) = mo at *
    refine g_newI (ns := [1, o / 2, o, o + 1, 0, 10 ^ Int.toNat 29, 1 + mo]) rfl (by simp) fun l1 H4 hl1 s4 hI4 => ?_
    walk_at "v"
    refine g_strI (by omega) (by omega) ?_
    refine g_addS (by omega) ?_
    walk_at "v"
    refine g_addS (by rw [str_app_len]; omega) ?_
    walk_at "v"
    generalize hk : c / 770 % 7 = k
    obtain ⟨e, he, e0, e1⟩ : ∃ e, ([1, o / 2, o, o + 1, 0, 10 ^ Int.toNat 29, 1 + mo] : List Int)[k.toNat]? = some e ∧ 0 ≤ e ∧ e < 10 ^ 30 := by
      have k7 : k = 0 ∨ k = 1 ∨ k = 2 ∨ k = 3 ∨ k = 4 ∨ k = 5 ∨ k = 6 := by omega
      rcases k7 with h3 | h3 | h3 | h3 | h3 | h3 | h3 <;> rw [h3]
      · exact ⟨_, rfl, by decide, by decide +kernel⟩
      · exact ⟨_, rfl, by omega, by omega⟩
      · exact ⟨_, rfl, by omega, by omega⟩
      · exact ⟨_, rfl, by omega, by omega⟩
      · exact ⟨_, rfl, by decide, by decide +kernel⟩
      · exact ⟨_, rfl, by decide +kernel, by decide +kernel⟩
      · exact ⟨_, rfl, by omega, by omega⟩
    have fe := fit e e0 e1
    refine g_ixI hI4 (j := k.toNat) (by omega) he ?_
    walk_at "v"
    refine g_strI (by omega) (by omega) ?_
    refine g_addS (by rw [str_app_len, str_app_len]; omega) ?_
    exact out2 "pay" "pay " D e H4 (by decide +kernel) rfl (by omega) (by decide +kernel) (s2.trans s4) D0 D1 e0 e1

theorem sc_law : FnScope ["_law_script", "_law_amount", "_law_rate", "_law_ways", "_law_state", "_law_lines", "_law_due", "_law_cell", "_law_handed", "_law_found", "_law_k"] ["_law_script"] (defScope s_law) := ⟨rfl, rfl, rfl, by decide +kernel, rfl, by decide +kernel, by decide +kernel⟩
theorem ok_law (T : Txt w K mg A) : FnOk P w K mg base CX0 8 A.a_law A.d_law ["_law_script"] (sp_law K) := by
  refine T.F_law.ok sc_law (fun vs H Q E h => ?_) (fun cdv Ar outer s H vs Q E hr h => ?_)
  · obtain ⟨a, ns, rfl, _⟩ := h
    rfl
  ·
    obtain ⟨a, ns, rfl, hS, hlen, hbits, q⟩ := h
    refine ⟨_, (pss_cons (ps_set (i := 1) sc_law.nd rfl (Or.inl rfl) (pe_call (ok_amount_by T) (hr.mono (by decide)) rfl T.g_amount_by T.F_amount_by.kp T.B_amount_by .nil pass0 (pa_cons (pe_call (ok_cell_at T) (hr.mono (by decide)) rfl T.g_cell_at T.F_cell_at.kp T.B_cell_at .nil pass0 (pa_cons (pv 0) (pa_cons pe_int pa_nil))) pa_nil)))
 (pss_cons (ps_set (i := 2) sc_law.nd rfl (Or.inl rfl) (pe_call (ok_rate_by T) (hr.mono (by decide)) rfl T.g_rate_by T.F_rate_by.kp T.B_rate_by .nil pass0 (pa_cons (pe_call (ok_cell_at T) (hr.mono (by decide)) rfl T.g_cell_at T.F_cell_at.kp T.B_cell_at .nil pass0 (pa_cons (pv 0) (pa_cons pe_int pa_nil))) pa_nil)))
 (pss_cons (ps_set (i := 3) sc_law.nd rfl (Or.inl rfl) (pe_op op_mod (pe_call (ok_cell_at T) (hr.mono (by decide)) rfl T.g_cell_at T.F_cell_at.kp T.B_cell_at .nil pass0 (pa_cons (pv 0) (pa_cons pe_int pa_nil))) pe_int))
 (pss_cons (ps_if (pt_cmpR op_eq (pv 3) pe_int (nomark _)) (pss_one (ps_ret (pe_cmpR op_eq (pe_call (ok_no_desk T) (hr.mono (by decide)) rfl T.g_no_desk T.F_no_desk.kp T.B_no_desk .nil pass0 (pa_cons (pe_ix ix_list (pe_lst (pa_cons pe_int (pa_cons (pe_op op_add pe_int (pv 1)) pa_nil))) (pe_op op_mod (pv 1) pe_int) (fun _ _ => rfl)) (pa_cons (pe_ix ix_list (pe_lst (pa_cons (pv 2) (pa_cons pe_int pa_nil))) (pe_op op_mod (pe_op op_fdiv (pv 1) pe_int) pe_int) (fun _ _ => rfl)) pa_nil))) pe_str (nomark _))))
 pss_nil)
 (pss_cons (ps_if (pt_cmpR op_eq (pv 3) pe_int (nomark _)) (pss_one (ps_ret (pe_cmpR op_eq (pe_call (ok_no_desk T) (hr.mono (by decide)) rfl T.g_no_desk T.F_no_desk.kp T.B_no_desk .nil pass0 (pa_cons (pv 1) (pa_cons (pe_ix ix_list (pe_lst (pa_cons pe_int (pa_cons (pe_un un_neg pe_int) pa_nil))) (pe_op op_mod (pv 1) pe_int) (fun _ _ => rfl)) pa_nil))) pe_str (nomark _))))
 pss_nil)
 (pss_cons (ps_set (i := 4) sc_law.nd rfl (Or.inl rfl) (pe_lst (pa_cons (pv 1) (pa_cons pe_int (pa_cons pe_int (pa_cons (pe_lst (pa_cons (pe_tup (pa_cons pe_int (pa_cons (pv 2) pa_nil))) pa_nil)) pa_nil))))))
 (pss_cons (ps_set (i := 5) sc_law.nd rfl (Or.inl rfl) (pe_lst pa_nil))
 (pss_cons (ps_set (i := 6) sc_law.nd rfl (Or.inl rfl) (pe_lst pa_nil))
 (pss_cons (ps_for PassesOwn.never rfl (pi_list (pe_slice sl_list (pv 0) (po_some pe_int) po_none)) (pg_name (i := 7) sc_law.nd rfl (Or.inl rfl))
 (pss_one (ps_if (pt_cmpR op_lt (pe_callB c_len rfl T.n_len (by decide +kernel) (pa_cons (pe_ix ix_list (pv 4) pe_int (fun _ _ => rfl)) pa_nil)) pe_int (nomark _)) (pss_cons (ps_expr (pe_bm PySem.F.plainAttrs_list PySem.F.slot_list_append PySem.F.type_list_append mt_append (pv 5) (pa_cons (pe_call (ok_line T) (hr.mono (by decide)) rfl T.g_line T.F_line.kp T.B_line .nil pass0 (pa_cons (pv 4) (pa_cons (pv 7) pa_nil))) pa_nil)))
 (pss_one (ps_expr (pe_bm PySem.F.plainAttrs_list PySem.F.slot_list_append PySem.F.type_list_append mt_append (pv 6) (pa_cons (pe_call (ok_l_answer T) (hr.mono (by decide)) rfl T.g_l_answer T.F_l_answer.kp T.B_l_answer .nil pass0 (pa_cons (pv 4) (pa_cons (pe_ix ix_list (pv 5) (pe_un un_neg pe_int) (fun _ _ => rfl)) (pa_cons (pe_cmpR op_lt (pe_op op_mod (pv 7) pe_int) pe_int (nomark _)) pa_nil)))) pa_nil)))))
 pss_nil)))
 (pss_cons (ps_set (i := 8) sc_law.nd rfl (Or.inl rfl) (pe_callTy c_list rfl T.n_list (by decide +kernel) (pa_cons (pv 5) pa_nil)))
 (pss_cons (ps_set (i := 9) sc_law.nd rfl (Or.inl rfl) (pe_call (ok_desk T) (hr.mono (by decide)) rfl T.g_desk T.F_desk.kp T.B_desk .nil passL (pa_cons (pv 1) (pa_cons (pv 2) (pa_cons (pv 8) pa_nil)))))
 (pss_cons (ps_if (PW.pt (pw_or (pt_not (pt_val (pe_callB call_isi rfl T.n_isinstance (by decide +kernel) (pa_cons (pv 9) (pa_cons (pe_bltn (v := .ty "list") rfl T.n_list (by decide +kernel) rfl) pa_nil))))) (pw_or (pt_cmpR op_ne (pe_callB c_len rfl T.n_len (by decide +kernel) (pa_cons (pv 9) pa_nil)) (pe_callB c_len rfl T.n_len (by decide +kernel) (pa_cons (pv 6) pa_nil)) (nomark _)) (pw_or1 (pt_cmpR (op_neD hr.units) (pv 8) (pv 5) (nomark _)))))) (pss_one (ps_ret pe_bl))
 pss_nil)
 (pss_cons (ps_for PassesOwn.never rfl (pi_range1 rfl T.n_range (pa_cons (pe_callB c_len rfl T.n_len (by decide +kernel) (pa_cons (pv 6) pa_nil)) pa_nil)) (pg_name (i := 10) sc_law.nd rfl (Or.inl rfl))
 (pss_one (ps_if (PW.pt (pw_or (pt_not (pt_val (pe_callB call_isi rfl T.n_isinstance (by decide +kernel) (pa_cons (pe_ix ix_list (pv 9) (pv 10) (fun _ _ => rfl)) (pa_cons (pe_bltn (v := .ty "str") rfl T.n_str (by decide +kernel) rfl) pa_nil))))) (pw_or1 (pt_cmpR op_ne (pe_ix ix_list (pv 9) (pv 10) (fun _ _ => rfl)) (pe_ix ix_list (pv 6) (pv 10) (fun _ _ => rfl)) (nomark _))))) (pss_one (ps_ret pe_bl))
 pss_nil)))
 (pss_one (ps_ret (pe_and (pe_cmpR (op_eqD hr.units) (pe_call (ok_desk T) (hr.mono (by decide)) rfl T.g_desk T.F_desk.kp T.B_desk .nil passL (pa_cons (pv 1) (pa_cons (pv 2) (pa_cons (pv 8) pa_nil)))) (pv 6) (nomark _)) (pe_and (pe_cmpR (op_eqD hr.units) (pv 9) (pv 6) (nomark _)) (pe_one (pe_cmpR (op_eqD hr.units) (pv 8) (pv 5) (nomark _)))))))))))))))))))), ?_⟩
    walk_at "i"
    refine g_amount_by fun H1 s1 => ?_
    have hS1 := SqL.same hS s1
    walk_at "v"
    refine g_rate_by fun H2 s2 => ?_
    have hS2 := SqL.same hS1 s2
    have am := amountBy_ok (cellAt ns 0)
    have rb := rateBy_ok (cellAt ns 1)
    generalize amountBy (cellAt ns 0) = am0 at *
    generalize rateBy (cellAt ns 1) = rt at *
    walk_at "v"
    refine g_ite (fun w7 => ?_) (fun w7 => ?_)
    · walk_at "v"
      refine g_newI (ns := [0, 1000000000000 + am0]) rfl (by simp) fun l1 H3 hl1 s3 hI3 => ?_
      walk_at "v"
      obtain ⟨e, he, hb⟩ : ∃ e, ([0, 1000000000000 + am0] : List Int)[(am0 % 2).toNat]? = some e ∧ (e < 1 ∨ 1000000000000 < e) := by
        have h2 : am0 % 2 = 0 ∨ am0 % 2 = 1 := by omega
        rcases h2 with h2 | h2 <;> rw [h2]
        · exact ⟨_, rfl, by omega⟩
        · exact ⟨_, rfl, by omega⟩
      refine g_ixI hI3 (j := (am0 % 2).toNat) (by omega) he ?_
      walk_at "v"
      refine g_newI (ns := [rt, 100001]) rfl (by simp) fun l2 H4 hl2 s4 hI4 => ?_
      walk_at "v"
      obtain ⟨e2, he2⟩ : ∃ e, ([rt, 100001] : List Int)[(am0 / 2 % 2).toNat]? = some e := ⟨_, List.getElem?_eq_getElem (by show _ < 2; omega)⟩
      refine g_ixI hI4 (j := (am0 / 2 % 2).toNat) (by omega) he2 ?_
      walk_at "v"
      refine ⟨e, e2, rfl, .inl ⟨hb, fun H5 => ?_⟩⟩
      walk_at "v"
      exact q H5
    walk_at "v"
    refine g_ite (fun w8 => ?_) (fun w8 => ?_)
    · walk_at "v"
      refine g_newI (ns := [100001, -1]) rfl (by simp) fun l1 H3 hl1 s3 hI3 => ?_
      walk_at "v"
      obtain ⟨e, he, hb⟩ : ∃ e, ([100001, -1] : List Int)[(am0 % 2).toNat]? = some e ∧ (e < 0 ∨ 100000 < e) := by
        have h2 : am0 % 2 = 0 ∨ am0 % 2 = 1 := by omega
        rcases h2 with h2 | h2 <;> rw [h2]
        · exact ⟨_, rfl, by omega⟩
        · exact ⟨_, rfl, by omega⟩
      refine g_ixI hI3 (j := (am0 % 2).toNat) (by omega) he ?_
      walk_at "v"
      refine ⟨am0, e, rfl, .inr ⟨by omega, hb, fun H5 => ?_⟩⟩
      walk_at "v"
      exact q H5
    walk_at "v"
    refine g_newT (by simp) fun t3 H3 ht3 s3 h3 => ?_
    walk_at "v"
    refine g_newL (by simp) fun r H4 hr s4 h4 => ?_
    walk_at "v"
    have hR4 : RowAt H4 r [(0, rt)] := ⟨_, h4, .cons (s4 _ _ h3) .nil⟩
    refine g_newL (by simp) fun st H5 hst s5 h5 => ?_
    walk_at "v"
    have k0 : S4.Ok ⟨am0, 0, 0, [(0, rt)]⟩ := row_one (by omega) (by omega) (by omega) (by omega)
    have hS5 : StateAt H5 st ⟨am0, 0, 0, [(0, rt)]⟩ r := ⟨h5, hR4.same s5⟩
    generalize hs0 : (⟨am0, 0, 0, [(0, rt)]⟩ : S4) = s0 at k0 hS5
    have hl0 : s0.row.length = 1 := by rw [← hs0]; rfl
    refine g_newS (ns := []) rfl (by simp) fun ll H6 hll s6 hL6 => ?_
    walk_at "v"
    refine g_newS (ns := []) rfl (by simp) fun dl H7 hdl s7 hD7 => ?_
    walk_at "v"
    have hS7s := SqL.same hS2 ((((s3.trans s4).trans s5).trans s6).trans s7)
    have hS7 := (hS5.same s6).same s7
    have hL7 : StrsAt H7 ll [] := s7 _ _ hL6
    refine g_forE ?_
    walk_at "v"
    have hD7' : H7 dl = some (.lst []) := hD7
    have hL6' : H6 ll = some (.lst []) := hL6
    have st_r : st ≠ r := state_ne hS7 k0
    have st_l : st ≠ ll := ne_of_none h5 hll
    have r_l : r ≠ ll := ne_of_none (s5 _ _ h4) hll
    have st_d : st ≠ dl := ne_of_none (s6 _ _ h5) hdl
    have r_d : r ≠ dl := ne_of_none (s6 _ _ (s5 _ _ h4)) hdl
    have l_d : ll ≠ dl := ne_of_none hL6' hdl
    show rSlL K (.ref a) (some ((2 : Nat) : Int)) none H7 _
    refine g_slLF hS7s fun p8 H8 hp8 s8 h8 => ?_
    have hS8 := hS7.same s8
    have hL8 : StrsAt H8 ll [] := s8 _ _ hL7
    have hD8 : StrsAt H8 dl [] := s8 _ _ hD7
    have p_st : p8 ≠ st := Ne.symm (ne_of_none hS7.1 hp8)
    have p_r : p8 ≠ r := Ne.symm (ne_of_none (s7 _ _ (s6 _ _ (s5 _ _ h4))) hp8)
    have p_l : p8 ≠ ll := Ne.symm (ne_of_none hL7 hp8)
    have p_d : p8 ≠ dl := Ne.symm (ne_of_none hD7' hp8)
    refine g_forEL (SqL.of h8) (fun σ0 i σ' H' => (∀ b o, b ≠ st → b ≠ r → b ≠ ll → b ≠ dl → H8 b = some o → H' b = some o) ∧ (∃ ls : List Str, ls.length ≤ i ∧ (∀ z ∈ ls, z.length ≤ 20000 ∧ okS z) ∧ StrsAt H' ll ls ∧ StrsAt H' dl (runF s0 ls).1 ∧ StateAt H' st (runF s0 ls).2 r) ∧ ∃ v, σ' = σ0.set 7 v)
      ⟨fun _ _ _ _ _ _ e => e, ⟨[], Nat.le_refl _, (fun z h => nomatch h), hL8, hD8, hS8⟩, none, by walk_at "z"⟩ (fun i σ' H' _ ⟨kp, _⟩ => SqL.of (kp _ _ p_st p_r p_l p_d h8)) ?_ ?_
    · rintro i y σ' H' hy ⟨kp, ⟨ls, hls, hz, hl', hd', hSt⟩, v, rfl⟩
      have hy2 : (ns.map V.int)[2 + i]? = some y := by rw [← List.getElem?_drop]; exact hy
      obtain ⟨c, hc, rfl⟩ := ints_at hy2
      have i61 : 2 + i < ns.length := (List.getElem?_eq_some_iff.mp hc).1
      obtain ⟨k1, k2, k3⟩ := runF_ok k0 ls
      have sn := fun z => runF_snoc s0 ls z
      generalize hsi : (runF s0 ls).2 = si at *
      generalize hai : (runF s0 ls).1 = ai at *
      walk_at "v"
      refine g_ixL (SqL.of hSt.1) (j := 3) rfl rfl ?_
      walk_at "v"
      refine g_lenRow hSt.2 rfl ?_
      walk_at "v"
      refine g_ite (fun c60 => ?_) (fun c60 => ?_)
      · walk_at "v"
        refine g_tyL hl' ?_
        walk_at "v"
        refine ⟨st, r, si, c, rfl, hSt, k1, by omega, fun z H1 s1 lok => ?_⟩
        obtain ⟨lz, kz, _⟩ := id lok
        have hl1 := s1 _ _ hl'
        have hd1 := s1 _ _ hd'
        have hSt1 := hSt.same s1
        walk_at "v"
        refine g_append hl1 (by rw [List.length_map]; omega) ?_
        have hSt2 : StateAt (upd H1 ll (.lst (ls.map V.str ++ [.str z]))) st si r := ⟨by rw [upd_ne st_l]; exact hSt1.1, hSt1.2.but but_upd r_l (fun ps e => by rw [hl1] at e; cases e)⟩
        have hd2 : (upd H1 ll (.lst (ls.map V.str ++ [.str z]))) dl = some (.lst (ai.map V.str)) := by rw [upd_ne (Ne.symm l_d)]; exact hd1
        walk_at "v"
        refine g_tyL hd2 ?_
        walk_at "v"
        refine g_ixLastS upd_same ?_
        walk_at "v"
        refine ⟨st, r, si, z, _, rfl, hSt2, k1, by omega, lok, fun H3 b3 hS3 => ?_⟩
        have hd3 := b3 _ _ (Ne.symm st_d) (Ne.symm r_d) hd2
        have hl3 := b3 _ _ (Ne.symm st_l) (Ne.symm r_l) (upd_same (H := H1) (a := ll) (o := .lst (ls.map V.str ++ [.str z])))
        walk_at "v"
        refine g_append hd3 (by rw [List.length_map]; omega) ?_
        walk_at "v"
        refine ⟨?_, ⟨ls ++ [z], by rw [List.length_append, List.length_singleton]; omega, ?_, ?_, ?_, ?_⟩, _, by walk_at "z"⟩
        · intro b o e1 e2 e3 e4 e
          rw [upd_ne e4]
          exact b3 b o e1 e2 (by rw [upd_ne e3]; exact s1 _ _ (kp b o e1 e2 e3 e4 e))
        · intro w hw
          rcases List.mem_append.mp hw with h | h
          · exact hz w h
          · rw [List.mem_singleton.mp h]; exact ⟨lz, kz⟩
        · unfold StrsAt
          rw [upd_ne l_d, List.map_append]; exact hl3
        · rw [sn]
          unfold StrsAt
          rw [upd_same, List.map_append]; rfl
        · rw [sn]
          exact ⟨by rw [upd_ne st_d]; exact hS3.1, hS3.2.but but_upd r_d (fun ps e => by rw [hd3] at e; cases e)⟩
      · walk_at "v"
        refine ⟨kp, ⟨ls, by omega, hz, hl', ?_, ?_⟩, _, by walk_at "z"⟩
        · rw [hai]; exact hd'
        · rw [hsi]; exact hSt
    · rintro σ' H9 ⟨kp, ⟨ls, hls, hz, hL9, hD9, hSt⟩, v, rfl⟩
      rw [List.length_drop, List.length_map] at hls
      have kls : ∀ z ∈ ls, okS z := fun z h => (hz z h).2
      have kas := runF_okS s0 ls
      have dsk : ∀ H10 lh (R : VK), StrsAt H10 lh ls → (∀ D H', Same H10 H' → StrsAt H' D (runF s0 ls).1 → R (.ref D) H') → sp_desk A.c_BadAmount A.c_BadRate ([.int am0, .int rt, .ref lh] ++ []) H10 R E0 := fun H10 lh R hH k =>
        ⟨am0, rt, lh, ls, rfl, hH, by omega, (fun z h => by have := (hz z h).1; omega), (fun h => absurd h (by omega)), fun _ => ⟨(fun h => absurd h (by omega)), fun _ D H' s' hF => k D H' s' (by rw [hs0] at hF; exact hF)⟩⟩
      walk_at "v"
      refine g_listOfS hL9 fun lh H10 hlh s10 hH10 => ?_
      walk_at "v"
      refine dsk _ _ _ hH10 fun D H11 s11 hF => ?_
      have hH11 : StrsAt H11 lh ls := s11 _ _ hH10
      have hL11 : StrsAt H11 ll ls := s11 _ _ (s10 _ _ hL9)
      have hD11 : StrsAt H11 dl (runF s0 ls).1 := s11 _ _ (s10 _ _ hD9)
      have lr := (runF_ok k0 ls).2.2
      generalize hai : (runF s0 ls).1 = ai at *
      walk_at "v"
      refine g_isLst hF ?_
      walk_at "v"
      refine g_lenSt hF rfl ?_
      walk_at "v"
      refine g_lenSt hD11 rfl ?_
      walk_at "v"
      refine g_ite (fun hc => absurd rfl hc) (fun _ => ?_)
      walk_at "v"
      refine g_neStrs hH11 hL11 kls ?_
      walk_at "v"
      refine g_lenSt hD11 rfl ?_
      repeat walk_at "v1"
      refine g_rg1 ⟨by omega, by omega⟩ (fun σ0 i σ' H' => H' = H11 ∧ ∃ v, σ' = σ0.set 10 v) ⟨rfl, none, by walk_at "z"⟩ ?_ ?_
      · rintro i σ' H' hi ⟨rfl, v2, rfl⟩
        obtain ⟨x, hx⟩ : ∃ x, ai[i]? = some x := ⟨_, List.getElem?_eq_getElem (by omega)⟩
        walk_at "v"
        refine g_ixSt hF (j := i) rfl hx ?_
        walk_at "v"
        refine g_ixSt hF (j := i) rfl hx ?_
        walk_at "v"
        refine g_ixSt hD11 (j := i) rfl hx ?_
        walk_at "v"
        refine g_ite (fun hc => absurd rfl hc) (fun _ => ?_)
        walk_at "v"
        exact ⟨rfl, _, by walk_at "z"⟩
      · rintro σ' H' ⟨rfl, v2, rfl⟩
        walk_at "v"
        refine dsk _ _ _ hH11 fun D2 H12 s12 hF2 => ?_
        walk_at "v"
        refine g_eqStrs hF2 (s12 _ _ hD11) kas ?_
        walk_at "v"
        refine g_eqStrs (s12 _ _ hF) (s12 _ _ hD11) kas ?_
        walk_at "v"
        refine g_eqStrs (s12 _ _ hH11) (s12 _ _ hL11) kls ?_
        exact q H12

end
theorem walk {l : PySem.W.OpenLaw} {q : Program} {loose : List Str} {XP : (Str → Option Value) → Heap → Prop} {YP : World → Heap → Prop} {d : DefRec} {K : Params → PySem.W.Frag} (hn : l.most = some 63) (hdf : d.params.defaults = [])
    (hY : ∀ (w : World) (h : Heap), YP w h → (K w.params).In h)
    (F : ∀ (w : World) (mg : Str → Option Value) (fa : Addr) (h : Heap), (K w.params).In h → h.Ns mainGlobals mg → mg d.name = some (.ref fa) →
      ∃ fd : FuncData, (∀ (s : Shared) (u : Value), BindsTo s fd ⟨[u], []⟩ [("_law_script", u)]) ∧ ∀ base : Heap, (K w.params).In base → base.Ns mainGlobals mg → FnOk l.prog w (K w.params) mg base CX0 8 fa fd ["_law_script"] (sp_law (K w.params))) :
    PySem.W.WalkO q loose XP YP l.row.toRowW d [] (fun f vs => PySem.call f vs) :=
  L2.walk_ofB (n := 63) (k := 8) (x := "_law_script") (CX := fun _ => CX0) (sp := fun w => sp_law (K w.params)) hn (by decide) hdf ⟨rfl, by decide, by decide⟩ hY F (fun _ _ a ns hl hb _ hS => ⟨a, ns, rfl, hS, hl, hb, fun _ => rfl⟩) fun _ _ _ _ _ z => z
def adOf (f0 : Addr) (d0 : FuncData) (f1 : Addr) (d1 : FuncData) (f2 : Addr) (d2 : FuncData) (f3 : Addr) (d3 : FuncData) (f4 : Addr) (d4 : FuncData) (f5 : Addr) (d5 : FuncData) (f6 : Addr) (d6 : FuncData) (f7 : Addr) (d7 : FuncData) (f8 : Addr) (d8 : FuncData) (f9 : Addr) (d9 : FuncData) (f10 : Addr) (d10 : FuncData) (f11 : Addr) (d11 : FuncData) (f12 : Addr) (d12 : FuncData) (f13 : Addr) (d13 : FuncData) (f14 : Addr) (d14 : FuncData) (f15 : Addr) (d15 : FuncData) (f16 : Addr) (d16 : FuncData) (f17 : Addr) (d17 : FuncData) (f18 : Addr) (d18 : FuncData) (f19 : Addr) (d19 : FuncData) (f20 : Addr) (d20 : FuncData) (f21 : Addr) (d21 : FuncData) (f22 : Addr) (d22 : FuncData) (f23 : Addr) (d23 : FuncData) (f24 : Addr) (d24 : FuncData) (f25 : Addr) (d25 : FuncData) (f26 : Addr) (d26 : FuncData) (f27 : Addr) (d27 : FuncData) (f28 : Addr) (d28 : FuncData) (f29 : Addr) (d29 : FuncData) (f30 : Addr) (d30 : FuncData) (f31 : Addr) (d31 : FuncData) (c_LoanError : Addr) (c_BadAmount : Addr) (c_BadRate : Addr) (c_BadDay : Addr) (c_BadPay : Addr) (c_NoNote : Addr) (c_Loan : Addr) (c_NUMBERS : Addr) (t_LAST_DAY : Tok) (t_HIGHEST_RATE : Tok) (t_HIGHEST_AMOUNT : Tok) (t_MILLION : Tok) (t_MOST_FIGURES : Tok) : Ad :=
  { a__wall := f0, d__wall := d0, a_checked := f1, d_checked := d1, a_check_day := f2, d_check_day := d2, a_check_pair := f3, d_check_pair := d3, a_grown := f4, d_grown := d4, a_cents_owed := f5, d_cents_owed := d5, a_paid_down := f6, d_paid_down := d6, a_Loan_init := f7, d_Loan_init := d7, a_Loan_stand := f8, d_Loan_stand := d8, a_Loan_owed := f9, d_Loan_owed := d9, a_Loan_pay := f10, d_Loan_pay := d10, a_Loan_change := f11, d_Loan_change := d11, a_Loan_twin := f12, d_Loan_twin := d12, a_read := f13, d_read := d13, a_number_of := f14, d_number_of := d14, a_desk := f15, d_desk := d15, a_answer := f16, d_answer := d16, a_done := f17, d_done := d17, a_cell_at := f18, d_cell_at := d18, a_mixed := f19, d_mixed := d19, a_rate_by := f20, d_rate_by := d20, a_sum_by := f21, d_sum_by := d21, a_amount_by := f22, d_amount_by := d22, a_owed := f23, d_owed := d23, a_parts := f24, d_parts := d24, a_then := f25, d_then := d25, a_odd_line := f26, d_odd_line := d26, a_line := f27, d_line := d27, a_paid := f28, d_paid := d28, a_l_answer := f29, d_l_answer := d29, a_no_desk := f30, d_no_desk := d30, a_law := f31, d_law := d31, c_LoanError := c_LoanError, c_BadAmount := c_BadAmount, c_BadRate := c_BadRate, c_BadDay := c_BadDay, c_BadPay := c_BadPay, c_NoNote := c_NoNote, c_Loan := c_Loan, c_NUMBERS := c_NUMBERS, t_LAST_DAY := t_LAST_DAY, t_HIGHEST_RATE := t_HIGHEST_RATE, t_HIGHEST_AMOUNT := t_HIGHEST_AMOUNT, t_MILLION := t_MILLION, t_MOST_FIGURES := t_MOST_FIGURES }
theorem all_mk {l : PySem.W.OpenLaw} {w : World} {K : PySem.W.Frag} {h : Heap} {mg : Str → Option Value} {fa : Addr} (X : K.In h) (G : h.Ns mainGlobals mg) (hfa : mg "law" = some (.ref fa))
    {f0 : Addr} {od0 an0 : Option Addr} {sl0 : Array (Option Value)} {oc0 kV0 dc0 pm0 cd0 ct0 : Value}
    {f1 : Addr} {od1 an1 : Option Addr} {sl1 : Array (Option Value)} {oc1 kV1 dc1 pm1 cd1 ct1 : Value}
    {f2 : Addr} {od2 an2 : Option Addr} {sl2 : Array (Option Value)} {oc2 kV2 dc2 pm2 cd2 ct2 : Value}
    {f3 : Addr} {od3 an3 : Option Addr} {sl3 : Array (Option Value)} {oc3 kV3 dc3 pm3 cd3 ct3 : Value}
    {f4 : Addr} {od4 an4 : Option Addr} {sl4 : Array (Option Value)} {oc4 kV4 dc4 pm4 cd4 ct4 : Value}
    {f5 : Addr} {od5 an5 : Option Addr} {sl5 : Array (Option Value)} {oc5 kV5 dc5 pm5 cd5 ct5 : Value}
    {f6 : Addr} {od6 an6 : Option Addr} {sl6 : Array (Option Value)} {oc6 kV6 dc6 pm6 cd6 ct6 : Value}
    {f7 : Addr} {od7 an7 : Option Addr} {sl7 : Array (Option Value)} {oc7 kV7 dc7 pm7 cd7 ct7 : Value}
    {f8 : Addr} {od8 an8 : Option Addr} {sl8 : Array (Option Value)} {oc8 kV8 dc8 pm8 cd8 ct8 : Value}
    {f9 : Addr} {od9 an9 : Option Addr} {sl9 : Array (Option Value)} {oc9 kV9 dc9 pm9 cd9 ct9 : Value}
    {f10 : Addr} {od10 an10 : Option Addr} {sl10 : Array (Option Value)} {oc10 kV10 dc10 pm10 cd10 ct10 : Value}
    {f11 : Addr} {od11 an11 : Option Addr} {sl11 : Array (Option Value)} {oc11 kV11 dc11 pm11 cd11 ct11 : Value}
    {f12 : Addr} {od12 an12 : Option Addr} {sl12 : Array (Option Value)} {oc12 kV12 dc12 pm12 cd12 ct12 : Value}
    {f13 : Addr} {od13 an13 : Option Addr} {sl13 : Array (Option Value)} {oc13 kV13 dc13 pm13 cd13 ct13 : Value}
    {f14 : Addr} {od14 an14 : Option Addr} {sl14 : Array (Option Value)} {oc14 kV14 dc14 pm14 cd14 ct14 : Value}
    {f15 : Addr} {od15 an15 : Option Addr} {sl15 : Array (Option Value)} {oc15 kV15 dc15 pm15 cd15 ct15 : Value}
    {f16 : Addr} {od16 an16 : Option Addr} {sl16 : Array (Option Value)} {oc16 kV16 dc16 pm16 cd16 ct16 : Value}
    {f17 : Addr} {od17 an17 : Option Addr} {sl17 : Array (Option Value)} {oc17 kV17 dc17 pm17 cd17 ct17 : Value}
    {f18 : Addr} {od18 an18 : Option Addr} {sl18 : Array (Option Value)} {oc18 kV18 dc18 pm18 cd18 ct18 : Value}
    {f19 : Addr} {od19 an19 : Option Addr} {sl19 : Array (Option Value)} {oc19 kV19 dc19 pm19 cd19 ct19 : Value}
    {f20 : Addr} {od20 an20 : Option Addr} {sl20 : Array (Option Value)} {oc20 kV20 dc20 pm20 cd20 ct20 : Value}
    {f21 : Addr} {od21 an21 : Option Addr} {sl21 : Array (Option Value)} {oc21 kV21 dc21 pm21 cd21 ct21 : Value}
    {f22 : Addr} {od22 an22 : Option Addr} {sl22 : Array (Option Value)} {oc22 kV22 dc22 pm22 cd22 ct22 : Value}
    {f23 : Addr} {od23 an23 : Option Addr} {sl23 : Array (Option Value)} {oc23 kV23 dc23 pm23 cd23 ct23 : Value}
    {f24 : Addr} {od24 an24 : Option Addr} {sl24 : Array (Option Value)} {oc24 kV24 dc24 pm24 cd24 ct24 : Value}
    {f25 : Addr} {od25 an25 : Option Addr} {sl25 : Array (Option Value)} {oc25 kV25 dc25 pm25 cd25 ct25 : Value}
    {f26 : Addr} {od26 an26 : Option Addr} {sl26 : Array (Option Value)} {oc26 kV26 dc26 pm26 cd26 ct26 : Value}
    {f27 : Addr} {od27 an27 : Option Addr} {sl27 : Array (Option Value)} {oc27 kV27 dc27 pm27 cd27 ct27 : Value}
    {f28 : Addr} {od28 an28 : Option Addr} {sl28 : Array (Option Value)} {oc28 kV28 dc28 pm28 cd28 ct28 : Value}
    {f29 : Addr} {od29 an29 : Option Addr} {sl29 : Array (Option Value)} {oc29 kV29 dc29 pm29 cd29 ct29 : Value}
    {f30 : Addr} {od30 an30 : Option Addr} {sl30 : Array (Option Value)} {oc30 kV30 dc30 pm30 cd30 ct30 : Value}
    {f31 : Addr} {od31 an31 : Option Addr} {sl31 : Array (Option Value)} {oc31 kV31 dc31 pm31 cd31 ct31 : Value}
    {t_LAST_DAY : Tok}
    {t_HIGHEST_RATE : Tok}
    {t_HIGHEST_AMOUNT : Tok}
    {t_MILLION : Tok}
    {t_MOST_FIGURES : Tok}
    {c_LoanError : Addr}
    {c_BadAmount : Addr}
    {c_BadRate : Addr}
    {c_BadDay : Addr}
    {c_BadPay : Addr}
    {c_NoNote : Addr}
    {c_Loan : Addr}
    {c_NUMBERS : Addr} {h0_NUMBERS h1_NUMBERS h2_NUMBERS : Int} {t0_NUMBERS t1_NUMBERS t2_NUMBERS u0_NUMBERS u1_NUMBERS u2_NUMBERS : Tok} {n_NUMBERS : Nat}
    (g_NUMBERS : PySem.W.nsIn K mainGlobals "NUMBERS" = some (some (.ref c_NUMBERS)))
    (g_LoanError : PySem.W.nsIn K mainGlobals "LoanError" = some (some (.ref c_LoanError)))
    (g_BadAmount : PySem.W.nsIn K mainGlobals "BadAmount" = some (some (.ref c_BadAmount)))
    (g_BadRate : PySem.W.nsIn K mainGlobals "BadRate" = some (some (.ref c_BadRate)))
    (g_BadDay : PySem.W.nsIn K mainGlobals "BadDay" = some (some (.ref c_BadDay)))
    (g_BadPay : PySem.W.nsIn K mainGlobals "BadPay" = some (some (.ref c_BadPay)))
    (g_NoNote : PySem.W.nsIn K mainGlobals "NoNote" = some (some (.ref c_NoNote)))
    (g_Loan : PySem.W.nsIn K mainGlobals "Loan" = some (some (.ref c_Loan)))
    (a0 : PySem.W.nsIn K mainGlobals "_wall" = some (some (.ref f0)))
    (l0 : K.lookup f0 = some ⟨oc0, od0, .func (PySem.W.fnOf "_wall" "_wall" (defArgs s__wall) (defBody s__wall) (defScope s__wall) .none kV0 dc0 pm0 an0 cd0 ct0), sl0⟩)
    (q0 : PySem.W.codeIn K cd0 "_wall" = true)
    (k0 : PySem.W.keepIn K (.ref f0) = true)
    (a1 : PySem.W.nsIn K mainGlobals "checked" = some (some (.ref f1)))
    (l1 : K.lookup f1 = some ⟨oc1, od1, .func (PySem.W.fnOf "checked" "checked" (defArgs s_checked) (defBody s_checked) (defScope s_checked) .none kV1 dc1 pm1 an1 cd1 ct1), sl1⟩)
    (q1 : PySem.W.codeIn K cd1 "checked" = true)
    (k1 : PySem.W.keepIn K (.ref f1) = true)
    (a2 : PySem.W.nsIn K mainGlobals "check_day" = some (some (.ref f2)))
    (l2 : K.lookup f2 = some ⟨oc2, od2, .func (PySem.W.fnOf "check_day" "check_day" (defArgs s_check_day) (defBody s_check_day) (defScope s_check_day) .none kV2 dc2 pm2 an2 cd2 ct2), sl2⟩)
    (q2 : PySem.W.codeIn K cd2 "check_day" = true)
    (k2 : PySem.W.keepIn K (.ref f2) = true)
    (a3 : PySem.W.nsIn K mainGlobals "check_pair" = some (some (.ref f3)))
    (l3 : K.lookup f3 = some ⟨oc3, od3, .func (PySem.W.fnOf "check_pair" "check_pair" (defArgs s_check_pair) (defBody s_check_pair) (defScope s_check_pair) .none kV3 dc3 pm3 an3 cd3 ct3), sl3⟩)
    (q3 : PySem.W.codeIn K cd3 "check_pair" = true)
    (k3 : PySem.W.keepIn K (.ref f3) = true)
    (a4 : PySem.W.nsIn K mainGlobals "grown" = some (some (.ref f4)))
    (l4 : K.lookup f4 = some ⟨oc4, od4, .func (PySem.W.fnOf "grown" "grown" (defArgs s_grown) (defBody s_grown) (defScope s_grown) .none kV4 dc4 pm4 an4 cd4 ct4), sl4⟩)
    (q4 : PySem.W.codeIn K cd4 "grown" = true)
    (k4 : PySem.W.keepIn K (.ref f4) = true)
    (a5 : PySem.W.nsIn K mainGlobals "cents_owed" = some (some (.ref f5)))
    (l5 : K.lookup f5 = some ⟨oc5, od5, .func (PySem.W.fnOf "cents_owed" "cents_owed" (defArgs s_cents_owed) (defBody s_cents_owed) (defScope s_cents_owed) .none kV5 dc5 pm5 an5 cd5 ct5), sl5⟩)
    (q5 : PySem.W.codeIn K cd5 "cents_owed" = true)
    (k5 : PySem.W.keepIn K (.ref f5) = true)
    (a6 : PySem.W.nsIn K mainGlobals "paid_down" = some (some (.ref f6)))
    (l6 : K.lookup f6 = some ⟨oc6, od6, .func (PySem.W.fnOf "paid_down" "paid_down" (defArgs s_paid_down) (defBody s_paid_down) (defScope s_paid_down) .none kV6 dc6 pm6 an6 cd6 ct6), sl6⟩)
    (q6 : PySem.W.codeIn K cd6 "paid_down" = true)
    (k6 : PySem.W.keepIn K (.ref f6) = true)
    (a7 : PySem.W.findIn K (.ref c_Loan) "__init__" = some (some (.ref f7)))
    (i7 : PySem.W.isFn K (.ref f7) = true)
    (l7 : K.lookup f7 = some ⟨oc7, od7, .func (PySem.W.fnOf "__init__" "Loan.__init__" (defArgs s_Loan_init) (defBody s_Loan_init) (defScope s_Loan_init) .none kV7 dc7 pm7 an7 cd7 ct7), sl7⟩)
    (q7 : PySem.W.codeIn K cd7 "Loan.__init__" = true)
    (k7 : PySem.W.keepIn K (.ref f7) = true)
    (a8 : PySem.W.findIn K (.ref c_Loan) "stand" = some (some (.ref f8)))
    (i8 : PySem.W.isFn K (.ref f8) = true)
    (l8 : K.lookup f8 = some ⟨oc8, od8, .func (PySem.W.fnOf "stand" "Loan.stand" (defArgs s_Loan_stand) (defBody s_Loan_stand) (defScope s_Loan_stand) .none kV8 dc8 pm8 an8 cd8 ct8), sl8⟩)
    (q8 : PySem.W.codeIn K cd8 "Loan.stand" = true)
    (k8 : PySem.W.keepIn K (.ref f8) = true)
    (a9 : PySem.W.findIn K (.ref c_Loan) "owed" = some (some (.ref f9)))
    (i9 : PySem.W.isFn K (.ref f9) = true)
    (l9 : K.lookup f9 = some ⟨oc9, od9, .func (PySem.W.fnOf "owed" "Loan.owed" (defArgs s_Loan_owed) (defBody s_Loan_owed) (defScope s_Loan_owed) .none kV9 dc9 pm9 an9 cd9 ct9), sl9⟩)
    (q9 : PySem.W.codeIn K cd9 "Loan.owed" = true)
    (k9 : PySem.W.keepIn K (.ref f9) = true)
    (a10 : PySem.W.findIn K (.ref c_Loan) "pay" = some (some (.ref f10)))
    (i10 : PySem.W.isFn K (.ref f10) = true)
    (l10 : K.lookup f10 = some ⟨oc10, od10, .func (PySem.W.fnOf "pay" "Loan.pay" (defArgs s_Loan_pay) (defBody s_Loan_pay) (defScope s_Loan_pay) .none kV10 dc10 pm10 an10 cd10 ct10), sl10⟩)
    (q10 : PySem.W.codeIn K cd10 "Loan.pay" = true)
    (k10 : PySem.W.keepIn K (.ref f10) = true)
    (a11 : PySem.W.findIn K (.ref c_Loan) "change" = some (some (.ref f11)))
    (i11 : PySem.W.isFn K (.ref f11) = true)
    (l11 : K.lookup f11 = some ⟨oc11, od11, .func (PySem.W.fnOf "change" "Loan.change" (defArgs s_Loan_change) (defBody s_Loan_change) (defScope s_Loan_change) .none kV11 dc11 pm11 an11 cd11 ct11), sl11⟩)
    (q11 : PySem.W.codeIn K cd11 "Loan.change" = true)
    (k11 : PySem.W.keepIn K (.ref f11) = true)
    (a12 : PySem.W.findIn K (.ref c_Loan) "twin" = some (some (.ref f12)))
    (i12 : PySem.W.isFn K (.ref f12) = true)
    (l12 : K.lookup f12 = some ⟨oc12, od12, .func (PySem.W.fnOf "twin" "Loan.twin" (defArgs s_Loan_twin) (defBody s_Loan_twin) (defScope s_Loan_twin) .none kV12 dc12 pm12 an12 cd12 ct12), sl12⟩)
    (q12 : PySem.W.codeIn K cd12 "Loan.twin" = true)
    (k12 : PySem.W.keepIn K (.ref f12) = true)
    (a13 : PySem.W.nsIn K mainGlobals "read" = some (some (.ref f13)))
    (l13 : K.lookup f13 = some ⟨oc13, od13, .func (PySem.W.fnOf "read" "read" (defArgs s_read) (defBody s_read) (defScope s_read) .none kV13 dc13 pm13 an13 cd13 ct13), sl13⟩)
    (q13 : PySem.W.codeIn K cd13 "read" = true)
    (k13 : PySem.W.keepIn K (.ref f13) = true)
    (a14 : PySem.W.nsIn K mainGlobals "number_of" = some (some (.ref f14)))
    (l14 : K.lookup f14 = some ⟨oc14, od14, .func (PySem.W.fnOf "number_of" "number_of" (defArgs s_number_of) (defBody s_number_of) (defScope s_number_of) .none kV14 dc14 pm14 an14 cd14 ct14), sl14⟩)
    (q14 : PySem.W.codeIn K cd14 "number_of" = true)
    (k14 : PySem.W.keepIn K (.ref f14) = true)
    (a15 : PySem.W.nsIn K mainGlobals "desk" = some (some (.ref f15)))
    (l15 : K.lookup f15 = some ⟨oc15, od15, .func (PySem.W.fnOf "desk" "desk" (defArgs s_desk) (defBody s_desk) (defScope s_desk) .none kV15 dc15 pm15 an15 cd15 ct15), sl15⟩)
    (q15 : PySem.W.codeIn K cd15 "desk" = true)
    (k15 : PySem.W.keepIn K (.ref f15) = true)
    (a16 : PySem.W.nsIn K mainGlobals "answer" = some (some (.ref f16)))
    (l16 : K.lookup f16 = some ⟨oc16, od16, .func (PySem.W.fnOf "answer" "answer" (defArgs s_answer) (defBody s_answer) (defScope s_answer) .none kV16 dc16 pm16 an16 cd16 ct16), sl16⟩)
    (q16 : PySem.W.codeIn K cd16 "answer" = true)
    (k16 : PySem.W.keepIn K (.ref f16) = true)
    (a17 : PySem.W.nsIn K mainGlobals "done" = some (some (.ref f17)))
    (l17 : K.lookup f17 = some ⟨oc17, od17, .func (PySem.W.fnOf "done" "done" (defArgs s_done) (defBody s_done) (defScope s_done) .none kV17 dc17 pm17 an17 cd17 ct17), sl17⟩)
    (q17 : PySem.W.codeIn K cd17 "done" = true)
    (k17 : PySem.W.keepIn K (.ref f17) = true)
    (a18 : PySem.W.nsIn K mainGlobals "_law_cell_at" = some (some (.ref f18)))
    (l18 : K.lookup f18 = some ⟨oc18, od18, .func (PySem.W.fnOf "_law_cell_at" "_law_cell_at" (defArgs s_cell_at) (defBody s_cell_at) (defScope s_cell_at) .none kV18 dc18 pm18 an18 cd18 ct18), sl18⟩)
    (q18 : PySem.W.codeIn K cd18 "_law_cell_at" = true)
    (k18 : PySem.W.keepIn K (.ref f18) = true)
    (a19 : PySem.W.nsIn K mainGlobals "_law_mixed" = some (some (.ref f19)))
    (l19 : K.lookup f19 = some ⟨oc19, od19, .func (PySem.W.fnOf "_law_mixed" "_law_mixed" (defArgs s_mixed) (defBody s_mixed) (defScope s_mixed) .none kV19 dc19 pm19 an19 cd19 ct19), sl19⟩)
    (q19 : PySem.W.codeIn K cd19 "_law_mixed" = true)
    (k19 : PySem.W.keepIn K (.ref f19) = true)
    (a20 : PySem.W.nsIn K mainGlobals "_law_rate_by" = some (some (.ref f20)))
    (l20 : K.lookup f20 = some ⟨oc20, od20, .func (PySem.W.fnOf "_law_rate_by" "_law_rate_by" (defArgs s_rate_by) (defBody s_rate_by) (defScope s_rate_by) .none kV20 dc20 pm20 an20 cd20 ct20), sl20⟩)
    (q20 : PySem.W.codeIn K cd20 "_law_rate_by" = true)
    (k20 : PySem.W.keepIn K (.ref f20) = true)
    (a21 : PySem.W.nsIn K mainGlobals "_law_sum_by" = some (some (.ref f21)))
    (l21 : K.lookup f21 = some ⟨oc21, od21, .func (PySem.W.fnOf "_law_sum_by" "_law_sum_by" (defArgs s_sum_by) (defBody s_sum_by) (defScope s_sum_by) .none kV21 dc21 pm21 an21 cd21 ct21), sl21⟩)
    (q21 : PySem.W.codeIn K cd21 "_law_sum_by" = true)
    (k21 : PySem.W.keepIn K (.ref f21) = true)
    (a22 : PySem.W.nsIn K mainGlobals "_law_amount_by" = some (some (.ref f22)))
    (l22 : K.lookup f22 = some ⟨oc22, od22, .func (PySem.W.fnOf "_law_amount_by" "_law_amount_by" (defArgs s_amount_by) (defBody s_amount_by) (defScope s_amount_by) .none kV22 dc22 pm22 an22 cd22 ct22), sl22⟩)
    (q22 : PySem.W.codeIn K cd22 "_law_amount_by" = true)
    (k22 : PySem.W.keepIn K (.ref f22) = true)
    (a23 : PySem.W.nsIn K mainGlobals "_law_owed" = some (some (.ref f23)))
    (l23 : K.lookup f23 = some ⟨oc23, od23, .func (PySem.W.fnOf "_law_owed" "_law_owed" (defArgs s_owed) (defBody s_owed) (defScope s_owed) .none kV23 dc23 pm23 an23 cd23 ct23), sl23⟩)
    (q23 : PySem.W.codeIn K cd23 "_law_owed" = true)
    (k23 : PySem.W.keepIn K (.ref f23) = true)
    (a24 : PySem.W.nsIn K mainGlobals "_law_parts" = some (some (.ref f24)))
    (l24 : K.lookup f24 = some ⟨oc24, od24, .func (PySem.W.fnOf "_law_parts" "_law_parts" (defArgs s_parts) (defBody s_parts) (defScope s_parts) .none kV24 dc24 pm24 an24 cd24 ct24), sl24⟩)
    (q24 : PySem.W.codeIn K cd24 "_law_parts" = true)
    (k24 : PySem.W.keepIn K (.ref f24) = true)
    (a25 : PySem.W.nsIn K mainGlobals "_law_then" = some (some (.ref f25)))
    (l25 : K.lookup f25 = some ⟨oc25, od25, .func (PySem.W.fnOf "_law_then" "_law_then" (defArgs s_then) (defBody s_then) (defScope s_then) .none kV25 dc25 pm25 an25 cd25 ct25), sl25⟩)
    (q25 : PySem.W.codeIn K cd25 "_law_then" = true)
    (k25 : PySem.W.keepIn K (.ref f25) = true)
    (a26 : PySem.W.nsIn K mainGlobals "_law_odd_line" = some (some (.ref f26)))
    (l26 : K.lookup f26 = some ⟨oc26, od26, .func (PySem.W.fnOf "_law_odd_line" "_law_odd_line" (defArgs s_odd_line) (defBody s_odd_line) (defScope s_odd_line) .none kV26 dc26 pm26 an26 cd26 ct26), sl26⟩)
    (q26 : PySem.W.codeIn K cd26 "_law_odd_line" = true)
    (k26 : PySem.W.keepIn K (.ref f26) = true)
    (a27 : PySem.W.nsIn K mainGlobals "_law_line" = some (some (.ref f27)))
    (l27 : K.lookup f27 = some ⟨oc27, od27, .func (PySem.W.fnOf "_law_line" "_law_line" (defArgs s_line) (defBody s_line) (defScope s_line) .none kV27 dc27 pm27 an27 cd27 ct27), sl27⟩)
    (q27 : PySem.W.codeIn K cd27 "_law_line" = true)
    (k27 : PySem.W.keepIn K (.ref f27) = true)
    (a28 : PySem.W.nsIn K mainGlobals "_law_paid" = some (some (.ref f28)))
    (l28 : K.lookup f28 = some ⟨oc28, od28, .func (PySem.W.fnOf "_law_paid" "_law_paid" (defArgs s_paid) (defBody s_paid) (defScope s_paid) .none kV28 dc28 pm28 an28 cd28 ct28), sl28⟩)
    (q28 : PySem.W.codeIn K cd28 "_law_paid" = true)
    (k28 : PySem.W.keepIn K (.ref f28) = true)
    (a29 : PySem.W.nsIn K mainGlobals "_law_answer" = some (some (.ref f29)))
    (l29 : K.lookup f29 = some ⟨oc29, od29, .func (PySem.W.fnOf "_law_answer" "_law_answer" (defArgs s_l_answer) (defBody s_l_answer) (defScope s_l_answer) .none kV29 dc29 pm29 an29 cd29 ct29), sl29⟩)
    (q29 : PySem.W.codeIn K cd29 "_law_answer" = true)
    (k29 : PySem.W.keepIn K (.ref f29) = true)
    (a30 : PySem.W.nsIn K mainGlobals "_law_no_desk" = some (some (.ref f30)))
    (l30 : K.lookup f30 = some ⟨oc30, od30, .func (PySem.W.fnOf "_law_no_desk" "_law_no_desk" (defArgs s_no_desk) (defBody s_no_desk) (defScope s_no_desk) .none kV30 dc30 pm30 an30 cd30 ct30), sl30⟩)
    (q30 : PySem.W.codeIn K cd30 "_law_no_desk" = true)
    (k30 : PySem.W.keepIn K (.ref f30) = true)
    (a31 : PySem.W.nsIn K mainGlobals "law" = some (some (.ref f31)))
    (l31 : K.lookup f31 = some ⟨oc31, od31, .func (PySem.W.fnOf "law" "law" (defArgs s_law) (defBody s_law) (defScope s_law) .none kV31 dc31 pm31 an31 cd31 ct31), sl31⟩)
    (q31 : PySem.W.codeIn K cd31 "law" = true)
    (k31 : PySem.W.keepIn K (.ref f31) = true)
    (z_int : PySem.W.nsIn K mainGlobals "int" = some none)
    (z_isinstance : PySem.W.nsIn K mainGlobals "isinstance" = some none)
    (z_len : PySem.W.nsIn K mainGlobals "len" = some none)
    (z_list : PySem.W.nsIn K mainGlobals "list" = some none)
    (z_max : PySem.W.nsIn K mainGlobals "max" = some none)
    (z_min : PySem.W.nsIn K mainGlobals "min" = some none)
    (z_range : PySem.W.nsIn K mainGlobals "range" = some none)
    (z_reversed : PySem.W.nsIn K mainGlobals "reversed" = some none)
    (z_str : PySem.W.nsIn K mainGlobals "str" = some none)
    (v_LAST_DAY : PySem.W.nsIn K mainGlobals "LAST_DAY" = some (some (.int 100000 t_LAST_DAY)))
    (v_HIGHEST_RATE : PySem.W.nsIn K mainGlobals "HIGHEST_RATE" = some (some (.int 100000 t_HIGHEST_RATE)))
    (v_HIGHEST_AMOUNT : PySem.W.nsIn K mainGlobals "HIGHEST_AMOUNT" = some (some (.int 1000000000000 t_HIGHEST_AMOUNT)))
    (v_MILLION : PySem.W.nsIn K mainGlobals "MILLION" = some (some (.int 1000000 t_MILLION)))
    (v_MOST_FIGURES : PySem.W.nsIn K mainGlobals "MOST_FIGURES" = some (some (.int 30 t_MOST_FIGURES)))
    (ld_NUMBERS : K.lookup c_NUMBERS = some ⟨.type "dict", none, .dict #[⟨h0_NUMBERS, .str "pay" t0_NUMBERS, .int 2 u0_NUMBERS⟩, ⟨h1_NUMBERS, .str "rate" t1_NUMBERS, .int 2 u1_NUMBERS⟩, ⟨h2_NUMBERS, .str "owe" t2_NUMBERS, .int 1 u2_NUMBERS⟩] n_NUMBERS, #[]⟩)
    (kk_NUMBERS : PySem.W.KeysLit w.params [⟨h0_NUMBERS, .str "pay" t0_NUMBERS, .int 2 u0_NUMBERS⟩, ⟨h1_NUMBERS, .str "rate" t1_NUMBERS, .int 2 u1_NUMBERS⟩, ⟨h2_NUMBERS, .str "owe" t2_NUMBERS, .int 1 u2_NUMBERS⟩])
    (lw_NUMBERS : (c_NUMBERS == sysModules) = false)
    (x_LoanError : PySem.W.excIn K c_LoanError [.type "ValueError", .type "Exception", .type "BaseException", .type "object"] "ValueError.__new__" = true)
    (k_LoanError : PySem.W.keepIn K (.ref c_LoanError) = true)
    (b_LoanError : PySem.W.subIn K (.ref c_LoanError) (.type "BaseException") = some true)
    (t_LoanError : PySem.W.typeIn K (.ref c_LoanError) = some (.type "type"))
    (h_LoanError : PySem.W.hasDictIn K c_LoanError = true)
    (x_BadAmount : PySem.W.excIn K c_BadAmount [.type "ValueError", .type "Exception", .type "BaseException", .type "object"] "ValueError.__new__" = true)
    (k_BadAmount : PySem.W.keepIn K (.ref c_BadAmount) = true)
    (b_BadAmount : PySem.W.subIn K (.ref c_BadAmount) (.type "BaseException") = some true)
    (t_BadAmount : PySem.W.typeIn K (.ref c_BadAmount) = some (.type "type"))
    (h_BadAmount : PySem.W.hasDictIn K c_BadAmount = true)
    (x_BadRate : PySem.W.excIn K c_BadRate [.type "ValueError", .type "Exception", .type "BaseException", .type "object"] "ValueError.__new__" = true)
    (k_BadRate : PySem.W.keepIn K (.ref c_BadRate) = true)
    (b_BadRate : PySem.W.subIn K (.ref c_BadRate) (.type "BaseException") = some true)
    (t_BadRate : PySem.W.typeIn K (.ref c_BadRate) = some (.type "type"))
    (h_BadRate : PySem.W.hasDictIn K c_BadRate = true)
    (x_BadDay : PySem.W.excIn K c_BadDay [.type "ValueError", .type "Exception", .type "BaseException", .type "object"] "ValueError.__new__" = true)
    (k_BadDay : PySem.W.keepIn K (.ref c_BadDay) = true)
    (b_BadDay : PySem.W.subIn K (.ref c_BadDay) (.type "BaseException") = some true)
    (t_BadDay : PySem.W.typeIn K (.ref c_BadDay) = some (.type "type"))
    (h_BadDay : PySem.W.hasDictIn K c_BadDay = true)
    (x_BadPay : PySem.W.excIn K c_BadPay [.type "ValueError", .type "Exception", .type "BaseException", .type "object"] "ValueError.__new__" = true)
    (k_BadPay : PySem.W.keepIn K (.ref c_BadPay) = true)
    (b_BadPay : PySem.W.subIn K (.ref c_BadPay) (.type "BaseException") = some true)
    (t_BadPay : PySem.W.typeIn K (.ref c_BadPay) = some (.type "type"))
    (h_BadPay : PySem.W.hasDictIn K c_BadPay = true)
    (x_NoNote : PySem.W.excIn K c_NoNote [.type "ValueError", .type "Exception", .type "BaseException", .type "object"] "ValueError.__new__" = true)
    (k_NoNote : PySem.W.keepIn K (.ref c_NoNote) = true)
    (b_NoNote : PySem.W.subIn K (.ref c_NoNote) (.type "BaseException") = some true)
    (t_NoNote : PySem.W.typeIn K (.ref c_NoNote) = some (.type "type"))
    (h_NoNote : PySem.W.hasDictIn K c_NoNote = true)
    (u_LoanError_LoanError : PySem.W.subIn K (.ref c_LoanError) (.ref c_LoanError) = some true)
    (u_LoanError_BadAmount : PySem.W.subIn K (.ref c_LoanError) (.ref c_BadAmount) = some false)
    (u_LoanError_BadRate : PySem.W.subIn K (.ref c_LoanError) (.ref c_BadRate) = some false)
    (u_LoanError_BadDay : PySem.W.subIn K (.ref c_LoanError) (.ref c_BadDay) = some false)
    (u_LoanError_BadPay : PySem.W.subIn K (.ref c_LoanError) (.ref c_BadPay) = some false)
    (u_LoanError_NoNote : PySem.W.subIn K (.ref c_LoanError) (.ref c_NoNote) = some false)
    (u_BadAmount_LoanError : PySem.W.subIn K (.ref c_BadAmount) (.ref c_LoanError) = some true)
    (u_BadAmount_BadAmount : PySem.W.subIn K (.ref c_BadAmount) (.ref c_BadAmount) = some true)
    (u_BadAmount_BadRate : PySem.W.subIn K (.ref c_BadAmount) (.ref c_BadRate) = some false)
    (u_BadAmount_BadDay : PySem.W.subIn K (.ref c_BadAmount) (.ref c_BadDay) = some false)
    (u_BadAmount_BadPay : PySem.W.subIn K (.ref c_BadAmount) (.ref c_BadPay) = some false)
    (u_BadAmount_NoNote : PySem.W.subIn K (.ref c_BadAmount) (.ref c_NoNote) = some false)
    (u_BadRate_LoanError : PySem.W.subIn K (.ref c_BadRate) (.ref c_LoanError) = some true)
    (u_BadRate_BadAmount : PySem.W.subIn K (.ref c_BadRate) (.ref c_BadAmount) = some false)
    (u_BadRate_BadRate : PySem.W.subIn K (.ref c_BadRate) (.ref c_BadRate) = some true)
    (u_BadRate_BadDay : PySem.W.subIn K (.ref c_BadRate) (.ref c_BadDay) = some false)
    (u_BadRate_BadPay : PySem.W.subIn K (.ref c_BadRate) (.ref c_BadPay) = some false)
    (u_BadRate_NoNote : PySem.W.subIn K (.ref c_BadRate) (.ref c_NoNote) = some false)
    (u_BadDay_LoanError : PySem.W.subIn K (.ref c_BadDay) (.ref c_LoanError) = some true)
    (u_BadDay_BadAmount : PySem.W.subIn K (.ref c_BadDay) (.ref c_BadAmount) = some false)
    (u_BadDay_BadRate : PySem.W.subIn K (.ref c_BadDay) (.ref c_BadRate) = some false)
    (u_BadDay_BadDay : PySem.W.subIn K (.ref c_BadDay) (.ref c_BadDay) = some true)
    (u_BadDay_BadPay : PySem.W.subIn K (.ref c_BadDay) (.ref c_BadPay) = some false)
    (u_BadDay_NoNote : PySem.W.subIn K (.ref c_BadDay) (.ref c_NoNote) = some false)
    (u_BadPay_LoanError : PySem.W.subIn K (.ref c_BadPay) (.ref c_LoanError) = some true)
    (u_BadPay_BadAmount : PySem.W.subIn K (.ref c_BadPay) (.ref c_BadAmount) = some false)
    (u_BadPay_BadRate : PySem.W.subIn K (.ref c_BadPay) (.ref c_BadRate) = some false)
    (u_BadPay_BadDay : PySem.W.subIn K (.ref c_BadPay) (.ref c_BadDay) = some false)
    (u_BadPay_BadPay : PySem.W.subIn K (.ref c_BadPay) (.ref c_BadPay) = some true)
    (u_BadPay_NoNote : PySem.W.subIn K (.ref c_BadPay) (.ref c_NoNote) = some false)
    (u_NoNote_LoanError : PySem.W.subIn K (.ref c_NoNote) (.ref c_LoanError) = some true)
    (u_NoNote_BadAmount : PySem.W.subIn K (.ref c_NoNote) (.ref c_BadAmount) = some false)
    (u_NoNote_BadRate : PySem.W.subIn K (.ref c_NoNote) (.ref c_BadRate) = some false)
    (u_NoNote_BadDay : PySem.W.subIn K (.ref c_NoNote) (.ref c_BadDay) = some false)
    (u_NoNote_BadPay : PySem.W.subIn K (.ref c_NoNote) (.ref c_BadPay) = some false)
    (u_NoNote_NoNote : PySem.W.subIn K (.ref c_NoNote) (.ref c_NoNote) = some true)
    (pg : PySem.W.plainGet K c_Loan Str.empty = true)
    (hd : PySem.W.hasDictIn K c_Loan = true)
    (po : PySem.W.plainOver K c_Loan = true)
    (sa : PySem.W.findIn K (.ref c_Loan) "__setattr__" = some (some (.builtin "object.__setattr__")))
    (mk : PySem.W.makesIn K c_Loan = true)
    (kc : PySem.W.keepIn K (.ref c_Loan) = true)
    (na_left : PySem.W.findIn K (.ref c_Loan) "left" = some none)
    (na_begun : PySem.W.findIn K (.ref c_Loan) "begun" = some none)
    (na_day : PySem.W.findIn K (.ref c_Loan) "day" = some none)
    (na_rates : PySem.W.findIn K (.ref c_Loan) "rates" = some none)
    : ∃ fd : FuncData, (∀ (s : Shared) (v : Value), BindsTo s fd ⟨[v], []⟩ [("_law_script", v)]) ∧ ∀ base : Heap, K.In base → base.Ns mainGlobals mg → FnOk l.prog w K mg base CX0 8 fa fd ["_law_script"] (sp_law K) := by
  have e := hfa.symm.trans (PySem.W.mg_of X G a31)
  cases e
  have F0 := fun_mk (st := s__wall) l0 q0 k0
  have b0 := F0.binds (ps := ["k"]) fun _ _ _ _ _ _ us hl => match us, hl with | [_], _ => rfl
  have F1 := fun_mk (st := s_checked) l1 q1 k1
  have b1 := F1.binds (ps := ["rates"]) fun _ _ _ _ _ _ us hl => match us, hl with | [_], _ => rfl
  have F2 := fun_mk (st := s_check_day) l2 q2 k2
  have b2 := F2.binds (ps := ["day", "first"]) fun _ _ _ _ _ _ us hl => match us, hl with | [_, _], _ => rfl
  have F3 := fun_mk (st := s_check_pair) l3 q3 k3
  have b3 := F3.binds (ps := ["day", "rate", "ahead"]) fun _ _ _ _ _ _ us hl => match us, hl with | [_, _, _], _ => rfl
  have F4 := fun_mk (st := s_grown) l4 q4 k4
  have b4 := F4.binds (ps := ["rates", "start", "end"]) fun _ _ _ _ _ _ us hl => match us, hl with | [_, _, _], _ => rfl
  have F5 := fun_mk (st := s_cents_owed) l5 q5 k5
  have b5 := F5.binds (ps := ["left", "begun"]) fun _ _ _ _ _ _ us hl => match us, hl with | [_, _], _ => rfl
  have F6 := fun_mk (st := s_paid_down) l6 q6 k6
  have b6 := F6.binds (ps := ["left", "begun", "cents"]) fun _ _ _ _ _ _ us hl => match us, hl with | [_, _, _], _ => rfl
  have F7 := fun_mk (st := s_Loan_init) l7 q7 k7
  have b7 := F7.binds (ps := ["self", "amount", "rates"]) fun _ _ _ _ _ _ us hl => match us, hl with | [_, _, _], _ => rfl
  have F8 := fun_mk (st := s_Loan_stand) l8 q8 k8
  have b8 := F8.binds (ps := ["self", "day"]) fun _ _ _ _ _ _ us hl => match us, hl with | [_, _], _ => rfl
  have F9 := fun_mk (st := s_Loan_owed) l9 q9 k9
  have b9 := F9.binds (ps := ["self", "day"]) fun _ _ _ _ _ _ us hl => match us, hl with | [_, _], _ => rfl
  have F10 := fun_mk (st := s_Loan_pay) l10 q10 k10
  have b10 := F10.binds (ps := ["self", "day", "cents"]) fun _ _ _ _ _ _ us hl => match us, hl with | [_, _, _], _ => rfl
  have F11 := fun_mk (st := s_Loan_change) l11 q11 k11
  have b11 := F11.binds (ps := ["self", "day", "rate"]) fun _ _ _ _ _ _ us hl => match us, hl with | [_, _, _], _ => rfl
  have F12 := fun_mk (st := s_Loan_twin) l12 q12 k12
  have b12 := F12.binds (ps := ["self"]) fun _ _ _ _ _ _ us hl => match us, hl with | [_], _ => rfl
  have F13 := fun_mk (st := s_read) l13 q13 k13
  have b13 := F13.binds (ps := ["line"]) fun _ _ _ _ _ _ us hl => match us, hl with | [_], _ => rfl
  have F14 := fun_mk (st := s_number_of) l14 q14 k14
  have b14 := F14.binds (ps := ["word"]) fun _ _ _ _ _ _ us hl => match us, hl with | [_], _ => rfl
  have F15 := fun_mk (st := s_desk) l15 q15 k15
  have b15 := F15.binds (ps := ["amount", "rate", "lines"]) fun _ _ _ _ _ _ us hl => match us, hl with | [_, _, _], _ => rfl
  have F16 := fun_mk (st := s_answer) l16 q16 k16
  have b16 := F16.binds (ps := ["loan", "line"]) fun _ _ _ _ _ _ us hl => match us, hl with | [_, _], _ => rfl
  have F17 := fun_mk (st := s_done) l17 q17 k17
  have b17 := F17.binds (ps := ["loan", "note"]) fun _ _ _ _ _ _ us hl => match us, hl with | [_, _], _ => rfl
  have F18 := fun_mk (st := s_cell_at) l18 q18 k18
  have b18 := F18.binds (ps := ["_law_script", "_law_k"]) fun _ _ _ _ _ _ us hl => match us, hl with | [_, _], _ => rfl
  have F19 := fun_mk (st := s_mixed) l19 q19 k19
  have b19 := F19.binds (ps := ["_law_cell", "_law_many"]) fun _ _ _ _ _ _ us hl => match us, hl with | [_, _], _ => rfl
  have F20 := fun_mk (st := s_rate_by) l20 q20 k20
  have b20 := F20.binds (ps := ["_law_cell"]) fun _ _ _ _ _ _ us hl => match us, hl with | [_], _ => rfl
  have F21 := fun_mk (st := s_sum_by) l21 q21 k21
  have b21 := F21.binds (ps := ["_law_row", "_law_start", "_law_end"]) fun _ _ _ _ _ _ us hl => match us, hl with | [_, _, _], _ => rfl
  have F22 := fun_mk (st := s_amount_by) l22 q22 k22
  have b22 := F22.binds (ps := ["_law_cell"]) fun _ _ _ _ _ _ us hl => match us, hl with | [_], _ => rfl
  have F23 := fun_mk (st := s_owed) l23 q23 k23
  have b23 := F23.binds (ps := ["_law_left", "_law_begun"]) fun _ _ _ _ _ _ us hl => match us, hl with | [_, _], _ => rfl
  have F24 := fun_mk (st := s_parts) l24 q24 k24
  have b24 := F24.binds (ps := ["_law_left", "_law_begun", "_law_cents"]) fun _ _ _ _ _ _ us hl => match us, hl with | [_, _, _], _ => rfl
  have F25 := fun_mk (st := s_then) l25 q25 k25
  have b25 := F25.binds (ps := ["_law_state", "_law_day"]) fun _ _ _ _ _ _ us hl => match us, hl with | [_, _], _ => rfl
  have F26 := fun_mk (st := s_odd_line) l26 q26 k26
  have b26 := F26.binds (ps := ["_law_line_here", "_law_cell"]) fun _ _ _ _ _ _ us hl => match us, hl with | [_, _], _ => rfl
  have F27 := fun_mk (st := s_line) l27 q27 k27
  have b27 := F27.binds (ps := ["_law_state", "_law_cell"]) fun _ _ _ _ _ _ us hl => match us, hl with | [_, _], _ => rfl
  have F28 := fun_mk (st := s_paid) l28 q28 k28
  have b28 := F28.binds (ps := ["_law_state", "_law_day", "_law_cents"]) fun _ _ _ _ _ _ us hl => match us, hl with | [_, _, _], _ => rfl
  have F29 := fun_mk (st := s_l_answer) l29 q29 k29
  have b29 := F29.binds (ps := ["_law_state", "_law_line_here", "_law_good"]) fun _ _ _ _ _ _ us hl => match us, hl with | [_, _, _], _ => rfl
  have F30 := fun_mk (st := s_no_desk) l30 q30 k30
  have b30 := F30.binds (ps := ["_law_amount", "_law_rate"]) fun _ _ _ _ _ _ us hl => match us, hl with | [_, _], _ => rfl
  have F31 := fun_mk (st := s_law) l31 q31 k31
  have b31 := F31.binds (ps := ["_law_script"]) fun _ _ _ _ _ _ us hl => match us, hl with | [_], _ => rfl
  have T : Txt w K mg (adOf f0 _ f1 _ f2 _ f3 _ f4 _ f5 _ f6 _ f7 _ f8 _ f9 _ f10 _ f11 _ f12 _ f13 _ f14 _ f15 _ f16 _ f17 _ f18 _ f19 _ f20 _ f21 _ f22 _ f23 _ f24 _ f25 _ f26 _ f27 _ f28 _ f29 _ f30 _ fa _ c_LoanError c_BadAmount c_BadRate c_BadDay c_BadPay c_NoNote c_Loan c_NUMBERS t_LAST_DAY t_HIGHEST_RATE t_HIGHEST_AMOUNT t_MILLION t_MOST_FIGURES) :=
    { F__wall := F0, B__wall := b0,
      g__wall := PySem.W.mg_of X G a0,
      F_checked := F1, B_checked := b1,
      g_checked := PySem.W.mg_of X G a1,
      F_check_day := F2, B_check_day := b2,
      g_check_day := PySem.W.mg_of X G a2,
      F_check_pair := F3, B_check_pair := b3,
      g_check_pair := PySem.W.mg_of X G a3,
      F_grown := F4, B_grown := b4,
      g_grown := PySem.W.mg_of X G a4,
      F_cents_owed := F5, B_cents_owed := b5,
      g_cents_owed := PySem.W.mg_of X G a5,
      F_paid_down := F6, B_paid_down := b6,
      g_paid_down := PySem.W.mg_of X G a6,
      F_Loan_init := F7, B_Loan_init := b7,
      F_Loan_stand := F8, B_Loan_stand := b8,
      F_Loan_owed := F9, B_Loan_owed := b9,
      F_Loan_pay := F10, B_Loan_pay := b10,
      F_Loan_change := F11, B_Loan_change := b11,
      F_Loan_twin := F12, B_Loan_twin := b12,
      F_read := F13, B_read := b13,
      g_read := PySem.W.mg_of X G a13,
      F_number_of := F14, B_number_of := b14,
      g_number_of := PySem.W.mg_of X G a14,
      F_desk := F15, B_desk := b15,
      g_desk := PySem.W.mg_of X G a15,
      F_answer := F16, B_answer := b16,
      g_answer := PySem.W.mg_of X G a16,
      F_done := F17, B_done := b17,
      g_done := PySem.W.mg_of X G a17,
      F_cell_at := F18, B_cell_at := b18,
      g_cell_at := PySem.W.mg_of X G a18,
      F_mixed := F19, B_mixed := b19,
      g_mixed := PySem.W.mg_of X G a19,
      F_rate_by := F20, B_rate_by := b20,
      g_rate_by := PySem.W.mg_of X G a20,
      F_sum_by := F21, B_sum_by := b21,
      g_sum_by := PySem.W.mg_of X G a21,
      F_amount_by := F22, B_amount_by := b22,
      g_amount_by := PySem.W.mg_of X G a22,
      F_owed := F23, B_owed := b23,
      g_owed := PySem.W.mg_of X G a23,
      F_parts := F24, B_parts := b24,
      g_parts := PySem.W.mg_of X G a24,
      F_then := F25, B_then := b25,
      g_then := PySem.W.mg_of X G a25,
      F_odd_line := F26, B_odd_line := b26,
      g_odd_line := PySem.W.mg_of X G a26,
      F_line := F27, B_line := b27,
      g_line := PySem.W.mg_of X G a27,
      F_paid := F28, B_paid := b28,
      g_paid := PySem.W.mg_of X G a28,
      F_l_answer := F29, B_l_answer := b29,
      g_l_answer := PySem.W.mg_of X G a29,
      F_no_desk := F30, B_no_desk := b30,
      g_no_desk := PySem.W.mg_of X G a30,
      F_law := F31, B_law := b31,
      g_law := PySem.W.mg_of X G a31,
      n_int := PySem.W.mg_none_of X G z_int,
      n_isinstance := PySem.W.mg_none_of X G z_isinstance,
      n_len := PySem.W.mg_none_of X G z_len,
      n_list := PySem.W.mg_none_of X G z_list,
      n_max := PySem.W.mg_none_of X G z_max,
      n_min := PySem.W.mg_none_of X G z_min,
      n_range := PySem.W.mg_none_of X G z_range,
      n_reversed := PySem.W.mg_none_of X G z_reversed,
      n_str := PySem.W.mg_none_of X G z_str,
      g_LAST_DAY := PySem.W.mg_of X G v_LAST_DAY,
      g_HIGHEST_RATE := PySem.W.mg_of X G v_HIGHEST_RATE,
      g_HIGHEST_AMOUNT := PySem.W.mg_of X G v_HIGHEST_AMOUNT,
      g_MILLION := PySem.W.mg_of X G v_MILLION,
      g_MOST_FIGURES := PySem.W.mg_of X G v_MOST_FIGURES,
      g_NUMBERS := PySem.W.mg_of X G g_NUMBERS, d_NUMBERS := ⟨⟨_, _, _, _, _, _, _, _, _, _, _, ⟨ld_NUMBERS, kk_NUMBERS, lw_NUMBERS⟩, rfl⟩⟩,
      g_LoanError := PySem.W.mg_of X G g_LoanError, x_LoanError := x_LoanError, k_LoanError := k_LoanError, b_LoanError := b_LoanError, t_LoanError := t_LoanError, h_LoanError := h_LoanError,
      g_BadAmount := PySem.W.mg_of X G g_BadAmount, x_BadAmount := x_BadAmount, k_BadAmount := k_BadAmount, b_BadAmount := b_BadAmount, t_BadAmount := t_BadAmount, h_BadAmount := h_BadAmount,
      g_BadRate := PySem.W.mg_of X G g_BadRate, x_BadRate := x_BadRate, k_BadRate := k_BadRate, b_BadRate := b_BadRate, t_BadRate := t_BadRate, h_BadRate := h_BadRate,
      g_BadDay := PySem.W.mg_of X G g_BadDay, x_BadDay := x_BadDay, k_BadDay := k_BadDay, b_BadDay := b_BadDay, t_BadDay := t_BadDay, h_BadDay := h_BadDay,
      g_BadPay := PySem.W.mg_of X G g_BadPay, x_BadPay := x_BadPay, k_BadPay := k_BadPay, b_BadPay := b_BadPay, t_BadPay := t_BadPay, h_BadPay := h_BadPay,
      g_NoNote := PySem.W.mg_of X G g_NoNote, x_NoNote := x_NoNote, k_NoNote := k_NoNote, b_NoNote := b_NoNote, t_NoNote := t_NoNote, h_NoNote := h_NoNote,
      u_LoanError_LoanError := u_LoanError_LoanError,
      u_LoanError_BadAmount := u_LoanError_BadAmount,
      u_LoanError_BadRate := u_LoanError_BadRate,
      u_LoanError_BadDay := u_LoanError_BadDay,
      u_LoanError_BadPay := u_LoanError_BadPay,
      u_LoanError_NoNote := u_LoanError_NoNote,
      u_BadAmount_LoanError := u_BadAmount_LoanError,
      u_BadAmount_BadAmount := u_BadAmount_BadAmount,
      u_BadAmount_BadRate := u_BadAmount_BadRate,
      u_BadAmount_BadDay := u_BadAmount_BadDay,
      u_BadAmount_BadPay := u_BadAmount_BadPay,
      u_BadAmount_NoNote := u_BadAmount_NoNote,
      u_BadRate_LoanError := u_BadRate_LoanError,
      u_BadRate_BadAmount := u_BadRate_BadAmount,
      u_BadRate_BadRate := u_BadRate_BadRate,
      u_BadRate_BadDay := u_BadRate_BadDay,
      u_BadRate_BadPay := u_BadRate_BadPay,
      u_BadRate_NoNote := u_BadRate_NoNote,
      u_BadDay_LoanError := u_BadDay_LoanError,
      u_BadDay_BadAmount := u_BadDay_BadAmount,
      u_BadDay_BadRate := u_BadDay_BadRate,
      u_BadDay_BadDay := u_BadDay_BadDay,
      u_BadDay_BadPay := u_BadDay_BadPay,
      u_BadDay_NoNote := u_BadDay_NoNote,
      u_BadPay_LoanError := u_BadPay_LoanError,
      u_BadPay_BadAmount := u_BadPay_BadAmount,
      u_BadPay_BadRate := u_BadPay_BadRate,
      u_BadPay_BadDay := u_BadPay_BadDay,
      u_BadPay_BadPay := u_BadPay_BadPay,
      u_BadPay_NoNote := u_BadPay_NoNote,
      u_NoNote_LoanError := u_NoNote_LoanError,
      u_NoNote_BadAmount := u_NoNote_BadAmount,
      u_NoNote_BadRate := u_NoNote_BadRate,
      u_NoNote_BadDay := u_NoNote_BadDay,
      u_NoNote_BadPay := u_NoNote_BadPay,
      u_NoNote_NoNote := u_NoNote_NoNote,
      g_Loan := PySem.W.mg_of X G g_Loan, C_Loan := ⟨pg, hd, po, sa⟩, M_Loan := ⟨mk, a7, i7, kc⟩,
      m_Loan_stand := ⟨a8, i8, k8⟩,
      m_Loan_owed := ⟨a9, i9, k9⟩,
      m_Loan_pay := ⟨a10, i10, k10⟩,
      m_Loan_change := ⟨a11, i11, k11⟩,
      m_Loan_twin := ⟨a12, i12, k12⟩,
      na_left := na_left,
      na_begun := na_begun,
      na_day := na_day,
      na_rates := na_rates }
  exact ⟨_, fun s v => .of_eq rfl, fun base _ _ => ok_law T⟩
end Lp
open PySem PySem.W PyProof.Rows in
set_option maxRecDepth 100000 in
set_option maxHeartbeats 0 in
theorem PySem.Challenge.cw_loanplan_k14_whole_desk_holds : PySem.Challenge.rw_loanplan_k14_whole_desk.Holds := by
  w_on; o_law; k_head; (case hw => w_witness2)
  k_fill
  refine Lp.walk (l := PySem.Challenge.rw_loanplan_k14_whole_desk) rfl rfl (fun w h Y => PySem.W.kIn_of Y) ?F
  case F =>
    intro w mg fa h KX G hmg
    refine' Lp.all_mk KX G hmg ?g_NUMBERS ?g_LoanError ?g_BadAmount ?g_BadRate ?g_BadDay ?g_BadPay ?g_NoNote ?g_Loan ?a0 ?l0 ?q0 ?k0 ?a1 ?l1 ?q1 ?k1 ?a2 ?l2 ?q2 ?k2 ?a3 ?l3 ?q3 ?k3 ?a4 ?l4 ?q4 ?k4 ?a5 ?l5 ?q5 ?k5 ?a6 ?l6 ?q6 ?k6 ?a7 ?i7 ?l7 ?q7 ?k7 ?a8 ?i8 ?l8 ?q8 ?k8 ?a9 ?i9 ?l9 ?q9 ?k9 ?a10 ?i10 ?l10 ?q10 ?k10 ?a11 ?i11 ?l11 ?q11 ?k11 ?a12 ?i12 ?l12 ?q12 ?k12 ?a13 ?l13 ?q13 ?k13 ?a14 ?l14 ?q14 ?k14 ?a15 ?l15 ?q15 ?k15 ?a16 ?l16 ?q16 ?k16 ?a17 ?l17 ?q17 ?k17 ?a18 ?l18 ?q18 ?k18 ?a19 ?l19 ?q19 ?k19 ?a20 ?l20 ?q20 ?k20 ?a21 ?l21 ?q21 ?k21 ?a22 ?l22 ?q22 ?k22 ?a23 ?l23 ?q23 ?k23 ?a24 ?l24 ?q24 ?k24 ?a25 ?l25 ?q25 ?k25 ?a26 ?l26 ?q26 ?k26 ?a27 ?l27 ?q27 ?k27 ?a28 ?l28 ?q28 ?k28 ?a29 ?l29 ?q29 ?k29 ?a30 ?l30 ?q30 ?k30 ?a31 ?l31 ?q31 ?k31 ?z_int ?z_isinstance ?z_len ?z_list ?z_max ?z_min ?z_range ?z_reversed ?z_str ?v_LAST_DAY ?v_HIGHEST_RATE ?v_HIGHEST_AMOUNT ?v_MILLION ?v_MOST_FIGURES ?ld_NUMBERS ?kk_NUMBERS ?lw_NUMBERS ?x_LoanError ?k_LoanError ?b_LoanError ?t_LoanError ?h_LoanError ?x_BadAmount ?k_BadAmount ?b_BadAmount ?t_BadAmount ?h_BadAmount ?x_BadRate ?k_BadRate ?b_BadRate ?t_BadRate ?h_BadRate ?x_BadDay ?k_BadDay ?b_BadDay ?t_BadDay ?h_BadDay ?x_BadPay ?k_BadPay ?b_BadPay ?t_BadPay ?h_BadPay ?x_NoNote ?k_NoNote ?b_NoNote ?t_NoNote ?h_NoNote ?u_LoanError_LoanError ?u_LoanError_BadAmount ?u_LoanError_BadRate ?u_LoanError_BadDay ?u_LoanError_BadPay ?u_LoanError_NoNote ?u_BadAmount_LoanError ?u_BadAmount_BadAmount ?u_BadAmount_BadRate ?u_BadAmount_BadDay ?u_BadAmount_BadPay ?u_BadAmount_NoNote ?u_BadRate_LoanError ?u_BadRate_BadAmount ?u_BadRate_BadRate ?u_BadRate_BadDay ?u_BadRate_BadPay ?u_BadRate_NoNote ?u_BadDay_LoanError ?u_BadDay_BadAmount ?u_BadDay_BadRate ?u_BadDay_BadDay ?u_BadDay_BadPay ?u_BadDay_NoNote ?u_BadPay_LoanError ?u_BadPay_BadAmount ?u_BadPay_BadRate ?u_BadPay_BadDay ?u_BadPay_BadPay ?u_BadPay_NoNote ?u_NoNote_LoanError ?u_NoNote_BadAmount ?u_NoNote_BadRate ?u_NoNote_BadDay ?u_NoNote_BadPay ?u_NoNote_NoNote ?pg ?hd ?po ?sa ?mk ?kc ?na_left ?na_begun ?na_day ?na_rates
    (case g_NUMBERS => k_is)
    (case g_LoanError => k_is)
    (case g_BadAmount => k_is)
    (case g_BadRate => k_is)
    (case g_BadDay => k_is)
    (case g_BadPay => k_is)
    (case g_NoNote => k_is)
    (case g_Loan => k_is)
    (case a0 => k_is)
    (case l0 => k_is)
    (case q0 => k_is)
    (case k0 => k_is)
    (case a1 => k_is)
    (case l1 => k_is)
    (case q1 => k_is)
    (case k1 => k_is)
    (case a2 => k_is)
    (case l2 => k_is)
    (case q2 => k_is)
    (case k2 => k_is)
    (case a3 => k_is)
    (case l3 => k_is)
    (case q3 => k_is)
    (case k3 => k_is)
    (case a4 => k_is)
    (case l4 => k_is)
    (case q4 => k_is)
    (case k4 => k_is)
    (case a5 => k_is)
    (case l5 => k_is)
    (case q5 => k_is)
    (case k5 => k_is)
    (case a6 => k_is)
    (case l6 => k_is)
    (case q6 => k_is)
    (case k6 => k_is)
    (case a7 => k_is)
    (case i7 => k_is)
    (case l7 => k_is)
    (case q7 => k_is)
    (case k7 => k_is)
    (case a8 => k_is)
    (case i8 => k_is)
    (case l8 => k_is)
    (case q8 => k_is)
    (case k8 => k_is)
    (case a9 => k_is)
    (case i9 => k_is)
    (case l9 => k_is)
    (case q9 => k_is)
    (case k9 => k_is)
    (case a10 => k_is)
    (case i10 => k_is)
    (case l10 => k_is)
    (case q10 => k_is)
    (case k10 => k_is)
    (case a11 => k_is)
    (case i11 => k_is)
    (case l11 => k_is)
    (case q11 => k_is)
    (case k11 => k_is)
    (case a12 => k_is)
    (case i12 => k_is)
    (case l12 => k_is)
    (case q12 => k_is)
    (case k12 => k_is)
    (case a13 => k_is)
    (case l13 => k_is)
    (case q13 => k_is)
    (case k13 => k_is)
    (case a14 => k_is)
    (case l14 => k_is)
    (case q14 => k_is)
    (case k14 => k_is)
    (case a15 => k_is)
    (case l15 => k_is)
    (case q15 => k_is)
    (case k15 => k_is)
    (case a16 => k_is)
    (case l16 => k_is)
    (case q16 => k_is)
    (case k16 => k_is)
    (case a17 => k_is)
    (case l17 => k_is)
    (case q17 => k_is)
    (case k17 => k_is)
    (case a18 => k_is)
    (case l18 => k_is)
    (case q18 => k_is)
    (case k18 => k_is)
    (case a19 => k_is)
    (case l19 => k_is)
    (case q19 => k_is)
    (case k19 => k_is)
    (case a20 => k_is)
    (case l20 => k_is)
    (case q20 => k_is)
    (case k20 => k_is)
    (case a21 => k_is)
    (case l21 => k_is)
    (case q21 => k_is)
    (case k21 => k_is)
    (case a22 => k_is)
    (case l22 => k_is)
    (case q22 => k_is)
    (case k22 => k_is)
    (case a23 => k_is)
    (case l23 => k_is)
    (case q23 => k_is)
    (case k23 => k_is)
    (case a24 => k_is)
    (case l24 => k_is)
    (case q24 => k_is)
    (case k24 => k_is)
    (case a25 => k_is)
    (case l25 => k_is)
    (case q25 => k_is)
    (case k25 => k_is)
    (case a26 => k_is)
    (case l26 => k_is)
    (case q26 => k_is)
    (case k26 => k_is)
    (case a27 => k_is)
    (case l27 => k_is)
    (case q27 => k_is)
    (case k27 => k_is)
    (case a28 => k_is)
    (case l28 => k_is)
    (case q28 => k_is)
    (case k28 => k_is)
    (case a29 => k_is)
    (case l29 => k_is)
    (case q29 => k_is)
    (case k29 => k_is)
    (case a30 => k_is)
    (case l30 => k_is)
    (case q30 => k_is)
    (case k30 => k_is)
    (case a31 => k_is)
    (case l31 => k_is)
    (case q31 => k_is)
    (case k31 => k_is)
    (case z_int => k_is)
    (case z_isinstance => k_is)
    (case z_len => k_is)
    (case z_list => k_is)
    (case z_max => k_is)
    (case z_min => k_is)
    (case z_range => k_is)
    (case z_reversed => k_is)
    (case z_str => k_is)
    (case v_LAST_DAY => k_is)
    (case v_HIGHEST_RATE => k_is)
    (case v_HIGHEST_AMOUNT => k_is)
    (case v_MILLION => k_is)
    (case v_MOST_FIGURES => k_is)
    (case ld_NUMBERS => k_is)
    (case kk_NUMBERS => k_keys)
    (case lw_NUMBERS => exact rfl)
    (case x_LoanError => k_exc)
    (case k_LoanError => k_is)
    (case b_LoanError => k_is)
    (case t_LoanError => k_is)
    (case h_LoanError => k_is)
    (case x_BadAmount => k_exc)
    (case k_BadAmount => k_is)
    (case b_BadAmount => k_is)
    (case t_BadAmount => k_is)
    (case h_BadAmount => k_is)
    (case x_BadRate => k_exc)
    (case k_BadRate => k_is)
    (case b_BadRate => k_is)
    (case t_BadRate => k_is)
    (case h_BadRate => k_is)
    (case x_BadDay => k_exc)
    (case k_BadDay => k_is)
    (case b_BadDay => k_is)
    (case t_BadDay => k_is)
    (case h_BadDay => k_is)
    (case x_BadPay => k_exc)
    (case k_BadPay => k_is)
    (case b_BadPay => k_is)
    (case t_BadPay => k_is)
    (case h_BadPay => k_is)
    (case x_NoNote => k_exc)
    (case k_NoNote => k_is)
    (case b_NoNote => k_is)
    (case t_NoNote => k_is)
    (case h_NoNote => k_is)
    (case u_LoanError_LoanError => k_is)
    (case u_LoanError_BadAmount => k_is)
    (case u_LoanError_BadRate => k_is)
    (case u_LoanError_BadDay => k_is)
    (case u_LoanError_BadPay => k_is)
    (case u_LoanError_NoNote => k_is)
    (case u_BadAmount_LoanError => k_is)
    (case u_BadAmount_BadAmount => k_is)
    (case u_BadAmount_BadRate => k_is)
    (case u_BadAmount_BadDay => k_is)
    (case u_BadAmount_BadPay => k_is)
    (case u_BadAmount_NoNote => k_is)
    (case u_BadRate_LoanError => k_is)
    (case u_BadRate_BadAmount => k_is)
    (case u_BadRate_BadRate => k_is)
    (case u_BadRate_BadDay => k_is)
    (case u_BadRate_BadPay => k_is)
    (case u_BadRate_NoNote => k_is)
    (case u_BadDay_LoanError => k_is)
    (case u_BadDay_BadAmount => k_is)
    (case u_BadDay_BadRate => k_is)
    (case u_BadDay_BadDay => k_is)
    (case u_BadDay_BadPay => k_is)
    (case u_BadDay_NoNote => k_is)
    (case u_BadPay_LoanError => k_is)
    (case u_BadPay_BadAmount => k_is)
    (case u_BadPay_BadRate => k_is)
    (case u_BadPay_BadDay => k_is)
    (case u_BadPay_BadPay => k_is)
    (case u_BadPay_NoNote => k_is)
    (case u_NoNote_LoanError => k_is)
    (case u_NoNote_BadAmount => k_is)
    (case u_NoNote_BadRate => k_is)
    (case u_NoNote_BadDay => k_is)
    (case u_NoNote_BadPay => k_is)
    (case u_NoNote_NoNote => k_is)
    (case pg => k_is)
    (case hd => k_is)
    (case po => k_is)
    (case sa => k_is)
    (case mk => k_is)
    (case kc => k_is)
    (case na_left => k_is)
    (case na_begun => k_is)
    (case na_day => k_is)
    (case na_rates => k_is)
#print axioms PySem.Challenge.cw_loanplan_k14_whole_desk_holds
