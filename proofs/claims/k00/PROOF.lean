import PyProof.Rows.All
import PySem.Challenge.RW_groupclocks_k00_errors_and_their_fields
import Wide.All
import OpenK.AllK
import Wide.FinOn
import HandS.Base
import HandS.Call
import HandS.List
import HandS.Comp
import HandS.Ends
import HandS.Dict
import HandS.Iter
import HandS.Text
import HandS.Words
import HandS.WordsList
import HandS.Wide
import HandS.ForMost
import HandS.Walk
import HandS.TupAny
import HandS.Style
import HandS.FStr
import HandS.IsInst
import HandS.ExcInit
import HandS.ExcOwn
import HandS.TryOnly
import HandS.WordsExc
import HandS.Strs
import HandS.RaiseMore
import HandS.Set
import PyProof.Rows.SortShellAny
import PyProof.NeKinds
import PyProof.ListStr
import HandS.TryMany
import HandS.ExcField
import HandS.Lambda
import HandS.EndTab
import HandS.Defaults
import HandS.Head0
import HandS.Head1
import HandS.Head2
import HandS.HeadEnd
import HandS.HeadHook1
import HandS.HeadHook2
import HandS.HeadHook3
import HandS.HeadHook4
import HandS.HeadWalk
import PyProof.ExcBaseAll.IndexError
import PyProof.ExcBaseAll.LookupError
import PyProof.ExcBaseAll.OverflowError
import PyProof.ExcBaseAll.ArithmeticError
import PyProof.ExcBaseAll.RuntimeError
import PyProof.ExcBaseAll.ValueError
import PyProof.InstStoreFacts
import KE.KExcInit
import KE.KExcIs
import HandS.ExcValue
import PyProof.Rows.NestShow
import PyProof.ReprBulk
import HandS.ExcBuiltin
import HandS.ExcIs
import Lean
set_option Elab.async false
set_option linter.all false
set_option maxRecDepth 100000
set_option maxHeartbeats 4000000
namespace L2
open PySem PySem.Spec PyProof.Rows

/-! ### heaps: what stays -/
theorem gSame_new {H : Hp} {p : Addr} {o : HO} (h : H p = none) : Same H (upd H p o) := fun b x e => by
  rw [upd_ne (ne_of_none e h)]
  exact e
theorem gSame_back {H H' : Hp} {p : Addr} (e : Same H H') (h : H' p = none) : H p = none := e.free h
theorem gSame_mut {H H' : Hp} {p : Addr} {o : HO} (e : Same H H') (h : H p = none) : Same H (upd H' p o) := fun b u q => by
  rw [upd_ne (ne_of_none q h)]
  exact e b u q
theorem gSeqT {K : PySem.W.Frag} {H H' : Hp} {a : Addr} {xs : List V} (e : Same H H') (h : SqT K H a xs) : SqT K H' a xs := by
  rcases h with (h | ⟨o, h⟩) | h
  · exact .inl (.inl (e _ _ h))
  · exact .inl (.inr ⟨o, e _ _ h⟩)
  · exact .inr h

/-! ### the tape of draws: a list of three ints, the one thing that the drawing defs change -/
def Tp (H : Hp) (t : Addr) : Prop := ∃ a b c : Int, H t = some (.lst [.int a, .int b, .int c])
structure Kt (t : Addr) (H H' : Hp) : Prop where
  tp : Tp H' t
  kp : ∀ b o, b ≠ t → H b = some o → H' b = some o
theorem Kt.refl {t : Addr} {H : Hp} (h : Tp H t) : Kt t H H := ⟨h, fun _ _ _ e => e⟩
theorem Kt.trans {t : Addr} {H H1 H2 : Hp} (a : Kt t H H1) (b : Kt t H1 H2) : Kt t H H2 := ⟨b.tp, fun c o n e => b.kp c o n (a.kp c o n e)⟩
theorem Kt.same {t : Addr} {H H' : Hp} (h : Tp H t) (s : Same H H') : Kt t H H' := by
  obtain ⟨a, b, c, e⟩ := h
  exact ⟨⟨a, b, c, s _ _ e⟩, fun d o _ q => s d o q⟩
theorem Kt.wr {t : Addr} {H : Hp} {a b c : Int} (h : Tp H t) : Kt t H (upd H t (.lst [.int a, .int b, .int c])) := ⟨⟨a, b, c, upd_same⟩, fun d o n q => by
  rw [upd_ne n]
  exact q⟩
theorem Kt.ne {t p : Addr} {H : Hp} (h : Tp H t) (n : H p = none) : p ≠ t := fun z => by
  obtain ⟨a, b, c, e⟩ := h
  rw [z, e] at n
  cases n
theorem Kt.new {t p : Addr} {H : Hp} {o : HO} (h : Tp H t) (n : H p = none) : Kt t H (upd H p o) := Kt.same h (gSame_new n)
/-- a thing made since may change -/
theorem Kt.mut {t p : Addr} {H H' : Hp} {o : HO} (e : Kt t H H') (n : H p = none) (np : p ≠ t) : Kt t H (upd H' p o) := by
  obtain ⟨a, b, c, q⟩ := e.tp
  refine ⟨⟨a, b, c, by rw [upd_ne np.symm]; exact q⟩, fun d u nd r => ?_⟩
  rw [upd_ne (ne_of_none r n)]
  exact e.kp d u nd r
theorem Kt.free {t p : Addr} {H H' : Hp} (e : Kt t H H') (n : H' p = none) : H p = none := by
  have np := Kt.ne e.tp n
  cases q : H p with
  | none => rfl
  | some o =>
    rw [e.kp p o np q] at n
    cases n
theorem Tp.ne_tup {H : Hp} {t a : Addr} {xs : List V} (h : Tp H t) (e : H a = some (.tup xs)) : a ≠ t := by
  obtain ⟨x, y, z, q⟩ := h
  exact ne_of e q (by intro w; cases w)
theorem Tp.ne_frz {H : Hp} {t a : Addr} {o : Obj} {u : HO} (h : Tp H t) (e : H a = some (.frz o u)) : a ≠ t := by
  obtain ⟨x, y, z, q⟩ := h
  exact ne_of e q (by intro w; cases w)
theorem Tp.ne_strs {H : Hp} {t a : Addr} {ss : List Str} (h : Tp H t) (e : H a = some (.lst (ss.map V.str))) : a ≠ t := by
  obtain ⟨x, y, z, q⟩ := h
  refine ne_of e q ?_
  intro w
  cases ss with
  | nil => cases w
  | cons s r => cases w
theorem Kt.tup {t a : Addr} {H H' : Hp} {xs : List V} (k : Kt t H H') (h : Tp H t) (e : H a = some (.tup xs)) : H' a = some (.tup xs) := k.kp _ _ (h.ne_tup e) e
theorem Kt.strs {t a : Addr} {H H' : Hp} {ss : List Str} (k : Kt t H H') (h : Tp H t) (e : H a = some (.lst (ss.map V.str))) : H' a = some (.lst (ss.map V.str)) := k.kp _ _ (h.ne_strs e) e
theorem Kt.sqT {K : PySem.W.Frag} {t a : Addr} {H H' : Hp} {xs : List V} (k : Kt t H H') (h : Tp H t) (e : SqT K H a xs) : SqT K H' a xs := by
  rcases e with (e | ⟨o, e⟩) | e
  · exact .inl (.inl (k.tup h e))
  · exact .inl (.inr ⟨o, k.kp _ _ (h.ne_frz e) e⟩)
  · exact .inr e

/-! ### great powers -/
def CPowW (i j : Int) : Prop := 0 ≤ j ∧ (Builtin.Int.intBits i : Int) * j ≤ 2 ^ 27
section
variable {X : Cx}
theorem op_powW : OpR X (binaryOp .Pow) (rI CPowW fun i j => .int (i ^ j.toNat)) := opI fun _ _ _ _ _ _ _ hc q => pow_int hc.1 hc.2 q
end

theorem p570 : (((10 : Int) ^ Int.toNat 57) ^ Int.toNat 10) ≠ 0 := by decide +kernel
theorem c57 : CPowW 10 57 := ⟨by decide, by decide +kernel⟩
theorem c570 : CPowW ((10 : Int) ^ Int.toNat 57) 10 := ⟨by decide, by decide +kernel⟩
theorem c18 : CPowW 10 18 := ⟨by decide, by decide +kernel⟩
theorem cmL {i j : Int} (h : -(2 ^ 64) < i ∧ i < 2 ^ 64 := by constructor <;> decide) : CMul i j := .inl h
theorem cmR {i j : Int} (h : -(2 ^ 64) < j ∧ j < 2 ^ 64 := by constructor <;> decide) : CMul i j := .inr h
theorem fmod_rng {a n : Int} (h : 0 < n) : 0 ≤ a.fmod n ∧ a.fmod n < n := ⟨Int.fmod_nonneg_of_pos a h, Int.fmod_lt_of_pos a h⟩

/-! ### words -/
/-- a word: one to eight letters a to z -/
def isW (z : Str) : Bool := decide (1 ≤ z.length) && decide (z.length ≤ 8) && (TL.tl z).all fun c => decide (97 ≤ c) && decide (c ≤ 122)
theorem isW_len {z : Str} (h : isW z = true) : 1 ≤ z.length ∧ z.length ≤ 8 := by
  unfold isW at h
  simp only [Bool.and_eq_true, decide_eq_true_eq] at h
  exact h.1
theorem isW_let {z : Str} (h : isW z = true) : ∀ c ∈ TL.tl z, 97 ≤ c ∧ c ≤ 122 := by
  unfold isW at h
  simp only [Bool.and_eq_true, decide_eq_true_eq, List.all_eq_true] at h
  exact h.2
theorem isW_mk {z : Str} (h1 : 1 ≤ z.length) (h2 : z.length ≤ 8) (h3 : ∀ c ∈ TL.tl z, 97 ≤ c ∧ c ≤ 122) : isW z = true := by
  unfold isW
  simp only [Bool.and_eq_true, decide_eq_true_eq, List.all_eq_true]
  exact ⟨⟨h1, h2⟩, h3⟩
end L2

set_option Elab.async false
set_option linter.all false
set_option maxRecDepth 100000
set_option maxHeartbeats 4000000
namespace L2
open PySem PySem.Spec PyProof.Rows

/-! ### the built-in names that the text leaves as they are -/
structure Blt (mg : Str → Option Value) : Prop where
  len_ : mg "len" = none
  int_ : mg "int" = none
  abs_ : mg "abs" = none
  max_ : mg "max" = none
  min_ : mg "min" = none
  range : mg "range" = none
  all_ : mg "all" = none
  isinstance_ : mg "isinstance" = none
  str_ : mg "str" = none
  tuple_ : mg "tuple" = none
  list_ : mg "list" = none
  set_ : mg "set" = none
  sorted_ : mg "sorted" = none
  repr_ : mg "repr" = none
  bool_ : mg "bool" = none
  dict_ : mg "dict" = none
/-- a def of the text: where it stands, how it is called -/
structure Df (K : PySem.W.Frag) (mg : Str → Option Value) (x : Str) (st : Stmt) (ps : List Str) (f : Addr) (fd : FuncData) : Prop where
  F : Fun K x x st f fd
  g : mg x = some (.ref f)
  b : Binds K fd ps []
theorem passL0 {X : Cx} : Passes (L2.CX X.prog X.w) X (fun _ _ _ => False) := passL
/-- a branch that comes to one value -/
theorem meetI {c : Prop} [Decidable c] {A B : VK → Prop} {Q : VK} (H : Hp) (v : V) (h1 : c → ∀ Q : VK, Q v H → A Q) (h2 : ¬ c → ∀ Q : VK, Q v H → B Q) (q : Q v H) : if c then A Q else B Q := by
  by_cases h : c
  · rw [if_pos h]
    exact h1 h Q q
  · rw [if_neg h]
    exact h2 h Q q

/-! ### promises of the drawing defs -/
def spTape (K : PySem.W.Frag) : Sp := fun vs H Q _ => ∃ (a : Addr) (ns : List Int) (n : Int), vs = [.ref a, .int n] ∧ SqL K H a (ns.map V.int) ∧ 0 ≤ n ∧ ∀ t x y z, H t = none → Q (.ref t) (upd H t (.lst [.int x, .int y, .int z]))
def spRoll : Sp := fun vs H Q _ => ∃ (t : Addr) (n : Int), vs = [.ref t, .int n] ∧ Tp H t ∧ 0 < n ∧ n < 1073741824 ∧ ∀ r H', 0 ≤ r → r < n → Kt t H H' → Q (.int r) H'
/-- the items of a list, a tuple, a text -/
def Items (K : PySem.W.Frag) (H : Hp) (t : Addr) (x : V) (xs : List V) : Prop :=
  (∃ p, x = .ref p ∧ p ≠ t ∧ (SqL K H p xs ∨ SqT K H p xs)) ∨ ∃ z : Str, x = .str z ∧ xs = (TL.tl z).map fun c => V.str ⟨#[c]⟩
def spPick (K : PySem.W.Frag) : Sp := fun vs H Q _ => ∃ (t : Addr) (x : V) (xs : List V), vs = [.ref t, x] ∧ Tp H t ∧ Items K H t x xs ∧ 0 < xs.length ∧ xs.length < 100000 ∧ ∀ y H', y ∈ xs → Kt t H H' → Q y H'
end L2

set_option Elab.async false
set_option linter.all false
set_option maxRecDepth 100000
set_option maxHeartbeats 4000000
namespace L2
open PySem PySem.Spec PyProof.Rows
/-! ### texts in rows, as data -/
def OkS (ss : List Str) : Prop := ss.all PyData.strOk = true
theorem OkS.mk {ss : List Str} (h : ∀ s ∈ ss, PyData.strOk s = true) : OkS ss := List.all_eq_true.mpr h
theorem OkS.of {ss : List Str} (h : ∀ s ∈ ss, isW s = true) : OkS ss := OkS.mk fun s hs => by
  have hl := isW_let (h s hs)
  unfold PyData.strOk
  rw [Array.all_eq_true_iff_forall_mem]
  intro c hc
  have := hl c (by unfold TL.tl; exact Array.mem_toList_iff.mpr hc)
  exact decide_eq_true (by omega)
theorem gLayS (ss : List Str) (h : OkS ss) : PyData.canLayAll0 (ss.map PyData.str) = true := by
  rw [PyProof.Rows.canLayAll_strs']
  exact h
theorem gDepS : ∀ ss : List Str, PyData.depthAll (ss.map PyData.str) = 0
  | [] => by simp [PyData.depthAll]
  | s :: r => by
    have ih := gDepS r
    simp [PyData.depthAll, PyData.depth, ih]
theorem gShL (ss : List Str) (h : OkS ss) : SeqAt.shaped (.list (ss.map PyData.str)) = true := by
  simp [SeqAt.shaped, PyData.canLay0, PyData.depth, gLayS ss h, gDepS]
theorem gShT (ss : List Str) (h : OkS ss) : SeqAt.shaped (.tuple (ss.map PyData.str)) = true := by
  simp [SeqAt.shaped, PyData.canLay0, PyData.depth, gLayS ss h, gDepS]
theorem gEqvS : ∀ ss ts : List Str, PyData.eqvAll (ss.map PyData.str) (ts.map PyData.str) = decide (ss = ts)
  | [], [] => by simp [PyData.eqvAll]
  | [], t :: r => by simp [PyData.eqvAll]
  | s :: r, [] => by simp [PyData.eqvAll]
  | s :: r, t :: q => by
    have ih := gEqvS r q
    simp only [List.map_cons, PyData.eqvAll, PyData.eqv, ih]
    by_cases h : s = t
    · subst h
      simp
    · have hb : (s == t) = false := by simpa using h
      simp [hb, h]
theorem gEqvL (ss ts : List Str) : PyData.eqv (.list (ss.map PyData.str)) (.list (ts.map PyData.str)) = decide (ss = ts) := by
  rw [PyData.eqv]
  exact gEqvS ss ts
theorem gEqvT (ss ts : List Str) : PyData.eqv (.tuple (ss.map PyData.str)) (.tuple (ts.map PyData.str)) = decide (ss = ts) := by
  rw [PyData.eqv]
  exact gEqvS ss ts
theorem gDpS {K : PySem.W.Frag} {H : Hp} : ∀ ss : List Str, DpAll K H (ss.map V.str) (ss.map PyData.str)
  | [] => .nil
  | s :: r => .cons (.str s) (gDpS r)
theorem gDpL {K : PySem.W.Frag} {H : Hp} {a : Addr} {ss : List Str} (h : SqL K H a (ss.map V.str)) : Dp K H (.ref a) (.list (ss.map PyData.str)) := .lst h (gDpS ss)
theorem gDpT {K : PySem.W.Frag} {H : Hp} {a : Addr} {ss : List Str} (h : SqT K H a (ss.map V.str)) : Dp K H (.ref a) (.tuple (ss.map PyData.str)) := .tup h (gDpS ss)
/-- == and != of rows of texts: what the rule asks -/
theorem neLS {K : PySem.W.Frag} {H : Hp} {a b : Addr} {ss ts : List Str} {Q : VK} (oa : OkS ss) (ob : OkS ts) (ha : SqL K H a (ss.map V.str)) (hb : SqL K H b (ts.map V.str)) (q : Q (.bl (!decide (ss = ts))) H) : rNeD K (.ref a) (.ref b) H Q :=
  ⟨_, _, gDpL ha, gDpL hb, gShL ss oa, gShL ts ob, by rw [gEqvL]; exact q⟩
theorem neTS {K : PySem.W.Frag} {H : Hp} {a b : Addr} {ss ts : List Str} {Q : VK} (oa : OkS ss) (ob : OkS ts) (ha : SqT K H a (ss.map V.str)) (hb : SqT K H b (ts.map V.str)) (q : Q (.bl (!decide (ss = ts))) H) : rNeD K (.ref a) (.ref b) H Q :=
  ⟨_, _, gDpT ha, gDpT hb, gShT ss oa, gShT ts ob, by rw [gEqvT]; exact q⟩
theorem eqLS {K : PySem.W.Frag} {H : Hp} {a b : Addr} {ss ts : List Str} {Q : VK} (oa : OkS ss) (ob : OkS ts) (ha : SqL K H a (ss.map V.str)) (hb : SqL K H b (ts.map V.str)) (q : Q (.bl (decide (ss = ts))) H) : rEqD K (.ref a) (.ref b) H Q :=
  ⟨_, _, gDpL ha, gDpL hb, gShL ss oa, gShL ts ob, by rw [gEqvL]; exact q⟩
theorem eqTS {K : PySem.W.Frag} {H : Hp} {a b : Addr} {ss ts : List Str} {Q : VK} (oa : OkS ss) (ob : OkS ts) (ha : SqT K H a (ss.map V.str)) (hb : SqT K H b (ts.map V.str)) (q : Q (.bl (decide (ss = ts))) H) : rEqD K (.ref a) (.ref b) H Q :=
  ⟨_, _, gDpT ha, gDpT hb, gShT ss oa, gShT ts ob, by rw [gEqvT]; exact q⟩

/-! ### items -/
theorem Kt.sqL {K : PySem.W.Frag} {t a : Addr} {H H' : Hp} {xs : List V} (k : Kt t H H') (n : a ≠ t) (e : SqL K H a xs) : SqL K H' a xs := by
  rcases e with (e | ⟨o, e⟩) | e
  · exact .inl (.inl (k.kp _ _ n e))
  · exact .inl (.inr ⟨o, k.kp _ _ n e⟩)
  · exact .inr e
theorem Items.kt {K : PySem.W.Frag} {t : Addr} {H H' : Hp} {x : V} {xs : List V} (i : Items K H t x xs) (h : Tp H t) (k : Kt t H H') : Items K H' t x xs := by
  rcases i with ⟨p, e, n, hS | hS⟩ | i
  · exact .inl ⟨p, e, n, .inl (k.sqL n hS)⟩
  · exact .inl ⟨p, e, n, .inr (k.sqT h hS)⟩
  · exact .inr i
theorem Items.len {K : PySem.W.Frag} {t : Addr} {H : Hp} {x : V} {xs : List V} (i : Items K H t x xs) (h : xs.length < 100000) : LenV K x H xs.length := by
  rcases i with ⟨p, rfl, n, hS | hS⟩ | ⟨z, rfl, rfl⟩
  · exact .inl ⟨_, hS, rfl⟩
  · exact .inr ⟨_, hS, rfl⟩
  · rw [List.length_map] at h ⊢
    refine ⟨?_, (TL.len_tl z).symm⟩
    rw [TL.len_tl, sizeLine_eq]
    omega
theorem Items.ix {K : PySem.W.Frag} {t : Addr} {H : Hp} {x y : V} {xs : List V} {r : Int} {Q : VK} (i : Items K H t x xs) (h : xs.length < 100000) (ha : atI xs r = some y) (q : Q y H) : rIx K x (.int r) H Q := by
  rcases i with ⟨p, rfl, n, hS | hS⟩ | ⟨z, rfl, rfl⟩
  · exact .inl ⟨p, _, r, y, rfl, rfl, hS, ha, q⟩
  · exact .inr (.inl ⟨p, _, r, y, rfl, rfl, hS, ha, q⟩)
  · unfold atI at ha
    rw [List.length_map] at ha h
    cases hj : ixN (TL.tl z).length r with
    | none =>
      rw [hj] at ha
      cases ha
    | some j =>
      rw [hj] at ha
      have ha' : ((TL.tl z).map fun c => V.str ⟨#[c]⟩)[j]? = some y := ha
      rw [List.getElem?_map] at ha'
      cases hc : (TL.tl z)[j]? with
      | none =>
        rw [hc] at ha'
        cases ha'
      | some c =>
        rw [hc] at ha'
        have e : V.str ⟨#[c]⟩ = y := Option.some.inj ha'
        refine .inr (.inr ⟨z, r, c, rfl, rfl, by rw [TL.len_tl, sizeLine_eq]; omega, ?_, by rw [e]; exact q⟩)
        show (ixN (TL.tl z).length r).bind _ = _
        rw [hj]
        exact hc
theorem at_int {α : Type} {xs : List α} {r : Int} (h0 : 0 ≤ r) (h1 : r < xs.length) : ∃ y, atI xs r = some y ∧ y ∈ xs := by
  have hj : r.toNat < xs.length := by omega
  refine ⟨xs[r.toNat], ?_, List.getElem_mem hj⟩
  obtain ⟨k, rfl⟩ : ∃ k : Nat, r = (k : Int) := ⟨r.toNat, by omega⟩
  exact atI_nat (by rw [List.getElem?_eq_getElem]; rfl)

/-! ### few -/
def spFew (K : PySem.W.Frag) : Sp := fun vs H Q _ => ∃ (t a : Addr) (ss : List Str) (many : Int), vs = [.ref t, .ref a, .int many] ∧ Tp H t ∧ a ≠ t ∧ SqL K H a (ss.map V.str) ∧ OkS ss ∧ ss.length ≤ 1000 ∧ 0 ≤ many ∧
  ∀ (p : Addr) (ys rest : List Str) (H' : Hp), (ys ++ rest).Perm ss → ys.length = min many.toNat ss.length → H p = none → H' p = some (.lst (ys.map V.str)) → Kt t H H' → Q (.ref p) H'
theorem OkS.sub {ss ts : List Str} (h : OkS ss) (hs : ∀ x ∈ ts, x ∈ ss) : OkS ts := OkS.mk fun s hm => List.all_eq_true.mp h s (hs s hm)
theorem perm_pick {ys xs ss : List Str} {k : Nat} {x : Str} (h : (ys ++ xs).Perm ss) (hk : xs[k]? = some x) : ((ys ++ [x]) ++ xs.eraseIdx k).Perm ss := by
  refine List.Perm.trans ?_ h
  rw [List.append_assoc]
  refine List.Perm.append_left ys ?_
  exact erase_perm _ _ _ hk
theorem seqIx {r : Int} {n : Nat} (h0 : 0 ≤ r) (h1 : r < n) : seqIndex? r n = some r.toNat := PySem.StrLaws.seqIndex_nonneg h0 h1
theorem erase_len {α : Type} {l : List α} {k : Nat} (h : k < l.length) : (l.eraseIdx k).length + 1 = l.length := by
  rw [List.length_eraseIdx, if_pos h]
  omega
theorem map_erase {α β : Type} (f : α → β) : ∀ (l : List α) (k : Nat), (l.map f).eraseIdx k = (l.eraseIdx k).map f
  | [], k => by simp
  | a :: r, 0 => by simp
  | a :: r, k + 1 => by simp [map_erase f r k]

/-! ### signs and words -/
def sg (c : Nat) : Str := ⟨#[c]⟩
theorem sg_inj {a b : Nat} (h : sg a = sg b) : a = b := by
  have := congrArg TL.tl h
  have e : ([a] : List Nat) = [b] := this
  cases e
  rfl
theorem sg_W {c : Nat} (h : 97 ≤ c ∧ c ≤ 122) : isW (sg c) = true := isW_mk (by show 1 ≤ 1; decide) (by show 1 ≤ 8; decide) fun d hd => by
  have e : TL.tl (sg c) = [c] := rfl
  rw [e] at hd
  rw [List.mem_singleton.mp hd]
  exact h
abbrev abc : Str := "abcdefghijklmnopqrstuvwxyz"
theorem abc_rng : ∀ c ∈ TL.tl abc, 97 ≤ c ∧ c ≤ 122 := by decide +kernel
theorem abc_nd : (TL.tl abc).Nodup := by decide +kernel
theorem abc_len : (TL.tl abc).length = 26 := by decide +kernel
theorem joinL_nil : ∀ cs : List Nat, TL.joinL [] (cs.map fun c => [c]) = cs
  | [] => rfl
  | [c] => rfl
  | c :: d :: r => by
    have ih := joinL_nil (d :: r)
    show [c] ++ ([] ++ TL.joinL [] ((d :: r).map fun c => [c])) = c :: d :: r
    rw [ih]
    rfl
theorem tl_join0 (cs : List Nat) : TL.tl (Txt.join "" (cs.map sg)) = cs := by
  rw [TL.join_eq, TL.tl_join, List.map_map]
  exact joinL_nil cs
theorem join0_W {cs : List Nat} (h1 : 1 ≤ cs.length) (h2 : cs.length ≤ 8) (h : ∀ c ∈ cs, 97 ≤ c ∧ c ≤ 122) : isW (Txt.join "" (cs.map sg)) = true := by
  refine isW_mk ?_ ?_ ?_
  · rw [TL.len_tl, tl_join0]
    exact h1
  · rw [TL.len_tl, tl_join0]
    exact h2
  · rw [tl_join0]
    exact h
theorem inV_strs (s : Str) : ∀ ws : List Str, inV (.str s) (ws.map V.str) = decide (s ∈ ws)
  | [] => by simp [inV]
  | x :: r => by
    have ih := inV_strs s r
    unfold inV at ih ⊢
    rw [List.map_cons, List.any_cons, ih]
    by_cases h : s = x
    · subst h
      simp [eqV]
    · have hb : eqV (.str x) (.str s) = false := by
        show (x == s) = false
        simpa using fun z : x = s => h z.symm
      rw [hb]
      simp [h]
theorem nodup_sub_len {α : Type} [DecidableEq α] : ∀ (l m : List α), l.Nodup → (∀ x ∈ l, x ∈ m) → l.length ≤ m.length
  | [], _, _, _ => Nat.zero_le _
  | a :: r, m, hd, hs => by
    have ha : a ∈ m := hs a (List.mem_cons_self ..)
    have hn := List.nodup_cons.mp hd
    have ih := nodup_sub_len r (m.erase a) hn.2 fun x hx => by
      refine (List.mem_erase_of_ne ?_).mpr (hs x (List.mem_cons_of_mem _ hx))
      intro z
      exact hn.1 (z ▸ hx)
    rw [List.length_erase_of_mem ha] at ih
    have : 0 < m.length := List.length_pos_iff.mpr (List.ne_nil_of_mem ha)
    show r.length + 1 ≤ m.length
    omega
/-- a sign that is none of fewer than 26 words -/
theorem left_ne {ws : List Str} (h : ws.length < 26) : ((TL.tl abc).map sg).filter (fun s => decide (s ∉ ws)) ≠ [] := by
  intro z
  have h2 := nodup_sub_len ((TL.tl abc).map sg) ws (by
    rw [List.nodup_iff_pairwise_ne, List.pairwise_map]
    exact abc_nd.imp fun {a b} n e => n (sg_inj e)) fun x hx => by
      have := List.filter_eq_nil_iff.mp z x hx
      simpa using this
  rw [List.length_map, abc_len] at h2
  omega
def spWord : Sp := fun vs H Q _ => ∃ t : Addr, vs = [.ref t] ∧ Tp H t ∧ ∀ (x : Str) (H' : Hp), isW x = true → Kt t H H' → Q (.str x) H'
def spWords : Sp := fun vs H Q _ => ∃ (t : Addr) (n : Int), vs = [.ref t, .int n] ∧ Tp H t ∧ 0 ≤ n ∧ n ≤ 25 ∧
  ∀ (p : Addr) (ws : List Str) (H' : Hp), ws.length = n.toNat → (∀ x ∈ ws, isW x = true) → ws.Nodup → H p = none → H' p = some (.lst (ws.map V.str)) → Kt t H H' → Q (.ref p) H'
theorem lots6 {y : V} (h : y ∈ [V.int 1, .int 1, .int 2, .int 3, .int 5, .int 8]) : ∃ n : Nat, y = .int n ∧ 1 ≤ n ∧ n ≤ 8 := by
  simp only [List.mem_cons, List.not_mem_nil, or_false] at h
  rcases h with h | h | h | h | h | h
  · exact ⟨1, h, by decide, by decide⟩
  · exact ⟨1, h, by decide, by decide⟩
  · exact ⟨2, h, by decide, by decide⟩
  · exact ⟨3, h, by decide, by decide⟩
  · exact ⟨5, h, by decide, by decide⟩
  · exact ⟨8, h, by decide, by decide⟩

/-! ### rules with the written part told (within a comprehension) -/
section
variable {X : Cx} (K : PySem.W.Frag)
theorem op_in_seqK (h : X.K = K) : OpR X (compareOp .In) (rIn K false) := by subst h; exact op_in_seq
theorem op_notIn_seqK (h : X.K = K) : OpR X (compareOp .NotIn) (rIn K true) := by subst h; exact op_notIn_seq
theorem ix_listK (h : X.K = K) : IxR X (rIxL K) := by subst h; exact ix_list
theorem ix_tupK (h : X.K = K) : IxR X (rIxT K) := by subst h; exact ix_tup
theorem ix_seqK (h : X.K = K) : IxR X (rIx K) := by subst h; exact ix_seq
theorem sl_listK (h : X.K = K) : SlR X (rSlL K) := by subst h; exact sl_list
theorem sl_tupAK (h : X.K = K) : SlR X (rSlA K) := by subst h; exact sl_tupA
theorem op_catAK (h : X.K = K) : OpR X (binaryOp .Add) (rCatA K) := by subst h; exact op_catA
theorem op_eqDK (h : X.K = K) (hu : X.A.units + 64 < cLine) : OpR X (compareOp .Eq) (rEqD K) := by subst h; exact op_eqD hu
theorem op_neDK (h : X.K = K) (hu : X.A.units + 64 < cLine) : OpR X (compareOp .NotEq) (rNeD K) := by subst h; exact op_neD hu
theorem call_isiK' (h : X.K = K) : CallR X (.builtin "isinstance") (rIsi K) := by subst h; exact call_isi
theorem call_len_seqK (h : X.K = K) : CallR X (.builtin "len") (fun xs H Q => ∃ p ys, xs = [.ref p] ∧ (SqL K H p ys ∨ SqT K H p ys) ∧ Q (.int ys.length) H) := by subst h; exact call_len_seq
theorem call_lenK (h : X.K = K) : CallR X (.builtin "len") (fun xs H Q => ∃ x n, xs = [x] ∧ LenV K x H n ∧ Q (.int n) H) := by subst h; exact call_len
end
end L2

set_option Elab.async false
set_option linter.all false
set_option maxRecDepth 100000
set_option maxHeartbeats 6400000
/-! set(xs) of a list or a tuple of texts, of any length, equal ones among them: how many different ones there are -/
namespace Gs
open PySem PySem.Spec PyProof.Rows
/-- how many different ones stand among the first i -/
def dst (xs : List Str) : Nat → Nat
  | 0 => 0
  | i + 1 => if decide (xs.getD i Str.empty ∈ xs.take i) = true then dst xs i else dst xs i + 1
theorem dst_le (xs : List Str) : ∀ i, dst xs i ≤ i
  | 0 => Nat.le_refl _
  | i + 1 => by
    have := dst_le xs i
    unfold dst
    split <;> omega
theorem getD_at {xs : List Str} {i : Nat} (h : i < xs.length) : xs.getD i Str.empty = xs[i] := by
  rw [List.getD_eq_getElem?_getD, List.getElem?_eq_getElem h]
  rfl
theorem dst_nd {xs : List Str} : ∀ i, i ≤ xs.length → (dst xs i = i ↔ (xs.take i).Nodup)
  | 0, _ => by simp [dst]
  | i + 1, h => by
    have ih := dst_nd (xs := xs) i (by omega)
    have le := dst_le xs i
    have e : xs.take (i + 1) = xs.take i ++ [xs[i]] := by
      rw [List.take_add_one, List.getElem?_eq_getElem (show i < xs.length by omega)]
      rfl
    unfold dst
    rw [getD_at (show i < xs.length by omega), e, List.nodup_append]
    by_cases hm : xs[i] ∈ xs.take i
    · rw [if_pos (decide_eq_true hm)]
      constructor
      · intro z
        omega
      · intro z
        exact absurd rfl (z.2.2 _ hm _ (List.mem_singleton.mpr rfl))
    · rw [if_neg (by rw [decide_eq_false hm]; exact Bool.false_ne_true)]
      constructor
      · intro z
        refine ⟨ih.mp (by omega), by simp, fun a ha b hb => ?_⟩
        rw [List.mem_singleton.mp hb]
        exact fun q => hm (q ▸ ha)
      · intro z
        have := ih.mpr z.1
        omega
theorem dst_all (xs : List Str) : decide (dst xs xs.length = xs.length) = decide xs.Nodup := by
  have h := dst_nd (xs := xs) xs.length (Nat.le_refl _)
  rw [List.take_length] at h
  exact decide_eq_decide.mpr h
/-- the members behind i turns -/
def mem (xs : List Str) (i : Nat) : Str → Bool := fun k => decide (k ∈ xs.take i)
section
variable {prog : Program} {w : World} {A : Around} {R : Result → Shared → Prop} {I : Addr} {fp wr : List Addr} {G : Array GenState → Array GenState → Prop} {n : Nat} {P : Nat → Value → Prop} {St : Nat → Shared → Prop}
theorem setOf_same {S : Addr} {f : Str → Bool} {c : Nat} {h h' : Heap} (k : ∀ o, h.get? S = some o → h'.get? S = some o) (x : h.SetOf (PySem.strKind prog w) S f c) : h'.SetOf (PySem.strKind prog w) S f c := by
  obtain ⟨o, es, ep, tb, ho, r⟩ := x
  exact ⟨o, es, ep, tb, k o ho, r⟩
/-- the loop of set.update over m turns still to come -/
theorem upd_loop (W : WalksS prog w A.in1 I fp wr G n P St) (S : Addr) (nS : S ∉ fp) (xs : List Str) (len : xs.length = n) (few : n + 1 < scanBound) (val : ∀ i v, P i v → ∃ t, v = .str (xs.getD i Str.empty) t)
    (m : Nat) : ∀ (i : Nat) (s : Shared), i + m = n → St i s → s.heap.SetOf (PySem.strKind prog w) S (mem xs i) (dst xs i) →
      (∀ s', Moved (S :: wr) G s s' → s'.heap.SetOf (PySem.strKind prog w) S (mem xs n) (dst xs n) → R (.ok (.ret .none)) s') → codeAny (model prog w) A (.builtin "set.update.loop" ⟨[.ref S, .ref I], []⟩) R s := by
  have nW : S ∉ wr := fun z => nS (W.sub S z)
  have more : ∀ b, b ∈ wr → b ∈ S :: wr := fun b z => .tail _ z
  induction m with
  | zero =>
    intro i s e st hS fin
    obtain rfl : i = n := e
    refine codeAny_builtin F.entry_set_update_loop (by
      rw [Around.under_plainId F.plain_set_update_loop]
      exact wpAny_bind (W.done s _ _ st fun s2 mv => wpAny_pure (fin s2 (mv.mono more) (setOf_same (fun o q => mv.heap S o nW q) hS))))
  | succ m ih =>
    intro i s e st hS fin
    have lt : i < n := by omega
    refine codeAny_builtin F.entry_set_update_loop (by
      rw [Around.under_plainId F.plain_set_update_loop]
      refine wpAny_bind (W.item i s _ _ lt st fun v s2 pv st2 mv => ?_)
      obtain ⟨t, rfl⟩ := val i v pv
      have hS2 := setOf_same (fun o q => mv.heap S o nW q) hS
      have le := dst_le xs i
      refine wpAny_bind (wpAny_holding (wpAny_holding (wpAny_bind ((PySem.strKind prog w).pyHash (k := xs.getD i Str.empty) (strKind_is _ _ _ _) ?_))))
      refine wpAny_setAddHashed_of (knd := PySem.strKind prog w) (s := { s2 with toks := s2.toks + 1 }) (strKind_is _ _ _ _) rfl hS2 (by omega) fun h3 sb hS3 => ?_
      have nx : h3.SetOf (PySem.strKind prog w) S (mem xs (i + 1)) (dst xs (i + 1)) := by
        have lx : i < xs.length := by omega
        refine SetOf_congr hS3 (fun k => ?_) rfl
        have tk : xs.take (i + 1) = xs.take i ++ [xs[i]] := by
          rw [List.take_add_one, List.getElem?_eq_getElem lx]
          rfl
        unfold mem
        rw [getD_at lx, tk]
        rw [Bool.eq_iff_iff]
        simp only [Bool.or_eq_true, decide_eq_true_eq, List.mem_append, List.mem_singleton]
      refine wpAny_pure ⟨plainId_quiet F.plain_set_update_loop _, ih (i + 1) _ (by omega) (W.frame _ s2 _ _ st2 (Nat.le_succ _) fun b hb o q => ?_) nx fun s4 mv4 hS4 => fin s4 (Moved.trans W.gtrans ((mv.mono more).then_heap (Nat.le_succ _) fun b o nb q => ?_) mv4) hS4⟩
      · exact (sb.2 b (fun z => nS (z ▸ hb))).trans q
      · exact (sb.2 b (fun z => nb (z ▸ List.mem_cons_self))).trans q)
end
/-! ### the call -/
theorem off2 {a j l : Nat} (h1 : a < j) (h2 : l < a) : a ∉ [j, l] := by
  simp
  omega
theorem off2' {b a j : Nat} (h1 : b < a) (h2 : a < j) : b ∉ [a, j] := by
  simp
  omega
/-- what is asked of the row at l: of kind T, walked by an iterator that is laid next -/
structure Row (prog : Program) (w : World) (T : String) (l : Addr) (n : Nat) (Pv : Nat → Value → Prop) (hp : Heap) (St : Addr → Nat → Heap → Prop) : Prop where
  at_ : ∃ dd dt sl, hp.get? l = some { cls := .type T, dict := dd, data := dt, slots := sl }
  s1 : isSubtype (.type T) (.type "set") = pure false
  s2 : isSubtype (.type T) (.type "frozenset") = pure false
  nd : (Value.type T == Value.type "dict") = false
  iter : ∀ (A : Around) (E : Value → Shared → Prop) (Q : Value → Shared → Prop) (s : Shared), (∀ o, hp.get? l = some o → s.heap.get? l = some o) →
    (∀ o : Obj, St s.heap.objs.size 0 (s.heap.push o) → Q (.ref s.heap.objs.size) { s with heap := s.heap.push o }) → wpAny (model prog w) A (pyIter (.ref l)) Q E s
  walk : ∀ (A : Around) (J : Addr), A.handled = none → l ≠ J → Walks prog w A J [J, l] [J] n Pv (St J)
section
variable {prog : Program} {w : World} {A : Around} {E : Value → Shared → Prop} {s : Shared}
abbrev bare (led : Bool) : Obj := { cls := .type "set", dict := none, data := .set #[] 0 (.fresh 0 0 led) }
theorem set_init {T : String} {l : Addr} {n : Nat} {Pv : Nat → Value → Prop} {St : Addr → Nat → Heap → Prop} {xs : List Str} {led : Bool} {hp : Heap} {g : Array GenState} {d : Drawn} {tk : Nat} {os : OsState} (hh : A.handled = none) (r : Row prog w T l n Pv hp St)
    (len : xs.length = n) (few : n + 1 < scanBound) (val : ∀ i v, Pv i v → ∃ t, v = .str (xs.getD i Str.empty) t) :
    codeAny (model prog w) A (.call (.builtin "set.__init__") ⟨[.ref hp.objs.size, .ref l], []⟩)
      (wants (fun v s2 => v = .none ∧ ∃ h2 t2, s2 = ⟨h2, g, d, t2, os⟩ ∧ h2.SetOf (PySem.strKind prog w) hp.objs.size (mem xs n) (dst xs n) ∧ ∀ b o, hp.get? b = some o → h2.get? b = some o) E) ⟨hp.push (bare led), g, d, tk, os⟩ := by
  have oS : (hp.push (bare led)).get? hp.objs.size = some (bare led) := Heap.get?_push_size _ rfl
  have tS : Shared.TypeIs ⟨hp.push (bare led), g, d, tk, os⟩ (.ref hp.objs.size) "set" := ⟨_, oS, rfl⟩
  refine codeAny_call_builtin PySem.F.called_set.init.plain PySem.F.entry_set_init (check_set_init_1 tS ?_)
  obtain ⟨dd, dt, sl, ol⟩ := r.at_
  have ol2 : (hp.push (bare led)).get? l = some { cls := .type T, dict := dd, data := dt, slots := sl } := Heap.get?_push_of_some _ ol
  have q1 := r.s1
  have q2 := r.s2
  have q3 := r.nd
  unfold Builtin.«set.__init__» noKeywords Builtin.Frozenset.updateFrom
  generalize hI : pyIter = PI
  wp_walk
  subst hI
  have lt : l < hp.objs.size := Heap.lt_size ol
  refine r.iter _ _ _ _ (fun o q => Heap.get?_push_of_some _ q) fun o st => ?_
  have z1 : (hp.push (bare led)).objs.size = hp.objs.size + 1 := Heap.size_push ..
  have z2 : ∀ b u, hp.get? b = some u → ((hp.push (bare led)).push o).get? b = some u := fun b u q => Heap.get?_push_of_some _ (Heap.get?_push_of_some _ q)
  refine wpAny_bind (wpAny_runValue ?_)
  have W := (r.walk A.in1.in1 (hp.push (bare led)).objs.size (by simp [hh]) (by rw [z1]; exact Nat.ne_of_lt (Nat.lt_succ_of_lt lt))).toS
  refine upd_loop W hp.objs.size (off2 (by rw [z1]; exact Nat.lt_succ_self _) lt) xs len few val n 0 ⟨(hp.push (bare led)).push o, g, d, tk, os⟩ (by omega) st ?_ fun s3 mv hS => ?_
  · exact SetOf_congr ((setObjOf_fresh (knd := PySem.strKind prog w) led).setOf (Heap.get?_push_of_some _ oS) (by unfold scanBound; omega)) (fun k => by simp [mem]) rfl
  · obtain ⟨h3, g3, d3, t3, os3⟩ := s3
    obtain rfl : g3 = g := mv.gens
    obtain rfl : d3 = d := mv.drawn
    obtain rfl : os3 = os := mv.os
    refine wpAny_pure (wpAny_pure ⟨rfl, h3, t3, rfl, hS, fun b u q => mv.heap b u ?_ (z2 b u q)⟩)
    have lb : b < hp.objs.size := Heap.lt_size q
    exact off2' lb (by rw [z1]; exact Nat.lt_succ_self _)
/-- set(x) of such a row -/
theorem set_call {T : String} {l : Addr} {n : Nat} {Pv : Nat → Value → Prop} {St : Addr → Nat → Heap → Prop} {xs : List Str} {Q : Value → Shared → Prop} (hh : A.handled = none) (r : Row prog w T l n Pv s.heap St)
    (len : xs.length = n) (few : n + 1 < scanBound) (val : ∀ i v, Pv i v → ∃ t, v = .str (xs.getD i Str.empty) t)
    (q : ∀ h2 t2, h2.SetOf (PySem.strKind prog w) s.heap.objs.size (mem xs n) (dst xs n) → (∀ b o, s.heap.get? b = some o → h2.get? b = some o) → Q (.ref s.heap.objs.size) { s with heap := h2, toks := t2 }) :
    wpAny (model prog w) A (call (.type "set") [.ref l]) Q E s := by
  obtain ⟨hp, g, d, tk, os⟩ := s
  obtain ⟨c, tl, m1⟩ := PySem.F.called_set.mro
  have m2 := PySem.F.called_set.made
  have m3 := PySem.F.called_set.sub
  have m4 := PySem.F.called_set.notType
  have m5 := PySem.F.called_set.canCreate
  have m6 := PySem.F.typeCall_set_1 (.ref l)
  refine wpAny_call (codeAny_of_tree (wpAny_pure ⟨Code.quiet_builtin _ (by decide +kernel), codeAny_builtin PySem.F.entry_type_call ?_⟩))
  rw [Around.under_plain (weight_type_call_type "set" [.ref l] []) rfl]
  repeat (any_goals (first | assumption | wp_step))
  refine codeAny_mono (code_set_new_1 (.ref l) (E := E) (Q₁ := fun v s2 => ∃ led : Bool, v = .ref hp.objs.size ∧ s2 = ⟨hp.push (bare led), g, d, tk, os⟩) fun led => ⟨led, rfl, rfl⟩) fun a s2 h2 => ?_
  match a, h2 with
  | .error e, h2 => exact h2
  | .ok .next, h2 => exact h2.elim
  | .ok .brk, h2 => exact h2.elim
  | .ok .cont, h2 => exact h2.elim
  | .ok (.ret v), h2 =>
    obtain ⟨led, rfl, rfl⟩ := h2
    have m7 := PySem.F.called_set.init.lookup
    have m8 := PySem.F.called_set.init.bind (.ref hp.objs.size)
    have oS : (hp.push (bare led)).get? hp.objs.size = some (bare led) := Heap.get?_push_size _ rfl
    have tS : Shared.TypeIs ⟨hp.push (bare led), g, d, tk, os⟩ (.ref hp.objs.size) "set" := ⟨_, oS, rfl⟩
    repeat (any_goals (first | assumption | wp_step))
    refine codeAny_mono (set_init (E := E) ?_ r len few val) fun b s3 h3 => ?_
    · simp [hh]
    · match b, h3 with
      | .error e, h3 => exact h3
      | .ok .next, h3 => exact h3.elim
      | .ok .brk, h3 => exact h3.elim
      | .ok .cont, h3 => exact h3.elim
      | .ok (.ret v), h3 =>
        obtain ⟨rfl, h4, t4, rfl, hS, keep⟩ := h3
        repeat (any_goals (first | assumption | wp_step))
        exact q h4 t4 hS keep
theorem row_list {prog : Program} {w : World} {hp : Heap} {l : Addr} {items : Array Value} (h : hp.IsList l items) : Row prog w "list" l items.size (fun i v => items[i]? = some v) hp (fun J i h => h.IsListIter J l i ∧ h.IsList l items) := by
  obtain ⟨o, ho, hc, k, hd⟩ := id h
  refine ⟨?_, PySem.F.sub_list_set, PySem.F.sub_list_frozenset, by decide, fun A E Q s keep q => ?_, fun A J hh ne => Walks.list hh J l ne items⟩
  · obtain ⟨c, dd, dt, sl⟩ := o
    obtain rfl : c = Value.type "list" := hc
    exact ⟨dd, dt, sl, ho⟩
  · have h2 : s.heap.IsList l items := ⟨o, keep o ho, hc, k, hd⟩
    exact wpAny_pyIter_list h2 (q _ ⟨⟨_, Heap.get?_push_size _ rfl, rfl, rfl⟩, h2.push _⟩)
theorem row_tuple {prog : Program} {w : World} {hp : Heap} {l : Addr} {items : Array Value} (h : hp.IsTuple l items) : Row prog w "tuple" l items.size (fun i v => items[i]? = some v) hp (fun J i h => h.IsTupleIter J l i ∧ h.IsTuple l items) := by
  obtain ⟨o, ho, hc, k, hd⟩ := id h
  refine ⟨?_, PySem.F.sub_tuple_set, PySem.F.sub_tuple_frozenset, by decide, fun A E Q s keep q => ?_, fun A J hh ne => Walks.tuple hh J l ne items⟩
  · obtain ⟨c, dd, dt, sl⟩ := o
    obtain rfl : c = Value.type "tuple" := hc
    exact ⟨dd, dt, sl, ho⟩
  · have h2 : s.heap.IsTuple l items := ⟨o, keep o ho, hc, k, hd⟩
    exact wpAny_pyIter_tuple h2 (q _ ⟨⟨_, Heap.get?_push_size _ rfl, rfl, rfl⟩, h2.push _⟩)
end
end Gs
namespace L2
open PySem PySem.Spec PyProof.Rows
/-- len(set(xs)), xs a list or a tuple of texts -/
def tLenSetA (K : PySem.W.Frag) (ta : TE) : TE := fun σ H Q => ta σ H fun x H1 => ∃ (l : Addr) (xs : List Str), x = .ref l ∧ (SqL K H1 l (xs.map V.str) ∨ SqT K H1 l (xs.map V.str)) ∧ xs.length ≤ 1000 ∧ Q (.int (Gs.dst xs xs.length)) H1
theorem pe_lenSetA {X : Cx} {a : Expr} {ta : TE} {p p2 q pos : Pos} (hc : X.calm = true) (hg : Gl X "len") (hm : X.mg "len" = none) (hg2 : Gl X "set") (hm2 : X.mg "set" = none) (ha : PE X a ta)
    (na : starEach [a] X.env = (false, eval a X.env) :: starEach [] X.env := by rfl) : PE X (.Call (.Name "len" p) [.Call (.Name "set" p2) [a] [] q] [] pos) (tLenSetA X.K ta) := by
  refine ⟨fun pins s σ H Q I h => ?_⟩
  refine Call_ (ld_blt I hg hm boot_len (PyProof.Rows.callWith_builtin1 (PyProof.Rows.args_cons ?_ rfl) rfl rfl))
  refine Call_ (ld_blt I hg2 hm2 boot_set (PyProof.Rows.callWith_type1 (PyProof.Rows.args_cons (thn (ha.run pins s σ H _ I h) fun v s1 hv => PyProof.Rows.args_nil ?_) na) na rfl))
  obtain ⟨x, H1, I1, r1, l, xs, rfl, hq, h1, q1⟩ := hv
  cases r1
  have sb : (1001 : Nat) < scanBound := by unfold scanBound; decide
  have back : ∀ (h2 : Heap) (t2 : Nat), h2.SetOf (PySem.strKind X.prog X.w) s1.heap.objs.size (Gs.mem xs xs.length) (Gs.dst xs xs.length) → (∀ b o, s1.heap.get? b = some o → h2.get? b = some o) →
      wpAny (model X.prog X.w) X.A (spliced (backTo pos (starEach [] X.env))) (fun vs s2 => wpAny (model X.prog X.w) X.A (call (.builtin "len") (Value.ref s1.heap.objs.size :: vs)) (EP X pins σ Q) X.xe s2) X.xe { s1 with heap := h2, toks := t2 } := fun h2 t2 hS keep => by
    refine PyProof.Rows.args_nil ?_
    have le := Gs.dst_le xs xs.length
    obtain ⟨o, es, ep, t, ho, hex, hd, _, _, _, hf, hn⟩ := hS
    have I2 : Inv X pins σ H1 { s1 with heap := h2, toks := t2 } := I1.kept keep
    refine call_len_set ho hex hd hf (by rw [hn]; omega) ⟨.int (Gs.dst xs xs.length), H1, I2.tok _, ⟨_, by rw [hn]⟩, q1⟩
  have at_ : ∀ {its : List Value}, Vals (xs.map V.str) its → ∀ (i : Nat) (v : Value), its.toArray[i]? = some v → ∃ t, v = .str (xs.getD i Str.empty) t := fun {its} r i v hv => by
    have hv2 : its[i]? = some v := by simpa using hv
    have lx : i < xs.length := by
      obtain ⟨h3, _⟩ := List.getElem?_eq_some_iff.mp hv2
      have := r.length
      rw [List.length_map] at this
      omega
    obtain ⟨u, hu, ru⟩ := r.get (i := i) (x := .str xs[i]) (by rw [List.getElem?_map, List.getElem?_eq_getElem lx]; rfl)
    rw [hv2] at hu
    obtain rfl := Option.some.inj hu
    rw [Gs.getD_at lx]
    exact ru
  rcases hq with hq | hq
  · obtain ⟨its, r, pl, hz⟩ := I1.list hq
    have hl : xs.length = its.toArray.size := by rw [List.size_toArray, ← r.length, List.length_map]
    refine Gs.set_call (I1.ok.hd hc) (Gs.row_list pl.isList) hl (by omega) (at_ r) fun h2 t2 hS keep => back h2 t2 (by rw [hl]; exact hS) keep
  · obtain ⟨its, r, pl, hz⟩ := I1.tuple hq
    have hl : xs.length = its.toArray.size := by rw [List.size_toArray, ← r.length, List.length_map]
    refine Gs.set_call (I1.ok.hd hc) (Gs.row_tuple pl) hl (by omega) (at_ r) fun h2 t2 hS keep => back h2 t2 (by rw [hl]; exact hS) keep
end L2

set_option Elab.async false
set_option linter.all false
set_option maxRecDepth 100000
set_option maxHeartbeats 4000000
namespace L2
open PySem PySem.Spec PyProof.Rows
section
variable {X : Cx}
/-- {x!r} of None, a text, an int -/
def tFmtA (te : TE) : TE := fun σ H Q => te σ H fun x H1 => (x = .non ∧ Q (.str "None") H1) ∨ (∃ y : Str, x = .str y ∧ (reprText y).length ≤ sizeLine ∧ Q (.str (reprText y)) H1) ∨ ∃ i : Int, x = .int i ∧ i.natAbs.log2 < 1920 ∧ Q (.str (toString i)) H1
theorem pe_fmtA {e : Expr} {te : TE} {pos : Pos} (he : PE X e te) : PE X (.FormattedValue e 114 none pos) (tFmtA te) := by
  refine ⟨fun pins s σ H Q I h => wpAny_FormattedValue_repr (thn (he.run pins s σ H _ I h) fun v s1 hv => ?_)⟩
  obtain ⟨x, H1, I1, r1, q⟩ := hv
  have sn : (Str.ofString "None").length ≤ sizeLine := by decide +kernel
  rcases q with ⟨rfl, q⟩ | ⟨y, rfl, hz, q⟩ | ⟨i, rfl, hz, q⟩
  · cases r1
    exact pyReprObj_none (wpAny_formatField_str ⟨.str "None", H1, I1.tok _, ⟨_, rfl⟩, q⟩ ⟨.str "None", H1, I1.tok _, ⟨_, rfl⟩, q⟩ sn)
  · obtain ⟨t, rfl⟩ := r1
    exact pyReprObj_str (wpAny_formatField_str ⟨.str (reprText y), H1, I1.tok _, ⟨_, rfl⟩, q⟩ ⟨.str (reprText y), H1, I1.tok _, ⟨_, rfl⟩, q⟩ hz) hz
  · obtain ⟨t, rfl⟩ := r1
    exact pyReprObj_int hz (wpAny_formatField_str ⟨.str (toString i), H1, I1.tok _, ⟨_, rfl⟩, q⟩ ⟨.str (toString i), H1, I1.tok _, ⟨_, rfl⟩, q⟩ (int_text_fits hz))
end
/-- an exception class of the text whose __init__ is ValueError's, read off by its name -/
structure CIn (K : PySem.W.Frag) (mg : Str → Option Value) (n : Str) (CB : Addr) : Prop where
  g : mg n = some (.ref CB)
  ga : PySem.W.specialIn K (.ref CB) "__getattribute__" = some (some (.builtin "type.__getattribute__"))
  rd : PySem.W.readsIn K CB (.type "type") = true
  fi : PySem.W.findCls K (.ref CB) (.type "type") "__init__" = some (.val (.builtin "ValueError.__init__"))
section
variable {X : Cx} {e : Expr} {es : List Expr} {ta : TA} {p1 p2 pos : Pos} {n : Str} {CB : Addr}
theorem pe_cinit {pl : Sem Bool} (T : CIn X.K X.mg n CB) (hg : Gl X n) (ha : PA X (e :: es) ta)
    (hc : eval (.Call (.Attribute (.Name n p1) "__init__" p2) (e :: es) [] pos) X.env = (do
      let ov ← eval (.Name n p1) X.env
      standAt p2.atName
      let (f, first) ← holding [ov] (getMethod ov "__init__" pl)
      callWith pos f first (backTo pos (starEach (e :: es) X.env)) (backToKw pos (keywordEach [] X.env))) := by rfl)
    (hdb : (n == ("__debug__" : Str)) = false := by decide) (he : starEach (e :: es) X.env = (false, eval e X.env) :: starEach es X.env := by rfl) (hpl : (backTo pos (starEach es X.env)).any (·.1) = false := by rfl) :
    PE X (.Call (.Attribute (.Name n p1) "__init__" p2) (e :: es) [] pos) (tVeI X.K ta) := by
  refine ⟨fun pins s σ H Q I h => ?_⟩
  refine PySem.W.methodCall_KW (ld_glob I hg T.g ?_ hdb) hc
  refine PySem.W.method_cls I.kIn T.ga (PySem.W.cls_value I.kIn T.rd T.fi (by decide +kernel) ?_)
  show wpAny _ _ (callWith pos (Value.builtin "ValueError.__init__") [] (backTo pos (starEach (e :: es) X.env)) []) _ _ _
  refine PyProof.Rows.callWith_method1 (thn (ha.run pos pins _ σ H _ (I.tok _) h) fun us s1 hu => ?_) he hpl
  obtain ⟨vs, H1, I1, r1, a, C, ws, rfl, hl, oc, ea, q⟩ := hu
  match us, r1 with
  | _ :: ur, .cons ra rw' =>
    obtain rfl := ra
    exact oinit_ok oc I1 ea (by rw [← Paired.length rw', sizeLine_eq]; omega) fun s2 J => ⟨.non, H1, J, rfl, q⟩
end
/-- an exception class over ClockError with an own __init__ that keeps one field -/
structure IniT (K : PySem.W.Frag) (mg : Str → Option Value) (n fld : Str) (st : Stmt) (C fI : Addr) (fd : FuncData) : Prop where
  g : mg n = some (.ref C)
  o : OexC K C
  i : PySem.W.findIn K (.ref C) "__init__" = some (some (.ref fI))
  ti : PySem.W.typeIn K (.ref fI) = some (.type "function")
  te : PySem.W.exmOne K (.ref C) (.ref C) = some true
  no : PySem.W.findIn K (.ref C) fld = some none
  F : Fun K "__init__" (n ++ ".__init__") st fI fd
  bi : Binds K fd ["self", fld] []
/-- an exception class over ClockError without more -/
structure OwnT (K : PySem.W.Frag) (mg : Str → Option Value) (n : Str) (C : Addr) : Prop where
  g : mg n = some (.ref C)
  x : PySem.W.excIn K C [.type "ValueError", .type "Exception", .type "BaseException", .type "object"] "ValueError.__new__" = true
  k : PySem.W.keepIn K (.ref C) = true
  b : PySem.W.subIn K (.ref C) (.type "BaseException") = some true
  t : PySem.W.typeIn K (.ref C) = some (.type "type")
  te : PySem.W.exmOne K (.ref C) (.ref C) = some true
def spIni (C : Addr) (fld : Str) : Sp := fun vs H Q _ => ∃ (a : Addr) (v : V), vs = [.ref a, v] ∧ H a = some (exo a C none) ∧ (v = .non ∨ ∃ i : Int, v = .int i ∧ 0 ≤ i ∧ i < 10 ^ 9) ∧
  ∀ dx, H dx = none → dx ≠ a → Q .non (upd (upd H dx (exd dx [(fld, v)])) a (exo a C (some dx)))
/-- what the making of such an exception asks, from what is wished of it -/
theorem ini_mk {C : Addr} {fld : Str} {v : V} {σ : St} {H : Hp} {Q : XK} {ta : TE} (hv : v = .non ∨ ∃ i : Int, v = .int i ∧ 0 ≤ i ∧ i < 10 ^ 9) (ht : ∀ q : VK, q v H → ta σ H q)
    (q : ∀ d H', H d = none → Same H H' → H' d = some (.xd [(fld, v)]) → Q (.ref C) (some d) H') : tMkO C (spIni C fld) [] (tCons ta tNil) σ H Q := by
  refine ht _ ⟨by show 1 ≤ 1000; decide, fun a ha => ⟨a, v, rfl, upd_same, hv, fun dx hd ne => ⟨rfl, dx, [(fld, v)], upd_same, ?_, ?_, ?_⟩⟩⟩
  · rw [upd_ne ne, upd_same]
  · rw [upd_ne ne] at hd
    exact hd
  · have hd' : H dx = none := by
      rw [upd_ne ne] at hd
      exact hd
    refine q dx _ hd' (fun b o e => ?_) upd_same
    have nb : b ≠ dx := ne_of_none e hd'
    have na : b ≠ a := ne_of_none e ha
    rw [upd_ne nb, del_ne na, upd_ne na, upd_ne nb, upd_ne na]
    exact e

/-! ### what is a name, what are names -/
theorem TyOf.same {K : PySem.W.Frag} {H H' : Hp} {x : V} {t : Value} (s : Same H H') (h : TyOf K H x t) : TyOf K H' x t := by
  cases h with
  | non => exact .non
  | bl b => exact .bl b
  | int i => exact .int i
  | str z => exact .str z
  | flt z => exact .flt z
  | lst e => exact .lst (s _ _ e)
  | frz e => exact .frz (s _ _ e)
  | tup e => exact .tup (s _ _ e)
  | dK e => exact .dK (s _ _ e)
  | dT e => exact .dT (s _ _ e)
  | ins e cl ha hn htk hm => exact .ins (s _ _ e) cl ha hn htk hm
theorem TyX.same {K : PySem.W.Frag} {H H' : Hp} {x : V} {t : Value} (s : Same H H') (h : TyX K H x t) : TyX K H' x t := by
  cases h with
  | base b => exact .base (b.same s)
  | byt b => exact .byt b
  | set e => exact .set (s _ _ e)
  | kList e c => exact .kList e c
  | kTuple e c => exact .kTuple e c
  | kDict e c => exact .kDict e c
  | fTuple e => exact .fTuple (s _ _ e)
  | fDict e => exact .fDict (s _ _ e)
/-- x is a name or is none, as b says -/
def NmV (K : PySem.W.Frag) (H : Hp) (x : V) (b : Bool) : Prop :=
  (∃ z : Str, x = .str z ∧ z.length ≤ 100000 ∧ b = isW z) ∨ (b = false ∧ ∃ t, TyX K H x t ∧ PySem.W.kitOne K t (.type "str") = some false)
theorem NmV.same {K : PySem.W.Frag} {H H' : Hp} {x : V} {b : Bool} (s : Same H H') (h : NmV K H x b) : NmV K H' x b := by
  rcases h with h | ⟨e, t, ht, hk⟩
  · exact .inl h
  · exact .inr ⟨e, t, ht.same s, hk⟩
theorem NmV.yes {K : PySem.W.Frag} {H : Hp} {x : V} (h : NmV K H x true) : ∃ z : Str, x = .str z ∧ isW z = true := by
  rcases h with ⟨z, e, _, hw⟩ | ⟨e, _⟩
  · exact ⟨z, e, hw.symm⟩
  · cases e
theorem NmV.of {K : PySem.W.Frag} {H : Hp} {z : Str} (h : z.length ≤ 100000) : NmV K H (.str z) (isW z) := .inl ⟨z, rfl, h, rfl⟩
def spIsName (K : PySem.W.Frag) : Sp := fun vs H Q _ => ∃ (x : V) (b : Bool), vs = [x] ∧ NmV K H x b ∧ ∀ H', Same H H' → Q (.bl b) H'
/-- x is a row of names or is none, as b says -/
def NmsV (K : PySem.W.Frag) (H : Hp) (x : V) (b : Bool) : Prop :=
  (∃ (a : Addr) (xs : List V) (bs : List Bool), x = .ref a ∧ SqT K H a xs ∧ TyX K H x (.type "tuple") ∧ Paired (NmV K H) xs bs ∧ b = (decide (xs.length ≤ 16) && (bs.all id && decide xs.Nodup))) ∨
    (b = false ∧ ∃ t, TyX K H x t ∧ PySem.W.kitOne K t (.type "tuple") = some false)
def spIsNames (K : PySem.W.Frag) : Sp := fun vs H Q _ => ∃ (x : V) (b : Bool), vs = [x] ∧ NmsV K H x b ∧ ∀ H', Same H H' → Q (.bl b) H'
theorem nms_strs {K : PySem.W.Frag} {H : Hp} : ∀ {xs : List V} {bs : List Bool}, Paired (NmV K H) xs bs → bs.all id = true → ∃ ss : List Str, xs = ss.map V.str ∧ ∀ s ∈ ss, isW s = true
  | _, _, .nil, _ => ⟨[], rfl, by simp⟩
  | _, _, .cons (b := b) h t, e => by
    rw [List.all_cons, Bool.and_eq_true] at e
    obtain ⟨e1, e2⟩ := e
    have e1 : b = true := e1
    subst e1
    obtain ⟨z, rfl, hz⟩ := h.yes
    obtain ⟨ss, rfl, hs⟩ := nms_strs t e2
    refine ⟨z :: ss, rfl, fun s hm => ?_⟩
    rcases List.mem_cons.mp hm with rfl | hm
    · exact hz
    · exact hs s hm
theorem nd_strs (ss : List Str) : (ss.map V.str).Nodup ↔ ss.Nodup := by
  rw [List.nodup_iff_pairwise_ne, List.nodup_iff_pairwise_ne, List.pairwise_map]
  constructor
  · intro h
    exact h.imp fun {a b} n e => n (congrArg V.str e)
  · intro h
    exact h.imp fun {a b} n e => n (V.str.inj e)
/-- rows of texts -/
def okNames (ss : List Str) : Bool := decide (ss.length ≤ 16) && ((ss.map isW).all id && decide ss.Nodup)
theorem pair_strs {K : PySem.W.Frag} {H : Hp} : ∀ {ss : List Str}, (∀ s ∈ ss, s.length ≤ 100000) → Paired (NmV K H) (ss.map V.str) (ss.map isW)
  | [], _ => .nil
  | s :: r, h => .cons (.of (h s (List.mem_cons_self ..))) (pair_strs fun x hx => h x (List.mem_cons_of_mem _ hx))
theorem NmsV.strs {K : PySem.W.Frag} {H : Hp} {a : Addr} {ss : List Str} (h : H a = some (.tup (ss.map V.str))) (hl : ∀ s ∈ ss, s.length ≤ 100000) : NmsV K H (.ref a) (okNames ss) := by
  refine .inl ⟨a, _, ss.map isW, rfl, .inl (.inl h), .base (.tup h), pair_strs hl, ?_⟩
  unfold okNames
  rw [List.length_map, decide_eq_decide.mpr (nd_strs ss)]
theorem okNames_mk {ss : List Str} (h1 : ss.length ≤ 16) (h2 : ∀ s ∈ ss, isW s = true) (h3 : ss.Nodup) : okNames ss = true := by
  unfold okNames
  simp only [Bool.and_eq_true, decide_eq_true_eq, List.all_map, List.all_eq_true]
  exact ⟨h1, h2, h3⟩
theorem okNames_of {ss : List Str} (h : okNames ss = true) : ss.length ≤ 16 ∧ (∀ s ∈ ss, isW s = true) ∧ ss.Nodup := by
  unfold okNames at h
  simp only [Bool.and_eq_true, decide_eq_true_eq, List.all_map, List.all_eq_true] at h
  exact h
theorem lt_abc {a c : Nat} : decide (([a] : List Nat) < [c]) = decide (a < c) := by
  by_cases h : a < c
  · rw [decide_eq_true h]
    exact decide_eq_true (List.Lex.rel h)
  · rw [decide_eq_false h]
    refine decide_eq_false fun z => ?_
    cases z with
    | rel q => exact h q
    | cons q => cases q
theorem sum_names : ∀ (ss : List Str), ss.length ≤ 16 → (∀ s ∈ ss, isW s = true) → (ss.map (·.length)).sum + ss.length * (Str.ofString " ").length ≤ 16777216 := by
  have key : ∀ ss : List Str, (∀ s ∈ ss, isW s = true) → (ss.map (·.length)).sum ≤ ss.length * 8 := by
    intro ss
    induction ss with
    | nil => intro _; exact Nat.le_refl _
    | cons s r ih =>
      intro h
      have h1 := (isW_len (h s (List.mem_cons_self ..))).2
      have h2 := ih fun x hx => h x (List.mem_cons_of_mem _ hx)
      rw [List.map_cons, List.sum_cons, List.length_cons]
      omega
  intro ss hl hw
  have e : (Str.ofString " ").length = 1 := by decide +kernel
  have := key ss hw
  rw [e]
  omega
theorem spl_part_len (S : List Nat) : ∀ (l : List Nat) (k : Nat) (acc p : List Nat), p ∈ TL.spl S k acc l → p.length ≤ acc.length + l.length
  | [], k, acc, p, h => by
    rw [TL.spl_nil] at h
    rw [List.mem_singleton.mp h]
    exact Nat.le_add_right _ _
  | c :: r, k + 1, acc, p, h => by
    have h2 : p ∈ TL.spl S k acc r := h
    have := spl_part_len S r k acc p h2
    rw [List.length_cons]
    omega
  | c :: r, 0, acc, p, h => by
    rw [List.length_cons]
    cases hp : TL.pre S (c :: r) with
    | true =>
      rw [TL.spl_hit hp] at h
      rcases List.mem_cons.mp h with rfl | h
      · omega
      · have := spl_part_len S r _ [] p h
        rw [List.length_nil] at this
        omega
    | false =>
      rw [TL.spl_miss hp] at h
      have := spl_part_len S r 0 (acc ++ [c]) p h
      rw [List.length_append] at this
      have e : [c].length = 1 := rfl
      omega
/-- two ways that meet -/
theorem meetR {c : Prop} [Decidable c] {A B : VK → Prop} {Q : VK} (P : V → Hp → Prop) (h1 : c → ∀ Q : VK, (∀ v H, P v H → Q v H) → A Q) (h2 : ¬ c → ∀ Q : VK, (∀ v H, P v H → Q v H) → B Q) (q : ∀ v H, P v H → Q v H) : if c then A Q else B Q := by
  by_cases h : c
  · rw [if_pos h]
    exact h1 h Q q
  · rw [if_neg h]
    exact h2 h Q q
end L2

set_option Elab.async false
set_option linter.all false
set_option maxRecDepth 100000
set_option maxHeartbeats 4000000
namespace L2
open PySem PySem.Spec PyProof.Rows
/-! ### texts of names -/
abbrev dash : Str := "-"
abbrev jn (ss : List Str) : Str := Txt.join " " ss
def wr (ss : List Str) : Str := if ss = [] then "-" else jn ss
def rd (z : Str) : List Str := if z = "-" then [] else Txt.split z " "
theorem tl_sp : TL.tl " " = [32] := by decide +kernel
theorem tl_dash : TL.tl "-" = [45] := by decide +kernel
def NoSp (ss : List Str) : Prop := ∀ s ∈ ss, 32 ∉ TL.tl s
theorem NoSp.of {ss : List Str} (h : ∀ s ∈ ss, isW s = true) : NoSp ss := fun s hs hm => by
  have := isW_let (h s hs) 32 hm
  omega
theorem NoSp.app {ss ts : List Str} (a : NoSp ss) (b : NoSp ts) : NoSp (ss ++ ts) := fun s hs => (List.mem_append.mp hs).elim (a s) (b s)
theorem split_jn {ss : List Str} (h : ss ≠ []) (n : NoSp ss) : Txt.split (jn ss) " " = ss := TL.split_join tl_sp (by decide +kernel) h n
theorem rd_jn {ss : List Str} (h : ss ≠ []) (n : NoSp ss) : rd (jn ss) = if ss = [dash] then [] else ss := by
  by_cases e : ss = [dash]
  · subst e
    rw [if_pos rfl]
    unfold rd
    exact if_pos rfl
  · rw [if_neg e]
    unfold rd
    rw [if_neg, split_jn h n]
    intro z
    have h1 := split_jn h n
    rw [z] at h1
    have h2 : Txt.split "-" " " = [dash] := split_jn (ss := [dash]) (by simp) (by
      intro s hs
      rw [List.mem_singleton.mp hs, tl_dash]
      decide)
    exact e (h1.symm.trans h2)
theorem isW_dash : isW "-" = false := by decide +kernel
theorem ne_dash {ss : List Str} (h : ∀ s ∈ ss, isW s = true) : ss ≠ [dash] := fun e => by
  have := h dash (by rw [e]; exact List.mem_singleton.mpr rfl)
  rw [isW_dash] at this
  cases this
theorem rd_wr {ss : List Str} (h : ∀ s ∈ ss, isW s = true) : rd (wr ss) = ss := by
  unfold wr
  by_cases e : ss = []
  · subst e
    rw [if_pos rfl]
    exact if_pos rfl
  · rw [if_neg e, rd_jn e (.of h), if_neg (ne_dash h)]
theorem joinL_app (S : List Nat) : ∀ xs ys : List (List Nat), xs ≠ [] → ys ≠ [] → TL.joinL S (xs ++ ys) = TL.joinL S xs ++ (S ++ TL.joinL S ys)
  | [], _, h, _ => absurd rfl h
  | [x], [], _, h => absurd rfl h
  | [x], y :: r, _, _ => rfl
  | x :: z :: r, ys, _, h => by
    have ih := joinL_app S (z :: r) ys (by simp) h
    show x ++ (S ++ TL.joinL S ((z :: r) ++ ys)) = (x ++ (S ++ TL.joinL S (z :: r))) ++ (S ++ TL.joinL S ys)
    rw [ih]
    simp [List.append_assoc]
theorem jn_app {xs ys : List Str} (hx : xs ≠ []) (hy : ys ≠ []) : jn (xs ++ ys) = jn xs ++ " " ++ jn ys := by
  refine TL.ext_tl ?_
  rw [TL.tl_append, TL.tl_append]
  unfold jn
  rw [TL.join_eq, TL.join_eq, TL.join_eq, TL.tl_join, TL.tl_join, TL.tl_join, List.map_append, joinL_app _ _ _ (by simpa using hx) (by simpa using hy), List.append_assoc]
theorem wr_jn {ss : List Str} (h : ss ≠ []) : wr ss = jn ss := if_neg h
theorem jn_len : ∀ (ss : List Str), (∀ s ∈ ss, s.length ≤ 8) → (jn ss).length ≤ ss.length * 9
  | [], _ => Nat.zero_le _
  | [s], h => by
    have := h s (List.mem_cons_self ..)
    have e : jn [s] = s := TL.ext_tl (by
      unfold jn
      rw [TL.join_eq, TL.tl_join]
      rfl)
    rw [e]
    show s.length ≤ 1 * 9
    omega
  | s :: t :: r, h => by
    have h1 := h s (List.mem_cons_self ..)
    have ih := jn_len (t :: r) fun x hx => h x (List.mem_cons_of_mem _ hx)
    have e := jn_app (xs := [s]) (ys := t :: r) (by simp) (by simp)
    have e1 : jn [s] = s := TL.ext_tl (by
      unfold jn
      rw [TL.join_eq, TL.tl_join]
      rfl)
    have e2 : s :: t :: r = [s] ++ (t :: r) := rfl
    have e3 : (Str.ofString " ").length = 1 := by decide +kernel
    rw [e2, e, e1, Str.length_append, Str.length_append, e3]
    rw [List.length_append]
    have e4 : [s].length = 1 := rfl
    omega
theorem wr_len {ss : List Str} (h : ∀ s ∈ ss, isW s = true) (l : ss.length ≤ 16) : (wr ss).length ≤ 200 := by
  unfold wr
  split
  · decide +kernel
  · have := jn_len ss fun s hs => (isW_len (h s hs)).2
    omega
theorem okNames_perm {ss ts : List Str} (p : ss.Perm ts) (h : okNames ss = true) : okNames ts = true := by
  obtain ⟨h1, h2, h3⟩ := okNames_of h
  exact okNames_mk (by rw [← p.length_eq]; exact h1) (fun s hs => h2 s (p.mem_iff.mpr hs)) (p.nodup_iff.mp h3)
/-- two rows behind one another -/
theorem okNames_app {xs ys : List Str} (hx : okNames xs = true) (hy : okNames ys = true) : okNames (xs ++ ys) = (decide (xs.filter (fun s => decide (s ∈ ys)) = []) && decide ((xs ++ ys).length < 17)) := by
  obtain ⟨a1, a2, a3⟩ := okNames_of hx
  obtain ⟨b1, b2, b3⟩ := okNames_of hy
  have hd : xs.filter (fun s => decide (s ∈ ys)) = [] ↔ (xs ++ ys).Nodup := by
    rw [List.nodup_append]
    constructor
    · intro h
      refine ⟨a3, b3, fun a ha b hb e => ?_⟩
      have := List.filter_eq_nil_iff.mp h a ha
      exact this (decide_eq_true (e ▸ hb))
    · intro h
      refine List.filter_eq_nil_iff.mpr fun a ha e => ?_
      exact h.2.2 a ha a (of_decide_eq_true e) rfl
  rw [Bool.eq_iff_iff]
  constructor
  · intro h
    obtain ⟨h1, _, h3⟩ := okNames_of h
    rw [Bool.and_eq_true]
    exact ⟨decide_eq_true (hd.mpr h3), decide_eq_true (by omega)⟩
  · intro h
    rw [Bool.and_eq_true] at h
    have h1 := of_decide_eq_true h.1
    have h2 := of_decide_eq_true h.2
    refine okNames_mk (by omega) (fun s hs => (List.mem_append.mp hs).elim (a2 s) (b2 s)) (hd.mp h1)
theorem okNames_dash1 {ss : List Str} : okNames (dash :: ss) = false := by
  cases e : okNames (dash :: ss) with
  | false => rfl
  | true =>
    have := (okNames_of e).2.1 dash (List.mem_cons_self ..)
    rw [isW_dash] at this
    cases this
theorem okNames_dash2 {ss : List Str} : okNames (ss ++ [dash]) = false := by
  cases e : okNames (ss ++ [dash]) with
  | false => rfl
  | true =>
    have := (okNames_of e).2.1 dash (List.mem_append_right _ (List.mem_singleton.mpr rfl))
    rw [isW_dash] at this
    cases this
theorem NmsV.strsB {K : PySem.W.Frag} {H : Hp} {a : Addr} {ss : List Str} (h : SqT K H a (ss.map V.str)) (t : TyX K H (.ref a) (.type "tuple")) (hl : ∀ s ∈ ss, s.length ≤ 100000) : NmsV K H (.ref a) (okNames ss) := by
  refine .inl ⟨a, _, ss.map isW, rfl, h, t, pair_strs hl, ?_⟩
  unfold okNames
  rw [List.length_map, decide_eq_decide.mpr (nd_strs ss)]
theorem NmsV.strsT {K : PySem.W.Frag} {H : Hp} {a : Addr} {ss : List Str} (h : SqT K H a (ss.map V.str)) (t : TyX K H (.ref a) (.type "tuple")) (ok : okNames ss = true) : NmsV K H (.ref a) true := by
  have z := NmsV.strsB h t fun s hs => Nat.le_trans (isW_len ((okNames_of ok).2.1 s hs)).2 (by decide)
  rw [ok] at z
  exact z
theorem cut_from {α : Type} (f : α → V) (ws : List α) (j : Nat) : cutV (ws.map f) (some (j : Int)) none = (ws.drop j).map f := by
  unfold cutV
  rw [HT.sIx_nat, HT.sIx_none, List.length_map, ← List.map_drop, ← List.map_take]
  congr 1
  by_cases h : j ≤ ws.length
  · rw [Nat.min_eq_left h]
    exact List.take_of_length_le (by rw [List.length_drop]; exact Nat.le_refl _)
  · rw [Nat.min_eq_right (by omega), Nat.sub_self, List.take_zero, List.drop_of_length_le (by omega)]
theorem cut_to {α : Type} (f : α → V) (ws : List α) (j : Nat) : cutV (ws.map f) none (some (j : Int)) = (ws.take j).map f := by
  unfold cutV
  rw [HT.sIx_nat, HT.sIx_none, List.length_map, List.drop_zero, Nat.sub_zero, ← List.map_take]
  congr 1
  by_cases h : j ≤ ws.length
  · rw [Nat.min_eq_left h]
  · rw [Nat.min_eq_right (by omega), List.take_of_length_le (Nat.le_refl _), List.take_of_length_le (by omega)]
theorem rot_ok {ws : List Str} (j : Nat) (h : okNames ws = true) : okNames (ws.drop j ++ ws.take j) = true := okNames_perm (ss := ws) (by
  have p : (ws.take j ++ ws.drop j).Perm (ws.drop j ++ ws.take j) := List.perm_append_comm
  rw [List.take_append_drop] at p
  exact p) h
theorem take_ok {ws : List Str} (j : Nat) (h : okNames ws = true) : okNames (ws.take j) = true := by
  obtain ⟨h1, h2, h3⟩ := okNames_of h
  refine okNames_mk (by rw [List.length_take]; omega) (fun s hs => h2 s (List.mem_of_mem_take hs)) (h3.sublist (List.take_sublist j ws))
theorem drop_ok {ws : List Str} (j : Nat) (h : okNames ws = true) : okNames (ws.drop j) = true := by
  obtain ⟨h1, h2, h3⟩ := okNames_of h
  refine okNames_mk (by rw [List.length_drop]; omega) (fun s hs => h2 s (List.mem_of_mem_drop hs)) (h3.sublist (List.drop_sublist j ws))
/-- a statement whose ways meet -/
theorem seq_meet {t u : TS} {D : Ends} {σ : St} {H : Hp} (P : St → Hp → Prop) (h : ∀ N : St → Hp → Prop, (∀ σ' H', P σ' H' → N σ' H') → t { D with nx := N } σ H) (q : ∀ σ' H', P σ' H' → u D σ' H') : tSeq t u D σ H := h (u D) q
theorem slA_to {K : PySem.W.Frag} {H : Hp} {a : Addr} {ss : List Str} {j : Nat} {Q : VK} (h : H a = some (.tup (ss.map V.str))) (q : ∀ p H', Same H H' → H' p = some (.tup ((ss.take j).map V.str)) → Q (.ref p) H') : rSlA K (.ref a) none (some (j : Int)) H Q := by
  refine ⟨a, _, rfl, SqT.of h, fun hw => ?_, fun _ p hp => ?_⟩
  · have h2 := hw.2
    rw [HT.sIx_nat, List.length_map] at h2
    refine q a H (Same.refl H) ?_
    rw [List.take_of_length_le (by omega)]
    exact h
  · rw [cut_to]
    exact q p _ (gSame_new hp) upd_same
theorem slA_from {K : PySem.W.Frag} {H : Hp} {a : Addr} {ss : List Str} {j : Nat} {Q : VK} (h : H a = some (.tup (ss.map V.str))) (q : ∀ p H', Same H H' → H' p = some (.tup ((ss.drop j).map V.str)) → Q (.ref p) H') : rSlA K (.ref a) (some (j : Int)) none H Q := by
  refine ⟨a, _, rfl, SqT.of h, fun hw => ?_, fun _ p hp => ?_⟩
  · have h1 := hw.1
    rw [HT.sIx_nat, List.length_map] at h1
    refine q a H (Same.refl H) ?_
    have e : ss.drop j = ss := by
      cases j with
      | zero => rfl
      | succ j =>
        have : ss.length = 0 := by omega
        rw [List.length_eq_zero_iff.mp this]
        rfl
    rw [e]
    exact h
  · rw [cut_from]
    exact q p _ (gSame_new hp) upd_same
theorem catA_strs {K : PySem.W.Frag} {H : Hp} {a b : Addr} {xs ys : List Str} {Q : VK} (ha : H a = some (.tup (xs.map V.str))) (hb : H b = some (.tup (ys.map V.str))) (hl : xs.length + ys.length ≤ 1000) (q : ∀ p H', Same H H' → H' p = some (.tup ((xs ++ ys).map V.str)) → Q (.ref p) H') : rCatA K (.ref a) (.ref b) H Q := by
  refine ⟨a, b, _, _, rfl, rfl, SqT.of ha, SqT.of hb, by rw [List.length_map, List.length_map, sizeLine_eq]; omega, fun e => ?_, fun _ e => ?_, fun _ _ p hp => ?_⟩
  · refine q b H (Same.refl H) ?_
    rw [List.map_append, e]
    exact hb
  · refine q a H (Same.refl H) ?_
    rw [List.map_append, e, List.append_nil]
    exact ha
  · refine q p _ (gSame_new hp) ?_
    rw [upd_same, List.map_append]
end L2

set_option Elab.async false
set_option linter.all false
set_option maxRecDepth 100000
set_option maxHeartbeats 4000000
namespace L2
open PySem PySem.Spec PyProof.Rows
/-! ### what the text's top has written -/
/-- an error of the class at S is what «except S» names -/
theorem exm_self {K : PySem.W.Frag} {S : Addr} (h1 : PySem.W.subIn K (.ref S) (.type "BaseException") = some true) (h2 : PySem.W.isClsIn K S = true) (h3 : PySem.W.typeIn K (.ref S) = some (.type "type")) (h4 : PySem.W.subIn K (.ref S) (.ref S) = some true) :
    PySem.W.exmOne K (.ref S) (.ref S) = some true := by
  have e1 : (PySem.W.subIn K (.ref S) (.type "BaseException") == some true) = true := by rw [h1] <;> rfl
  have e2 : ((PySem.W.clsIn K S).isSome && PySem.W.typeIn K (.ref S) == some (.type "type")) = true := by
    have h2' : (PySem.W.clsIn K S).isSome = true := h2
    rw [h2', h3] <;> rfl
  show (if (PySem.W.subIn K (.ref S) (.type "BaseException") == some true) = true then (if ((PySem.W.clsIn K S).isSome && PySem.W.typeIn K (.ref S) == some (.type "type")) = true then PySem.W.subIn K (.ref S) (.ref S) else none) else none) = some true
  rw [if_pos e1, if_pos e2]
  exact h4
section
variable {K : PySem.W.Frag} {h : Heap} {mg : Str → Option Value} (X : K.In h) (G : h.Ns mainGlobals mg)
include X G
theorem blt_mk (z1 : PySem.W.nsIn K mainGlobals "len" = some none) (z2 : PySem.W.nsIn K mainGlobals "int" = some none) (z3 : PySem.W.nsIn K mainGlobals "abs" = some none) (z4 : PySem.W.nsIn K mainGlobals "max" = some none)
    (z5 : PySem.W.nsIn K mainGlobals "min" = some none) (z6 : PySem.W.nsIn K mainGlobals "range" = some none) (z7 : PySem.W.nsIn K mainGlobals "all" = some none) (z8 : PySem.W.nsIn K mainGlobals "isinstance" = some none)
    (z9 : PySem.W.nsIn K mainGlobals "str" = some none) (z10 : PySem.W.nsIn K mainGlobals "tuple" = some none) (z11 : PySem.W.nsIn K mainGlobals "list" = some none) (z12 : PySem.W.nsIn K mainGlobals "set" = some none)
    (z13 : PySem.W.nsIn K mainGlobals "sorted" = some none) (z14 : PySem.W.nsIn K mainGlobals "repr" = some none) (z15 : PySem.W.nsIn K mainGlobals "bool" = some none) (z16 : PySem.W.nsIn K mainGlobals "dict" = some none) : Blt mg :=
  ⟨PySem.W.mg_none_of X G z1, PySem.W.mg_none_of X G z2, PySem.W.mg_none_of X G z3, PySem.W.mg_none_of X G z4, PySem.W.mg_none_of X G z5, PySem.W.mg_none_of X G z6, PySem.W.mg_none_of X G z7, PySem.W.mg_none_of X G z8,
    PySem.W.mg_none_of X G z9, PySem.W.mg_none_of X G z10, PySem.W.mg_none_of X G z11, PySem.W.mg_none_of X G z12, PySem.W.mg_none_of X G z13, PySem.W.mg_none_of X G z14, PySem.W.mg_none_of X G z15, PySem.W.mg_none_of X G z16⟩
theorem df_mk {x : Str} {st : Stmt} {ps : List Str} {f : Addr} {oc : Value} {od an : Option Addr} {osl : Array (Option Value)} {kV doc pm cdv ct : Value} (a : PySem.W.nsIn K mainGlobals x = some (some (.ref f)))
    (l : K.lookup f = some ⟨oc, od, .func (PySem.W.fnOf x x (defArgs st) (defBody st) (defScope st) .none kV doc pm an cdv ct), osl⟩) (c : PySem.W.codeIn K cdv x = true) (k : PySem.W.keepIn K (.ref f) = true)
    (hb : ∀ (kV doc pm : Value) (an : Option Addr) (cdv ct : Value) (us : List Value), us.length = ps.length → bindArgs (PySem.W.fnOf x x (defArgs st) (defBody st) (defScope st) .none kV doc pm an cdv ct) ⟨us, []⟩ = pure (ps.zip us)) :
    Df K mg x st ps f (PySem.W.fnOf x x (defArgs st) (defBody st) (defScope st) .none kV doc pm an cdv ct) :=
  have F := fun_mk (st := st) l c k
  ⟨F, PySem.W.mg_of X G a, F.binds hb⟩
theorem iniT_mk {n fld q : Str} {st : Stmt} {C f : Addr} {nm q0 : Str} {N : Addr} {bs bm : List Value} {sn : List Str} {sub : List Value} {ab : Bool} {col : Option Bool} {dd : Option Addr} {m0 m1 m2 m3 m5 : Option Value}
    {oc : Value} {od an : Option Addr} {osl : Array (Option Value)} {kV doc pm cdv ct : Value} (hq : n ++ ".__init__" = q)
    (aC : PySem.W.nsIn K mainGlobals n = some (some (.ref C))) (xL : K.lookup C = some (excClassObj nm q0 C N bs bm true sn sub ab col dd m0 m1 m2 m3 m5 "ValueError.__new__")) (hbm : PySem.HandSPX.refsVE bm = true)
    (sa : PySem.W.findIn K (.ref C) "__setattr__" = some (some (.builtin "object.__setattr__"))) (nb : PySem.W.findIn K (.ref C) fld = some none)
    (a1 : PySem.W.findIn K (.ref C) "__init__" = some (some (.ref f))) (t1 : PySem.W.typeIn K (.ref f) = some (.type "function"))
    (l : K.lookup f = some ⟨oc, od, .func (PySem.W.fnOf "__init__" q (defArgs st) (defBody st) (defScope st) .none kV doc pm an cdv ct), osl⟩) (c : PySem.W.codeIn K cdv q = true) (k : PySem.W.keepIn K (.ref f) = true)
    (kC : PySem.W.keepIn K (.ref C) = true) (eC : PySem.W.subIn K (.ref C) (.type "BaseException") = some true) (tC : PySem.W.typeIn K (.ref C) = some (.type "type")) (iC : PySem.W.isClsIn K C = true) (sC : PySem.W.subIn K (.ref C) (.ref C) = some true)
    (hb : ∀ (kV doc pm : Value) (an : Option Addr) (cdv ct : Value) (us : List Value), us.length = (["self", fld] : List Str).length → bindArgs (PySem.W.fnOf "__init__" q (defArgs st) (defBody st) (defScope st) .none kV doc pm an cdv ct) ⟨us, []⟩ = pure ((["self", fld] : List Str).zip us)) :
    IniT K mg n fld st C f (PySem.W.fnOf "__init__" q (defArgs st) (defBody st) (defScope st) .none kV doc pm an cdv ct) := by
  subst hq
  have F := fun_mk (st := st) l c k
  exact ⟨PySem.W.mg_of X G aC, ⟨⟨nm, q0, N, bs, bm, sn, sub, ab, col, dd, m0, m1, m2, m3, m5, xL, hbm⟩, sa, eC, tC, kC⟩, a1, t1, exm_self eC iC tC sC, nb, F, F.binds hb⟩
theorem ownT_mk {n : Str} {C : Addr} (aC : PySem.W.nsIn K mainGlobals n = some (some (.ref C))) (xC : PySem.W.excIn K C [.type "ValueError", .type "Exception", .type "BaseException", .type "object"] "ValueError.__new__" = true)
    (kC : PySem.W.keepIn K (.ref C) = true) (eC : PySem.W.subIn K (.ref C) (.type "BaseException") = some true) (tC : PySem.W.typeIn K (.ref C) = some (.type "type")) (iC : PySem.W.isClsIn K C = true) (sC : PySem.W.subIn K (.ref C) (.ref C) = some true) : OwnT K mg n C :=
  ⟨PySem.W.mg_of X G aC, xC, kC, eC, tC, exm_self eC iC tC sC⟩
theorem cin_mk {n : Str} {C : Addr} (aC : PySem.W.nsIn K mainGlobals n = some (some (.ref C))) (ga : PySem.W.specialIn K (.ref C) "__getattribute__" = some (some (.builtin "type.__getattribute__")))
    (rd : PySem.W.readsIn K C (.type "type") = true) (fi : PySem.W.findCls K (.ref C) (.type "type") "__init__" = some (.val (.builtin "ValueError.__init__"))) : CIn K mg n C := ⟨PySem.W.mg_of X G aC, ga, rd, fi⟩
end
end L2

set_option Elab.async false
set_option linter.all false
set_option maxRecDepth 100000
set_option maxHeartbeats 6400000
/-! sets of texts at their places: set(xs), sorted(set(xs)), sorted(xs) of tuples -/
namespace Gt
open PySem PySem.Spec PyProof.Rows L2
def keyOf (e : Int × Value) : Str := match e.2 with | .str k _ => k | _ => Str.empty
def GoodE (P : Program) (w : World) (e : Int × Value) : Prop := ∃ k tk, e.2 = Value.str k tk ∧ e.1 = (PySem.strKind P w).hash k
def SetS (P : Program) (w : World) (h : Heap) (a : Addr) (S : Str → Bool) (n : Nat) : Prop :=
  ∃ o es ep t, h.get? a = some o ∧ o.ExactSet ∧ o.data = .set es ep t ∧ (∀ e ∈ es.toList, GoodE P w e) ∧ (es.toList.map keyOf).Nodup ∧ (∀ k, S k = true ↔ k ∈ es.toList.map keyOf) ∧
    es.size < scanBound ∧ t.fits es.size = true ∧ es.size = n ∧ Ris t.place.toList ∧ (w.params.followText "set-order" = true ∨ t.led = true)
section
variable {P : Program} {w : World} {h h' : Heap} {a : Addr} {S : Str → Bool} {n : Nat}
theorem SetS.at (R : SetS P w h a S n) (k : ∀ o, h.get? a = some o → h'.get? a = some o) : SetS P w h' a S n := by
  obtain ⟨o, es, ep, t, ho, r⟩ := R
  exact ⟨o, es, ep, t, k o ho, r⟩
theorem SetS.congr {S' : Str → Bool} (R : SetS P w h a S n) (e : ∀ k, S' k = S k) : SetS P w h a S' n := by
  have q : S' = S := funext e
  rw [q]; exact R
theorem good_elems {l : List (Int × Value)} (g : ∀ e ∈ l, GoodE P w e) : ElemsOf (PySem.strKind P w) l := fun e he => by
  obtain ⟨k, tk, h1, h2⟩ := g e he
  exact ⟨⟨k, by rw [h1]; exact strKind_is P w k tk, h2⟩, by rw [h1] <;> rfl⟩
theorem good_is {e : Int × Value} (g : GoodE P w e) (k : Str) : (PySem.strKind P w).is k e.2 = true ↔ keyOf e = k := by
  obtain ⟨k0, tk, h1, _⟩ := g
  unfold keyOf
  rw [h1]
  show (Value.isStrOf k (.str k0 tk) = true) ↔ k0 = k
  simp [Value.isStrOf]
theorem good_mem {l : List (Int × Value)} (g : ∀ e ∈ l, GoodE P w e) (k : Str) : k ∈ l.map keyOf ↔ ∃ e ∈ l, (PySem.strKind P w).is k e.2 = true := by
  rw [List.mem_map]
  constructor
  · rintro ⟨e, he, q⟩
    exact ⟨e, he, (good_is (g e he) k).2 q⟩
  · rintro ⟨e, he, q⟩
    exact ⟨e, he, (good_is (g e he) k).1 q⟩
end
section
variable {P : Program} {w : World} {A : Around} {E : Value → Shared → Prop} {s : Shared} {a : Addr} {S : Str → Bool} {n : Nat}
theorem add_tail {g : Bool → Sem Unit} (hg : ∀ (b : Bool) (s₁ : Shared) (Q' : Unit → Shared → Prop), Q' () s₁ → wpAny (model P w) A (g b) Q' E s₁)
    {o : Obj} {es : Array (Int × Value)} {ep : Nat} {t : SetTable} (ho : s.heap.get? a = some o) (hex : o.ExactSet) (hd : o.data = .set es ep t)
    {es1 : Array (Int × Value)} {t2 : SetTable} {S' : Str → Bool} (g1 : ∀ e ∈ es1.toList, GoodE P w e) (nd1 : (es1.toList.map keyOf).Nodup) (m1 : ∀ k, S' k = true ↔ k ∈ es1.toList.map keyOf)
    (hb1 : es1.size < scanBound) (hf2 : t2.fits es1.size = true) (hr : Ris t2.place.toList) (hl : w.params.followText "set-order" = true ∨ t2.led = true) {wasDummy : Bool} {R : Option Bool → Shared → Prop}
    (hR : ∀ h', Heap.SameBut a s.heap h' → SetS P w h' a S' es1.size → R (some true) { s with heap := h' }) :
    wpAny (model P w) A (do
        storeSet a es1 t2
        if (!wasDummy && t2.tooFull) = true then do
            g (relayAll t2 es1 (SetTable.grown es1.size)).2.2
            storeSet a (relayAll t2 es1 (SetTable.grown es1.size)).1 (relayAll t2 es1 (SetTable.grown es1.size)).2.1
            pure (some true)
          else pure (some true)) R E s := by
  refine wpAny_bind (wpAny_storeSet_of ho hd ?_ (fits_of_scanBound hb1))
  have ho1 := store_at (es' := es1) (t' := t2) ho hd
  have sb1 := Heap.SameBut.update s.heap a (Obj.putSet es1 t2)
  split
  · have pm := relayAll_perm t2 es1 (SetTable.grown es1.size)
    have hf3 := relayAll_fits t2 es1 (SetTable.grown es1.size)
    have hr3 := relayAll_ris t2 es1 (SetTable.grown es1.size)
    have hl3 := relayAll_led t2 es1 (SetTable.grown es1.size)
    generalize relayAll t2 es1 (SetTable.grown es1.size) = Z at pm hf3 hr3 hl3 ⊢
    obtain ⟨es2, t3, gave⟩ := Z
    dsimp only at pm hf3 hr3 hl3 ⊢
    have hsz : es2.size = es1.size := by rw [← Array.length_toList, pm.length_eq, Array.length_toList]
    have hb2 : es2.size < scanBound := by rw [hsz]; exact hb1
    refine wpAny_bind (hg _ _ _ ?_)
    refine wpAny_bind (wpAny_storeSet_of ho1 rfl ?_ (fits_of_scanBound hb2))
    have ho2 := store_at (es' := es2) (t' := t3) ho1 rfl
    refine wpAny_pure (hR _ (sb1.trans (Heap.SameBut.update _ a _)) ?_)
    exact ⟨_, es2, _, t3, ho2, hex, rfl, fun e he => g1 e (pm.mem_iff.mp he), (pm.map keyOf).nodup_iff.mpr nd1, fun k => (m1 k).trans (pm.map keyOf).mem_iff.symm, hb2, hf3, hsz, hr3,
      hl.imp id fun z => by rw [hl3]; exact z⟩
  · exact wpAny_pure (hR _ sb1 ⟨_, es1, _, t2, ho1, hex, rfl, g1, nd1, m1, hb1, hf2, rfl, hr, hl⟩)
theorem add_hashed {k : Str} {tk : Tok} {Q : Bool → Shared → Prop} (R : SetS P w s.heap a S n) (room : n + 1 < scanBound)
    (hQ : ∀ h', Heap.SameBut a s.heap h' → SetS P w h' a (fun j => S j || decide (j = k)) (if S k = true then n else n + 1) → Q (!S k) { s with heap := h' }) :
    wpAny (model P w) A (setAddHashed a (.str k tk) ((PySem.strKind P w).hash k)) Q E s := by
  obtain ⟨o, es, ep, t, ho, hex, hd, g, nd, hm, hb, hf, hn, hr, hl⟩ := R
  have hkey : (PySem.strKind P w).is k (.str k tk) = true := strKind_is P w k tk
  have hsc : (Value.str k tk).scannable = true := rfl
  have hel : ElemsOf (PySem.strKind P w) es.toList := good_elems g
  unfold setAddHashed setAddHashedIn
  refine wpAny_holding (wpAny_bind (wpAny_setState_of ho hd hf ?_))
  dsimp only
  rw [byScan_of hsc hb hel]
  simp only [↓reduceIte]
  unfold setAddByScan
  refine wpAny_bind ?_
  refine wpAny_bind (wpAny_rule ?_)
  refine wpAny_bind (wpAny_setScan_of hkey ho hd hf hel ?_)
  cases hfi : List.findIdx? (fun e => (PySem.strKind P w).is k e.2) es.toList with
  | some j =>
    dsimp only
    obtain ⟨hj, pj, _⟩ := List.findIdx?_eq_some_iff_getElem.mp hfi
    have hSk : S k = true := (hm k).2 ((good_mem (P := P) (w := w) g k).2 ⟨es.toList[j], List.getElem_mem hj, pj⟩)
    refine wpAny_pure (wpAny_pure ?_)
    have q := hQ s.heap (Heap.SameBut.refl a s.heap) ⟨o, es, ep, t, ho, hex, hd, g, nd, fun i => by
      rw [Bool.or_eq_true, decide_eq_true_eq, ← hm i]
      exact ⟨fun z => z.elim id (fun e => e ▸ hSk), .inl⟩, hb, hf, by rw [if_pos hSk]; exact hn, hr, hl⟩
    rw [hSk] at q
    exact q
  | none =>
    dsimp only
    have hnk : k ∉ es.toList.map keyOf := fun z => by
      obtain ⟨e, he, q⟩ := (good_mem (P := P) (w := w) g k).1 z
      have c := List.findIdx?_eq_none_iff.mp hfi e he
      rw [q] at c
      cases c
    have hSk : S k = false := by
      cases q : S k with
      | false => rfl
      | true => exact absurd ((hm k).1 q) hnk
    have hgw : ∀ (b : Bool) {s₁ : Shared} {Q' : Unit → Shared → Prop}, Q' () s₁ → wpAny (model P w) A (match b with | true => rule "set.scan.the-table-gave-way" | false => pure ()) Q' E s₁ :=
      fun b s₁ Q' q => by cases b <;> first | exact wpAny_pure q | exact wpAny_rule q
    have pm := layNew_perm t es ((PySem.strKind P w).hash k) (.str k tk)
    have hf1 := layNew_fits t es ((PySem.strKind P w).hash k) (.str k tk)
    have hr1 := layNew_ris t es ((PySem.strKind P w).hash k) (.str k tk) hr
    have hl1 := layNew_led t es ((PySem.strKind P w).hash k) (.str k tk)
    generalize layNew t es ((PySem.strKind P w).hash k) (.str k tk) = Z at pm hf1 hr1 hl1 ⊢
    obtain ⟨es1, t1, wasDummy, gave⟩ := Z
    dsimp only at pm hf1 hr1 hl1 ⊢
    rw [Array.toList_push] at pm
    have pc : es1.toList.Perm (((PySem.strKind P w).hash k, Value.str k tk) :: es.toList) := pm.trans (List.perm_append_singleton _ _)
    have pk : (es1.toList.map keyOf).Perm (k :: es.toList.map keyOf) := pc.map keyOf
    have g1 : ∀ e ∈ es1.toList, GoodE P w e := fun e he => by
      rcases List.mem_cons.mp (pc.mem_iff.mp he) with z | z
      · rw [z]; exact ⟨k, tk, rfl, rfl⟩
      · exact g e z
    have nd1 : (es1.toList.map keyOf).Nodup := pk.nodup_iff.mpr (List.nodup_cons.mpr ⟨hnk, nd⟩)
    have m1 : ∀ i, (S i || decide (i = k)) = true ↔ i ∈ es1.toList.map keyOf := fun i => by
      rw [Bool.or_eq_true, decide_eq_true_eq, hm i, pk.mem_iff, List.mem_cons]
      exact Or.comm
    have hsz : es1.size = n + 1 := by rw [← Array.length_toList, pc.length_eq, List.length_cons, Array.length_toList, hn]
    have hb1 : es1.size < scanBound := by rw [hsz]; exact room
    have hled : w.params.followText "set-order" = true ∨ t1.led = true := hl.imp id fun z => by rw [hl1]; exact z
    have fin : ∀ h', Heap.SameBut a s.heap h' → SetS P w h' a (fun j => S j || decide (j = k)) es1.size → Q true { s with heap := h' } := fun h' sb r => by
      have q := hQ h' sb
      rw [hSk] at q
      rw [hsz] at r
      exact q r
    refine wpAny_bind (hgw _ ?_)
    split
    · refine wpAny_bind ?_
      rw [hashByValue_scannable 8 hsc]
      refine wpAny_pure ?_
      refine add_tail ?_ ho hex hd g1 nd1 m1 hb1 ?_ ?_ ?_ ?_
      · intro b s₁ Q' q; cases b <;> first | exact wpAny_pure q | exact wpAny_rule q
      · first | (split <;> first | exact hf1 | exact SetTable.fits_plain_off hf1) | exact hf1
      · first | (split <;> exact hr1) | exact hr1
      · first | (split <;> exact hled) | exact hled
      · intro h' sb r; dsimp only; exact wpAny_pure (fin h' sb r)
    · refine wpAny_bind (wpAny_pure ?_)
      simp only [↓reduceIte]
      refine add_tail ?_ ho hex hd g1 nd1 m1 hb1 hf1 hr1 hled ?_
      · intro b s₁ Q' q; cases b <;> first | exact wpAny_pure q | exact wpAny_rule q
      · intro h' sb r; dsimp only; exact wpAny_pure (fin h' sb r)
end
section
variable {prog : Program} {w : World} {A : Around} {R : Result → Shared → Prop} {I : Addr} {fp wr : List Addr} {G : Array GenState → Array GenState → Prop} {n : Nat} {P : Nat → Value → Prop} {St : Nat → Shared → Prop}
/-- the loop of set.update over m turns still to come -/
theorem upd_loop (W : WalksS prog w A.in1 I fp wr G n P St) (S : Addr) (nS : S ∉ fp) (xs : List Str) (len : xs.length = n) (few : n + 1 < scanBound) (val : ∀ i v, P i v → ∃ t, v = .str (xs.getD i Str.empty) t)
    (m : Nat) : ∀ (i : Nat) (s : Shared), i + m = n → St i s → SetS prog w s.heap S (Gs.mem xs i) (Gs.dst xs i) →
      (∀ s', Moved (S :: wr) G s s' → SetS prog w s'.heap S (Gs.mem xs n) (Gs.dst xs n) → R (.ok (.ret .none)) s') → codeAny (model prog w) A (.builtin "set.update.loop" ⟨[.ref S, .ref I], []⟩) R s := by
  have nW : S ∉ wr := fun z => nS (W.sub S z)
  have more : ∀ b, b ∈ wr → b ∈ S :: wr := fun b z => .tail _ z
  induction m with
  | zero =>
    intro i s e st hS fin
    obtain rfl : i = n := e
    refine codeAny_builtin F.entry_set_update_loop (by
      rw [Around.under_plainId F.plain_set_update_loop]
      exact wpAny_bind (W.done s _ _ st fun s2 mv => wpAny_pure (fin s2 (mv.mono more) (hS.at fun o q => mv.heap S o nW q))))
  | succ m ih =>
    intro i s e st hS fin
    have lt : i < n := by omega
    refine codeAny_builtin F.entry_set_update_loop (by
      rw [Around.under_plainId F.plain_set_update_loop]
      refine wpAny_bind (W.item i s _ _ lt st fun v s2 pv st2 mv => ?_)
      obtain ⟨t, rfl⟩ := val i v pv
      have hS2 := hS.at (h' := s2.heap) fun o q => mv.heap S o nW q
      have le := Gs.dst_le xs i
      refine wpAny_bind (wpAny_holding (wpAny_holding (wpAny_bind ((PySem.strKind prog w).pyHash (k := xs.getD i Str.empty) (strKind_is _ _ _ _) ?_))))
      refine add_hashed (s := { s2 with toks := s2.toks + 1 }) hS2 (by omega) fun h3 sb hS3 => ?_
      have nx : SetS prog w h3 S (Gs.mem xs (i + 1)) (Gs.dst xs (i + 1)) := by
        have lx : i < xs.length := by omega
        refine SetS.congr hS3 (fun k => ?_)
        have tk : xs.take (i + 1) = xs.take i ++ [xs[i]] := by
          rw [List.take_add_one, List.getElem?_eq_getElem lx]
          rfl
        unfold Gs.mem
        rw [Gs.getD_at lx, tk]
        rw [Bool.eq_iff_iff]
        simp only [Bool.or_eq_true, decide_eq_true_eq, List.mem_append, List.mem_singleton]
      refine wpAny_pure ⟨plainId_quiet F.plain_set_update_loop _, ih (i + 1) _ (by omega) (W.frame _ s2 _ _ st2 (Nat.le_succ _) fun b hb o q => ?_) nx fun s4 mv4 hS4 => fin s4 (Moved.trans W.gtrans ((mv.mono more).then_heap (Nat.le_succ _) fun b o nb q => ?_) mv4) hS4⟩
      · exact (sb.2 b (fun z => nS (z ▸ hb))).trans q
      · exact (sb.2 b (fun z => nb (z ▸ List.mem_cons_self))).trans q)
end
section
variable {prog : Program} {w : World} {A : Around} {E : Value → Shared → Prop} {s : Shared}
abbrev bareW (w : World) : Obj := { cls := .type "set", dict := none, data := .set #[] 0 (.fresh 0 0 (!w.params.followText "set-order")) }
theorem fresh_at {h : Heap} {a : Addr} (w : World) (ho : h.get? a = some (bareW w)) : SetS prog w h a (fun _ => false) 0 :=
  ⟨_, #[], 0, _, ho, ⟨rfl, rfl, rfl⟩, rfl, (fun e he => by simp at he), (by simp), (fun k => by simp), (by decide), (by rfl), rfl, List.Pairwise.nil, by
    show _ ∨ (!w.params.followText "set-order") = true
    cases w.params.followText "set-order"
    · exact .inr rfl
    · exact .inl rfl⟩
theorem code_new1 (a : Value) {Q₁ : Value → Shared → Prop}
    (h : Q₁ (.ref s.heap.objs.size) { s with heap := s.heap.push (bareW w) }) :
    codeAny (model prog w) A (.call (.builtin "set.__new__") ⟨[.type "set", a], []⟩) (wants Q₁ E) s := by
  refine codeAny_of_tree ?_
  show wpAny _ A.in1 (do checkBuiltinCall "set.__new__" ⟨[.type "set", a], []⟩; again (.builtin "set.__new__" ⟨[.type "set", a], []⟩)) _ _ s
  refine wpAny_bind (wpAny_of_eq (F.newCall_set_1 a) (wpAny_pure ⟨plainId_quiet F.plain_set_new _, codeAny_builtin F.entry_set_new ?_⟩))
  rw [Around.under_plainId F.plain_set_new _]
  unfold Builtin.«set.__new__» Builtin.Frozenset.newClass
  have hsub := sub_set_self
  obtain ⟨hp, g, d, tk, os⟩ := s
  dsimp only
  wp_walk
  refine wpAny_askSetting (wpAny_pure ?_)
  dsimp only
  simp only [newObj]
  refine wpAny_bind (wpAny_alloc (wpAny_pure ?_))
  exact wpAny_pure h
theorem set_init {T : String} {l : Addr} {n : Nat} {Pv : Nat → Value → Prop} {St : Addr → Nat → Heap → Prop} {xs : List Str} {hp : Heap} {g : Array GenState} {d : Drawn} {tk : Nat} {os : OsState} (hh : A.handled = none) (r : Gs.Row prog w T l n Pv hp St)
    (len : xs.length = n) (few : n + 1 < scanBound) (val : ∀ i v, Pv i v → ∃ t, v = .str (xs.getD i Str.empty) t) :
    codeAny (model prog w) A (.call (.builtin "set.__init__") ⟨[.ref hp.objs.size, .ref l], []⟩)
      (wants (fun v s2 => v = .none ∧ ∃ h2 t2, s2 = ⟨h2, g, d, t2, os⟩ ∧ SetS prog w h2 hp.objs.size (Gs.mem xs n) (Gs.dst xs n) ∧ ∀ b o, hp.get? b = some o → h2.get? b = some o) E) ⟨hp.push (bareW w), g, d, tk, os⟩ := by
  have oS : (hp.push (bareW w)).get? hp.objs.size = some (bareW w) := Heap.get?_push_size _ rfl
  have tS : Shared.TypeIs ⟨hp.push (bareW w), g, d, tk, os⟩ (.ref hp.objs.size) "set" := ⟨_, oS, rfl⟩
  refine codeAny_call_builtin PySem.F.called_set.init.plain PySem.F.entry_set_init (check_set_init_1 tS ?_)
  obtain ⟨dd, dt, sl, ol⟩ := r.at_
  have ol2 : (hp.push (bareW w)).get? l = some { cls := .type T, dict := dd, data := dt, slots := sl } := Heap.get?_push_of_some _ ol
  have q1 := r.s1
  have q2 := r.s2
  have q3 := r.nd
  unfold Builtin.«set.__init__» noKeywords Builtin.Frozenset.updateFrom
  generalize hI : pyIter = PI
  wp_walk
  subst hI
  have lt : l < hp.objs.size := Heap.lt_size ol
  refine r.iter _ _ _ _ (fun o q => Heap.get?_push_of_some _ q) fun o st => ?_
  have z1 : (hp.push (bareW w)).objs.size = hp.objs.size + 1 := Heap.size_push ..
  have z2 : ∀ b u, hp.get? b = some u → ((hp.push (bareW w)).push o).get? b = some u := fun b u q => Heap.get?_push_of_some _ (Heap.get?_push_of_some _ q)
  refine wpAny_bind (wpAny_runValue ?_)
  have W := (r.walk A.in1.in1 (hp.push (bareW w)).objs.size (by simp [hh]) (by rw [z1]; exact Nat.ne_of_lt (Nat.lt_succ_of_lt lt))).toS
  refine upd_loop W hp.objs.size (Gs.off2 (by rw [z1]; exact Nat.lt_succ_self _) lt) xs len few val n 0 ⟨(hp.push (bareW w)).push o, g, d, tk, os⟩ (by omega) st ?_ fun s3 mv hS => ?_
  · exact SetS.congr (fresh_at w (Heap.get?_push_of_some _ oS)) (fun k => by simp [Gs.mem])
  · obtain ⟨h3, g3, d3, t3, os3⟩ := s3
    obtain rfl : g3 = g := mv.gens
    obtain rfl : d3 = d := mv.drawn
    obtain rfl : os3 = os := mv.os
    refine wpAny_pure (wpAny_pure ⟨rfl, h3, t3, rfl, hS, fun b u q => mv.heap b u ?_ (z2 b u q)⟩)
    have lb : b < hp.objs.size := Heap.lt_size q
    exact Gs.off2' lb (by rw [z1]; exact Nat.lt_succ_self _)
/-- set(x) of such a row -/
theorem set_call {T : String} {l : Addr} {n : Nat} {Pv : Nat → Value → Prop} {St : Addr → Nat → Heap → Prop} {xs : List Str} {Q : Value → Shared → Prop} (hh : A.handled = none) (r : Gs.Row prog w T l n Pv s.heap St)
    (len : xs.length = n) (few : n + 1 < scanBound) (val : ∀ i v, Pv i v → ∃ t, v = .str (xs.getD i Str.empty) t)
    (q : ∀ h2 t2, SetS prog w h2 s.heap.objs.size (Gs.mem xs n) (Gs.dst xs n) → (∀ b o, s.heap.get? b = some o → h2.get? b = some o) → Q (.ref s.heap.objs.size) { s with heap := h2, toks := t2 }) :
    wpAny (model prog w) A (call (.type "set") [.ref l]) Q E s := by
  obtain ⟨hp, g, d, tk, os⟩ := s
  obtain ⟨c, tl, m1⟩ := PySem.F.called_set.mro
  have m2 := PySem.F.called_set.made
  have m3 := PySem.F.called_set.sub
  have m4 := PySem.F.called_set.notType
  have m5 := PySem.F.called_set.canCreate
  have m6 := PySem.F.typeCall_set_1 (.ref l)
  refine wpAny_call (codeAny_of_tree (wpAny_pure ⟨Code.quiet_builtin _ (by decide +kernel), codeAny_builtin PySem.F.entry_type_call ?_⟩))
  rw [Around.under_plain (weight_type_call_type "set" [.ref l] []) rfl]
  repeat (any_goals (first | assumption | wp_step))
  refine codeAny_mono (code_new1 (.ref l) (E := E) (Q₁ := fun v s2 => v = .ref hp.objs.size ∧ s2 = ⟨hp.push (bareW w), g, d, tk, os⟩) ⟨rfl, rfl⟩) fun a s2 h2 => ?_
  match a, h2 with
  | .error e, h2 => exact h2
  | .ok .next, h2 => exact h2.elim
  | .ok .brk, h2 => exact h2.elim
  | .ok .cont, h2 => exact h2.elim
  | .ok (.ret v), h2 =>
    obtain ⟨rfl, rfl⟩ := h2
    have m7 := PySem.F.called_set.init.lookup
    have m8 := PySem.F.called_set.init.bind (.ref hp.objs.size)
    have oS : (hp.push (bareW w)).get? hp.objs.size = some (bareW w) := Heap.get?_push_size _ rfl
    have tS : Shared.TypeIs ⟨hp.push (bareW w), g, d, tk, os⟩ (.ref hp.objs.size) "set" := ⟨_, oS, rfl⟩
    repeat (any_goals (first | assumption | wp_step))
    refine codeAny_mono (set_init (E := E) ?_ r len few val) fun b s3 h3 => ?_
    · simp [hh]
    · match b, h3 with
      | .error e, h3 => exact h3
      | .ok .next, h3 => exact h3.elim
      | .ok .brk, h3 => exact h3.elim
      | .ok .cont, h3 => exact h3.elim
      | .ok (.ret v), h3 =>
        obtain ⟨rfl, h4, t4, rfl, hS, keep⟩ := h3
        repeat (any_goals (first | assumption | wp_step))
        exact q h4 t4 hS keep
theorem strs_of : ∀ (l : List Value), (∀ v ∈ l, ∃ k tk, v = Value.str k tk) → StrsAre l (l.map fun v => keyOf (0, v))
  | [], _ => .nil
  | v :: r, h => by
    obtain ⟨k, tk, rfl⟩ := h v (List.mem_cons_self ..)
    exact .cons k tk (strs_of r fun x hx => h x (List.mem_cons_of_mem _ hx))
/-- sorted(s) of a set of texts -/
theorem sorted_set {a : Addr} {S : Str → Bool} {n : Nat} {Q : Value → Shared → Prop} (R : SetS prog w s.heap a S n) (hh : A.handled = none) (h64 : n < 64)
    (hQ : ∀ s' p (out : Array Value) (c : Nat) (ys : List Str), (∀ b o, s.heap.get? b = some o → s'.heap.get? b = some o) → s'.gens = s.gens → s'.os = s.os → s.heap.objs.size ≤ p →
      s'.heap.get? p = some (seqObj "list" out c) → StrsAre out.toList ys → sortedS ys = true → ys.Nodup → (∀ k, k ∈ ys ↔ S k = true) → Q (.ref p) s') :
    wpAny (model prog w) A (call (.builtin "sorted") [.ref a]) Q E s := by
  obtain ⟨o, es, ep, t, ho, hex, hd, g, nd, hm, hb, hf, hn, hr, hl⟩ := R
  refine Calls.call_function_entry kind_sorted plain_sorted entry_sorted (args_sorted1 _) ?_
  unfold Builtin.«sorted»
  refine wpAny_bind (m := checkCount "sorted" 1 1 _) (wpAny_pure ?_)
  refine wpAny_bind (collect_set (A := A.in1) hh ⟨o, ho, hex.1, hd⟩ hf hb hr hl fun s1 vs k1 hz g1 o1 pm => ?_)
  have hvl : vs.length = n := by rw [pm.length_eq, List.length_map, Array.length_toList]; exact hn
  have hI : StrsAre vs (vs.map fun v => keyOf (0, v)) := strs_of vs fun v hv => by
    obtain ⟨e, he, q⟩ := List.mem_map.mp (pm.mem_iff.mp hv)
    obtain ⟨k, tk, h1, _⟩ := g e he
    exact ⟨k, tk, by rw [← q]; exact h1⟩
  have pk : (vs.map fun v => keyOf (0, v)).Perm (es.toList.map keyOf) := by
    have q := pm.map fun v => keyOf (0, v)
    rw [List.map_map] at q
    exact q
  refine wpAny_bind (wpAny_newList ?_ (by rw [hvl, sizeLine_eq]; omega))
  have hoL : (s1.heap.push (seqObj "list" vs.toArray 0)).get? s1.heap.objs.size = some (seqObj "list" vs.toArray 0) := Heap.get?_push_size _ rfl
  refine wpAny_bind (wpAny_holding (wpAny_call_entry slot_list_sort ⟨_, hoL, rfl⟩ entry_list_sort (list_sort_treeKAny strKind_oneLt hoL hI.keysOf (fun v₁ v₂ rest e => keyKind_strs (by rw [← e]; exact hI)) (by rw [hvl, sizeLine_eq]; omega) fun st' a1 a2 => ⟨_, rfl, ?_⟩) (args_list_sort _)))
  obtain ⟨ys, b1, b2, b3⟩ := sorted_out_str hI a1 a2
  obtain ⟨c, hc⟩ := sortedHeap_at (vs := vs) (out := (arrOf st').map (·.2)) hoL
  have pn : ys.Perm (es.toList.map keyOf) := b2.trans pk
  refine wpAny_pure ⟨_, rfl, hQ _ s1.heap.objs.size _ c ys (fun b u e => ?_) g1 o1 hz hc b1 b3 (pn.nodup_iff.mpr nd) (fun k => by rw [pn.mem_iff, ← hm k])⟩
  have q := k1 b u e
  have hlt := Heap.lt_size q
  show (sortedHeap (s1.heap.push (seqObj "list" vs.toArray 0)) s1.heap.objs.size vs _).get? b = some u
  rw [sortedHeap_old (Nat.ne_of_lt hlt) (by rw [size_push']; exact Nat.lt_succ_of_lt hlt)]
  exact Heap.get?_push_of_some _ q
end
end Gt

set_option Elab.async false
set_option linter.all false
set_option maxRecDepth 100000
set_option maxHeartbeats 4000000
namespace L2
open PySem PySem.Spec PyProof.Rows
/-! ### sorted texts -/
def leT (a b : Str) : Prop := ¬ (TL.tl b < TL.tl a)
theorem leT_trans {a b c : Str} (h1 : leT a b) (h2 : leT b c) : leT a c := by
  unfold leT at *
  exact List.not_lt.mpr (List.le_trans (List.not_lt.mp h1) (List.not_lt.mp h2))
theorem leT_anti {a b : Str} (h1 : leT a b) (h2 : leT b a) : a = b := TL.ext_tl (List.le_antisymm (List.not_lt.mp h1) (List.not_lt.mp h2))
theorem rising_pw : ∀ (p : Str) (l : List Str), risingS p l = true → (p :: l).Pairwise leT
  | p, [], _ => by simp
  | p, x :: r, h => by
    have h' : (!ltCps x.cps.toList p.cps.toList && risingS x r) = true := h
    rw [Bool.and_eq_true] at h'
    obtain ⟨h1, h2⟩ := h'
    have ih := rising_pw x r h2
    have px : leT p x := by
      rw [ltCps_eq] at h1
      unfold leT TL.tl
      simpa using h1
    refine List.pairwise_cons.mpr ⟨fun y hy => ?_, ih⟩
    rcases List.mem_cons.mp hy with rfl | hy
    · exact px
    · exact leT_trans px ((List.pairwise_cons.mp ih).1 y hy)
theorem sorted_pw : ∀ {l : List Str}, sortedS l = true → l.Pairwise leT
  | [], _ => List.Pairwise.nil
  | x :: r, h => rising_pw x r h
theorem sorted_one {l m : List Str} (hl : sortedS l = true) (hm : sortedS m = true) (p : l.Perm m) : l = m := p.eq_of_pairwise (fun a b _ _ h1 h2 => leT_anti h1 h2) (sorted_pw hl) (sorted_pw hm)
/-- sorted(set(xs)) == sorted(xs) -/
theorem set_sorted {xs ys zs : List Str} (h1 : sortedS ys = true) (n1 : ys.Nodup) (m1 : ∀ k, k ∈ ys ↔ k ∈ xs) (h2 : sortedS zs = true) (p2 : zs.Perm xs) : decide (ys = zs) = decide xs.Nodup := by
  refine decide_eq_decide.mpr ⟨fun e => ?_, fun hn => ?_⟩
  · subst e
    exact p2.nodup_iff.mp n1
  · refine sorted_one h1 h2 ?_
    refine (List.perm_ext_iff_of_nodup n1 (p2.nodup_iff.mpr hn)).mpr fun k => ?_
    rw [m1 k, p2.mem_iff]
section
variable {prog : Program} {w : World} {A : Around} {E : Value → Shared → Prop} {s : Shared}
theorem collect_tup {l : Addr} {vs : List Value} {Q : List Value → Shared → Prop} (hl : s.heap.IsTuple l vs.toArray)
    (h : Q vs { s with heap := (s.heap.push (seqObj "list" #[] 0)).update s.heap.objs.size (Obj.mapSeq (· ++ vs.toArray)) }) (hsz : vs.length ≤ sizeLine) :
    wpAny (model prog w) A (collect (.ref l)) Q E s := by
  obtain ⟨o, ho, hc, n, hd⟩ := id hl
  unfold collect
  refine wpAny_bind (wpAny_runValue (codeAny_builtin entry_proto_collect' ?_))
  show wpAny _ _ (do again (.builtin "list.__iadd__" ⟨[← newList [], .ref l], []⟩)) _ _ s
  refine wpAny_bind (wpAny_newList (wpAny_pure ⟨Code.quiet_builtin _ (by decide +kernel), codeAny_builtin entry_list_iadd' ?_⟩))
  show wpAny _ _ (Builtin.List.listExtendWith (.ref s.heap.objs.size) (.ref l) (.ref s.heap.objs.size)) _ _ { s with heap := s.heap.push (seqObj "list" #[] 0) }
  unfold Builtin.List.listExtendWith
  have ho' : (s.heap.push (seqObj "list" #[] 0)).get? l = some o := Heap.get?_push_of_some _ ho
  refine wpAny_bind (wpAny_typeOf (T := "tuple") ⟨o, ho', hc⟩ ?_)
  have ht : (Value.type "tuple" == Value.type "tuple") = true := by rfl
  rw [if_pos (by rw [ht]; simp)]
  refine wpAny_bind (listItems_at ho' hd ?_)
  refine wpAny_bind (listItems_at (xs := #[]) (n := 0) (Heap.get?_push_size _ rfl) rfl ?_)
  rw [if_neg (by simp)]
  refine wpAny_bind (listUpdate_at (xs := #[]) (n := 0) (Heap.get?_push_size _ rfl) rfl ?_ (Nat.zero_le _) (by show (#[] ++ vs.toArray).size ≤ sizeLine + 1; simp only [Array.size_append, List.size_toArray, List.length_nil]; omega))
  refine wpAny_pure ?_
  show wpAny (model prog w) A (do
      let o ← load s.heap.objs.size
      match o.data with
      | .seq xs _ => pure xs.toList
      | _ => unsupported "internal:collect") Q E { s with heap := (s.heap.push (seqObj "list" #[] 0)).update s.heap.objs.size (Obj.mapSeq (· ++ vs.toArray)) }
  refine wpAny_bind (wpAny_load (get?_update_seq (Heap.get?_push_size _ rfl) _) ?_)
  show wpAny _ _ (pure ((#[] : Array Value) ++ vs.toArray).toList) Q E _
  rw [show ((#[] : Array Value) ++ vs.toArray).toList = vs by simp]
  exact wpAny_pure h
theorem sorted_strsT {l : Addr} {vs : List Value} {ss : List Str} {Q : Value → Shared → Prop} (hl : s.heap.IsTuple l vs.toArray) (hS : StrsAre vs ss) (hL : vs.length ≤ sizeLine)
    (h : ∀ (out : Array Value) (ss' : List Str), StrsAre out.toList ss' → ss'.Perm ss → sortedS ss' = true → Q (.ref (s.heap.objs.size + 1)) { s with heap := sortedAll s.heap vs out }) :
    wpAny (model prog w) A (call (.builtin "sorted") [.ref l]) Q E s := by
  refine Calls.call_function_entry kind_sorted plain_sorted entry_sorted (args_sorted1 _) ?_
  unfold Builtin.«sorted»
  refine wpAny_bind (m := checkCount "sorted" 1 1 _) (wpAny_pure ?_)
  refine wpAny_bind (collect_tup hl ?_ hL)
  refine wpAny_bind (wpAny_newList ?_ hL)
  have hsz : ((s.heap.push (seqObj "list" #[] 0)).update s.heap.objs.size (Obj.mapSeq (· ++ vs.toArray))).objs.size = s.heap.objs.size + 1 := by
    rw [Heap.size_update, size_push']
  have hoL : (((s.heap.push (seqObj "list" #[] 0)).update s.heap.objs.size (Obj.mapSeq (· ++ vs.toArray))).push (seqObj "list" vs.toArray 0)).get? (s.heap.objs.size + 1) = some (seqObj "list" vs.toArray 0) := by
    rw [← hsz]; exact Heap.get?_push_size _ rfl
  show wpAny _ _ _ _ _ { s with heap := ((s.heap.push (seqObj "list" #[] 0)).update s.heap.objs.size (Obj.mapSeq (· ++ vs.toArray))).push (seqObj "list" vs.toArray 0) }
  rw [hsz]
  refine wpAny_bind (wpAny_holding (wpAny_call_entry slot_list_sort ⟨_, hoL, rfl⟩ entry_list_sort (list_sort_treeKAny strKind_oneLt hoL hS.keysOf (fun v₁ v₂ rest e => keyKind_strs (by rw [← e]; exact hS)) hL fun st' a1 a2 => ⟨_, rfl, ?_⟩) (args_list_sort _)))
  obtain ⟨ys, b1, b2, b3⟩ := sorted_out_str hS a1 a2
  exact wpAny_pure ⟨_, rfl, h _ ys b1 b2 b3⟩
end
section
variable {X : Cx}
/-- sorted(t), a tuple of texts -/
def rSortTS (K : PySem.W.Frag) : List V → Hp → VK → Prop := fun vs H Q => ∃ (a : Addr) (xs : List Str), vs = [V.ref a] ∧ SqT K H a (xs.map V.str) ∧
  ∀ (ys : List Str) (p : Addr), ys.Perm xs → sortedS ys = true → H p = none → Q (.ref p) (upd H p (.lst (ys.map V.str)))
theorem cr_sortTS : CallR X (.builtin "sorted") (rSortTS X.K) := by
  intro pins s σ H vs us Q I r h
  obtain ⟨a, xs, rfl, hs, q⟩ := h
  obtain ⟨its, rv, hl, hz⟩ := I.tuple hs
  rw [Vals.ref1 r]
  have hlen0 := rv.length
  refine sorted_strsT hl rv.strs (by rw [← hlen0]; exact hz) fun out ys h1 h2 h3 => ?_
  obtain ⟨ep, he'⟩ := PyProof.Rows.sortedAll_at s.heap its out
  have hlen : (ys.map V.str).length ≤ sizeLine := by
    rw [List.length_map, h2.length_eq]
    rw [List.length_map] at hz
    exact hz
  exact ⟨.ref _, upd H (s.heap.objs.size + 1) (.lst (ys.map V.str)), I.laid (t' := s.toks) (fun _ _ => PyProof.Rows.sortedAll_old) (Nat.le_succ _) ⟨hlen, out.toList, ep, vals_of_strs h1, he'⟩, rfl, q ys _ h2 h3 (I.hok.fresh (Nat.le_succ _))⟩
/-- sorted(set(xs)), xs a list or a tuple of texts -/
def tSortSet (K : PySem.W.Frag) (ta : TE) : TE := fun σ H Q => ta σ H fun x H1 => ∃ (l : Addr) (xs : List Str), x = .ref l ∧ (SqL K H1 l (xs.map V.str) ∨ SqT K H1 l (xs.map V.str)) ∧ xs.length < 60 ∧
  ∀ (ys : List Str) (p : Addr), sortedS ys = true → ys.Nodup → (∀ k, k ∈ ys ↔ k ∈ xs) → H1 p = none → Q (.ref p) (upd H1 p (.lst (ys.map V.str)))
theorem pe_sortSet {a : Expr} {ta : TE} {p p2 q pos : Pos} (hc : X.calm = true) (hg : Gl X "sorted") (hm : X.mg "sorted" = none) (hg2 : Gl X "set") (hm2 : X.mg "set" = none) (ha : PE X a ta)
    (na : starEach [a] X.env = (false, eval a X.env) :: starEach [] X.env := by rfl) : PE X (.Call (.Name "sorted" p) [.Call (.Name "set" p2) [a] [] q] [] pos) (tSortSet X.K ta) := by
  refine ⟨fun pins s σ H Q I h => ?_⟩
  refine Call_ (ld_blt I hg hm (show bootBuiltins "sorted" = some (.builtin "sorted") from by decide +kernel) (PyProof.Rows.callWith_builtin1 (PyProof.Rows.args_cons ?_ rfl) rfl rfl))
  refine Call_ (ld_blt I hg2 hm2 boot_set (PyProof.Rows.callWith_type1 (PyProof.Rows.args_cons (thn (ha.run pins s σ H _ I h) fun v s1 hv => PyProof.Rows.args_nil ?_) na) na rfl))
  obtain ⟨x, H1, I1, r1, l, xs, rfl, hq, h1, q1⟩ := hv
  cases r1
  have sb : (61 : Nat) < scanBound := by unfold scanBound; decide
  have back : ∀ (h2 : Heap) (t2 : Nat), Gt.SetS X.prog X.w h2 s1.heap.objs.size (Gs.mem xs xs.length) (Gs.dst xs xs.length) → (∀ b o, s1.heap.get? b = some o → h2.get? b = some o) →
      wpAny (model X.prog X.w) X.A (spliced (backTo pos (starEach [] X.env))) (fun vs s2 => wpAny (model X.prog X.w) X.A (call (.builtin "sorted") (Value.ref s1.heap.objs.size :: vs)) (EP X pins σ Q) X.xe s2) X.xe { s1 with heap := h2, toks := t2 } := fun h2 t2 hS keep => by
    refine PyProof.Rows.args_nil ?_
    have le := Gs.dst_le xs xs.length
    have I2 : Inv X pins σ H1 { s1 with heap := h2, toks := t2 } := I1.kept keep
    refine Gt.sorted_set hS (I1.ok.hd hc) (by omega) fun s' p out c ys k2 g2 o2 hz hp hI hs hn hmem => ?_
    have hsz : s1.heap.objs.size ≤ h2.objs.size := by
      obtain ⟨o, es, ep, t, ho, _⟩ := hS
      exact Nat.le_of_lt (Heap.lt_size ho)
    have fr : H1 p = none := I2.hok.fresh hz
    have hlen : (ys.map V.str).length ≤ sizeLine := by
      rw [List.length_map]
      have sub := nodup_sub_len ys xs hn fun k hk => (hmem k).mp hk |> fun z => by
        unfold Gs.mem at z
        have z := of_decide_eq_true z
        exact List.mem_of_mem_take z
      rw [sizeLine_eq]
      omega
    have J : Inv X pins σ (upd H1 p (.lst (ys.map V.str))) { { s1 with heap := h2, toks := t2 } with heap := s'.heap, gens := s'.gens, drawn := s'.drawn, toks := s'.toks } :=
      I2.call (ch := []) (Un.laid k2 hz fr) (I2.hok.laid k2 hz ⟨hlen, out.toList, c, vals_of_strs hI, hp⟩) (by rw [g2]; exact I2.bare) (fun _ z => nomatch z)
    have e : s' = { { s1 with heap := h2, toks := t2 } with heap := s'.heap, gens := s'.gens, drawn := s'.drawn, toks := s'.toks } := by
      cases s'
      cases s1
      cases o2
      rfl
    rw [e]
    refine ⟨.ref p, _, J, rfl, q1 ys p hs hn (fun k => ?_) fr⟩
    rw [hmem k]
    unfold Gs.mem
    rw [decide_eq_true_eq, List.take_length]
  have at_ : ∀ {its : List Value}, Vals (xs.map V.str) its → ∀ (i : Nat) (v : Value), its.toArray[i]? = some v → ∃ t, v = .str (xs.getD i Str.empty) t := fun {its} r i v hv => by
    have hv2 : its[i]? = some v := by simpa using hv
    have lx : i < xs.length := by
      obtain ⟨h3, _⟩ := List.getElem?_eq_some_iff.mp hv2
      have := r.length
      rw [List.length_map] at this
      omega
    obtain ⟨u, hu, ru⟩ := r.get (i := i) (x := .str xs[i]) (by rw [List.getElem?_map, List.getElem?_eq_getElem lx]; rfl)
    rw [hv2] at hu
    obtain rfl := Option.some.inj hu
    rw [Gs.getD_at lx]
    exact ru
  rcases hq with hq | hq
  · obtain ⟨its, r, pl, hz⟩ := I1.list hq
    have hl : xs.length = its.toArray.size := by rw [List.size_toArray, ← r.length, List.length_map]
    refine Gt.set_call (I1.ok.hd hc) (Gs.row_list pl.isList) hl (by omega) (at_ r) fun h2 t2 hS keep => back h2 t2 (by rw [hl]; exact hS) keep
  · obtain ⟨its, r, pl, hz⟩ := I1.tuple hq
    have hl : xs.length = its.toArray.size := by rw [List.size_toArray, ← r.length, List.length_map]
    refine Gt.set_call (I1.ok.hd hc) (Gs.row_tuple pl) hl (by omega) (at_ r) fun h2 t2 hS keep => back h2 t2 (by rw [hl]; exact hS) keep
theorem call_repr_bl : CallR X (.builtin "repr") (fun xs H Q => ∃ b : Bool, xs = [.bl b] ∧ Q (.str (if b then "True" else "False")) H) := by
  intro pins s σ H xs us Q I r h
  obtain ⟨b, rfl, q⟩ := h
  obtain ⟨u, rfl, r1⟩ := vals1 r
  cases r1
  exact PySem.P.repr_of_bool ⟨.str _, H, I.tok _, ⟨_, rfl⟩, q⟩
/-- != of lists, where one of them is empty -/
def rNeE (K : PySem.W.Frag) : R2 := fun x y H Q => ∃ (a b : Addr) (xs : List V), x = .ref a ∧ y = .ref b ∧ SqL K H a xs ∧ SqL K H b [] ∧ Q (.bl (!xs.isEmpty)) H
theorem op_neE (hu : X.A.units + 64 < cLine) : OpR X (compareOp .NotEq) (rNeE X.K) := by
  intro pins s σ H x y v u Q I rx ry h
  obtain ⟨a, b, xs, rfl, rfl, ha, hb, q⟩ := h
  cases xs with
  | nil => exact op_neD hu pins s σ H _ _ v u Q I rx ry ⟨.list [], .list [], .lst ha .nil, .lst hb .nil, rfl, rfl, q⟩
  | cons z r =>
    cases rx
    cases ry
    obtain ⟨its, r1, pl, hz⟩ := I.list ha
    obtain ⟨its2, r2, pl2, hz2⟩ := I.list hb
    have e1 := r1.length
    have e2 := r2.length
    refine PySem.SeqAt.RcNeAt.lists_lengths pl.isList pl2.isList ?_ (by omega) X.prog X.w X.xe _ ⟨.bl _, H, I, rfl, q⟩
    have e3 : its.length = r.length + 1 := e1.symm
    have e4 : its2.length = 0 := e2.symm
    simp [e3, e4]
/-- == of lists, where one of them is empty -/
def rEqE (K : PySem.W.Frag) : R2 := fun x y H Q => ∃ (a b : Addr) (xs : List V), x = .ref a ∧ y = .ref b ∧ SqL K H a xs ∧ SqL K H b [] ∧ Q (.bl xs.isEmpty) H
theorem op_eqE (hu : X.A.units + 64 < cLine) : OpR X (compareOp .Eq) (rEqE X.K) := by
  intro pins s σ H x y v u Q I rx ry h
  obtain ⟨a, b, xs, rfl, rfl, ha, hb, q⟩ := h
  cases xs with
  | nil => exact op_eqD hu pins s σ H _ _ v u Q I rx ry ⟨.list [], .list [], .lst ha .nil, .lst hb .nil, rfl, rfl, q⟩
  | cons z r =>
    cases rx
    cases ry
    obtain ⟨its, r1, pl, hz⟩ := I.list ha
    obtain ⟨its2, r2, pl2, hz2⟩ := I.list hb
    have e1 := r1.length
    have e2 := r2.length
    refine PySem.SeqAt.RcAt.lists_lengths pl.isList pl2.isList ?_ (by omega) X.prog X.w X.xe _ ⟨.bl _, H, I, rfl, q⟩
    have e3 : its.length = r.length + 1 := e1.symm
    have e4 : its2.length = 0 := e2.symm
    simp [e3, e4]
end
end L2

set_option Elab.async false
set_option linter.all false
set_option maxRecDepth 100000
set_option maxHeartbeats 4000000
namespace L2
open PySem PySem.Spec PyProof.Rows
abbrev signs (z : Str) : List V := (TL.tl z).map fun c => V.str (sg c)
theorem signs_strs (z : Str) : signs z = ((TL.tl z).map sg).map V.str := by rw [List.map_map]; rfl
theorem vals_signs {z : Str} : ∀ {k : Nat} {vs : List Value} {cs : List Nat}, vs.length = cs.length → (∀ (j : Nat) (v : Value), vs[j]? = some v → ∃ (c : Nat) (u : Tok), cs[j]? = some c ∧ v = Value.str ⟨#[c]⟩ u) → Vals (cs.map fun c => V.str (sg c)) vs
  | _, [], [], _, _ => .nil
  | _, [], c :: r, h, _ => by cases h
  | _, v :: r, [], h, _ => by cases h
  | k, v :: r, c :: cs, h, hs => by
    obtain ⟨c', u, h1, h2⟩ := hs 0 v rfl
    have e : c = c' := Option.some.inj h1
    subst e
    refine .cons ⟨u, h2⟩ (vals_signs (z := z) (k := k) (Nat.succ.inj h) fun j w hw => hs (j + 1) w hw)
section
variable {X : Cx}
/-- list(z) of a text -/
def rListS : List V → Hp → VK → Prop := fun xs H Q => ∃ z : Str, xs = [.str z] ∧ z.length ≤ 100000 ∧ ∀ l, H l = none → Q (.ref l) (upd H l (.lst (signs z)))
theorem call_listS (hc : X.calm = true) : CallR X (.type "list") rListS := by
  intro pins s σ H xs us Q I r h
  obtain ⟨z, rfl, hz, q⟩ := h
  obtain ⟨u, rfl, t, rfl⟩ := vals1 r
  have hz' : z.cps.size ≤ sizeLine := by
    rw [sizeLine_eq]
    have e : z.cps.size = z.length := rfl
    omega
  refine call_list_str (I.ok.hd hc) z t (fun h' tk acc' c' kp e hi => ?_) hz'
  obtain ⟨h1, h2⟩ := hi
  have rv : Vals (signs z) acc'.toList := vals_signs (z := z) (k := 0) (by rw [Array.length_toList, h1]; rfl) fun j v hv => by
    obtain ⟨c, u, hc2, rfl⟩ := h2 j v (by simpa using hv)
    refine ⟨c, u, ?_, rfl⟩
    show z.cps.toList[j]? = some c
    rw [Array.getElem?_toList]
    exact hc2
  have hlen : (signs z).length ≤ sizeLine := by
    rw [List.length_map, TL.len_tl z |>.symm]
    exact hz'
  exact ⟨.ref s.heap.objs.size, _, I.laid (t' := tk) kp (Nat.le_refl _) (show ObjOk X.prog X.w _ h' _ (.lst (signs z)) from ⟨hlen, acc'.toList, c', rv, e⟩), rfl, q _ (I.hok.fresh (Nat.le_refl _))⟩
end
/-! ### values of other kinds -/
section
variable {K : PySem.W.Frag} {H : Hp}
theorem NmV.non : NmV K H .non false := .inr ⟨rfl, _, .base .non, kit_ty (by decide +kernel)⟩
theorem NmV.int (i : Int) : NmV K H (.int i) false := .inr ⟨rfl, _, .base (.int i), kit_ty (by decide +kernel)⟩
theorem NmV.lst {a : Addr} {xs : List V} (e : H a = some (.lst xs)) : NmV K H (.ref a) false := .inr ⟨rfl, _, .base (.lst e), kit_ty (by decide +kernel)⟩
theorem NmV.tup {a : Addr} {xs : List V} (e : H a = some (.tup xs)) : NmV K H (.ref a) false := .inr ⟨rfl, _, .base (.tup e), kit_ty (by decide +kernel)⟩
theorem NmV.dK {a : Addr} {kvs : List (Key × V)} (e : H a = some (.dK kvs)) : NmV K H (.ref a) false := .inr ⟨rfl, _, .base (.dK e), kit_ty (by decide +kernel)⟩
theorem NmsV.non : NmsV K H .non false := .inr ⟨rfl, _, .base .non, kit_ty (by decide +kernel)⟩
theorem NmsV.int (i : Int) : NmsV K H (.int i) false := .inr ⟨rfl, _, .base (.int i), kit_ty (by decide +kernel)⟩
theorem NmsV.txt (z : Str) : NmsV K H (.str z) false := .inr ⟨rfl, _, .base (.str z), kit_ty (by decide +kernel)⟩
theorem NmsV.lst {a : Addr} {xs : List V} (e : H a = some (.lst xs)) : NmsV K H (.ref a) false := .inr ⟨rfl, _, .base (.lst e), kit_ty (by decide +kernel)⟩
theorem NmsV.dK {a : Addr} {kvs : List (Key × V)} (e : H a = some (.dK kvs)) : NmsV K H (.ref a) false := .inr ⟨rfl, _, .base (.dK e), kit_ty (by decide +kernel)⟩
theorem pairedImp {α β : Type} {R S : α → β → Prop} (h : ∀ a b, R a b → S a b) : ∀ {xs : List α} {ys : List β}, Paired R xs ys → Paired S xs ys
  | _, _, .nil => .nil
  | _, _, .cons r t => .cons (h _ _ r) (pairedImp h t)
theorem NmsV.same {H' : Hp} {x : V} {b : Bool} (s : Same H H') (h : NmsV K H x b) : NmsV K H' x b := by
  rcases h with ⟨a, xs, bs, e, hS, hT, hP, hb⟩ | ⟨e, t, ht, hk⟩
  · exact .inl ⟨a, xs, bs, e, gSeqT s hS, hT.same s, pairedImp (fun _ _ q => q.same s) hP, hb⟩
  · exact .inr ⟨e, t, ht.same s, hk⟩
end
/-! ### what an integer is -/
def IntV (K : PySem.W.Frag) (H : Hp) (x : V) (b : Bool) : Prop :=
  (∃ i : Int, x = .int i ∧ b = (decide (-(10 ^ 60) < i) && decide (i < 10 ^ 60))) ∨ ((∃ c, x = .bl c) ∧ b = false) ∨ (b = false ∧ ∃ t, TyX K H x t ∧ PySem.W.kitOne K t (.type "int") = some false)
def spIsInt (K : PySem.W.Frag) : Sp := fun vs H Q _ => ∃ (x : V) (b : Bool), vs = [x] ∧ IntV K H x b ∧ Q (.bl b) H
section
variable {K : PySem.W.Frag} {H : Hp}
theorem IntV.non : IntV K H .non false := .inr (.inr ⟨rfl, _, .base .non, kit_ty (by decide +kernel)⟩)
theorem IntV.txt (z : Str) : IntV K H (.str z) false := .inr (.inr ⟨rfl, _, .base (.str z), kit_ty (by decide +kernel)⟩)
theorem IntV.lst {a : Addr} {xs : List V} (e : H a = some (.lst xs)) : IntV K H (.ref a) false := .inr (.inr ⟨rfl, _, .base (.lst e), kit_ty (by decide +kernel)⟩)
theorem IntV.tup {a : Addr} {xs : List V} (e : H a = some (.tup xs)) : IntV K H (.ref a) false := .inr (.inr ⟨rfl, _, .base (.tup e), kit_ty (by decide +kernel)⟩)
theorem IntV.dK {a : Addr} {kvs : List (Key × V)} (e : H a = some (.dK kvs)) : IntV K H (.ref a) false := .inr (.inr ⟨rfl, _, .base (.dK e), kit_ty (by decide +kernel)⟩)
theorem IntV.bl (c : Bool) : IntV K H (.bl c) false := .inr (.inl ⟨⟨c, rfl⟩, rfl⟩)
end
/-- what is laid anew, without its heap's words -/
theorem newO {H : Hp} {o : HO} {Q : VK} (h : ∀ (p : Addr) (H' : Hp), H p = none → H' p = some o → Same H H' → Q (.ref p) H') : ∀ p, H p = none → Q (.ref p) (upd H p o) := fun p hp => h p _ hp upd_same (gSame_new hp)
theorem sum8 : ∀ ss : List Str, (∀ s ∈ ss, isW s = true) → (ss.map (·.length)).sum ≤ ss.length * 8
  | [], _ => Nat.le_refl _
  | s :: r, h => by
    have h1 := (isW_len (h s (List.mem_cons_self ..))).2
    have h2 := sum8 r fun x hx => h x (List.mem_cons_of_mem _ hx)
    rw [List.map_cons, List.sum_cons, List.length_cons]
    omega
theorem IntV.same {K : PySem.W.Frag} {H H' : Hp} {x : V} {b : Bool} (s : Same H H') (h : IntV K H x b) : IntV K H' x b := by
  rcases h with h | h | ⟨e, t, ht, hk⟩
  · exact .inl h
  · exact .inr (.inl h)
  · exact .inr (.inr ⟨e, t, ht.same s, hk⟩)
theorem c60 : CPowW 10 60 := ⟨by decide, by decide +kernel⟩
theorem c54 : CPowW 10 54 := ⟨by decide, by decide +kernel⟩
theorem c55 : CPowW 10 55 := ⟨by decide, by decide +kernel⟩
theorem c39 : CPowW 10 39 := ⟨by decide, by decide +kernel⟩
theorem c6 : CPowW 10 6 := ⟨by decide, by decide +kernel⟩
end L2

set_option Elab.async false
set_option linter.all false
set_option maxRecDepth 100000
set_option maxHeartbeats 4000000
/-! what is laid anew stands in a heap of which only that is told -/
namespace L2
open PySem PySem.Spec PyProof.Rows
def New (H : Hp) (o : HO) (Q : VK) : Prop := ∀ (p : Addr) (H' : Hp), H p = none → H' p = some o → Same H H' → Q (.ref p) H'
theorem New.go {H : Hp} {o : HO} {Q : VK} (h : New H o Q) (p : Addr) (hp : H p = none) : Q (.ref p) (upd H p o) := h p _ hp upd_same (gSame_new hp)
def tTupN (t : TA) : TE := fun σ H Q => t σ H fun xs H1 => xs.length ≤ sizeLine ∧ New H1 (.tup xs) Q
def tLstN (t : TA) : TE := fun σ H Q => t σ H fun xs H1 => xs.length ≤ sizeLine ∧ New H1 (.lst xs) Q
section
variable {X : Cx} {es : List Expr} {t : TA} {pos : Pos}
theorem pe_tupN {x1} (h : PA X es t) : PE X (.Tuple es x1 pos) (tTupN t) := by
  refine ⟨fun pins s σ H Q I hq => ?_⟩
  refine wpAny_Tuple_spliced (thn (h.run pos pins s σ H _ I hq) fun us s1 ⟨xs, H1, I1, r, z, q⟩ => ⟨by rw [← r.length]; exact z, ?_⟩)
  have hf : H1 s1.heap.objs.size = none := I1.hok.fresh (Nat.le_refl _)
  refine ⟨.ref s1.heap.objs.size, upd H1 s1.heap.objs.size (.tup xs), I1.laid (t' := s1.toks) (fun b u e => Heap.get?_push_of_some _ e) (Nat.le_refl _) ?_, rfl, q.go _ hf⟩
  exact ⟨z, us, r, ⟨_, Heap.get?_push_size _ rfl, rfl, _, rfl⟩⟩
theorem pe_lstN (h : PA X es t) : PE X (.List es pos) (tLstN t) := by
  refine ⟨fun pins s σ H Q I hq => ?_⟩
  refine wpAny_List_spliced (thn (h.run pos pins s σ H _ I hq) fun us s1 ⟨xs, H1, I1, r, z, q⟩ => ⟨by rw [← r.length]; exact z, ?_⟩)
  have hf : H1 s1.heap.objs.size = none := I1.hok.fresh (Nat.le_refl _)
  refine ⟨.ref s1.heap.objs.size, upd H1 s1.heap.objs.size (.lst xs), I1.laid (t' := s1.toks) (fun b u e => Heap.get?_push_of_some _ e) (Nat.le_refl _) ?_, rfl, q.go _ hf⟩
  exact ⟨z, us, 0, r, Heap.get?_push_size _ rfl⟩
def rCatN : R2 := fun x y H Q => ∃ l b xs zs, x = .ref l ∧ y = .ref b ∧ H l = some (.lst xs) ∧ H b = some (.lst zs) ∧ xs.length + zs.length ≤ sizeLine ∧ New H (.lst (xs ++ zs)) Q
theorem op_catN : OpR X (binaryOp .Add) rCatN := fun pins s σ H x y v u Q I rx ry ⟨l, b, xs, zs, e1, e2, h1, h2, hl, q⟩ => op_cat pins s σ H x y v u Q I rx ry ⟨l, b, xs, zs, e1, e2, h1, h2, hl, q.go⟩
def rSlLN (K : PySem.W.Frag) : V → Option Int → Option Int → Hp → VK → Prop := fun x lo hi H Q => ∃ a xs, x = .ref a ∧ SqL K H a xs ∧ New H (.lst (cutV xs lo hi)) Q
theorem sl_listN : SlR X (rSlLN X.K) := fun pins s σ H x v vl vu lo hi sl Q I rx hs pl pu ⟨a, xs, e, hq, q⟩ => sl_list pins s σ H x v vl vu lo hi sl Q I rx hs pl pu ⟨a, xs, e, hq, q.go⟩
def rTupN (K : PySem.W.Frag) : List V → Hp → VK → Prop := fun xs H Q => ∃ p ys, xs = [.ref p] ∧ SqL K H p ys ∧ New H (.tup ys) Q
theorem call_tupN : CallR X (.type "tuple") (rTupN X.K) := fun pins s σ H xs us Q I r ⟨p, ys, e, h, q⟩ => call_tuple_of pins s σ H xs us Q I r ⟨p, ys, e, .inl ⟨h, q.go⟩⟩
def rLstN (K : PySem.W.Frag) : List V → Hp → VK → Prop := fun xs H Q => ∃ p ys, xs = [.ref p] ∧ (SqL K H p ys ∨ SqT K H p ys) ∧ New H (.lst ys) Q
theorem call_lstN : CallR X (.type "list") (rLstN X.K) := fun pins s σ H xs us Q I r ⟨p, ys, e, h, q⟩ => call_list_of pins s σ H xs us Q I r ⟨p, ys, e, h, q.go⟩
def rListSN : List V → Hp → VK → Prop := fun xs H Q => ∃ z : Str, xs = [.str z] ∧ z.length ≤ 100000 ∧ New H (.lst (signs z)) Q
theorem call_listSN (hc : X.calm = true) : CallR X (.type "list") rListSN := fun pins s σ H xs us Q I r ⟨z, e, h, q⟩ => call_listS hc pins s σ H xs us Q I r ⟨z, e, h, q.go⟩
def tDNewTN : TE := fun _ H Q => New H (.dT []) Q
theorem pe_dnewTN : PE X (.Dict [] [] pos) tDNewTN := ⟨fun pins s σ H Q I h => pe_dnewT.run pins s σ H Q I h.go⟩
def tDNewN : TE := fun _ H Q => New H (.dK []) Q
theorem pe_dnewN : PE X (.Dict [] [] pos) tDNewN := ⟨fun pins s σ H Q I h => pe_dnewK.run pins s σ H Q I h.go⟩
end
theorem New.kt {H : Hp} {o : HO} {Q : VK} {t : Addr} (hT : Tp H t) (h : ∀ (p : Addr) (H' : Hp), H' p = some o → Same H H' → Tp H' t → Q (.ref p) H') : New H o Q := fun p H' _ e s => h p H' e s (by
  obtain ⟨a, b, c, q⟩ := hT
  exact ⟨a, b, c, s _ _ q⟩)
end L2

set_option Elab.async false
set_option linter.all false
set_option maxRecDepth 100000
set_option maxHeartbeats 4000000
/-! texts of few signs; texts split and put together -/
namespace L2
open PySem PySem.Spec PyProof.Rows
def lev (cs : List Nat) : Nat → List Str
  | 0 => [Str.ofString ""]
  | n + 1 => (lev cs n).flatMap fun z => cs.map fun c => z ++ sg c
def allT (cs : List Nat) : Nat → List Str
  | 0 => [Str.ofString ""]
  | n + 1 => allT cs n ++ lev cs (n + 1)
theorem tl_sg (z : Str) (c : Nat) : TL.tl (z ++ sg c) = TL.tl z ++ [c] := by
  rw [TL.tl_append]
  rfl
theorem tl_empty : TL.tl (Str.ofString "") = [] := by decide +kernel
theorem fm_len {α β : Type} (f : α → List β) (k : Nat) : ∀ l : List α, (∀ a ∈ l, (f a).length = k) → (l.flatMap f).length = l.length * k
  | [], _ => by simp
  | a :: r, h => by
    have ih := fm_len f k r fun x hx => h x (List.mem_cons_of_mem _ hx)
    rw [List.flatMap_cons, List.length_append, h a (List.mem_cons_self ..), ih, List.length_cons, Nat.succ_mul]
    omega
theorem lev_len (cs : List Nat) : ∀ n, (lev cs n).length = cs.length ^ n
  | 0 => by simp [lev]
  | n + 1 => by
    unfold lev
    rw [fm_len _ cs.length _ (fun a _ => List.length_map ..), lev_len cs n, Nat.pow_succ]
theorem lev_of {cs : List Nat} : ∀ {n : Nat} {z : Str}, z ∈ lev cs n → (TL.tl z).length = n ∧ ∀ c ∈ TL.tl z, c ∈ cs
  | 0, z, h => by
    rw [List.mem_singleton.mp h, tl_empty]
    exact ⟨rfl, by simp⟩
  | n + 1, z, h => by
    obtain ⟨y, hy, hz⟩ := List.mem_flatMap.mp h
    obtain ⟨c, hc, rfl⟩ := List.mem_map.mp hz
    obtain ⟨h1, h2⟩ := lev_of hy
    rw [tl_sg]
    refine ⟨by rw [List.length_append, h1]; rfl, fun d hd => ?_⟩
    rcases List.mem_append.mp hd with h | h
    · exact h2 d h
    · rw [List.mem_singleton.mp h]
      exact hc
theorem app_sg {a b : Str} {c d : Nat} (h : a ++ sg c = b ++ sg d) : a = b ∧ c = d := by
  have e := congrArg TL.tl h
  rw [tl_sg, tl_sg] at e
  have e1 := List.append_inj_left' e rfl
  have e2 := List.append_inj_right' e rfl
  cases e2
  exact ⟨TL.ext_tl e1, rfl⟩
theorem lev_nd {cs : List Nat} (hc : cs.Nodup) : ∀ n, (lev cs n).Nodup
  | 0 => by simp [lev]
  | n + 1 => by
    unfold lev
    rw [List.nodup_iff_pairwise_ne, List.pairwise_flatMap]
    refine ⟨fun z _ => ?_, ?_⟩
    · rw [List.pairwise_map]
      exact (List.nodup_iff_pairwise_ne.mp hc).imp fun {a b} ne e => ne (app_sg e).2
    · refine (List.nodup_iff_pairwise_ne.mp (lev_nd hc n)).imp fun {a b} ne x hx y hy e => ?_
      obtain ⟨c, _, rfl⟩ := List.mem_map.mp hx
      obtain ⟨d, _, rfl⟩ := List.mem_map.mp hy
      exact ne (app_sg e).1
theorem allT_of {cs : List Nat} : ∀ {n : Nat} {z : Str}, z ∈ allT cs n → (TL.tl z).length ≤ n ∧ ∀ c ∈ TL.tl z, c ∈ cs
  | 0, z, h => by
    rw [List.mem_singleton.mp h, tl_empty]
    exact ⟨Nat.le_refl _, by simp⟩
  | n + 1, z, h => by
    rcases List.mem_append.mp h with h | h
    · obtain ⟨h1, h2⟩ := allT_of h
      exact ⟨by omega, h2⟩
    · obtain ⟨h1, h2⟩ := lev_of h
      exact ⟨by omega, h2⟩
theorem allT_nd {cs : List Nat} (hc : cs.Nodup) : ∀ n, (allT cs n).Nodup
  | 0 => by simp [allT]
  | n + 1 => by
    unfold allT
    rw [List.nodup_append]
    refine ⟨allT_nd hc n, lev_nd hc (n + 1), fun a ha b hb e => ?_⟩
    subst e
    have h1 := (allT_of ha).1
    have h2 := (lev_of hb).1
    omega
theorem lev_few {cs : List Nat} (h : cs.length = 4) {n : Nat} (hn : n ≤ 4) : (lev cs n).length ≤ 256 := by
  rw [lev_len, h]
  exact Nat.pow_le_pow_right (by decide) hn
theorem allT_few {cs : List Nat} (h : cs.length = 4) : ∀ {n : Nat}, n ≤ 4 → (allT cs n).length ≤ (n + 1) * 256
  | 0, _ => by show 1 ≤ 256; decide
  | n + 1, hn => by
    have h1 := allT_few h (n := n) (by omega)
    have h2 := lev_few h hn
    unfold allT
    rw [List.length_append]
    omega
/-! ### split -/
theorem spl_ne (S : List Nat) : ∀ (l : List Nat) (k : Nat) (acc : List Nat), TL.spl S k acc l ≠ []
  | [], k, acc => by rw [TL.spl_nil]; simp
  | c :: r, k + 1, acc => spl_ne S r k acc
  | c :: r, 0, acc => by
    cases hp : TL.pre S (c :: r) with
    | true => rw [TL.spl_hit hp]; simp
    | false => rw [TL.spl_miss hp]; exact spl_ne S r 0 _
theorem spl_sub (S : List Nat) : ∀ (l : List Nat) (k : Nat) (acc p : List Nat), p ∈ TL.spl S k acc l → ∀ c ∈ p, c ∈ acc ∨ c ∈ l
  | [], k, acc, p, h, c, hc => by
    rw [TL.spl_nil] at h
    rw [List.mem_singleton.mp h] at hc
    exact .inl hc
  | d :: r, k + 1, acc, p, h, c, hc => (spl_sub S r k acc p h c hc).imp id (List.mem_cons_of_mem _)
  | d :: r, 0, acc, p, h, c, hc => by
    cases hp : TL.pre S (d :: r) with
    | true =>
      rw [TL.spl_hit hp] at h
      rcases List.mem_cons.mp h with rfl | h
      · exact .inl hc
      · rcases spl_sub S r _ [] p h c hc with z | z
        · cases z
        · exact .inr (List.mem_cons_of_mem _ z)
    | false =>
      rw [TL.spl_miss hp] at h
      rcases spl_sub S r 0 _ p h c hc with z | z
      · rcases List.mem_append.mp z with z | z
        · exact .inl z
        · rw [List.mem_singleton.mp z]
          exact .inr (List.mem_cons_self ..)
      · exact .inr (List.mem_cons_of_mem _ z)
theorem spl_no (s : Nat) : ∀ (l : List Nat) (acc p : List Nat), s ∉ acc → p ∈ TL.spl [s] 0 acc l → s ∉ p
  | [], acc, p, ha, h => by
    rw [TL.spl_nil] at h
    rw [List.mem_singleton.mp h]
    exact ha
  | d :: r, acc, p, ha, h => by
    cases hp : TL.pre [s] (d :: r) with
    | true =>
      rw [TL.spl_hit hp] at h
      rcases List.mem_cons.mp h with rfl | h
      · exact ha
      · exact spl_no s r [] p (by simp) h
    | false =>
      rw [TL.spl_miss hp] at h
      refine spl_no s r _ p (fun z => ?_) h
      rcases List.mem_append.mp z with z | z
      · exact ha z
      · have e := List.mem_singleton.mp z
        rw [e] at hp
        simp [TL.pre] at hp
theorem split_tl (z : Str) : (Txt.split z " ").map TL.tl = TL.spl [32] 0 [] (TL.tl z) := by
  have h := TL.split_spl z " " (by decide +kernel) (TL.kind_ok (by decide +kernel))
  rw [tl_sp] at h
  exact h
theorem split_ne (z : Str) : Txt.split z " " ≠ [] := fun h => by
  have e := split_tl z
  rw [h] at e
  exact spl_ne _ _ _ _ e.symm
theorem split_part {z p : Str} (h : p ∈ Txt.split z " ") : (∀ c ∈ TL.tl p, c ∈ TL.tl z) ∧ 32 ∉ TL.tl p := by
  have hm : TL.tl p ∈ (Txt.split z " ").map TL.tl := List.mem_map.mpr ⟨p, h, rfl⟩
  rw [split_tl] at hm
  exact ⟨fun c hc => (spl_sub _ _ _ _ _ hm c hc).elim (fun z => nomatch z) id, spl_no 32 _ _ _ (by simp) hm⟩
theorem jn_split (z : Str) : jn (Txt.split z " ") = z := by
  unfold jn
  rw [TL.join_eq]
  exact StrLaws.join_split z " "
theorem wr_rd {z : Str} : wr (rd z) = z := by
  unfold rd
  by_cases e : z = "-"
  · rw [if_pos e, e]
    rfl
  · rw [if_neg e, wr_jn (split_ne z), jn_split]
end L2

set_option Elab.async false
set_option linter.all false
set_option maxRecDepth 100000
set_option maxHeartbeats 4000000
/-! except A as n, then more clauses -/
namespace L2
open PySem PySem.Spec PyProof.Rows
def wAsMany (K : PySem.W.Frag) (c : Value) (i : Nat) (ts : Addr → Value → Option Addr → TS) (l : List (Value × (Addr → Value → Option Addr → TS))) (Wout : WX) (D : Ends) : WX := fun cls d σ H =>
  ∃ b, PySem.W.exmOne K cls c = some b ∧ (b = true → ∀ a, H a = none → ts a cls d { nx := fun σ' H' => D.nx (σ'.set i none) H', rt := D.rt, bk := fun σ' H' => D.bk (σ'.set i none) H', ct := fun σ' H' => D.ct (σ'.set i none) H' } (σ.set i (some (.ref a))) H) ∧
    (b = false → wMany K Wout D l cls d σ H)
section
variable {X : Cx} {x n : Str} {c : Value} {i : Nat} {body suite : List Stmt} {b₀ : Stmt} {np pos pos' : Pos} {tb : WX → TS} {ts : Addr → Value → Option Addr → TS} {Wout : WX} {hds : List ExceptHandler} {l : List (Value × (Addr → Value → Option Addr → TS))}
theorem ps_try_asMany (hs : X.stack = X.env :: X.outer) (hf : X.env.frame = some X.env.locals) (hN : X.N.Nodup) (hi : X.N[i]? = some n) (hln : X.env.kindOf n = some .local) (hc : Names X x c) (tk : Takes X Wout)
    (hb : ∀ (W : WX) (pn : List (Addr × Obj)) (xe : Value → Shared → Prop), Takes (X.tr pn xe) W → PassesOwn (model X.prog X.w) X.A X.env xe → PSs (X.tr pn xe) body (tb W))
    (hsu : ∀ (a : Addr) (oe : Obj) (cls : Value) (d : Option Addr) (pn : List (Addr × Obj)), Zc cls d oe → (∃ vs, oe.data = .fields vs) → PSs (X.suite a ((a, oe) :: pn)) (b₀ :: suite) (ts a cls d)) (hh : HdsOk X hds l) :
    PS X (.Try body (.ExceptHandler (some (.Name x np)) (some n) (b₀ :: suite) pos' :: hds) [] [] pos) (fun D σ H => tb (wAsMany X.K c i ts l Wout D) D σ H) := by
  refine ⟨fun pins s σ H D I h => ?_⟩
  have ok := I.ok
  have hfr : X.A.frames = some (X.env :: X.outer) := by rw [ok.frames, hs]
  have hloc : Loc X.env.scope n := .inl hln
  refine wpAny_Try_except (wpAny_mono ((hb (wAsMany X.K c i ts l Wout D) (X.pn ++ pins) _ (fun u s' xx => ?_) PassesOwn.looking).run [] s σ H D (I.toTry _) h) (fun f s1 hsp => ?_) (fun e s1 he => he))
  · obtain ⟨a, B, sI, pins', σ', H', cls, d, rfl, J', nb, up, sky, na, os, ag, b, hb1, hyes, hno⟩ := xx
    have J : Inv X pins σ' H' sI := J'.ofTry ok
    have sky' : Sky B (X.env :: X.outer) a (Zc cls d) X.env.locals s'.heap := by rw [← hs]; exact sky
    show wpAny (model X.prog X.w) X.A (noteFrame (.ref a) X.env) _ _ _
    refine Sky.land Zc.steady hfr hf sky' fun h3 fl3 up3 => ?_
    have J3 : Inv X pins σ' H' { s' with heap := h3 } := J.landed nb fl3.1 (up.trans up3) os ag
    obtain ⟨oe3, vs3, he3, hz3, hd3⟩ := fl3.there
    have nfr : a ∉ frs (X.env :: X.outer) := fun hm => by
      obtain ⟨_, o', e', hnf⟩ := fl3.2.2.1.mem hm
      rw [he3] at e'
      cases e'
      exact hnf _ hd3
    have nL : a ≠ X.env.locals := fun z => nfr (List.mem_filterMap.mpr ⟨X.env, List.mem_cons_self, by rw [hf, z]⟩)
    have nF : a ∉ X.fs := fun hm => by
      obtain ⟨e, he, q⟩ := List.mem_filterMap.mp hm
      exact nfr (List.mem_filterMap.mpr ⟨e, List.mem_cons_of_mem _ he, q⟩)
    have S3 := J3.suite he3 hd3 na nL nF
    have LT : PySem.W.Looks (model X.prog X.w) h3 (typeOf (.ref a)) cls := fun A Q E s k q => wpAny_typeOf_ref (k _ _ he3) (by rw [hz3.1]; exact q)
    have test : ∀ {x : Str} {c : Value} {np : Pos} {Q : Value → Shared → Prop} {E : Value → Shared → Prop}, Names X x c → Q c { s' with heap := h3 } → wpAny (model X.prog X.w) (X.A.mark (some (.ref a))) (eval (.Name x np) X.env) Q E { s' with heap := h3 } := fun {x c np Q E} hc q => by
      obtain ⟨hg, hdbg, hm | ⟨hm, hv, hnn⟩⟩ := hc
      · exact ld_glob (X := X.suite a ((a, oe3) :: (X.pn ++ pins))) S3 hg hm q hdbg
      · exact ld_blt (X := X.suite a ((a, oe3) :: (X.pn ++ pins))) S3 hg hm hv q hnn hdbg
    have go : ∀ {hds' : List ExceptHandler} {l' : List (Value × (Addr → Value → Option Addr → TS))}, HdsOk X hds' l' → wMany X.K Wout D l' cls d σ' H' →
        wpAny (model X.prog X.w) X.A (handleBy (.ref a) X.env hds') (SP X pins D) X.xe { s' with heap := h3 } := by
      intro hds' l' hk
      induction hk with
      | nil =>
        intro w
        refine wpAny_handleBy_nil ?_
        obtain ⟨k1, k2, k3, oe, vs, T, oT, ts', he, hz, hd, h1, hr⟩ := id fl3
        unfold PySem.passOn
        refine wpAny_bind (wpAny_field he hd h1 ?_)
        rw [if_neg (show ¬ ((Value.ref T == Value.none) = true) from by simp)]
        have fin : wpAny (model X.prog X.w) X.A (setFlight (.ref a) X.env.frame) (fun _ s4 => wpAny (model X.prog X.w) X.A (throw (.ref a) : Sem Flow) (SP X pins D) X.xe s4) X.xe { s' with heap := h3 } := by
          rw [hf]
          refine HandSPX.setFlight_upZ fl3 fun h4 hh4 up4 => wpAny_throw (tk _ _ ?_)
          exact ⟨a, B, sI, pins, σ', H', cls, d, rfl, J, nb, (up.trans up3).trans up4, .inr (.inr (by rw [hs]; exact hh4)), na, os, ag, w⟩
        first
          | exact wpAny_bind (wpAny_pure (wpAny_bind fin))
          | exact wpAny_bind fin
      | @cons x2 c2 ts2 b2 suite2 np2 pos2 hds2 l2 hc2 hsu2 r2 ih =>
        intro w
        obtain ⟨b', hb', hyes', hno'⟩ := w
        refine wpAny_handleBy_cons (codeAny_handlers_test ?_) (by intro q; cases q)
        refine test hc2 ((PySem.W.exm_one (M := model X.prog X.w) (J3.kIn) LT hb').here ?_)
        cases b' with
        | true =>
          refine codeAny_handlers_suite ?_
          refine HandSPX.lands_againZ fl3 fun h4 fl4 up4 => ?_
          have J4 : Inv X pins σ' H' { s' with heap := h4 } := J.landed nb fl4.1 ((up.trans up3).trans up4) os ag
          obtain ⟨oe4, vs4, he4, hz4, hd4⟩ := fl4.there
          have S4 := J4.suite he4 hd4 na nL nF
          refine wpAny_mono ((hsu2 a oe4 cls d (X.pn ++ pins) hz4 ⟨_, hd4⟩).run [] _ _ H' _ S4 (hyes' rfl a na)) (fun f s6 hsp => ?_) (fun _ _ z => False.elim z)
          cases f with
          | next =>
            obtain ⟨σ6, H6, S6, q6⟩ := hsp
            exact ⟨_, _, S6.unsuite ok, q6⟩
          | brk =>
            obtain ⟨σ6, H6, S6, q6⟩ := hsp
            exact ⟨_, _, S6.unsuite ok, q6⟩
          | cont =>
            obtain ⟨σ6, H6, S6, q6⟩ := hsp
            exact ⟨_, _, S6.unsuite ok, q6⟩
          | ret u =>
            obtain ⟨v6, σ6, H6, S6, r6, q6⟩ := hsp
            exact ⟨_, _, _, S6.unsuite ok, r6, q6⟩
        | false =>
          show wpAny _ X.A (handleBy (.ref a) X.env hds2) _ _ _
          exact ih (hno' rfl)
    refine wpAny_handleBy_cons (codeAny_handlers_test ?_) (by intro q; cases q)
    refine test hc ((PySem.W.exm_one (M := model X.prog X.w) (J3.kIn) LT hb1).here ?_)
    cases b with
    | false =>
      show wpAny _ X.A (handleBy (.ref a) X.env hds) _ _ _
      exact go hh (hno rfl)
    | true =>
      refine codeAny_handlers_suite_as ?_
      refine HandSPX.lands_againZ fl3 fun h4 fl4 up4 => ?_
      have J4 : Inv X pins σ' H' { s' with heap := h4 } := J.landed nb fl4.1 ((up.trans up3).trans up4) os ag
      obtain ⟨oe4, vs4, he4, hz4, hd4⟩ := fl4.there
      have S4 := J4.suite he4 hd4 na nL nF
      refine store_ok (X := X.suite a ((a, oe4) :: (X.pn ++ pins))) (v := .ref a) S4 hN hi hloc rfl (fun s5 S5 => ?_) (.inr hln)
      refine wpAny_mono ((hsu a oe4 cls d (X.pn ++ pins) hz4 ⟨_, hd4⟩).run [] s5 _ H' _ S5 (hyes rfl a na)) (fun f s6 hsp => ?_) (fun _ _ z => False.elim z)
      have end_ : ∀ {σ6 : St} {H6 : Hp} {Q : Shared → Prop}, Inv (X.suite a ((a, oe4) :: (X.pn ++ pins))) [] σ6 H6 s6 → (∀ s7, Inv X pins (σ6.set i none) H6 s7 → Q s7) →
          wpAny (model X.prog X.w) X.A (do bindName X.env n .none; unbindBehindTheSuite X.env n pos') (fun _ s7 => Q s7) X.xe s6 := fun {σ6 H6 Q} S6 hq => gone_ok (S6.unsuite ok) hN hi hln hq
      cases f with
      | next =>
        obtain ⟨σ6, H6, S6, q6⟩ := hsp
        exact end_ S6 fun s7 J7 => ⟨_, _, J7, q6⟩
      | brk =>
        obtain ⟨σ6, H6, S6, q6⟩ := hsp
        exact end_ S6 fun s7 J7 => ⟨_, _, J7, q6⟩
      | cont =>
        obtain ⟨σ6, H6, S6, q6⟩ := hsp
        exact end_ S6 fun s7 J7 => ⟨_, _, J7, q6⟩
      | ret u =>
        obtain ⟨v6, σ6, H6, S6, r6, q6⟩ := hsp
        exact end_ S6 fun s7 J7 => ⟨_, _, _, J7, r6, q6⟩
  · cases f with
    | next =>
      obtain ⟨σ', H', J', q⟩ := hsp
      exact wpAny_execs_nil ⟨σ', H', J'.ofTry ok, q⟩
    | brk =>
      obtain ⟨σ', H', J', q⟩ := hsp
      exact ⟨σ', H', J'.ofTry ok, q⟩
    | cont =>
      obtain ⟨σ', H', J', q⟩ := hsp
      exact ⟨σ', H', J'.ofTry ok, q⟩
    | ret u =>
      obtain ⟨v, σ', H', J', r, q⟩ := hsp
      exact ⟨v, σ', H', J'.ofTry ok, r, q⟩
end
end L2

set_option Elab.async false
set_option linter.all false
set_option maxRecDepth 100000
set_option maxHeartbeats 4000000
/-! what a Hook tells, as the texts before want it -/
namespace L2
open PySem PySem.Spec PyProof.Rows
section
variable {K : PySem.W.Frag} {h : Heap} {mg : Str → Option Value}
theorem funD_fun {x q : Str} {st : Stmt} {f : Addr} {fd : FuncData} (F : FunD K x q (defArgs st) (defBody st) (defScope st) [] [] f fd) : Fun K x q st f fd := by
  obtain ⟨oc, od, dV, kV, doc, pm, an, cdv, ct, osl, rfl, lk, hcd, hD, hK⟩ := F.ex
  rcases hD with ⟨_, rfl⟩ | ⟨e, _⟩
  · exact ⟨⟨oc, od, kV, doc, pm, an, cdv, ct, osl, rfl, lk, hcd⟩, F.kp⟩
  · exact absurd rfl e
theorem df_he (X : K.In h) (G : h.Ns mainGlobals mg) {x : Str} {st : Stmt} {ps : List Str} {fd : FuncData} (F : FunD K x x (defArgs st) (defBody st) (defScope st) [] [] (He.ga K x) fd) (c : (He.Fa.glo x).ok K = true)
    (hb : ∀ (kV doc pm : Value) (an : Option Addr) (cdv ct : Value) (us : List Value), us.length = ps.length → bindArgs (PySem.W.fnOf x x (defArgs st) (defBody st) (defScope st) .none kV doc pm an cdv ct) ⟨us, []⟩ = pure (ps.zip us)) :
    Df K mg x st ps (He.ga K x) fd :=
  have F' := funD_fun F
  ⟨F', He.glo_ok X G c, F'.binds hb⟩
/-- an exception class with an own __init__, told by a Bool -/
def oexB (K : PySem.W.Frag) (C : Addr) : Bool := match K.lookup C with
  | some ⟨.type t, dd, .cls cd, sl⟩ => (match cd.mro, sl.toList with
    | .ref C' :: bm, [_, _, _, _, some (.builtin n), _] => decide (t = "type") && (decide (C' = C) && (decide (n = "ValueError.__new__") && (cd.hasDict && (!cd.hasDel && PySem.HandSPX.refsVE bm))))
    | _, _ => false)
  | _ => false
theorem oexB_ok {C : Addr} (e : oexB K C = true) : ∃ nm q N bs bm sn sub ab col dd k0 k1 k2 k3 k5, K.lookup C = some (excClassObj nm q C N bs bm true sn sub ab col dd k0 k1 k2 k3 k5 "ValueError.__new__") ∧ PySem.HandSPX.refsVE bm = true := by
  unfold oexB at e
  split at e
  · rename_i t dd cd sl ho
    split at e
    · rename_i C' bm k0 k1 k2 k3 n k5 hm hs
      simp only [Bool.and_eq_true, decide_eq_true_eq, Bool.not_eq_true'] at e
      obtain ⟨rfl, rfl, rfl, hd, hdel, hr⟩ := e
      obtain ⟨nm, bs, mro, N, q, hdct, sn, sub, ab, col, hdl⟩ := cd
      obtain ⟨l⟩ := sl
      subst hm hd hdel hs
      exact ⟨nm, q, N, bs, bm, sn, sub, ab, col, dd, k0, k1, k2, k3, k5, ho, hr⟩
    · cases e
  · cases e
def iniB (x fld : Str) (K : PySem.W.Frag) : Bool := oexB K (He.ga K x) && (He.eqO (PySem.W.findIn K (.ref (He.ga K x)) "__setattr__") (some (some (.builtin "object.__setattr__"))) && (decide (PySem.W.subIn K (.ref (He.ga K x)) (.type "BaseException") = some true) &&
  (decide (PySem.W.typeIn K (.ref (He.ga K x)) = some (.type "type")) && (PySem.W.keepIn K (.ref (He.ga K x)) && (He.eqO (PySem.W.findIn K (.ref (He.ga K x)) "__init__") (some (some (.ref (He.ma K (He.ga K x) "__init__")))) &&
  (decide (PySem.W.typeIn K (.ref (He.ma K (He.ga K x) "__init__")) = some (.type "function")) && (decide (PySem.W.exmOne K (.ref (He.ga K x)) (.ref (He.ga K x)) = some true) && (He.eqO (PySem.W.findIn K (.ref (He.ga K x)) fld) (some none) && xfB K (He.ga K x)))))))))
theorem ini_he (X : K.In h) (G : h.Ns mainGlobals mg) {x fld q : Str} {st : Stmt} {fd : FuncData} (hq : x ++ ".__init__" = q) (e : iniB x fld K = true) (c : (He.Fa.glo x).ok K = true)
    (F : FunD K "__init__" q (defArgs st) (defBody st) (defScope st) [] [] (He.ma K (He.ga K x) "__init__") fd)
    (hb : ∀ (kV doc pm : Value) (an : Option Addr) (cdv ct : Value) (us : List Value), us.length = (["self", fld] : List Str).length → bindArgs (PySem.W.fnOf "__init__" q (defArgs st) (defBody st) (defScope st) .none kV doc pm an cdv ct) ⟨us, []⟩ = pure ((["self", fld] : List Str).zip us)) :
    IniT K mg x fld st (He.ga K x) (He.ma K (He.ga K x) "__init__") fd ∧ XfC K (He.ga K x) := by
  subst hq
  obtain ⟨e1, e⟩ := He.ba e
  obtain ⟨e2, e⟩ := He.ba e
  obtain ⟨e3, e⟩ := He.ba e
  obtain ⟨e4, e⟩ := He.ba e
  obtain ⟨e5, e⟩ := He.ba e
  obtain ⟨e6, e⟩ := He.ba e
  obtain ⟨e7, e⟩ := He.ba e
  obtain ⟨e8, e⟩ := He.ba e
  obtain ⟨e9, e10⟩ := He.ba e
  have F' := funD_fun F
  exact ⟨⟨He.glo_ok X G c, ⟨oexB_ok e1, He.eqO_ok e2, of_decide_eq_true e3, of_decide_eq_true e4, e5⟩, He.eqO_ok e6, of_decide_eq_true e7, of_decide_eq_true e8, He.eqO_ok e9, F', F'.binds hb⟩, xfB_ok e10⟩
theorem own_he (X : K.In h) (G : h.Ns mainGlobals mg) {x : Str} (c : (He.Fa.glo x).ok K = true) (e : (He.Fa.exc x).ok K = true) (m : (He.Fa.exm x x true).ok K = true) : OwnT K mg x (He.ga K x) := by
  obtain ⟨e1, e2, e3, e4⟩ := He.exc_ok e
  exact ⟨He.glo_ok X G c, e1, e2, e3, e4, He.exm_ok m⟩
def cinB (x : Str) (K : PySem.W.Frag) : Bool := He.eqO (PySem.W.specialIn K (.ref (He.ga K x)) "__getattribute__") (some (some (.builtin "type.__getattribute__"))) && (PySem.W.readsIn K (He.ga K x) (.type "type") &&
  (match PySem.W.findCls K (.ref (He.ga K x)) (.type "type") "__init__" with
  | some (.val (.builtin n)) => decide (n = "ValueError.__init__")
  | _ => false))
theorem cin_he (X : K.In h) (G : h.Ns mainGlobals mg) {x : Str} (c : (He.Fa.glo x).ok K = true) (e : cinB x K = true) : CIn K mg x (He.ga K x) := by
  obtain ⟨e1, e⟩ := He.ba e
  obtain ⟨e2, e3⟩ := He.ba e
  refine ⟨He.glo_ok X G c, He.eqO_ok e1, e2, ?_⟩
  split at e3
  · rename_i n hn
    rw [of_decide_eq_true e3] at hn
    exact hn
  · cases e3
end
end L2

set_option Elab.async false
set_option linter.all false
set_option maxRecDepth 100000
set_option maxHeartbeats 4000000
/-! the Hook that looks at one more object: where the model keeps its own names -/
namespace L2
open PySem PySem.Spec PyProof.Rows
def asL (n : Nat) (g : Addr → Option Obj) : List Addr := cStatics :: He.asD g n
abbrev frL (n : Nat) (g : Addr → Option Obj) : PySem.W.Frag := He.frT g (asL n g)
def obsL (n : Nat) (fa : List He.Fa) (fn : List He.DefD) (tf : List He.Defn) (ex : PySem.W.Frag → Bool) (g : Addr → Option Obj) : He.AlX := (He.obsT fa fn [] (frL n g), ex (frL n g) && He.tabsB g tf (frL n g))
theorem tabsB_at {g : Addr → Option Obj} {tf : List He.Defn} {K : PySem.W.Frag} (e : He.tabsB g tf K = true) {p : He.Defn} (hp : p ∈ tf) : PySem.W.codeHdIn K (He.cT K p).1 (He.cT K p).2 = true ∧ ∃ o, g (He.cT K p).2 = some o ∧ He.emptyTab o = true := by
  obtain ⟨h1, h2⟩ := He.ba (List.all_eq_true.mp e p hp)
  cases q : g (He.cT K p).2 with
  | none =>
    rw [q] at h2
    cases h2
  | some o =>
    rw [q] at h2
    exact ⟨h1, o, rfl, h2⟩
theorem saysL_of {n : Nat} {fa : List He.Fa} {fn : List He.DefD} {tf : List He.Defn} {ex : PySem.W.Frag → Bool} {w : World} {h : Heap} (e : obsL n fa fn tf ex h.get? = He.valX fn [] w) : He.SaysX fa fn [] tf ex w h (frL n h.get?) := by
  obtain ⟨h1, h2⟩ := He.ba (show (ex (frL n h.get?) && He.tabsB h.get? tf (frL n h.get?)) = true from congrArg (fun z : He.AlX => z.2) e)
  refine ⟨congrArg (fun z : He.AlX => z.1) e, h1, fun p hp => (tabsB_at h2 hp).1, fun p hp => ?_, fun p hp => ?_⟩
  · obtain ⟨_, o, q, z⟩ := tabsB_at h2 hp
    exact He.frT_none q z
  · obtain ⟨_, o, q, z⟩ := tabsB_at h2 hp
    rw [q, He.emptyTab_eq z]
def hookL (n : Nat) (fa : List He.Fa) (fn : List He.DefD) (tf : List He.Defn) (ex : PySem.W.Frag → Bool) : PySem.W.Hook where
  α := He.AlX
  obs := fun s => obsL n fa fn tf ex s.heap.get?
  val := fun w => He.valX fn [] w
  says := fun w h => ∃ K : PySem.W.Frag, K.In h ∧ He.SaysX fa fn [] tf ex w h K
  of := fun _ _ e => ⟨_, He.frT_in, saysL_of e⟩
  keeps := fun _ _ _ ⟨K, hK, c⟩ k => ⟨K, PySem.W.Frag.In.keeps hK k, ⟨c.t, c.more, c.hd, c.out, fun p hp => k _ _ (c.empty p hp)⟩⟩
theorem obsL_eq {n : Nat} {fa : List He.Fa} {fn : List He.DefD} {tf : List He.Defn} {ex : PySem.W.Frag → Bool} {g : Addr → Option Obj} {s : Shared} (h : ∀ a, g a = s.heap.get? a) : obsL n fa fn tf ex g = (hookL n fa fn tf ex).obs s := by
  have e : g = s.heap.get? := funext h
  rw [e] <;> rfl
end L2

set_option Elab.async false
set_option linter.all false
set_option maxRecDepth 100000
set_option maxHeartbeats 4000000
/-! facts of built-in exception classes, as the library has them of others -/
namespace XB
open PySem
abbrev mKey : List Value := [.type "KeyError", .type "LookupError", .type "Exception", .type "BaseException", .type "object"]
abbrev mLookup : List Value := [.type "LookupError", .type "Exception", .type "BaseException", .type "object"]
abbrev mIndex : List Value := [.type "IndexError", .type "LookupError", .type "Exception", .type "BaseException", .type "object"]
abbrev mOver : List Value := [.type "OverflowError", .type "ArithmeticError", .type "Exception", .type "BaseException", .type "object"]
abbrev mArith : List Value := [.type "ArithmeticError", .type "Exception", .type "BaseException", .type "object"]
abbrev mRun : List Value := [.type "RuntimeError", .type "Exception", .type "BaseException", .type "object"]
abbrev mValue : List Value := [.type "ValueError", .type "Exception", .type "BaseException", .type "object"]
/-- what is asked of an __init__ of a built-in exception class -/
structure IniF (B initId : String) : Prop where
  sl : Slot B "__init__" initId
  en : entryFor table initId = some Builtin.«BaseException.__init__»
  sp : splitId initId = some (B, "__init__")
  ki : builtinKind initId = some .slot
  rw' : Manifest.signature? initId = some ⟨.positional, "*", B, .self, [⟨"args", .varPos, false⟩]⟩
  st : (B != "*") = true
theorem IniF.of {B n i : String} (F : ExcCallFacts B n i) : IniF B i := ⟨F.init, F.initEntry, F.initSplit, F.initKind, F.initRow, F.noStar⟩
theorem inKey : IniF "KeyError" "KeyError.__init__" :=
  ⟨.of (owner := "KeyError") (n := "__init__") (by rw [typeLookup_type, builtinLookup_eq_fast]; kernel_rfl) (by decide +kernel) (by decide +kernel) (by decide +kernel) (by first | exact .inl (by decide +kernel) | exact .inr (by decide +kernel)) (by rw [isSubtype_type]; kernel_rfl),
    entryFor_alias (id' := "BaseException.__init__") (by rw [fastTable_eq_tree]; kernel_rfl) (by first | rfl | decide +kernel) (by decide +kernel) (by rw [fastTable_eq_tree]; kernel_rfl), by kernel_rfl, by kernel_rfl, by kernel_rfl, by decide +kernel⟩
/-- what is asked of the __new__ that such a class is made by -/
structure NewF (B newId : String) : Prop where
  split : splitId newId = some (B, "__new__")
  kind : builtinKind newId = some .builtinFn
  row : Manifest.signature? newId = some ⟨.any, B, B, .cls, [⟨"args", .varPos, false⟩, ⟨"kwargs", .varKw, false⟩]⟩
  canon : Manifest.canonical newId = Manifest.canonical "BaseException.__new__"
  star : (B != "*") = true
  ends : newId.endsWith ".__new__" = true
  own : newId.dropRight 8 = B
  en : entryFor table newId = some Builtin.«BaseException.__new__»
  qu : newId.startsWith "lifetime." = false
theorem NewF.of {B n i : String} {m : List Value} (F : ExcBaseFacts B n i m) : NewF B n := ⟨F.newSplit, F.newKind, F.newRow, F.canon, F.noStar, F.ends, F.owner, F.entry, F.quiet⟩
theorem mkSF {B : String} {bm : List Value} (h1 : mroOf (.type B) = pure bm) (h2 : Slot B "__setattr__" "object.__setattr__") (h3 : bm.contains (.type "object") = true) (h4 : ∀ self : Value, refuseLoop self "__setattr__" bm = pure ()) : StoreFacts B bm "object.__setattr__" "object" :=
  ⟨h1, h2, F.entry_object_sa, by decide +kernel, by decide +kernel, h3, fun a b c => by unfold argsOk; kernel_rfl, h4⟩
theorem stKey : StoreFacts "KeyError" mKey "object.__setattr__" "object" :=
  mkSF (by kernel_rfl) (Slot.of (T := "KeyError") (owner := "object") (n := "__setattr__") (by rw [typeLookup_type, builtinLookup_eq_fast]; kernel_rfl) (by decide +kernel) (by decide +kernel) (by decide +kernel) (by first | exact .inl (by decide +kernel) | exact .inr (by decide +kernel)) (by rw [isSubtype_type]; kernel_rfl)) (by decide +kernel) fun _ => by kernel_rfl
theorem stLookup : StoreFacts "LookupError" mLookup "object.__setattr__" "object" :=
  mkSF (by kernel_rfl) (Slot.of (T := "LookupError") (owner := "object") (n := "__setattr__") (by rw [typeLookup_type, builtinLookup_eq_fast]; kernel_rfl) (by decide +kernel) (by decide +kernel) (by decide +kernel) (by first | exact .inl (by decide +kernel) | exact .inr (by decide +kernel)) (by rw [isSubtype_type]; kernel_rfl)) (by decide +kernel) fun _ => by kernel_rfl
theorem stIndex : StoreFacts "IndexError" mIndex "object.__setattr__" "object" :=
  mkSF (by kernel_rfl) (Slot.of (T := "IndexError") (owner := "object") (n := "__setattr__") (by rw [typeLookup_type, builtinLookup_eq_fast]; kernel_rfl) (by decide +kernel) (by decide +kernel) (by decide +kernel) (by first | exact .inl (by decide +kernel) | exact .inr (by decide +kernel)) (by rw [isSubtype_type]; kernel_rfl)) (by decide +kernel) fun _ => by kernel_rfl
theorem stOver : StoreFacts "OverflowError" mOver "object.__setattr__" "object" :=
  mkSF (by kernel_rfl) (Slot.of (T := "OverflowError") (owner := "object") (n := "__setattr__") (by rw [typeLookup_type, builtinLookup_eq_fast]; kernel_rfl) (by decide +kernel) (by decide +kernel) (by decide +kernel) (by first | exact .inl (by decide +kernel) | exact .inr (by decide +kernel)) (by rw [isSubtype_type]; kernel_rfl)) (by decide +kernel) fun _ => by kernel_rfl
theorem stArith : StoreFacts "ArithmeticError" mArith "object.__setattr__" "object" :=
  mkSF (by kernel_rfl) (Slot.of (T := "ArithmeticError") (owner := "object") (n := "__setattr__") (by rw [typeLookup_type, builtinLookup_eq_fast]; kernel_rfl) (by decide +kernel) (by decide +kernel) (by decide +kernel) (by first | exact .inl (by decide +kernel) | exact .inr (by decide +kernel)) (by rw [isSubtype_type]; kernel_rfl)) (by decide +kernel) fun _ => by kernel_rfl
theorem stRun : StoreFacts "RuntimeError" mRun "object.__setattr__" "object" :=
  mkSF (by kernel_rfl) (Slot.of (T := "RuntimeError") (owner := "object") (n := "__setattr__") (by rw [typeLookup_type, builtinLookup_eq_fast]; kernel_rfl) (by decide +kernel) (by decide +kernel) (by decide +kernel) (by first | exact .inl (by decide +kernel) | exact .inr (by decide +kernel)) (by rw [isSubtype_type]; kernel_rfl)) (by decide +kernel) fun _ => by kernel_rfl
end XB

set_option Elab.async false
set_option linter.all false
set_option maxRecDepth 100000
set_option maxHeartbeats 4000000
/-! an exception of a class of the text over any built-in exception class is made: as HandS.ExcInit has it over ValueError -/
namespace XB
open PySem Builtin Builtin.ObjectAttr
/-- of which built-in classes such a class is, as far as it is asked: B by whose __new__ it is made, D whose __init__ it calls -/
structure Subs (bm : List Value) (B D : String) : Prop where
  b : bm.contains (.type B) = true
  d : bm.contains (.type D) = true
  a : bm.contains (.type "AttributeError") = false
  n : bm.contains (.type "NameError") = false
  o : bm.contains (.type "object") = true
section
variable {prog : Program} {w : World} {A : Around} {E : Value → Shared → Prop} {R : Result → Shared → Prop} {hh : Heap} {gg : Array GenState} {dd : Drawn} {tt : Nat} {oo : OsState}
variable {nm qn : Str} {C N : Addr} {bs bm : List Value} {hdct : Bool} {sn : List Str} {sub : List Value} {ab : Bool} {col : Option Bool} {di : Option Addr} {k0 k1 k2 k3 k5 : Option Value} {B D newId initId : String}
theorem mk_check {M : Model} {A : Around} {E : Value → Shared → Prop} (NF : NewF B newId) (su : Subs bm B D) {as : List Value} {Q : Unit → Shared → Prop} (oC : hh.get? C = some (excClassObj nm qn C N bs bm hdct sn sub ab col di k0 k1 k2 k3 k5 newId)) (go : Q () ⟨hh, gg, dd, tt, oo⟩) :
    wpAny M A (checkBuiltinCall newId ⟨.ref C :: as, []⟩) Q E ⟨hh, gg, dd, tt, oo⟩ := by
  have cB : (Value.ref C :: bm).contains (.type B) = true := by
    rw [List.contains_cons, su.b, Bool.or_true]
  have ns := NF.star
  simp only [checkBuiltinCall, NF.kind, NF.split, NF.row]
  repeat (first | refine wpAny_loadPart_at oC ?_ | (refine wpAny_isSubtype_exc oC ?_; rw [cB]) | refine wpAny_staticBase_exc oC ?_ | refine wpAny_madeBy_exc oC ?_ | simp only [bne_self_eq_false, Bool.false_eq_true, if_false] | wp_step)
  exact go
theorem in_check {M : Model} {A : Around} {E : Value → Shared → Prop} (IF : IniF D initId) (su : Subs bm B D) {x : Addr} {ox : Obj} {as : List Value} {Q : Unit → Shared → Prop} (oC : hh.get? C = some (excClassObj nm qn C N bs bm hdct sn sub ab col di k0 k1 k2 k3 k5 newId))
    (hx : hh.get? x = some ox) (cx : ox.cls = .ref C) (go : Q () ⟨hh, gg, dd, tt, oo⟩) : wpAny M A (checkBuiltinCall initId ⟨.ref x :: as, []⟩) Q E ⟨hh, gg, dd, tt, oo⟩ := by
  have cD : (Value.ref C :: bm).contains (.type D) = true := by
    rw [List.contains_cons, su.d, Bool.or_true]
  have ns := IF.st
  simp only [checkBuiltinCall, IF.ki, IF.sp, IF.rw']
  repeat (first | (with_reducible refine wpAny_loadPart_at hx ?_; rw [cx]) | with_reducible refine wpAny_loadPart_at oC ?_ | (with_reducible refine wpAny_isSubtype_exc oC ?_; rw [cD]) | wp_step)
  refine wpAny_onRaise ?_
  have z : ∀ (a b : String) (n : Nat), Bind.check ⟨.positional, "*", D, .self, [⟨"args", .varPos, false⟩]⟩ a b n (List.map (fun y => y.fst) ({ pos := Value.ref x :: as } : Args).kw) = pure () := fun a b n => check_star_args _ _ _ _ _ _
  rw [z]
  exact wpAny_pure go
theorem mk_new (NF : NewF B newId) (su : Subs bm B D) {as : List Value} (oC : hh.get? C = some (excClassObj nm qn C N bs bm hdct sn sub ab col di k0 k1 k2 k3 k5 newId))
    (go : R (.ok (.ret (.ref (hh.objs.size + 1)))) ⟨(hh.push { cls := .type "tuple", data := .seq as.toArray }).push { cls := .ref C, data := .fields #[.ref hh.objs.size, .none, .none, .none, .bool false, .none] }, gg, dd, tt, oo⟩) (la : as.length ≤ sizeLine) :
    codeAny (model prog w) A (.builtin newId ⟨.ref C :: as, []⟩) R ⟨hh, gg, dd, tt, oo⟩ := by
  have en := NF.ends
  have cB : (Value.ref C :: bm).contains (.type B) = true := by
    rw [List.contains_cons, su.b, Bool.or_true]
  have cA : (Value.ref C :: bm).contains (.type "AttributeError") = false := by
    rw [List.contains_cons, su.a] <;> rfl
  have cN : (Value.ref C :: bm).contains (.type "NameError") = false := by
    rw [List.contains_cons, su.n] <;> rfl
  refine codeAny_builtinAt NF.en ?_
  unfold Builtin.«BaseException.__new__»
  refine wpAt_bind ?_
  show wpAt _ _ _ (stack >>= _) _ _ _
  refine wpAt_bind (wpAt_stack fun _ _ => wpAt_of_wpAny ?_)
  wp_walk
  refine wpAt_of_wpAny ?_
  rw [NF.own]
  repeat (first | with_reducible refine wpAny_madeHere_exc NF.canon oC ?_ | with_reducible refine wpAny_loadPart_at oC ?_ | (with_reducible refine wpAny_isSubtype_exc oC ?_; first | rw [cB] | rw [cA] | rw [cN]) | wp_step)
  show R _ _
  rw [Heap.size_push]
  exact go
abbrev obE (C t : Addr) : Obj := { cls := .ref C, data := .fields #[.ref t, .none, .none, .none, .bool false, .none] }
theorem mk_type (NF : NewF B newId) (su : Subs bm B D) {as : List Value} {fI : Addr} {Q : Fin → Shared → Prop} (oC : hh.get? C = some (excClassObj nm qn C N bs bm hdct sn sub ab col di k0 k1 k2 k3 k5 newId))
    (hi : W.Looks (model prog w) hh (typeLookup (.ref C) "__init__") (some (.ref fI))) (hb : ∀ y, W.Looks (model prog w) hh (bindSpecial (.ref fI) y) (.ref fI, [y])) (la : as.length ≤ sizeLine)
    (go : codeAny (model prog w) A (.call (.ref fI) ⟨.ref (hh.objs.size + 1) :: as, []⟩)
      (fun r s' => match r with | .ok (.ret v) => v = .none ∧ Q (.done (.ret (.ref (hh.objs.size + 1)))) s' | .ok _ => False | .error e => E e s') ⟨(hh.push (W.kdv_tup as)).push (obE C hh.objs.size), gg, dd, tt, oo⟩) :
    wpAny (model prog w) A (Builtin.«type.__call__» ⟨.ref C :: as, []⟩) Q E ⟨hh, gg, dd, tt, oo⟩ := by
  repeat (first | with_reducible refine wpAny_loadPart_at oC ?_ | with_reducible refine wpAny_madeBy_exc oC ?_ | wp_step)
  refine codeAny_call_builtin_code (Code.quiet_builtin _ NF.qu) (mk_check NF su oC ?_)
  refine mk_new NF su oC ?_ la
  show wpAny _ _ _ _ _ _
  have kp : ∀ b o, hh.get? b = some o → ((hh.push (W.kdv_tup as)).push (obE C hh.objs.size)).get? b = some o := fun b o z => Heap.get?_push_of_some _ (Heap.get?_push_of_some _ z)
  have oC2 := kp _ _ oC
  have ox : ((hh.push (W.kdv_tup as)).push (obE C hh.objs.size)).get? (hh.objs.size + 1) = some (obE C hh.objs.size) := by heap_get
  have cC : (Value.ref C :: bm).contains (.ref C) = true := by simp
  have i2 := hi.keeps kp
  have b2 := (hb (.ref (hh.objs.size + 1))).keeps kp
  unfold isInstance
  repeat (first | with_reducible refine wpAny_loadPart_at ox ?_ | (with_reducible refine wpAny_isSubtype_exc oC2 ?_; rw [cC]) | wp_step)
  show wpAny _ _ (typeLookup (.ref C) _) _ _ _
  refine i2.at ?_
  refine wpAny_holding (wpAny_bind (b2.at ?_))
  refine wpAny_bind (wpAny_call (codeAny_mono go fun r s' z => ?_))
  rcases r with e | (v | _ | _ | _)
  all_goals (first | exact z | exact z.elim | skip)
  obtain ⟨rfl, z⟩ := z
  first
    | exact wpAny_pure (wpAny_pure z)
    | (wp_walk; exact z)
theorem mk_call (NF : NewF B newId) (su : Subs bm B D) {as : List Value} {fI : Addr} (oC : hh.get? C = some (excClassObj nm qn C N bs bm hdct sn sub ab col di k0 k1 k2 k3 k5 newId))
    (hi : W.Looks (model prog w) hh (typeLookup (.ref C) "__init__") (some (.ref fI))) (hb : ∀ y, W.Looks (model prog w) hh (bindSpecial (.ref fI) y) (.ref fI, [y])) (la : as.length ≤ sizeLine)
    (go : codeAny (model prog w) (A.under (.builtin "type.__call__" ⟨.ref C :: as, []⟩)) (.call (.ref fI) ⟨.ref (hh.objs.size + 1) :: as, []⟩) (W.InitBack (hh.objs.size + 1) R) ⟨(hh.push (W.kdv_tup as)).push (obE C hh.objs.size), gg, dd, tt, oo⟩) :
    codeAny (model prog w) A (.call (.ref C) ⟨as, []⟩) R ⟨hh, gg, dd, tt, oo⟩ := by
  have u1 := tc_lookup
  have u2 := tc_bind (.ref C)
  have tyC : (⟨hh, gg, dd, tt, oo⟩ : Shared).TypeIs (.ref C) "type" := ⟨_, oC, rfl⟩
  refine codeAny_of_tree ?_
  show wpAny _ _ (callAny (.ref C) _) _ _ _
  repeat (any_goals (first | assumption | with_reducible refine wpAny_loadPart_at oC ?_ | wp_step))
  refine ⟨rfl, ?_⟩
  refine codeAny_call_builtin_at (Code.quiet_builtin _ (by decide +kernel)) entry_typeCall (wpAny_check_type_call_sub oC (mk_type NF su oC hi hb la ?_))
  refine codeAny_mono go fun r s' z => ?_
  rcases r with e | (v | _ | _ | _)
  all_goals exact z
/-- B.__init__(e, ..) -/
theorem in_call (IF : IniF D initId) (su : Subs bm B D) {x t0 : Addr} {as : List Value} (oC : hh.get? C = some (excClassObj nm qn C N bs bm hdct sn sub ab col di k0 k1 k2 k3 k5 newId)) (hx : hh.get? x = some (obE C t0)) (la : as.length ≤ sizeLine)
    (go : ∀ h' t1, (∀ b o, b ≠ x → hh.get? b = some o → h'.get? b = some o) → h'.get? x = some (obE C t1) → R (.ok (.ret .none)) ⟨h', gg, dd, tt, oo⟩) :
    codeAny (model prog w) A (.call (.builtin initId) ⟨.ref x :: as, []⟩) R ⟨hh, gg, dd, tt, oo⟩ := by
  refine codeAny_call_builtin IF.sl.plain IF.en (in_check IF su oC hx rfl ?_)
  wp_walk
  refine go _ hh.objs.size (fun b o nb hb => ?_) ?_
  · rw [Heap.get?_update_other _ _ (Ne.symm nb)]
    exact Heap.get?_push_of_some _ hb
  · rw [Heap.get?_update_self _ (Heap.get?_push_of_some _ hx) rfl] <;> rfl
end
end XB

set_option Elab.async false
set_option linter.all false
set_option maxRecDepth 100000
set_option maxHeartbeats 4000000
/-! promises of defs that are called where no repr is under way -/
namespace L2
open PySem PySem.Spec PyProof.Rows
structure FnG (P : Program) (w : World) (K : PySem.W.Frag) (mg : Str → Option Value) (base : Heap) (k : Nat) (f : Addr) (fd : FuncData) (ps : List Str) (sp : Sp) : Prop where
  len : ∀ vs H Q E, sp vs H Q E → vs.length = ps.length
  run : ∀ (A : Around) (outer : List Env) (s : Shared) (H : Hp) (as : Args) (us : List Value) (vs : List V) (Q : VK) (E : XK), Room k A → A.guards = some [] → Env0 P w K mg base A outer s H → BindsTo s fd as (ps.zip us) → Vals vs us → sp vs H Q E →
    codeAny (model P w) A (.call (.ref f) as) (CR CX0 outer P w H s Q E) s
theorem fng_of {P : Program} {w : World} {K : PySem.W.Frag} {mg : Str → Option Value} {base : Heap} {k : Nat} {f : Addr} {nme qual : Str} {prs : Arguments} {bdy : List Stmt} {sc : Scope} {dV kV doc pm cdv ct oc : Value} {an od : Option Addr} {osl : Array (Option Value)} {N ps : List Str} {sp : Sp}
    (lk : K.lookup f = some ⟨oc, od, .func (PySem.W.fnOf nme qual prs bdy sc dV kV doc pm an cdv ct), osl⟩) (hcd : PySem.W.codeIn K cdv qual = true) (S : FnScope N ps sc) (len : ∀ vs H Q E, sp vs H Q E → vs.length = ps.length)
    (bd : ∀ (A : Around) (outer : List Env) (s : Shared) (H : Hp) (vs : List V) (Q : VK) (E : XK), Room k (A.deeper (envOfC qual sc s.heap.objs.size f cdv)) → A.guards = some [] → sp vs H Q E →
      ∃ t, PSs (cxOf CX0 P w K mg base N qual sc f cdv A outer s H E) bdy t ∧ t { nx := fun _ H' => Q .non H', rt := Q } (start N vs) H) :
    FnG P w K mg base (k + 1) f (PySem.W.fnOf nme qual prs bdy sc dV kV doc pm an cdv ct) ps sp := by
  refine ⟨len, fun A outer s H as us vs Q E hr hgd e0 hb r hsp => ?_⟩
  have hlen := len _ _ _ _ hsp
  have kx : K.In s.heap := e0.mod.kin.keeps fun b o z => (e0.bs b o z).1
  have nolim : s.heap.NoLimit := e0.mod.nolimit.keeps fun b o z => (e0.bs b o z).1
  have knd : ∀ y ∈ ps.zip us, sc.names.lookup y.1 = some .local ∨ (sc.names.lookup y.1 = some .cell ∧ ((cellsFrom (s.heap.objs.size + 1) sc.names []).lookup y.1).isSome = true) := fun ⟨n, v⟩ hy => by
    rcases S.par n (List.of_mem_zip hy).1 with q | q
    · left
      exact q
    · right
      exact ⟨q, PySem.W.cellsFrom_some _ _ _ (.inl q)⟩
  refine codeAny_call_function hr.depth (kx _ _ lk) rfl S.co S.gen rfl (PySem.W.codeRec_of kx hcd) (hb _ _ _ _ ?_)
  refine wpAny_newFunctionEnv_cells S.kind knd fun env he s1 x => ?_
  subst he
  refine ⟨nolim.keeps x.toInCall.keep, codeAny_func ?_⟩
  obtain ⟨t, ht, hq⟩ := bd A outer s H vs Q E (hr.deeper _) hgd hsp
  have I0 := inv_start (CX := CX0) (P := P) (w := w) (mg := mg) (base := base) (E := E) S hr.hd e0 hlen r x
  refine wpAny_mono (ht.run [] s1 (start N vs) H _ I0 hq) (fun fl s' hs => ?_) fun _ _ z => z
  cases fl with
  | ret u =>
    obtain ⟨v, _, H', J, rv, q⟩ := hs
    exact ⟨v, H', J.os, J.bare, J.base, J.hok, rv, q⟩
  | next =>
    obtain ⟨_, H', J, q⟩ := hs
    exact ⟨V.non, H', J.os, J.bare, J.base, J.hok, rfl, q⟩
  | brk =>
    obtain ⟨_, _, _, q⟩ := hs
    exact q.elim
  | cont =>
    obtain ⟨_, _, _, q⟩ := hs
    exact q.elim
section
variable {P : Program} {w : World} {K : PySem.W.Frag} {mg : Str → Option Value} {base : Heap}
theorem Fun.okG {x qual : Str} {st : Stmt} {f : Addr} {fd : FuncData} {N ps : List Str} {k : Nat} {sp : Sp} (F : Fun K x qual st f fd) (S : FnScope N ps (defScope st)) (len : ∀ vs H Q E, sp vs H Q E → vs.length = ps.length)
    (bd : ∀ (cdv : Value) (A : Around) (outer : List Env) (s : Shared) (H : Hp) (vs : List V) (Q : VK) (E : XK), Room k (A.deeper (envOfC qual (defScope st) s.heap.objs.size f cdv)) → A.guards = some [] → sp vs H Q E →
      ∃ t, PSs (cxOf CX0 P w K mg base N qual (defScope st) f cdv A outer s H E).nox (defBody st) t ∧ t { nx := fun _ H' => Q .non H', rt := Q } (start N vs) H) : FnG P w K mg base (k + 1) f fd ps sp := by
  obtain ⟨oc, od, kV, doc, pm, an, cdv, ct, osl, rfl, lk, hcd⟩ := F.ex
  refine fng_of lk hcd S len fun A outer s H vs Q E hr hgd hsp => ?_
  obtain ⟨t, z, q⟩ := bd cdv A outer s H vs Q E hr hgd hsp
  exact ⟨t, z.nox, q⟩
end
section
variable {X : Cx} {k : Nat} {f : Addr} {fd : FuncData} {ps : List Str} {sp : Sp} {ds : List Value} {dvs : List V} {E : XK}
theorem run_fnG {pins : List (Addr × Obj)} {σ : St} {H : Hp} {s : Shared} {Q : VK} {us : List Value} {vs : List V} (F : FnG X.prog X.w X.K X.mg X.base k f fd ps sp) (hr : Room k X.A) (hgd : X.A.guards = some []) (hb : Binds X.K fd ps ds) (hd : Vals dvs ds)
    (I : Inv X pins σ H s) (r : Vals vs us) (q : sp (vs ++ dvs) H Q E) : wpAny (model X.prog X.w) X.A (call (.ref f) us) (EP X pins σ Q) X.xe s := by
  have r' : Vals (vs ++ dvs) (us ++ ds) := r.append hd
  have hlen : (us ++ ds).length = ps.length := by
    rw [← r'.length]
    exact F.len _ _ _ _ q
  refine wpAny_call (codeAny_mono (F.run X.A X.stack s H ⟨us, []⟩ (us ++ ds) (vs ++ dvs) Q E hr hgd I.env0 (hb s us I.kIn hlen) r' q) fun fin s' z => ?_)
  cases fin with
  | error e => exact False.elim z
  | ok fl =>
    cases fl with
    | ret u => exact I.after z
    | next => exact False.elim z
    | brk => exact False.elim z
    | cont => exact False.elim z
theorem pe_callG {x : Str} {e : Expr} {es : List Expr} {t : TA} {p pos : Pos} (F : FnG X.prog X.w X.K X.mg X.base k f fd ps sp) (hr : Room k X.A) (hgd : X.A.guards = some []) (hg : Gl X x) (hm : X.mg x = some (.ref f)) (hk : PySem.W.keepIn X.K (.ref f) = true) (hb : Binds X.K fd ps ds) (hd : Vals dvs ds)
    (ha : PA X (e :: es) t) (hdb : (x == ("__debug__" : Str)) = false := by decide) (he : starEach (e :: es) X.env = (false, eval e X.env) :: starEach es X.env := by rfl) (hpl : (backTo pos (starEach es X.env)).any (·.1) = false := by rfl) :
    PE X (.Call (.Name x p) (e :: es) [] pos) (tCall sp dvs (fun _ _ _ => False) t) := by
  refine ⟨fun pins s σ H Q I z => ?_⟩
  refine wpAny_Call_Name_kw (ld_glob I hg hm ?_ hdb)
  refine PySem.W.callWith_K (h₀ := X.base) I.ok.mod.kin hk (thn (ha.run pos pins s σ H _ I z) fun us s1 ⟨vs, H1, I1, r, q⟩ => ⟨I1.kIn, ?_⟩) he hpl
  exact run_fnG F hr hgd hb hd I1 r q
end
end L2

set_option Elab.async false
set_option linter.all false
set_option maxRecDepth 100000
set_option maxHeartbeats 4000000
/-! exceptions as values: made by an own __init__ over any built-in class, their fields, isinstance of them -/
namespace L2
open PySem PySem.Spec PyProof.Rows
/-- a class of the text over built-in exception classes: made by B's __new__ -/
structure OeB (K : PySem.W.Frag) (B D newId : String) (C : Addr) : Prop where
  nf : XB.NewF B newId
  cls : ∃ nm q N bs bm sn sub ab col di k0 k1 k2 k3 k5, K.lookup C = some (excClassObj nm q C N bs bm true sn sub ab col di k0 k1 k2 k3 k5 newId) ∧ XB.Subs bm B D
  sa : PySem.W.findIn K (.ref C) "__setattr__" = some (some (.builtin "object.__setattr__"))
  exC : PySem.W.subIn K (.ref C) (.type "BaseException") = some true
  tyC : PySem.W.typeIn K (.ref C) = some (.type "type")
  kC : PySem.W.keepIn K (.ref C) = true
/-- C(e, ..), held: C's own __init__ keeps sp -/
structure TMk (C : Addr) (sp : Sp) (ta : TA) (σ : St) (H : Hp) (Q : VK) : Prop where
  go : ta σ H fun vs H1 => vs.length ≤ 1000 ∧ ∀ a, H1 a = none → sp (.ref a :: vs) (upd H1 a (exo a C none)) (fun v H2 => v = .non ∧ Q (.ref a) H2) (fun _ _ _ => False)
def tMkV (C : Addr) (sp : Sp) (ta : TA) : TE := TMk C sp ta
theorem make_guards {A : Around} {C : Addr} {us : List Value} (h : A.guards = some []) : (A.under (.builtin "type.__call__" ⟨.ref C :: us, []⟩)).guards = some [] := by
  have e : (Code.builtin "type.__call__" ⟨.ref C :: us, []⟩).guards = [] := by
    have g : (Code.builtin "type.__call__" ⟨.ref C :: us, []⟩).isGuard = false := by
      show guardIds.contains "type.__call__" = false
      decide +kernel
    unfold Code.guards
    rw [g] <;> rfl
  show pushGuards (Code.builtin "type.__call__" ⟨.ref C :: us, []⟩).guards A.guards = some []
  rw [e, h] <;> rfl
section
variable {X : Cx} {e : Expr} {es : List Expr} {ta : TA} {p pos : Pos} {B D newId : String}
theorem pe_exV {x : Str} {C fI : Addr} {k : Nat} {fd : FuncData} {ps : List Str} {sp : Sp} (T : OeB X.K B D newId C) (iC : PySem.W.findIn X.K (.ref C) "__init__" = some (some (.ref fI))) (tI : PySem.W.typeIn X.K (.ref fI) = some (.type "function"))
    (F1 : FnG X.prog X.w X.K X.mg X.base k fI fd ps sp) (hr : Room (k + 1) X.A) (hgd : X.A.guards = some []) (hb : Binds X.K fd ps []) (hg : Gl X x) (hm : X.mg x = some (.ref C)) (ha : PA X (e :: es) ta)
    (hdb : (x == ("__debug__" : Str)) = false := by decide) (he : starEach (e :: es) X.env = (false, eval e X.env) :: starEach es X.env := by rfl) (hpl : (backTo pos (starEach es X.env)).any (·.1) = false := by rfl) :
    PE X (.Call (.Name x p) (e :: es) [] pos) (tMkV C sp ta) := by
  refine ⟨fun pins s σ H Q I z => ?_⟩
  obtain ⟨nm, q, N, bs, bm, sn, sub, ab, col, di, k0, k1, k2, k3, k5, hC, su⟩ := T.cls
  refine wpAny_Call_Name_kw (ld_glob I hg hm ?_ hdb)
  refine PySem.W.callWith_K (h₀ := X.base) I.ok.mod.kin T.kC (thn (ha.run pos pins s σ H _ I (show TMk C sp ta σ H Q from z).go) fun us s1 ⟨vs, H1, I1, r1, hz, q1⟩ => ⟨I1.kIn, ?_⟩) he hpl
  show wpAny _ _ (call (.ref C) us) _ _ _
  obtain ⟨hp, g, dr, tk, os⟩ := s1
  have hsz : hp.objs.size ≤ hp.objs.size + 1 := Nat.le_succ _
  have hn : H1 (hp.objs.size + 1) = none := I1.hok.fresh hsz
  have hq := q1 (hp.objs.size + 1) hn
  have kk : ∀ b o, hp.get? b = some o → ((hp.push (PySem.W.kdv_tup us)).push (XB.obE C hp.objs.size)).get? b = some o := fun b o y => Heap.get?_push_of_some _ (Heap.get?_push_of_some _ y)
  have hget : ((hp.push (PySem.W.kdv_tup us)).push (XB.obE C hp.objs.size)).get? (hp.objs.size + 1) = some (XB.obE C hp.objs.size) := by heap_get
  have I2 : Inv X pins σ (upd H1 (hp.objs.size + 1) (exo (hp.objs.size + 1) C none)) ⟨(hp.push (PySem.W.kdv_tup us)).push (XB.obE C hp.objs.size), g, dr, tk, os⟩ :=
    I1.laid (t' := tk) (a := hp.objs.size + 1) (o := exo (hp.objs.size + 1) C none) (h' := (hp.push (PySem.W.kdv_tup us)).push (XB.obE C hp.objs.size)) kk hsz (exo_ok hget)
  have r2 : Vals (V.ref (hp.objs.size + 1) :: vs) (Value.ref (hp.objs.size + 1) :: us) := .cons rfl r1
  have hl : (Value.ref (hp.objs.size + 1) :: us).length = ps.length := by
    have y := r2.length
    rw [F1.len _ _ _ _ hq] at y
    exact y.symm
  have hus : us.length ≤ sizeLine := by
    rw [← Paired.length r1, sizeLine_eq]
    omega
  have hb' := hb ⟨(hp.push (PySem.W.kdv_tup us)).push (XB.obE C hp.objs.size), g, dr, tk, os⟩ (Value.ref (hp.objs.size + 1) :: us) I2.kIn (by rw [List.append_nil]; exact hl)
  rw [List.append_nil] at hb'
  refine wpAny_call (XB.mk_call T.nf su (I1.kIn _ _ hC) (PySem.W.looks_findIn I1.kIn iC) (fun self => PySem.W.bind_fn I1.kIn self tI) hus
    (codeAny_mono (F1.run _ X.stack _ _ ⟨Value.ref (hp.objs.size + 1) :: us, []⟩ (Value.ref (hp.objs.size + 1) :: us) _ _ (fun _ _ _ => False) (hr.make C us []) (make_guards hgd) (I2.env0.make C us []) hb' r2 hq) fun r s' hq' => ?_))
  cases r with
  | error er => exact False.elim hq'
  | ok fl =>
    cases fl with
    | ret u =>
      obtain ⟨v, H2, os2, bare2, un2, hok2, rv, ev, q2⟩ := hq'
      subst ev
      exact ⟨rv, .ref (hp.objs.size + 1), H2, I2.call' (ch := []) os2 un2 hok2 bare2 (fun b y => absurd y (by simp)), rfl, q2⟩
    | next => exact False.elim hq'
    | brk => exact False.elim hq'
    | cont => exact False.elim hq'
end
end L2

set_option Elab.async false
set_option linter.all false
set_option maxRecDepth 100000
set_option maxHeartbeats 4000000
/-! exceptions as values: what is done with them -/
namespace L2
open PySem PySem.Spec PyProof.Rows
/-! ### self.f = v, the first one -/
section
variable {X : Cx} {B D newId : String}
/-- what stores into such an object ask of its class -/
structure OsF (K : PySem.W.Frag) (C : Addr) : Prop where
  sf : ∃ B bmB, StoreFacts B bmB "object.__setattr__" "object" ∧ PySem.W.excOver K C bmB = true
  hd : PySem.W.hasDictIn K C = true
theorem ost_newB {pins : List (Addr × Obj)} {σ : St} {H : Hp} {s : Shared} {a C : Addr} {f : Str} {y : V} {u : Value} {Q : Unit → Shared → Prop} {E : Value → Shared → Prop} {A : Around} (T : OeB X.K B D newId C) (S : OsF X.K C) (I : Inv X pins σ H s) (e : H a = some (exo a C none))
    (hno : PySem.W.findIn X.K (.ref C) f = some none) (ry : RelV y u) (h : ∀ dx s', H dx = none → dx ≠ a → Inv X pins σ (upd (upd H dx (exd dx [(f, y)])) a (exo a C (some dx))) s' → Q () s') : wpAny (model X.prog X.w) A (setAttr (.ref a) f u) Q E s := by
  obtain ⟨B', bmB, SF, ov⟩ := S.sf
  obtain ⟨t1, ho⟩ := exo_at I.hok e
  obtain ⟨hp, g, d, t, os⟩ := s
  have tk0 : PySem.W.takerIn X.K C f = some none := by
    unfold PySem.W.takerIn
    rw [hno] <;> rfl
  refine PySem.W.set_plain I.kIn (ox := XB.obE C t1) (od := none) ⟨ho, rfl, rfl, trivial⟩ T.sa ?_
  refine PySem.W.osa_openX (od := none) (s := ⟨hp, g, d, t + 1, os⟩) SF I.kIn ⟨ho, rfl, rfl, trivial⟩ ov tk0 fun b => ?_
  obtain ⟨cd, hc, hd'⟩ := PySem.W.any_some S.hd
  refine wpAny_bind (wpAny_pure (wpAny_bind (PySem.W.instanceDict_exc (x := a) (t := t1) (c2 := .none) (s := ⟨hp, g, d, t + 1, os⟩) ho (PySem.W.looks_clsIn I.kIn hc) hd' ?_)))
  have lt_a : a < hp.objs.size := Heap.lt_size ho
  have ne_a : hp.objs.size ≠ a := Nat.ne_of_gt lt_a
  have g1 : ∀ b o, b ≠ a → hp.get? b = some o → ((hp.push (PySem.W.dictOf [] 0)).update a fun o => { o with dict := some hp.objs.size }).get? b = some o := fun b o nb z => (Heap.get?_update_ne _ _ _ _ nb).trans (Heap.get?_push_of_some _ z)
  have g2 : ((hp.push (PySem.W.dictOf [] 0)).update a fun o => { o with dict := some hp.objs.size }).get? a = some { XB.obE C t1 with dict := some hp.objs.size } := Heap.get?_update_self _ (Heap.get?_push_of_some _ ho) rfl
  have g3 : ((hp.push (PySem.W.dictOf [] 0)).update a fun o => { o with dict := some hp.objs.size }).get? hp.objs.size = some (PySem.W.dictOf [] 0) := (Heap.get?_update_ne _ _ _ _ ne_a).trans (Heap.get?_push_at rfl rfl)
  refine PySem.HandSPX.store_in_new (dx := hp.objs.size) ⟨_, #[], _, g3, rfl, fun z hz => absurd hz (by simp), fun _ => rfl⟩ fun h' tk' hn' hs => ?_
  have hnd : H hp.objs.size = none := I.hok.fresh (Nat.le_refl _)
  have nd : ∀ {b : Addr} {o : Obj}, hp.get? b = some o → b ≠ hp.objs.size := fun {b o} z => Nat.ne_of_lt (Heap.lt_size z)
  have na : ∀ {b : Addr}, H b = none → b ≠ a := fun {b} n z => by
    rw [z, e] at n
    cases n
  have k : ∀ b o, b ≠ a → hp.get? b = some o → h'.get? b = some o := fun b o nb z => (hs.2 b (nd z)).trans (g1 b o nb z)
  have hx : h'.get? a = some { XB.obE C t1 with dict := some hp.objs.size } := (hs.2 a ne_a.symm).trans g2
  have U : Un X.fs [] H (upd (upd H hp.objs.size (exd hp.objs.size [(f, y)])) a (exo a C (some hp.objs.size))) hp h' :=
    ⟨fun b o q n _ _ => k b o (na n) q, fun b o q n _ _ => ⟨o.slots, k b o (na n) q⟩, fun b o q n _ => by rw [upd_ne (na n), upd_ne (nd q)]; exact n,
      fun b o q _ => by
        by_cases hb : b = a
        · exact ⟨_, by rw [hb]; exact hx⟩
        · exact ⟨o, k b o hb q⟩,
      fun b xs q => by rw [upd_ne (at_ne e q exo_tup), upd_ne (ne_of_none q hnd)]; exact q, fun b o v q => by rw [upd_ne (at_ne e q exo_frz), upd_ne (ne_of_none q hnd)]; exact q,
      fun b ps q => ⟨#[], by rw [upd_ne (at_ne e q exo_tbl), upd_ne (ne_of_none q hnd), q]; simp⟩⟩
  refine h hp.objs.size _ hnd ne_a (I.un (t' := tk') U fun b o q => ?_)
  by_cases hb : b = a
  · subst hb
    rw [upd_same] at q
    cases q
    exact exo_ok hx
  · rw [upd_ne hb] at q
    by_cases hd : b = hp.objs.size
    · subst hd
      rw [upd_same] at q
      cases q
      exact exd_ok hn' (relO_put (fs := []) ry fun g => True.intro)
    · rw [upd_ne hd] at q
      refine (I.hok b o q).stay (fun c v hc z => k c v ?_ z) (fun c hc => by rw [upd_ne (at_ne e hc exo_own), upd_ne (ne_of_none hc hnd)]; exact hc) fun c xs hc => by rw [upd_ne (at_ne e hc exo_tup), upd_ne (ne_of_none hc hnd)]; exact hc
      rcases hc with hc | hc
      · rw [hc]
        exact hb
      · exact at_ne e hc exo_own
/-- B.__init__(self, ..): nothing of it is told -/
theorem oinit_okB {pins : List (Addr × Obj)} {σ : St} {H : Hp} {s : Shared} {a C : Addr} {E : Value → Shared → Prop} {A : Around} {initId : String} {us : List Value} {Q : Value → Shared → Prop} (T : OeB X.K B D newId C) (IF : XB.IniF D initId) (I : Inv X pins σ H s) (e : H a = some (exo a C none)) (hl : us.length ≤ sizeLine) (h : ∀ s', Inv X pins σ H s' → Q .none s') :
    wpAny (model X.prog X.w) A (call (.builtin initId) (.ref a :: us)) Q E s := by
  obtain ⟨nm, q, N, bs, bm, sn, sub, ab, col, di, k0, k1, k2, k3, k5, hC, su⟩ := T.cls
  obtain ⟨t1, ho⟩ := exo_at I.hok e
  obtain ⟨hp, g, d, t, os⟩ := s
  refine wpAny_call (XB.in_call IF su (I.kIn _ _ hC) ho hl fun h' t2 k hx => ?_)
  have J := I.write (t' := t) (x := a) (e := a) (o := exo a C none) (by rw [e]; exact True.intro) (.inl rfl) k ⟨_, hx⟩ (exo_ok hx)
  have eu : upd H a (exo a C none) = H := by
    funext b
    by_cases hb : b = a
    · rw [hb, upd_same, e]
    · rw [upd_ne hb]
  rw [eu] at J
  exact h _ J
end
section
variable {X : Cx} {o e : Expr} {es : List Expr} {to te : TE} {ta : TA} {f : Str} {p p' p1 p2 pos : Pos} {B D newId initId : String} {n : Str}
/-- what the text's top has left of a built-in exception class whose __init__ is called by name -/
structure BIn (K : PySem.W.Frag) (mg : Str → Option Value) (n : Str) (D initId : String) : Prop where
  m : mg n = none
  bt : bootBuiltins n = some (.type D)
  nn : n ≠ "__name__"
  nd : (n == ("__debug__" : Str)) = false
  ty : typeOf (.type D) = pure (.type "type")
  st : Manifest.isStub D = false
  fi : PySem.W.findCls K (.type D) (.type "type") "__init__" = some (.val (.builtin initId))
  hi : PySem.W.handedIn (.builtin initId) = true
  f : XB.IniF D initId
def tBIn (K : PySem.W.Frag) (D : String) (ta : TA) : TE := fun σ H Q => ta σ H fun vs H1 => ∃ (a C : Addr) (ws : List V) (B newId : String), vs = .ref a :: ws ∧ ws.length ≤ 1000 ∧ OeB K B D newId C ∧ H1 a = some (exo a C none) ∧ Q .non H1
theorem pe_binit {pl : Sem Bool} (T : BIn X.K X.mg n D initId) (hg : Gl X n) (ha : PA X (e :: es) ta)
    (hc : eval (.Call (.Attribute (.Name n p1) "__init__" p2) (e :: es) [] pos) X.env = (do
      let ov ← eval (.Name n p1) X.env
      standAt p2.atName
      let (f, first) ← holding [ov] (getMethod ov "__init__" pl)
      callWith pos f first (backTo pos (starEach (e :: es) X.env)) (backToKw pos (keywordEach [] X.env))) := by rfl)
    (he : starEach (e :: es) X.env = (false, eval e X.env) :: starEach es X.env := by rfl) (hpl : (backTo pos (starEach es X.env)).any (·.1) = false := by rfl) :
    PE X (.Call (.Attribute (.Name n p1) "__init__" p2) (e :: es) [] pos) (tBIn X.K D ta) := by
  refine ⟨fun pins s σ H Q I h => ?_⟩
  refine PySem.W.methodCall_KW (ld_blt I hg T.m T.bt ?_ T.nn T.nd) hc
  obtain ⟨m, fr⟩ := I.fr
  refine PySem.W.method_type fr I.ok.mod.kin T.ty T.st T.fi T.hi ?_
  show wpAny _ _ (callWith pos (Value.builtin initId) [] (backTo pos (starEach (e :: es) X.env)) []) _ _ _
  refine PyProof.Rows.callWith_method1 (thn (ha.run pos pins _ σ H _ (I.tok _) h) fun us s1 ⟨vs, H1, I1, r1, a, C, ws, B, newId, ev, hl, T1, ea, q⟩ => ?_) he hpl
  subst ev
  cases r1 with
  | @cons _ u0 _ ur ra rw' =>
    obtain rfl : u0 = Value.ref a := ra
    exact oinit_okB T1 T.f I1 ea (by rw [← Paired.length rw', sizeLine_eq]; omega) fun s' J => ⟨.non, H1, J, rfl, q⟩
/-- ClockError.__init__(self, ..), ClockError over ValueError -/
theorem pe_cinitB {pl : Sem Bool} {CB : Addr} (T : CIn X.K X.mg n CB) (IF : XB.IniF "ValueError" "ValueError.__init__") (hg : Gl X n) (ha : PA X (e :: es) ta)
    (hc : eval (.Call (.Attribute (.Name n p1) "__init__" p2) (e :: es) [] pos) X.env = (do
      let ov ← eval (.Name n p1) X.env
      standAt p2.atName
      let (f, first) ← holding [ov] (getMethod ov "__init__" pl)
      callWith pos f first (backTo pos (starEach (e :: es) X.env)) (backToKw pos (keywordEach [] X.env))) := by rfl)
    (hdb : (n == ("__debug__" : Str)) = false := by decide) (he : starEach (e :: es) X.env = (false, eval e X.env) :: starEach es X.env := by rfl) (hpl : (backTo pos (starEach es X.env)).any (·.1) = false := by rfl) :
    PE X (.Call (.Attribute (.Name n p1) "__init__" p2) (e :: es) [] pos) (tBIn X.K "ValueError" ta) := by
  refine ⟨fun pins s σ H Q I h => ?_⟩
  refine PySem.W.methodCall_KW (ld_glob I hg T.g ?_ hdb) hc
  refine PySem.W.method_cls I.kIn T.ga (PySem.W.cls_value I.kIn T.rd T.fi (by decide +kernel) ?_)
  show wpAny _ _ (callWith pos (Value.builtin "ValueError.__init__") [] (backTo pos (starEach (e :: es) X.env)) []) _ _ _
  refine PyProof.Rows.callWith_method1 (thn (ha.run pos pins _ σ H _ (I.tok _) h) fun us s1 ⟨vs, H1, I1, r1, a, C, ws, B, newId, ev, hl, T1, ea, q⟩ => ?_) he hpl
  subst ev
  cases r1 with
  | @cons _ u0 _ ur ra rw' =>
    obtain rfl : u0 = Value.ref a := ra
    exact oinit_okB T1 IF I1 ea (by rw [← Paired.length rw', sizeLine_eq]; omega) fun s' J => ⟨.non, H1, J, rfl, q⟩
/-- self.f = e, the object's first field -/
def tOstB (K : PySem.W.Frag) (f : Str) (to te : TE) : TS := fun D σ H => te σ H fun y H1 => to σ H1 fun x H2 => ∃ (a C : Addr) (B D' newId : String), x = .ref a ∧ OeB K B D' newId C ∧ OsF K C ∧ PySem.W.findIn K (.ref C) f = some none ∧
  H2 a = some (exo a C none) ∧ ∀ dx, H2 dx = none → dx ≠ a → D.nx σ (upd (upd H2 dx (exd dx [(f, y)])) a (exo a C (some dx)))
theorem ps_ostB (ho : PE X o to) (he : PE X e te) (hs : swapsWith e (some (.Attribute o f p')) pos.line X.env = pure false := by rfl) : PS X (.Assign [.Attribute o f p'] e pos) (tOstB X.K f to te) := by
  refine ⟨fun pins s σ H D I h => ?_⟩
  refine plainObj_wpAny_Assign_Attribute (thn (he.run pins s σ H _ I h) fun v s1 ⟨y, H1, I1, r1, q1⟩ => thn (ho.run pins s1 σ H1 _ I1 q1) fun u s2 ⟨x, H2, I2, r2, a, C, B, D', newId, ex, T, S, hno, ea, q⟩ => ?_) hs
  subst ex
  obtain rfl : u = Value.ref a := r2
  exact ost_newB T S I2 ea hno r1 fun dx s' n ne J => ⟨σ, _, J, q dx n ne⟩
end
/-! ### an exception, held -/
/-- at a: an exception of the class at C; with fields fs, if it has some -/
inductive ExV (H : Hp) (a C : Addr) : List (Str × V) → Prop
  | bare (e : H a = some (ExO (.ref C) a)) : ExV H a C []
  | own {dx : Addr} {fs : List (Str × V)} (e : H a = some (exo a C (some dx))) (d : H dx = some (exd dx fs)) : ExV H a C fs
theorem ExV.same {H H' : Hp} {a C : Addr} {fs : List (Str × V)} (s : Same H H') (h : ExV H a C fs) : ExV H' a C fs := by
  cases h with
  | bare e => exact .bare (s _ _ e)
  | own e d => exact .own (s _ _ e) (s _ _ d)
theorem ExV.inst {P : Program} {w : World} {H : Hp} {h : Heap} {a C : Addr} {fs : List (Str × V)} (hok : HOk P w H h) (x : ExV H a C fs) : ∃ ox od, PySem.W.InstAt h a ox C od := by
  cases x with
  | bare e =>
    obtain ⟨⟨oe, vs, e1, z, d, _⟩, _⟩ := (show ObjOk P w H h a (ExO (.ref C) a) from hok a _ e)
    exact ⟨oe, none, e1, z.1, by unfold PySem.W.notCls; rw [d] <;> rfl, by rw [z.2] <;> trivial⟩
  | @own dx _ e d =>
    obtain ⟨t1, e1⟩ := exo_at hok e
    obtain ⟨mA, ⟨od, _, _, hod, _⟩, _⟩ := exd_at hok d
    exact ⟨_, some od, e1, rfl, rfl, hod⟩
/-- isinstance(e, c) of such a value -/
def rIsX (K : PySem.W.Frag) : List V → Hp → VK → Prop := fun xs H Q => ∃ (a C : Addr) (fs : List (Str × V)) (c : V) (cv : Value) (b : Bool), xs = [.ref a, c] ∧ ExV H a C fs ∧ ExcC K C ∧ ClsV c cv ∧ PySem.W.kitOne K (.ref C) cv = some b ∧ Q (.bl b) H
section
variable {X : Cx}
theorem call_isX : CallR X (.builtin "isinstance") (rIsX X.K) := by
  intro pins s σ H xs us Q I r h
  obtain ⟨a, C, fs, c, cv, b, rfl, hx, T, hc, hk, q⟩ := h
  obtain ⟨u1, u2, rfl, r1, r2⟩ := vals2 r
  have e2 := hc.eq r2
  subst e2
  obtain rfl : u1 = Value.ref a := r1
  obtain ⟨ox, od, J⟩ := hx.inst I.hok
  obtain ⟨cd, hcd, _⟩ := PySem.W.any_some T.hd
  exact PySem.W.kia_one (PySem.W.kitx_exc (by rw [hcd] <;> rfl) T.hg T.hk T.hs T.ha T.hn T.ht T.hm) I.kIn J hk (fun z => nomatch z) fun tk => ⟨.bl b, H, I.tok tk, rfl, q⟩
/-- e.f -/
def tExf (K : PySem.W.Frag) (f : Str) (te : TE) : TE := fun σ H Q => te σ H fun x H1 => ∃ (a C : Addr) (fs : List (Str × V)) (v : V), x = .ref a ∧ ExV H1 a C fs ∧ XfC K C ∧ PySem.W.findIn K (.ref C) f = some none ∧ fs.lookup f = some v ∧ Q v H1
theorem pe_exf {e : Expr} {te : TE} {pos : Pos} {n : Str} (he : PE X e te) (hb : attributeBase e n X.env (eval e X.env) = eval e X.env := by rfl) : PE X (.Attribute e n pos) (tExf X.K n te) := by
  refine ⟨fun pins s σ H Q I h => ?_⟩
  refine attr_of hb (thn (he.run pins s σ H _ I h) fun u s1 hh => ?_)
  obtain ⟨x, H1, I1, rx, a, C, fs, v, ex, xv, T, hno, l, q⟩ := hh
  subst ex
  obtain rfl : u = Value.ref a := rx
  cases xv with
  | bare _ => cases l
  | @own dx _ ea ed =>
    obtain ⟨t1, e1⟩ := exo_at I1.hok ea
    obtain ⟨mA, hns, hr⟩ := exd_at I1.hok ed
    obtain ⟨od, ho, hl⟩ := lookIn_ns hns
    obtain ⟨u, hu, ru⟩ := RelO.some_of (v := v) (o := mA n) (by rw [← l]; exact hr n)
    have J : PySem.W.InstAt s1.heap a { XB.obE C t1 with dict := some dx } C (some od) := ⟨e1, rfl, rfl, ho⟩
    exact HandSPX.exc_get I1.kIn J T.ga T.gg T.exC (PySem.W.findObj_own T.hdC hno rfl (by rw [hl, hu])) (handed_of ru) ⟨v, H1, I1.tok _, ru, q⟩
/-! ### repr -/
/-- data that is shown at once -/
structure SmD (d : PyData) : Prop where
  s : d.showable = true
  n : d.hasDict = false
  l : d.leavesShort 13 = true
  b : d.bulk ≤ 1000
  p : d.depth ≤ 20
theorem SmD.len {d : PyData} (h : SmD d) : d.shown.length ≤ 20000 := by
  have z := PyData.shown_le_bulk 13 (by decide) d h.l
  have := h.b
  omega
theorem SmD.fits {d : PyData} (h : SmD d) : d.shown.length ≤ sizeLine := by
  have := h.len
  rw [sizeLine_eq]
  omega
/-- pyReprObj of data -/
theorem repr_dp {pins : List (Addr × Obj)} {σ : St} {H : Hp} {s : Shared} {v : V} {u : Value} {d : PyData} {Q : Value → Shared → Prop} {k : Nat} (hr : Room k X.A) (hgd : X.A.guards = some []) (I : Inv X pins σ H s) (hd : Dp X.K H v d) (sm : SmD d) (ru : RelV v u)
    (h : ∀ s' t, Inv X pins σ H s' → Q (.str d.shown t) s') : wpAny (model X.prog X.w) X.A (pyReprObj u) Q X.xe s := by
  obtain ⟨as, r⟩ := Dp.reads I d v u hd ru
  have hu := hr.un
  have hp := sm.p
  have nh : d.hasDict = true → sysModules ∉ as := PyData.noDict_hsm sm.n
  have fin : ∀ h' u' tk, (∀ b o, s.heap.get? b = some o → h'.get? b = some o) → Q (.str d.shown u') { s with heap := h', toks := tk } := fun h' u' tk kp => h _ _ (I.kept (t' := tk) kp)
  have sz := sm.fits
  have at_ref : ∀ a, u = .ref a → wpAny (model X.prog X.w) X.A (pyReprObj u) Q X.xe s := fun a ea => by
    subst ea
    exact pyReprObj_of_reads r sm.s nh hgd (by omega) (fun _ _ z => z) fin sz
  cases hd with
  | non =>
    cases (show u = Value.none from ru)
    simp only [PyData.shown] at h
    exact pyReprObj_none (h _ _ (I.tok _))
  | bl b =>
    cases (show u = Value.bool b from ru)
    simp only [PyData.shown] at h
    exact pyReprObj_bool (h _ _ (I.tok _))
  | int i =>
    obtain ⟨t, rfl⟩ := (show ∃ t, u = Value.int i t from ru)
    have hs := sm.s
    simp only [PyData.showable, decide_eq_true_eq] at hs
    simp only [PyData.shown] at h
    exact pyReprObj_int hs (h _ _ (I.tok _))
  | str z =>
    obtain ⟨t, rfl⟩ := (show ∃ t, u = Value.str z t from ru)
    simp only [PyData.shown] at h sz
    exact pyReprObj_str (h _ _ (I.tok _)) sz
  | lst _ _ => exact at_ref _ ru
  | tup _ _ => exact at_ref _ ru
/-- {x!r} -/
def tFmtD (K : PySem.W.Frag) (te : TE) : TE := fun σ H Q => te σ H fun x H1 => ∃ d : PyData, Dp K H1 x d ∧ SmD d ∧ Q (.str d.shown) H1
theorem pe_fmtD {e : Expr} {te : TE} {pos : Pos} {k : Nat} (hr : Room k X.A) (hgd : X.A.guards = some []) (he : PE X e te) : PE X (.FormattedValue e 114 none pos) (tFmtD X.K te) := by
  refine ⟨fun pins s σ H Q I h => wpAny_FormattedValue_repr (thn (he.run pins s σ H _ I h) fun u s1 hv => ?_)⟩
  obtain ⟨x, H1, I1, r1, d, hd, sm, q⟩ := hv
  refine repr_dp hr hgd I1 hd sm r1 fun s' t J => ?_
  exact wpAny_formatField_str ⟨.str d.shown, H1, J, ⟨_, rfl⟩, q⟩ ⟨.str d.shown, H1, J.tok _, ⟨_, rfl⟩, q⟩ sm.fits
/-- repr(x), x a list or a tuple -/
theorem call_reprD {k : Nat} (hr : Room k X.A) (hgd : X.A.guards = some []) : CallR X (.builtin "repr") (fun xs H Q => ∃ (a : Addr) (d : PyData), xs = [.ref a] ∧ Dp X.K H (.ref a) d ∧ SmD d ∧ Q (.str d.shown) H) := by
  intro pins s σ H xs us Q I r h
  obtain ⟨a, d, rfl, hd, sm, q⟩ := h
  obtain ⟨u, rfl, ru⟩ := vals1 r
  obtain rfl : u = Value.ref a := ru
  obtain ⟨as, rd⟩ := Dp.reads I d _ _ hd rfl
  have hu := hr.un
  have hp := sm.p
  exact repr_of_reads' rd sm.s (PyData.noDict_hsm sm.n) hgd (by omega) (fun _ _ z => z) (fun h' u' tk kp => ⟨.str d.shown, H, I.kept (t' := tk) kp, ⟨_, rfl⟩, q⟩) sm.fits
end
end L2

set_option Elab.async false
set_option linter.all false
set_option maxRecDepth 100000
set_option maxHeartbeats 4000000
/-! the end of a law whose promise asks that no repr is under way: as the layer has it of others -/
namespace L2
open PySem PySem.Spec PyProof.Rows
theorem law_callG {P : Program} {w : World} {K : PySem.W.Frag} {mg mb : Str → Option Value} {k : Nat} {fa a : Addr} {fd : FuncData} {x : Str} {sp : Sp} {s1 : Shared} {vs : List Value} {ns : List Int}
    (kx : K.In s1.heap) (gN : s1.heap.Ns mainGlobals mg) (bN : s1.heap.Ns builtinsNs mb) (bB : ∀ x : Str, x ≠ "__name__" → mb x = bootBuiltins x) (nol : s1.heap.NoLimit) (hge : s1.gens = #[])
    (oa : s1.heap.get? a = some { cls := .type "list", data := .seq vs.toArray }) (ia : IntsAre vs ns) (la : ns.length ≤ sizeLine) (hr : Room k callerA)
    (F : ∀ base : Heap, K.In base → base.Ns mainGlobals mg → FnG P w K mg base k fa fd [x] sp) (bnd : ∀ (s : Shared) (u : Value), BindsTo s fd ⟨[u], []⟩ [(x, u)])
    (hsp : ∀ H : Hp, Only H → SqL K H a (ns.map V.int) → sp [.ref a] H (fun v _ => v = .bl true) fun _ _ _ => False) :
    codeAny (model P w) callerA (.call (.ref fa) ⟨[.ref a], []⟩) (fun r s' => r = .ok (.ret (.bool true)) ∧ OldK s1.heap s'.heap ∧ s'.os = s1.os ∧ AllBare s'.gens) s1 := by
  have rv := vals_ints ia
  have nv := ia.length
  have main : ∀ H : Hp, Only H → SqL K H a (ns.map V.int) → HOk P w H s1.heap → (∀ b, H b ≠ none → b = a) → (H a ≠ none → K.lookup a = none) →
      codeAny (model P w) callerA (.call (.ref fa) ⟨[.ref a], []⟩) (fun r s' => r = .ok (.ret (.bool true)) ∧ OldK s1.heap s'.heap ∧ s'.os = s1.os ∧ AllBare s'.gens) s1 := by
    intro H oH sH hk aH kH
    have bs : ∀ {b : Addr} {o : Obj}, s1.heap.get? b = some o → H b = none → (hidT s1.heap H).get? b = some o := fun z n => hidT_get z n
    have nD : ∀ {b : Addr} {o : Obj} {es : Array DictEntry} {ep : Nat}, s1.heap.get? b = some o → o.data = .dict es ep → H b = none := fun {b o es ep} z d => by
      cases q : H b with
      | none => rfl
      | some u =>
        have y : b = a := aH b (by rw [q]; simp)
        subst y
        rw [oa] at z; cases z
        cases (show Data.seq vs.toArray _ = Data.dict es ep from d)
    have nsB : ∀ {b : Addr} {m : Str → Option Value}, s1.heap.Ns b m → (hidT s1.heap H).Ns b m := fun {b m} ⟨o, es, ep, z, d, r⟩ => ⟨o, es, ep, bs z (nD z d), d, r⟩
    have kB : K.In (hidT s1.heap H) := fun b o z => bs (kx b o z) (by
      cases q : H b with
      | none => rfl
      | some u =>
        have y : b = a := aH b (by rw [q]; simp)
        subst y
        rw [kH (by rw [q]; simp)] at z; cases z)
    have mB : Mod K mg (hidT s1.heap H) := ⟨kB, nsB gN, ⟨mb, nsB bN, bB⟩, let ⟨mc, y1, y2⟩ := nol; ⟨mc, nsB y1, y2⟩⟩
    have en : Env0 P w K mg (hidT s1.heap H) callerA [] s1 H := ⟨rfl, mB, fun b o z => of_hidT z, Nat.le_of_eq (hidT_size _ _), trivial, fun b hb => absurd (show b ∈ ([] : List Addr) from hb) (by simp), hk, .of_eq hge⟩
    refine codeAny_mono ((F _ kB (nsB gN)).run callerA [] s1 H ⟨[.ref a], []⟩ [.ref a] [.ref a] _ _ hr rfl en (bnd s1 (.ref a)) (.cons rfl .nil) (hsp H oH sH)) fun r s' z => ?_
    cases r with
    | error e => exact False.elim z
    | ok fl =>
      cases fl with
      | next => exact False.elim z
      | brk => exact False.elim z
      | cont => exact False.elim z
      | ret u =>
        obtain ⟨v, H', eo, ba, un, hk', rr, qv⟩ := z
        obtain rfl : v = .bl true := qv
        obtain rfl : u = Value.bool true := rr
        refine ⟨rfl, OldK.of_keep fun b o z => ?_, eo, ba⟩
        cases q : H b with
        | none => exact un.keep b o z q (by intro y; exact absurd (show b ∈ ([] : List Addr) from y) (by simp)) (by simp)
        | some u =>
          rcases oH b with y | ⟨ob, xs, y⟩
          · rw [q] at y; cases y
          · have y2 := un.frzs b ob _ y
            obtain ⟨z1, _⟩ := hk b _ y
            obtain ⟨z2, _⟩ := hk' b _ y2
            rw [z] at z1; cases z1
            exact z2
  cases ck : K.lookup a with
  | some o =>
    have z := kx a o ck
    rw [oa] at z
    cases z
    exact main (fun _ => none) (fun _ => .inl rfl) (.inr ⟨_, vs.toArray, _, ck, rfl, rfl, rfl, by rw [List.size_toArray, nv]; exact la, by simpa using rv⟩) (fun b u y => by cases (show (none : Option HO) = some u from y)) (fun b y => absurd rfl y) fun y => absurd rfl y
  | none =>
    refine main (fun b => if b = a then some (.frz { cls := .type "list", data := .seq vs.toArray } (.lst (ns.map V.int))) else none) (fun b => ?_) (.inl (.inr ⟨{ cls := .type "list", data := .seq vs.toArray }, if_pos rfl⟩)) (fun b u y => ?_) (fun b y => ?_) fun _ => ck
    · by_cases hb : b = a
      · exact .inr ⟨_, _, if_pos hb⟩
      · exact .inl (if_neg hb)
    · by_cases hb : b = a
      · cases ((if_pos hb).symm.trans y)
        subst hb
        exact ⟨oa, by rw [List.length_map]; exact la, vs, _, rv, oa⟩
      · cases ((if_neg hb).symm.trans y)
    · by_cases hb : b = a
      · exact hb
      · exact absurd (if_neg hb) y
def LawG (l : PySem.W.OpenLaw) (w : World) (K : PySem.W.Frag) (k n : Nat) (x : Str) (mg : Str → Option Value) (fa : Addr) : Prop :=
  ∃ (fd : FuncData) (sp : Sp), (∀ (s : Shared) (u : Value), BindsTo s fd ⟨[u], []⟩ [(x, u)]) ∧ (∀ (H : Hp) (a : Addr) (ns : List Int), ns.length ≤ n → SqL K H a (ns.map V.int) → sp [.ref a] H (fun v _ => v = .bl true) fun _ _ _ => False) ∧
    ∀ base : Heap, K.In base → base.Ns mainGlobals mg → FnG l.prog w K mg base k fa fd [x] sp
theorem walk_ofG {l : PySem.W.OpenLaw} {n k : Nat} {q : Program} {loose : List Str} {XP : (Str → Option Value) → Heap → Prop} {YP : World → Heap → Prop} {d : DefRec} {x : Str} (hn : l.most = some n) (hn2 : n ≤ sizeLine) (hdf : d.params.defaults = []) (hr : Room k callerA)
    (F : ∀ (w : World) (mg : Str → Option Value) (fa : Addr) (h : Heap), YP w h → h.Ns mainGlobals mg → mg d.name = some (.ref fa) → ∃ K : PySem.W.Frag, K.In h ∧ LawG l w K k n x mg fa) :
    PySem.W.WalkO q loose XP YP l.row.toRowW d [] (fun f vs => PySem.call f vs) := by
  refine Att.attach_callB hn hdf fun w s0 s1 mg mb fa o pm cd doc a vs ns G Y _ _ _ hmg hobj hints hlen _ hge => ?_
  obtain ⟨K, kx, fd, sp, hb, hsp, hF⟩ := F w mg fa _ Y G.T.g hmg
  exact law_callG kx G.T.g G.T.b G.T.builtins G.T.nolimit hge hobj hints (Nat.le_trans hlen hn2) hr hF hb fun H _ hS => hsp H a ns hlen hS
end L2

set_option Elab.async false
set_option linter.all false
set_option maxRecDepth 100000
set_option maxHeartbeats 4000000
/-! what a Hook tells of exception classes over any built-in one -/
namespace L2
open PySem PySem.Spec PyProof.Rows
def oexG (K : PySem.W.Frag) (bmB : List Value) (newId : String) (C : Addr) : Bool := match K.lookup C with
  | some ⟨.type t, dd, .cls cd, sl⟩ => (match cd.mro, sl.toList with
    | .ref C' :: bm, [_, _, _, _, some (.builtin n), _] => decide (t = "type") && (decide (C' = C) && (decide (n = newId) && (cd.hasDict && (!cd.hasDel && PySem.W.excTail bmB bm))))
    | _, _ => false)
  | _ => false
theorem oexG_ok {K : PySem.W.Frag} {bmB : List Value} {newId : String} {C : Addr} (e : oexG K bmB newId C = true) : ∃ nm q N bs bm sn sub ab col di k0 k1 k2 k3 k5, K.lookup C = some (excClassObj nm q C N bs bm true sn sub ab col di k0 k1 k2 k3 k5 newId) ∧ PySem.W.excTail bmB bm = true := by
  unfold oexG at e
  split at e
  · rename_i t di cd sl ho
    split at e
    · rename_i C' bm k0 k1 k2 k3 n k5 hm hs
      simp only [Bool.and_eq_true, decide_eq_true_eq, Bool.not_eq_true'] at e
      obtain ⟨rfl, rfl, rfl, hd, hdel, hr⟩ := e
      obtain ⟨nm, bs, mro, N, q, hdct, sn, sub, ab, col, hdl⟩ := cd
      obtain ⟨l⟩ := sl
      subst hm hd hdel hs
      exact ⟨nm, q, N, bs, bm, sn, sub, ab, col, di, k0, k1, k2, k3, k5, ho, hr⟩
    · cases e
  · cases e
theorem subs_of {bmB bm : List Value} {B D : String} (t : PySem.W.excTail bmB bm = true) (s : XB.Subs bmB B D) : XB.Subs bm B D :=
  ⟨(PySem.W.excTail_contains B bm t).trans s.b, (PySem.W.excTail_contains D bm t).trans s.d, (PySem.W.excTail_contains _ bm t).trans s.a, (PySem.W.excTail_contains _ bm t).trans s.n, (PySem.W.excTail_contains _ bm t).trans s.o⟩
def excB (K : PySem.W.Frag) (C : Addr) : Bool := xfB K C && (He.eqO (PySem.W.findIn K (.ref C) "__class__") (some (some (.builtin "object.__class__"))) && (He.eqO (PySem.W.specialIn K (.builtin "object.__class__") "__get__") (some (some (.builtin "getset_descriptor.__get__"))) &&
  (decide (PySem.W.takesIn K (.builtin "object.__class__") = some true) && decide (PySem.W.mroIn K C (.type "object") = some true))))
theorem excB_ok {K : PySem.W.Frag} {C : Addr} (e : excB K C = true) : ExcC K C ∧ XfC K C := by
  obtain ⟨e1, e⟩ := He.ba e
  obtain ⟨e2, e⟩ := He.ba e
  obtain ⟨e3, e⟩ := He.ba e
  obtain ⟨e4, e5⟩ := He.ba e
  have x := xfB_ok e1
  exact ⟨⟨x.ga, x.gg, x.exC, x.hdC, He.eqO_ok e2, He.eqO_ok e3, of_decide_eq_true e4, of_decide_eq_true e5⟩, x⟩
def invB (x fld : Str) (bmB : List Value) (newId : String) (K : PySem.W.Frag) : Bool := oexG K bmB newId (He.ga K x) && (He.eqO (PySem.W.findIn K (.ref (He.ga K x)) "__setattr__") (some (some (.builtin "object.__setattr__"))) && (decide (PySem.W.subIn K (.ref (He.ga K x)) (.type "BaseException") = some true) &&
  (decide (PySem.W.typeIn K (.ref (He.ga K x)) = some (.type "type")) && (PySem.W.keepIn K (.ref (He.ga K x)) && (PySem.W.excOver K (He.ga K x) bmB && (He.eqO (PySem.W.findIn K (.ref (He.ga K x)) fld) (some none) && (He.eqO (PySem.W.findIn K (.ref (He.ga K x)) "__init__") (some (some (.ref (He.ma K (He.ga K x) "__init__")))) &&
  decide (PySem.W.typeIn K (.ref (He.ma K (He.ga K x) "__init__")) = some (.type "function")))))))))
structure InvC (K : PySem.W.Frag) (C fI : Addr) (fld : Str) (B D newId : String) : Prop where
  o : OeB K B D newId C
  s : PySem.W.hasDictIn K C = true → OsF K C
  no : PySem.W.findIn K (.ref C) fld = some none
  i : PySem.W.findIn K (.ref C) "__init__" = some (some (.ref fI))
  ti : PySem.W.typeIn K (.ref fI) = some (.type "function")
theorem invB_ok {K : PySem.W.Frag} {x fld : Str} {bmB : List Value} {B B' D newId : String} (NF : XB.NewF B newId) (su : XB.Subs bmB B D) (SF : StoreFacts B' bmB "object.__setattr__" "object") (e : invB x fld bmB newId K = true) : InvC K (He.ga K x) (He.ma K (He.ga K x) "__init__") fld B D newId := by
  obtain ⟨e1, e⟩ := He.ba e
  obtain ⟨e2, e⟩ := He.ba e
  obtain ⟨e3, e⟩ := He.ba e
  obtain ⟨e4, e⟩ := He.ba e
  obtain ⟨e5, e⟩ := He.ba e
  obtain ⟨e6, e⟩ := He.ba e
  obtain ⟨e7, e⟩ := He.ba e
  obtain ⟨e8, e9⟩ := He.ba e
  obtain ⟨nm, q, N, bs, bm, sn, sub, ab, col, di, k0, k1, k2, k3, k5, hl, ht⟩ := oexG_ok e1
  exact ⟨⟨NF, ⟨nm, q, N, bs, bm, sn, sub, ab, col, di, k0, k1, k2, k3, k5, hl, subs_of ht su⟩, He.eqO_ok e2, of_decide_eq_true e3, of_decide_eq_true e4, e5⟩, fun hd => ⟨⟨B', bmB, SF, e6⟩, hd⟩, He.eqO_ok e7, He.eqO_ok e8, of_decide_eq_true e9⟩
def tabIs (K : PySem.W.Frag) (C : Addr) (cs : List Value) (tab : List Bool) : Bool := decide (cs.map (fun c => PySem.W.kitOne K (.ref C) c) = tab.map some)
theorem tabIs_ok {K : PySem.W.Frag} {C : Addr} : ∀ {cs : List Value} {tab : List Bool}, cs.map (fun c => PySem.W.kitOne K (.ref C) c) = tab.map some → Paired (fun cv b => PySem.W.kitOne K (.ref C) cv = some b) cs tab
  | [], [], _ => .nil
  | [], _ :: _, e => by cases e
  | _ :: _, [], e => by cases e
  | c :: cs, b :: tab, e => by
    rw [List.map_cons, List.map_cons] at e
    exact .cons (List.cons.inj e).1 (tabIs_ok (List.cons.inj e).2)
def binB (D initId : String) (K : PySem.W.Frag) : Bool := match PySem.W.findCls K (.type D) (.type "type") "__init__" with
  | some (.val (.builtin n)) => decide (n = initId)
  | _ => false
theorem binB_ok {K : PySem.W.Frag} {D initId : String} (e : binB D initId K = true) : PySem.W.findCls K (.type D) (.type "type") "__init__" = some (.val (.builtin initId)) := by
  unfold binB at e
  split at e
  · rename_i n hn
    rw [of_decide_eq_true e] at hn
    exact hn
  · cases e
end L2

set_option Elab.async false
set_option linter.all false
set_option maxRecDepth 100000
set_option maxHeartbeats 8000000
namespace Gk
open PySem PySem.Spec PyProof.Rows L2
def topS (i : Nat) : Stmt := PySem.Challenge.pw_groupclocks_k00_errors_and_their_fields.main.body.getD i (.Pass ⟨0, 0, 0, 0⟩)
abbrev s_tape : Stmt := topS 16
theorem sc_tape : FnScope ["script", "spot", "cell", "great", "begin"] ["script", "spot"] (defScope s_tape) := ⟨rfl, rfl, rfl, by decide +kernel, rfl, by decide +kernel, by decide +kernel⟩
abbrev s_roll : Stmt := topS 17
theorem sc_roll : FnScope ["tape", "total", "found", "one", "two"] ["tape", "total"] (defScope s_roll) := ⟨rfl, rfl, rfl, by decide +kernel, rfl, by decide +kernel, by decide +kernel⟩
abbrev s_pick : Stmt := topS 18
theorem sc_pick : FnScope ["tape", "items"] ["tape", "items"] (defScope s_pick) := ⟨rfl, rfl, rfl, by decide +kernel, rfl, by decide +kernel, by decide +kernel⟩
abbrev s_word_drawn : Stmt := topS 19
theorem sc_word_drawn : FnScope ["tape", "lots", "turn"] ["tape"] (defScope s_word_drawn) := ⟨rfl, rfl, rfl, by decide +kernel, rfl, by decide +kernel, by decide +kernel⟩
section
variable {P : Program} {w : World} {K : PySem.W.Frag} {mg : Str → Option Value} {base : Heap}
theorem ok_tape {f : Addr} {fd : FuncData} (B : Blt mg) (D : Df K mg "_law_tape" s_tape ["script", "spot"] f fd) : FnOk P w K mg base CX0 1 f fd ["script", "spot"] (spTape K) := by
  refine D.F.ok sc_tape (fun vs H Q E h => ?_) (fun cdv A outer s H vs Q E hr h => ?_)
  · obtain ⟨a, ns, n, rfl, _⟩ := h
    rfl
  · obtain ⟨a, ns, n, rfl, hS, h0, q⟩ := h
    refine ⟨_, (pss_cons (ps_set (i := 2) sc_tape.nd rfl (Or.inl rfl) (pe_ifExp (pt_cmpR op_lt (pv 1) (pe_callB call_len_seq (by rfl) B.len_ (by decide +kernel) (pa_cons (pv 0) pa_nil)) (nomark _)) (pe_ix ix_list (pv 0) (pv 1) (fun _ _ => rfl)) (pe_op op_add (pe_op op_mul pe_int (pv 1)) pe_int)))
    (pss_cons (ps_set (i := 3) sc_tape.nd rfl (Or.inl rfl) (pe_op op_modN (pe_callTy call_int1 (by rfl) B.int_ (by decide +kernel) (pa_cons (pe_callB call_abs (by rfl) B.abs_ (by decide +kernel) (pa_cons (pv 2) pa_nil)) pa_nil)) (pe_op op_powW (pe_op op_powW pe_int pe_int) pe_int)))
    (pss_cons (ps_set (i := 4) sc_tape.nd rfl (Or.inl rfl) (pe_op op_add (pe_op op_add (pe_op op_add (pe_op op_mul (pv 3) pe_int) (pe_op op_mul pe_int (pv 1))) (pe_op op_mul pe_int (pe_callTy call_int1 (by rfl) B.int_ (by decide +kernel) (pa_cons (pe_cmpR op_lt (pv 2) pe_int (nomark _)) pa_nil)))) pe_int))
    (pss_one (ps_ret (pe_lst (pa_cons (pe_callB (call_max2 rfl) (by rfl) B.max_ (by decide +kernel) (pa_cons pe_int (pa_cons (pe_op op_sub (pv 3) (pe_op op_powW pe_int pe_int)) pa_nil))) (pa_cons (pe_op op_modN (pe_callTy call_int1 (by rfl) B.int_ (by decide +kernel) (pa_cons (pv 4) pa_nil)) pe_int) (pa_cons pe_int pa_nil))))))))), ?_⟩
    refine ⟨_, rfl, _, rfl, a, _, rfl, .inl hS, _, _, rfl, rfl, _, rfl, ?_⟩
    obtain ⟨c, hc⟩ : ∃ c : Int, c = if n < ns.length then ns.getD n.toNat 0 else 83 * n + 17 := ⟨_, rfl⟩
    refine meetI H (.int c) (fun hlt Q q => ?_) (fun hge Q q => ?_) ?_
    · have hlt' : n < ns.length := by
        have := of_decide_eq_true hlt
        rw [List.length_map] at this
        exact this
      have hj : n.toNat < ns.length := by omega
      refine ⟨_, rfl, _, rfl, a, _, n, .int c, rfl, rfl, hS, ?_, q⟩
      refine at_of (j := n.toNat) (by omega) ?_
      rw [List.getElem?_map, List.getElem?_eq_getElem hj, hc, if_pos hlt', List.getD_eq_getElem?_getD, List.getElem?_eq_getElem hj]
      rfl
    · have hge' : ¬ n < ns.length := fun z => hge (decide_eq_true (by rw [List.length_map]; exact z))
      rw [if_neg hge'] at hc
      refine ⟨_, rfl, _, _, rfl, rfl, .inl (by constructor <;> decide), _, _, rfl, rfl, ?_⟩
      rw [hc] at q
      exact q
    · refine ⟨_, rfl, _, rfl, .inl ⟨_, rfl, _, _, rfl, rfl, c57, _, _, rfl, rfl, c570, _, _, rfl, rfl, p570, ?_⟩⟩
      generalize (if c < 0 then -c else c).fmod ((10 ^ Int.toNat 57) ^ Int.toNat 10) = gr
      refine ⟨_, rfl, _, _, rfl, rfl, cmR, _, rfl, _, _, rfl, rfl, cmL, _, _, rfl, rfl, _, rfl, _, _, rfl, rfl, .inr ⟨_, rfl, _, _, rfl, rfl, cmL, _, _, rfl, rfl, _, _, rfl, rfl, ?_⟩⟩
      refine ⟨_, rfl, _, _, rfl, rfl, c18, _, _, rfl, rfl, _, _, rfl, _, rfl, .inl ⟨_, rfl, _, _, rfl, rfl, (show (_ : Int) ≠ 0 from by decide), by show 3 ≤ sizeLine; decide, fun t ht => q t _ _ _ ht⟩⟩
theorem ok_roll {f : Addr} {fd : FuncData} (B : Blt mg) (D : Df K mg "_law_roll" s_roll ["tape", "total"] f fd) : FnOk P w K mg base CX0 1 f fd ["tape", "total"] spRoll := by
  refine D.F.ok sc_roll (fun vs H Q E h => ?_) (fun cdv A outer s H vs Q E hr h => ?_)
  · obtain ⟨t, n, rfl, _⟩ := h
    rfl
  · obtain ⟨t, n, rfl, hT, h0, hn, q⟩ := h
    obtain ⟨a, b, c, e⟩ := hT
    have hT : Tp H t := ⟨a, b, c, e⟩
    have hS : SqL K H t [.int a, .int b, .int c] := .inl (.inl e)
    have hn0 : n ≠ 0 := by omega
    refine ⟨_, (pss_cons (ps_if (pt_cmpR op_gt (pe_ix ix_list (pv 0) pe_int (fun _ _ => rfl)) pe_int (nomark _))
    (pss_cons (ps_set (i := 2) sc_roll.nd rfl (Or.inl rfl) (pe_op op_modN (pe_callTy call_int1 (by rfl) B.int_ (by decide +kernel) (pa_cons (pe_ix ix_list (pv 0) pe_int (fun _ _ => rfl)) pa_nil)) (pv 1)))
    (pss_cons (ps_asg (pe_op op_fdivN (pe_ix ix_list (pv 0) pe_int (fun _ _ => rfl)) (pv 1)) (pg_sub (pv 0) pe_int set_list))
    (pss_one (ps_ret (pv 2))))) pss_nil)
    (pss_cons (ps_asg (pe_op op_add (pe_ix ix_list (pv 0) pe_int (fun _ _ => rfl)) pe_int) (pg_sub (pv 0) pe_int set_list))
    (pss_cons (ps_set (i := 3) sc_roll.nd rfl (Or.inl rfl) (pe_op op_modN (pe_callTy call_int1 (by rfl) B.int_ (by decide +kernel) (pa_cons (pe_op op_add (pe_ix ix_list (pv 0) pe_int (fun _ _ => rfl)) (pe_op op_mul pe_int (pe_ix ix_list (pv 0) pe_int (fun _ _ => rfl)))) pa_nil)) pe_int))
    (pss_cons (ps_set (i := 4) sc_roll.nd rfl (Or.inl rfl) (pe_op op_add (pe_op op_mul (pe_op op_modN (pe_callTy call_int1 (by rfl) B.int_ (by decide +kernel) (pa_cons (pe_op op_mul (pv 3) (pv 3)) pa_nil)) pe_int) (pv 3)) (pe_op op_mul pe_int (pe_ix ix_list (pv 0) pe_int (fun _ _ => rfl)))))
    (pss_one (ps_ret (pe_op op_modN (pe_callTy call_int1 (by rfl) B.int_ (by decide +kernel) (pa_cons (pe_op op_fdivN (pe_op op_modN (pe_callTy call_int1 (by rfl) B.int_ (by decide +kernel) (pa_cons (pe_op op_add (pv 4) (pe_ix ix_list (pv 0) pe_int (fun _ _ => rfl))) pa_nil)) pe_int) pe_int) pa_nil)) (pv 1)))))))), ?_⟩
    refine ⟨_, rfl, t, _, 0, _, rfl, rfl, hS, atI_nat (j := 0) rfl, _, _, rfl, rfl, _, rfl, ite2 (fun hp => ?_) (fun hp => ?_)⟩
    · refine ⟨_, rfl, t, _, 0, _, rfl, rfl, hS, atI_nat (j := 0) rfl, .inl ⟨_, rfl, _, rfl, _, _, rfl, rfl, hn0, ?_⟩⟩
      refine ⟨_, rfl, t, _, 0, _, rfl, rfl, hS, atI_nat (j := 0) rfl, _, rfl, _, _, rfl, rfl, ⟨hn0, by omega⟩, _, rfl, t, _, 0, 0, rfl, rfl, e, rfl, ?_⟩
      exact ⟨_, rfl, q _ _ (fmod_rng h0).1 (fmod_rng h0).2 (Kt.wr hT)⟩
    · refine ⟨_, rfl, t, _, 2, _, rfl, rfl, hS, atI_nat (j := 2) rfl, _, _, rfl, rfl, _, rfl, t, _, 2, 2, rfl, rfl, e, rfl, ?_⟩
      have e1 : (upd H t (.lst [.int a, .int b, .int (c + 1)])) t = some (.lst [.int a, .int b, .int (c + 1)]) := upd_same
      have hS1 : SqL K (upd H t (.lst [.int a, .int b, .int (c + 1)])) t [.int a, .int b, .int (c + 1)] := .inl (.inl e1)
      refine ⟨_, rfl, t, _, 1, _, rfl, rfl, hS1, atI_nat (j := 1) rfl, _, rfl, t, _, 2, _, rfl, rfl, hS1, atI_nat (j := 2) rfl, _, _, rfl, rfl, cmL, _, _, rfl, rfl, .inl ⟨_, rfl, _, _, rfl, rfl, (show (_ : Int) ≠ 0 from by decide), ?_⟩⟩
      obtain ⟨u, hu, hu2⟩ : ∃ u : Int, u = (b + 900107 * (c + 1)).fmod 2305843009213693951 ∧ (-(2 ^ 64) < u ∧ u < 2 ^ 64) := ⟨_, rfl, by
        have := fmod_rng (a := b + 900107 * (c + 1)) (n := 2305843009213693951) (by decide)
        omega⟩
      dsimp only
      rw [← hu]
      refine ⟨_, rfl, _, rfl, _, _, rfl, rfl, .inl hu2, .inl ⟨_, rfl, _, _, rfl, rfl, (show (_ : Int) ≠ 0 from by decide), _, rfl, _, _, rfl, rfl, .inr hu2, _, rfl, t, _, 2, _, rfl, rfl, hS1, atI_nat (j := 2) rfl, _, _, rfl, rfl, cmL, _, _, rfl, rfl, ?_⟩⟩
      refine ⟨_, rfl, _, rfl, t, _, 1, _, rfl, rfl, hS1, atI_nat (j := 1) rfl, _, _, rfl, rfl, .inl ⟨_, rfl, _, _, rfl, rfl, (show (_ : Int) ≠ 0 from by decide), _, _, rfl, rfl, ⟨by decide, by decide⟩, .inl ⟨_, rfl, _, rfl, _, _, rfl, rfl, hn0, ?_⟩⟩⟩
      exact q _ _ (fmod_rng h0).1 (fmod_rng h0).2 (Kt.wr hT)
end
end Gk

set_option Elab.async false
set_option linter.all false
set_option maxRecDepth 100000
set_option maxHeartbeats 8000000
namespace Gk
open PySem PySem.Spec PyProof.Rows L2
section
variable {P : Program} {w : World} {K : PySem.W.Frag} {mg : Str → Option Value} {base : Heap}
theorem ok_pick {f fR : Addr} {fd fdR : FuncData} (B : Blt mg) (D_roll : Df K mg "_law_roll" s_roll ["tape", "total"] fR fdR) (D : Df K mg "_law_pick" s_pick ["tape", "items"] f fd) : FnOk P w K mg base CX0 2 f fd ["tape", "items"] (spPick K) := by
  have G_roll : FnOk P w K mg base CX0 1 fR fdR ["tape", "total"] spRoll := ok_roll B D_roll
  refine D.F.ok sc_pick (fun vs H Q E h => ?_) (fun cdv A outer s H vs Q E hr h => ?_)
  · obtain ⟨t, x, xs, rfl, _⟩ := h
    rfl
  · obtain ⟨t, x, xs, rfl, hT, hI, h0, hl, q⟩ := h
    refine ⟨_, (pss_one (ps_ret (pe_ix ix_seq (pv 1) (pe_call G_roll (hr.mono (by decide)) (by rfl) D_roll.g D_roll.F.kp D_roll.b .nil pass0 (pa_cons (pv 0) (pa_cons (pe_callB call_len (by rfl) B.len_ (by decide +kernel) (pa_cons (pv 1) pa_nil)) pa_nil))) (fun _ _ => rfl)))), ?_⟩
    refine ⟨_, rfl, _, rfl, _, rfl, x, xs.length, rfl, hI.len hl, t, _, rfl, hT, by omega, by omega, fun r H' r0 r1 k => ?_⟩
    obtain ⟨y, hy, hm⟩ := at_int (xs := xs) r0 r1
    exact (hI.kt hT k).ix hl hy (q y H' hm k)
end
end Gk

set_option Elab.async false
set_option linter.all false
set_option maxRecDepth 100000
set_option maxHeartbeats 8000000
namespace Gk
open PySem PySem.Spec PyProof.Rows L2
section
variable {P : Program} {w : World} {K : PySem.W.Frag} {mg : Str → Option Value} {base : Heap}
theorem ok_word {f fP : Addr} {fd fdP : FuncData} (B : Blt mg) (D_pick : Df K mg "_law_pick" s_pick ["tape", "items"] fP fdP) (G_pick : FnOk P w K mg base CX0 2 fP fdP ["tape", "items"] (spPick K))
    (D : Df K mg "_law_word_drawn" s_word_drawn ["tape"] f fd) : FnOk P w K mg base CX0 3 f fd ["tape"] spWord := by
  refine D.F.ok sc_word_drawn (fun vs H Q E h => ?_) (fun cdv A outer s H vs Q E hr h => ?_)
  · obtain ⟨t, rfl, _⟩ := h
    rfl
  · obtain ⟨t, rfl, hT, q⟩ := h
    refine ⟨_, (pss_cons (ps_set (i := 1) sc_word_drawn.nd rfl (Or.inl rfl) (pe_call G_pick (hr.mono (by decide)) (by rfl) D_pick.g D_pick.F.kp D_pick.b .nil pass0 (pa_cons (pv 0) (pa_cons (pe_lst (pa_cons pe_int (pa_cons pe_int (pa_cons pe_int (pa_cons pe_int (pa_cons pe_int (pa_cons pe_int pa_nil))))))) pa_nil))))
    (pss_one (ps_ret (pe_join pe_str (pe_lc (own := [("turn", 2)]) (g := gName 2) (tt := tYes) (by rfl) sc_word_drawn.nd (pi_range1 (by rfl) B.range (pa_cons (pv 1) pa_nil)) (blkOk_by (N := ["tape", "lots", "turn"]) (sc := defScope s_word_drawn) (by decide +kernel)) (fun _ _ _ _ _ => (pg_name (i := 2) sc_word_drawn.nd rfl (Or.inl rfl))) (fun _ _ _ _ _ => pts_nil) (fun _ _ _ _ _ => (pe_call G_pick (hr.mono (by decide)) (by rfl) D_pick.g D_pick.F.kp D_pick.b .nil pass0 (pa_cons (pv 0) (pa_cons pe_str pa_nil))))))))), ?_⟩
    refine ⟨_, rfl, by show 6 ≤ sizeLine; decide, fun p hp => ⟨t, .ref p, _, rfl, (Kt.new hT hp).tp, .inl ⟨p, rfl, Kt.ne hT hp, .inl (SqL.of upd_same)⟩, by decide, by decide, fun y H1 hy k1 => ?_⟩⟩
    obtain ⟨n, rfl, n1, n2⟩ := lots6 hy
    have k1 : Kt t H H1 := (Kt.new hT hp).trans k1
    refine ⟨⟨_, rfl⟩, _, rfl, (n : Int), rfl, by omega, by omega, fun D hD => ?_⟩
    refine lc_range (lo := 0) (n := (n : Int).toNat) (fun i H3 => ∃ cs : List Nat, cs.length = i ∧ (∀ c ∈ cs, 97 ≤ c ∧ c ≤ 122) ∧ H3 D = some (.lst ((cs.map sg).map V.str)) ∧ Kt t H H3) ⟨[], rfl, by simp, upd_same, k1.mut (k1.free hD) (Kt.ne k1.tp hD)⟩ (fun i H3 hi hP => ?_) (fun H3 hP => ?_)
    · obtain ⟨cs, hl, hc, hd, k3⟩ := hP
      refine ⟨rfl, _, rfl, t, _, _, rfl, k3.tp, .inr ⟨_, rfl, rfl⟩, by decide +kernel, by decide +kernel, fun y H4 hy k4 => ?_⟩
      obtain ⟨c, hcm, rfl⟩ := List.mem_map.mp hy
      refine ⟨_, k4.strs k3.tp hd, ?_, cs ++ [c], ?_, ?_, ?_, ?_⟩
      · rw [List.length_map, List.length_map]
        exact small1000 (by omega)
      · rw [List.length_append, hl]
        rfl
      · intro d hdm
        rcases List.mem_append.mp hdm with h1 | h1
        · exact hc d h1
        · rw [List.mem_singleton.mp h1]
          exact abc_rng c hcm
      · rw [upd_same, List.map_append, List.map_append]
        rfl
      · exact (k3.trans k4).mut (k1.free hD) (Kt.ne k1.tp hD)
    · obtain ⟨cs, hl, hc, hd, k3⟩ := hP
      have hn : cs.length = n := by omega
      refine ⟨_, D, cs.map sg, rfl, rfl, .inl (SqL.of hd), ?_, q _ H3 (join0_W (by omega) (by omega) hc) k3⟩
      have e0 : (PySem.Str.ofString "").length = 0 := by decide +kernel
      have e1 : ((cs.map sg).map (·.length)).sum = cs.length := by
        rw [List.map_map]
        clear hl hc hd hn
        induction cs with
        | nil => rfl
        | cons c r ih =>
          rw [List.map_cons, List.sum_cons, ih]
          show 1 + r.length = r.length + 1
          omega
      rw [e1, e0]
      omega
end
end Gk

set_option Elab.async false
set_option linter.all false
set_option maxRecDepth 100000
set_option maxHeartbeats 8000000
namespace Gk
open PySem PySem.Spec PyProof.Rows L2
abbrev s_ParseError___init : Stmt := inClass (topS 8) 0
theorem sc_ParseError___init : FnScope ["self", "line"] ["self", "line"] (defScope s_ParseError___init) := ⟨rfl, rfl, rfl, by decide +kernel, rfl, by decide +kernel, by decide +kernel⟩
abbrev s_UnknownName___init : Stmt := inClass (topS 9) 0
theorem sc_UnknownName___init : FnScope ["self", "wanted"] ["self", "wanted"] (defScope s_UnknownName___init) := ⟨rfl, rfl, rfl, by decide +kernel, rfl, by decide +kernel, by decide +kernel⟩
abbrev s_NotPossible___init : Stmt := inClass (topS 10) 0
theorem sc_NotPossible___init : FnScope ["self", "at"] ["self", "at"] (defScope s_NotPossible___init) := ⟨rfl, rfl, rfl, by decide +kernel, rfl, by decide +kernel, by decide +kernel⟩
abbrev s_NothingToUndo___init : Stmt := inClass (topS 11) 0
theorem sc_NothingToUndo___init : FnScope ["self", "many"] ["self", "many"] (defScope s_NothingToUndo___init) := ⟨rfl, rfl, rfl, by decide +kernel, rfl, by decide +kernel, by decide +kernel⟩
abbrev s_TooMany___init : Stmt := inClass (topS 12) 0
theorem sc_TooMany___init : FnScope ["self", "limit"] ["self", "limit"] (defScope s_TooMany___init) := ⟨rfl, rfl, rfl, by decide +kernel, rfl, by decide +kernel, by decide +kernel⟩
abbrev s_Refused___init : Stmt := inClass (topS 13) 0
theorem sc_Refused___init : FnScope ["self", "claim"] ["self", "claim"] (defScope s_Refused___init) := ⟨rfl, rfl, rfl, by decide +kernel, rfl, by decide +kernel, by decide +kernel⟩
abbrev s_InvalidNumber___init : Stmt := inClass (topS 14) 0
theorem sc_InvalidNumber___init : FnScope ["self", "given"] ["self", "given"] (defScope s_InvalidNumber___init) := ⟨rfl, rfl, rfl, by decide +kernel, rfl, by decide +kernel, by decide +kernel⟩
abbrev s_own : Stmt := topS 20
theorem sc_own : FnScope ["error", "found"] ["error"] (defScope s_own) := ⟨rfl, rfl, rfl, by decide +kernel, rfl, by decide +kernel, by decide +kernel⟩
abbrev s_built_in : Stmt := topS 21
theorem sc_built_in : FnScope ["error", "found"] ["error"] (defScope s_built_in) := ⟨rfl, rfl, rfl, by decide +kernel, rfl, by decide +kernel, by decide +kernel⟩
/-- what the text's top has left of an exception class with an own __init__ -/
structure InV (K : PySem.W.Frag) (mg : Str → Option Value) (n fld : Str) (st : Stmt) (C fI : Addr) (fd : FuncData) (B D newId : String) : Prop where
  g : mg n = some (.ref C)
  o : OeB K B D newId C
  s : OsF K C
  x : ExcC K C
  xf : XfC K C
  no : PySem.W.findIn K (.ref C) fld = some none
  i : PySem.W.findIn K (.ref C) "__init__" = some (some (.ref fI))
  ti : PySem.W.typeIn K (.ref fI) = some (.type "function")
  F : Fun K "__init__" (n ++ ".__init__") st fI fd
  bi : Binds K fd ["self", fld] []
def spIniV (K : PySem.W.Frag) (C : Addr) (fld : Str) : Sp := fun vs H Q _ => ∃ (a : Addr) (v : V) (d : PyData), vs = [.ref a, v] ∧ H a = some (exo a C none) ∧ Dp K H v d ∧ SmD d ∧
  ∀ dx, H dx = none → dx ≠ a → Q .non (upd (upd H dx (exd dx [(fld, v)])) a (exo a C (some dx)))
section
variable {P : Program} {w : World} {K : PySem.W.Frag} {mg : Str → Option Value} {base : Heap}
theorem pre_len {z : Str} {d : PyData} (h : SmD d) (hz : z.length ≤ 100) : (Str.empty ++ z).length ≤ sizeLine ∧ ((Str.empty ++ z) ++ d.shown).length ≤ sizeLine := by
  have := h.len
  have e : (Str.empty : Str).length = 0 := rfl
  have e2 : (Str.empty ++ z).length = z.length := by
    rw [Str.length_append, e, Nat.zero_add]
  have e3 : ((Str.empty ++ z) ++ d.shown).length = z.length + d.shown.length := by
    rw [Str.length_append, e2]
  rw [e3, e2, sizeLine_eq]
  omega
theorem ok_ParseError {C f : Addr} {fd : FuncData} (T : InV K mg "ParseError" "line" s_ParseError___init C f fd "ValueError" "ValueError" "ValueError.__new__") {CB : Addr} (TB : CIn K mg "ClockError" CB) : FnG P w K mg base 1 f fd ["self", "line"] (spIniV K C "line") := by
  refine T.F.okG sc_ParseError___init (fun vs H Q E h => ?_) (fun cdv A outer s H vs Q E hr hgd h => ?_)
  · obtain ⟨a, v, d, rfl, _⟩ := h
    rfl
  · obtain ⟨a, v, d, rfl, ha, hd, sm, q⟩ := h
    refine ⟨_, pss_cons (ps_expr (pe_cinitB TB (.of PySem.F.excCall_ValueError) (by rfl) (pa_cons (pv 0) (pa_cons (pe_joined (.cons pe_str (.cons (pe_fmtD hr hgd (pv 1)) .nil))) pa_nil)))) (pss_one (ps_ostB (pv 0) (pv 1))), ?_⟩
    have z := pre_len (z := Str.ofString "cannot be read: ") sm (by decide +kernel)
    refine ⟨_, rfl, _, rfl, z.1, _, rfl, d, hd, sm, _, rfl, z.2, a, C, _, _, _, rfl, by show 1 ≤ 1000; decide, T.o, ha, ?_⟩
    exact ⟨_, rfl, _, rfl, a, C, _, _, _, rfl, T.o, T.s, T.no, ha, fun dx hx ne => q dx hx ne⟩
theorem ok_UnknownName {C f : Addr} {fd : FuncData} (T : InV K mg "UnknownName" "wanted" s_UnknownName___init C f fd "LookupError" "KeyError" "LookupError.__new__") (TB : BIn K mg "KeyError" "KeyError" "KeyError.__init__") : FnG P w K mg base 1 f fd ["self", "wanted"] (spIniV K C "wanted") := by
  refine T.F.okG sc_UnknownName___init (fun vs H Q E h => ?_) (fun cdv A outer s H vs Q E hr hgd h => ?_)
  · obtain ⟨a, v, d, rfl, _⟩ := h
    rfl
  · obtain ⟨a, v, d, rfl, ha, hd, sm, q⟩ := h
    refine ⟨_, pss_cons (ps_expr (pe_binit TB (by rfl) (pa_cons (pv 0) (pa_cons (pe_joined (.cons pe_str (.cons (pe_fmtD hr hgd (pv 1)) .nil))) pa_nil)))) (pss_one (ps_ostB (pv 0) (pv 1))), ?_⟩
    have z := pre_len (z := Str.ofString "no such name: ") sm (by decide +kernel)
    refine ⟨_, rfl, _, rfl, z.1, _, rfl, d, hd, sm, _, rfl, z.2, a, C, _, _, _, rfl, by show 1 ≤ 1000; decide, T.o, ha, ?_⟩
    exact ⟨_, rfl, _, rfl, a, C, _, _, _, rfl, T.o, T.s, T.no, ha, fun dx hx ne => q dx hx ne⟩
theorem ok_NotPossible {C f : Addr} {fd : FuncData} (T : InV K mg "NotPossible" "at" s_NotPossible___init C f fd "LookupError" "LookupError" "LookupError.__new__") (TB : BIn K mg "LookupError" "LookupError" "LookupError.__init__") : FnG P w K mg base 1 f fd ["self", "at"] (spIniV K C "at") := by
  refine T.F.okG sc_NotPossible___init (fun vs H Q E h => ?_) (fun cdv A outer s H vs Q E hr hgd h => ?_)
  · obtain ⟨a, v, d, rfl, _⟩ := h
    rfl
  · obtain ⟨a, v, d, rfl, ha, hd, sm, q⟩ := h
    refine ⟨_, pss_cons (ps_expr (pe_binit TB (by rfl) (pa_cons (pv 0) (pa_cons (pe_joined (.cons pe_str (.cons (pe_fmtD hr hgd (pv 1)) .nil))) pa_nil)))) (pss_one (ps_ostB (pv 0) (pv 1))), ?_⟩
    have z := pre_len (z := Str.ofString "not possible: ") sm (by decide +kernel)
    refine ⟨_, rfl, _, rfl, z.1, _, rfl, d, hd, sm, _, rfl, z.2, a, C, _, _, _, rfl, by show 1 ≤ 1000; decide, T.o, ha, ?_⟩
    exact ⟨_, rfl, _, rfl, a, C, _, _, _, rfl, T.o, T.s, T.no, ha, fun dx hx ne => q dx hx ne⟩
theorem ok_NothingToUndo {C f : Addr} {fd : FuncData} (T : InV K mg "NothingToUndo" "many" s_NothingToUndo___init C f fd "IndexError" "IndexError" "IndexError.__new__") (TB : BIn K mg "IndexError" "IndexError" "IndexError.__init__") : FnG P w K mg base 1 f fd ["self", "many"] (spIniV K C "many") := by
  refine T.F.okG sc_NothingToUndo___init (fun vs H Q E h => ?_) (fun cdv A outer s H vs Q E hr hgd h => ?_)
  · obtain ⟨a, v, d, rfl, _⟩ := h
    rfl
  · obtain ⟨a, v, d, rfl, ha, hd, sm, q⟩ := h
    refine ⟨_, pss_cons (ps_expr (pe_binit TB (by rfl) (pa_cons (pv 0) (pa_cons (pe_joined (.cons pe_str (.cons (pe_fmtD hr hgd (pv 1)) .nil))) pa_nil)))) (pss_one (ps_ostB (pv 0) (pv 1))), ?_⟩
    have z := pre_len (z := Str.ofString "not so many to undo: ") sm (by decide +kernel)
    refine ⟨_, rfl, _, rfl, z.1, _, rfl, d, hd, sm, _, rfl, z.2, a, C, _, _, _, rfl, by show 1 ≤ 1000; decide, T.o, ha, ?_⟩
    exact ⟨_, rfl, _, rfl, a, C, _, _, _, rfl, T.o, T.s, T.no, ha, fun dx hx ne => q dx hx ne⟩
theorem ok_TooMany {C f : Addr} {fd : FuncData} (T : InV K mg "TooMany" "limit" s_TooMany___init C f fd "OverflowError" "OverflowError" "OverflowError.__new__") (TB : BIn K mg "OverflowError" "OverflowError" "OverflowError.__init__") : FnG P w K mg base 1 f fd ["self", "limit"] (spIniV K C "limit") := by
  refine T.F.okG sc_TooMany___init (fun vs H Q E h => ?_) (fun cdv A outer s H vs Q E hr hgd h => ?_)
  · obtain ⟨a, v, d, rfl, _⟩ := h
    rfl
  · obtain ⟨a, v, d, rfl, ha, hd, sm, q⟩ := h
    refine ⟨_, pss_cons (ps_expr (pe_binit TB (by rfl) (pa_cons (pv 0) (pa_cons (pe_joined (.cons pe_str (.cons (pe_fmtD hr hgd (pv 1)) .nil))) pa_nil)))) (pss_one (ps_ostB (pv 0) (pv 1))), ?_⟩
    have z := pre_len (z := Str.ofString "more than ") sm (by decide +kernel)
    refine ⟨_, rfl, _, rfl, z.1, _, rfl, d, hd, sm, _, rfl, z.2, a, C, _, _, _, rfl, by show 1 ≤ 1000; decide, T.o, ha, ?_⟩
    exact ⟨_, rfl, _, rfl, a, C, _, _, _, rfl, T.o, T.s, T.no, ha, fun dx hx ne => q dx hx ne⟩
theorem ok_Refused {C f : Addr} {fd : FuncData} (T : InV K mg "Refused" "claim" s_Refused___init C f fd "ArithmeticError" "ArithmeticError" "ArithmeticError.__new__") (TB : BIn K mg "ArithmeticError" "ArithmeticError" "ArithmeticError.__init__") : FnG P w K mg base 1 f fd ["self", "claim"] (spIniV K C "claim") := by
  refine T.F.okG sc_Refused___init (fun vs H Q E h => ?_) (fun cdv A outer s H vs Q E hr hgd h => ?_)
  · obtain ⟨a, v, d, rfl, _⟩ := h
    rfl
  · obtain ⟨a, v, d, rfl, ha, hd, sm, q⟩ := h
    refine ⟨_, pss_cons (ps_expr (pe_binit TB (by rfl) (pa_cons (pv 0) (pa_cons (pe_joined (.cons pe_str (.cons (pe_fmtD hr hgd (pv 1)) .nil))) pa_nil)))) (pss_one (ps_ostB (pv 0) (pv 1))), ?_⟩
    have z := pre_len (z := Str.ofString "does not hold: ") sm (by decide +kernel)
    refine ⟨_, rfl, _, rfl, z.1, _, rfl, d, hd, sm, _, rfl, z.2, a, C, _, _, _, rfl, by show 1 ≤ 1000; decide, T.o, ha, ?_⟩
    exact ⟨_, rfl, _, rfl, a, C, _, _, _, rfl, T.o, T.s, T.no, ha, fun dx hx ne => q dx hx ne⟩
theorem ok_InvalidNumber {C f : Addr} {fd : FuncData} (T : InV K mg "InvalidNumber" "given" s_InvalidNumber___init C f fd "RuntimeError" "RuntimeError" "RuntimeError.__new__") (TB : BIn K mg "RuntimeError" "RuntimeError" "RuntimeError.__init__") : FnG P w K mg base 1 f fd ["self", "given"] (spIniV K C "given") := by
  refine T.F.okG sc_InvalidNumber___init (fun vs H Q E h => ?_) (fun cdv A outer s H vs Q E hr hgd h => ?_)
  · obtain ⟨a, v, d, rfl, _⟩ := h
    rfl
  · obtain ⟨a, v, d, rfl, ha, hd, sm, q⟩ := h
    refine ⟨_, pss_cons (ps_expr (pe_binit TB (by rfl) (pa_cons (pv 0) (pa_cons (pe_joined (.cons pe_str (.cons (pe_fmtD hr hgd (pv 1)) .nil))) pa_nil)))) (pss_one (ps_ostB (pv 0) (pv 1))), ?_⟩
    have z := pre_len (z := Str.ofString "no such number: ") sm (by decide +kernel)
    refine ⟨_, rfl, _, rfl, z.1, _, rfl, d, hd, sm, _, rfl, z.2, a, C, _, _, _, rfl, by show 1 ≤ 1000; decide, T.o, ha, ?_⟩
    exact ⟨_, rfl, _, rfl, a, C, _, _, _, rfl, T.o, T.s, T.no, ha, fun dx hx ne => q dx hx ne⟩
/-- of which classes an exception of C is -/
def IsTab (K : PySem.W.Frag) (C : Addr) (cs : List Value) (tab : List Bool) : Prop := Paired (fun cv b => PySem.W.kitOne K (.ref C) cv = some b) cs tab
def spTab (K : PySem.W.Frag) (cs : List Value) : Sp := fun vs H Q _ => ∃ (a C : Addr) (fs : List (Str × V)) (tab : List Bool), vs = [.ref a] ∧ ExV H a C fs ∧ ExcC K C ∧ IsTab K C cs tab ∧ ∀ p H', H p = none → Same H H' → H' p = some (.lst (tab.map V.bl)) → Q (.ref p) H'

theorem tab_cons {K : PySem.W.Frag} {C : Addr} {cv : Value} {cs : List Value} {tab : List Bool} (h : IsTab K C (cv :: cs) tab) : ∃ b t, tab = b :: t ∧ PySem.W.kitOne K (.ref C) cv = some b ∧ IsTab K C cs t := by
  cases h with
  | cons h1 h2 => exact ⟨_, _, rfl, h1, h2⟩
theorem tab_nil {K : PySem.W.Frag} {C : Addr} {tab : List Bool} (h : IsTab K C [] tab) : tab = [] := by
  cases h
  rfl
theorem ok_own {C_ClockError C_InvalidName C_InvalidAction C_InvalidSystem C_InvalidRun C_InvalidClocks C_InvalidOperation C_ParseError C_UnknownName C_NotPossible C_NothingToUndo C_TooMany C_Refused C_InvalidNumber f : Addr} {fd : FuncData} (B : Blt mg) (g_ClockError : mg "ClockError" = some (.ref C_ClockError)) (g_InvalidName : mg "InvalidName" = some (.ref C_InvalidName)) (g_InvalidAction : mg "InvalidAction" = some (.ref C_InvalidAction)) (g_InvalidSystem : mg "InvalidSystem" = some (.ref C_InvalidSystem)) (g_InvalidRun : mg "InvalidRun" = some (.ref C_InvalidRun)) (g_InvalidClocks : mg "InvalidClocks" = some (.ref C_InvalidClocks)) (g_InvalidOperation : mg "InvalidOperation" = some (.ref C_InvalidOperation)) (g_ParseError : mg "ParseError" = some (.ref C_ParseError)) (g_UnknownName : mg "UnknownName" = some (.ref C_UnknownName)) (g_NotPossible : mg "NotPossible" = some (.ref C_NotPossible)) (g_NothingToUndo : mg "NothingToUndo" = some (.ref C_NothingToUndo)) (g_TooMany : mg "TooMany" = some (.ref C_TooMany)) (g_Refused : mg "Refused" = some (.ref C_Refused)) (g_InvalidNumber : mg "InvalidNumber" = some (.ref C_InvalidNumber)) (D : Df K mg "_law_own" s_own ["error"] f fd) : FnOk P w K mg base CX0 1 f fd ["error"] (spTab K [.ref C_ClockError, .ref C_InvalidName, .ref C_InvalidAction, .ref C_InvalidSystem, .ref C_InvalidRun, .ref C_InvalidClocks, .ref C_InvalidOperation, .ref C_ParseError, .ref C_UnknownName, .ref C_NotPossible, .ref C_NothingToUndo, .ref C_TooMany, .ref C_Refused, .ref C_InvalidNumber]) := by
  refine D.F.ok sc_own (fun vs H Q E h => ?_) (fun cdv A outer s H vs Q E hr h => ?_)
  · obtain ⟨a, C, fs, tab, rfl, _⟩ := h
    rfl
  · obtain ⟨a, C, fs, tab, rfl, hx, hc, ht, q⟩ := h
    obtain ⟨b0, t0, rfl, k0, ht⟩ := tab_cons ht
    obtain ⟨b1, t1, rfl, k1, ht⟩ := tab_cons ht
    obtain ⟨b2, t2, rfl, k2, ht⟩ := tab_cons ht
    obtain ⟨b3, t3, rfl, k3, ht⟩ := tab_cons ht
    obtain ⟨b4, t4, rfl, k4, ht⟩ := tab_cons ht
    obtain ⟨b5, t5, rfl, k5, ht⟩ := tab_cons ht
    obtain ⟨b6, t6, rfl, k6, ht⟩ := tab_cons ht
    obtain ⟨b7, t7, rfl, k7, ht⟩ := tab_cons ht
    obtain ⟨b8, t8, rfl, k8, ht⟩ := tab_cons ht
    obtain ⟨b9, t9, rfl, k9, ht⟩ := tab_cons ht
    obtain ⟨b10, t10, rfl, k10, ht⟩ := tab_cons ht
    obtain ⟨b11, t11, rfl, k11, ht⟩ := tab_cons ht
    obtain ⟨b12, t12, rfl, k12, ht⟩ := tab_cons ht
    obtain ⟨b13, t13, rfl, k13, ht⟩ := tab_cons ht
    obtain rfl := tab_nil ht
    refine ⟨_, (pss_cons (ps_set (i := 1) sc_own.nd rfl (Or.inl rfl) (pe_lstN (pa_cons (pe_callB call_isX (by rfl) B.isinstance_ (by decide +kernel) (pa_cons (pv 0) (pa_cons (pe_glob (v := .ref C_ClockError) rfl g_ClockError rfl) pa_nil))) (pa_cons (pe_callB call_isX (by rfl) B.isinstance_ (by decide +kernel) (pa_cons (pv 0) (pa_cons (pe_glob (v := .ref C_InvalidName) rfl g_InvalidName rfl) pa_nil))) (pa_cons (pe_callB call_isX (by rfl) B.isinstance_ (by decide +kernel) (pa_cons (pv 0) (pa_cons (pe_glob (v := .ref C_InvalidAction) rfl g_InvalidAction rfl) pa_nil))) pa_nil)))))
    (pss_cons (ps_set (i := 1) sc_own.nd rfl (Or.inl rfl) (pe_op op_catN (pv 1) (pe_lstN (pa_cons (pe_callB call_isX (by rfl) B.isinstance_ (by decide +kernel) (pa_cons (pv 0) (pa_cons (pe_glob (v := .ref C_InvalidSystem) rfl g_InvalidSystem rfl) pa_nil))) (pa_cons (pe_callB call_isX (by rfl) B.isinstance_ (by decide +kernel) (pa_cons (pv 0) (pa_cons (pe_glob (v := .ref C_InvalidRun) rfl g_InvalidRun rfl) pa_nil))) (pa_cons (pe_callB call_isX (by rfl) B.isinstance_ (by decide +kernel) (pa_cons (pv 0) (pa_cons (pe_glob (v := .ref C_InvalidClocks) rfl g_InvalidClocks rfl) pa_nil))) pa_nil))))))
    (pss_cons (ps_set (i := 1) sc_own.nd rfl (Or.inl rfl) (pe_op op_catN (pv 1) (pe_lstN (pa_cons (pe_callB call_isX (by rfl) B.isinstance_ (by decide +kernel) (pa_cons (pv 0) (pa_cons (pe_glob (v := .ref C_InvalidOperation) rfl g_InvalidOperation rfl) pa_nil))) (pa_cons (pe_callB call_isX (by rfl) B.isinstance_ (by decide +kernel) (pa_cons (pv 0) (pa_cons (pe_glob (v := .ref C_ParseError) rfl g_ParseError rfl) pa_nil))) (pa_cons (pe_callB call_isX (by rfl) B.isinstance_ (by decide +kernel) (pa_cons (pv 0) (pa_cons (pe_glob (v := .ref C_UnknownName) rfl g_UnknownName rfl) pa_nil))) pa_nil))))))
    (pss_cons (ps_set (i := 1) sc_own.nd rfl (Or.inl rfl) (pe_op op_catN (pv 1) (pe_lstN (pa_cons (pe_callB call_isX (by rfl) B.isinstance_ (by decide +kernel) (pa_cons (pv 0) (pa_cons (pe_glob (v := .ref C_NotPossible) rfl g_NotPossible rfl) pa_nil))) (pa_cons (pe_callB call_isX (by rfl) B.isinstance_ (by decide +kernel) (pa_cons (pv 0) (pa_cons (pe_glob (v := .ref C_NothingToUndo) rfl g_NothingToUndo rfl) pa_nil))) (pa_cons (pe_callB call_isX (by rfl) B.isinstance_ (by decide +kernel) (pa_cons (pv 0) (pa_cons (pe_glob (v := .ref C_TooMany) rfl g_TooMany rfl) pa_nil))) pa_nil))))))
    (pss_one (ps_ret (pe_op op_catN (pv 1) (pe_lstN (pa_cons (pe_callB call_isX (by rfl) B.isinstance_ (by decide +kernel) (pa_cons (pv 0) (pa_cons (pe_glob (v := .ref C_Refused) rfl g_Refused rfl) pa_nil))) (pa_cons (pe_callB call_isX (by rfl) B.isinstance_ (by decide +kernel) (pa_cons (pv 0) (pa_cons (pe_glob (v := .ref C_InvalidNumber) rfl g_InvalidNumber rfl) pa_nil))) pa_nil)))))))))), ?_⟩
    refine ⟨_, rfl, a, C, fs, _, _, b0, rfl, hx, hc, .own _, k0, _, rfl, a, C, fs, _, _, b1, rfl, hx, hc, .own _, k1, _, rfl, a, C, fs, _, _, b2, rfl, hx, hc, .own _, k2, by show 3 ≤ sizeLine; decide, fun p0 H0 n0 e0 s0 => ?_⟩
    have x0 := hx.same s0
    refine ⟨_, rfl, _, rfl, a, C, fs, _, _, b3, rfl, x0, hc, .own _, k3, _, rfl, a, C, fs, _, _, b4, rfl, x0, hc, .own _, k4, _, rfl, a, C, fs, _, _, b5, rfl, x0, hc, .own _, k5, by show 3 ≤ sizeLine; decide, fun p1 H1 n1 e1 s1 => ⟨p0, p1, _, _, rfl, rfl, s1 _ _ e0, e1, by show 3 + 3 ≤ sizeLine; decide, fun r1 G1 m1 f1 u1 => ?_⟩⟩
    have w1 : Same H G1 := s0.trans (s1.trans u1)
    have y1 := hx.same w1
    refine ⟨_, rfl, _, rfl, a, C, fs, _, _, b6, rfl, y1, hc, .own _, k6, _, rfl, a, C, fs, _, _, b7, rfl, y1, hc, .own _, k7, _, rfl, a, C, fs, _, _, b8, rfl, y1, hc, .own _, k8, by show 3 ≤ sizeLine; decide, fun p2 H2 n2 e2 s2 => ⟨r1, p2, _, _, rfl, rfl, s2 _ _ f1, e2, by show 6 + 3 ≤ sizeLine; decide, fun r2 G2 m2 f2 u2 => ?_⟩⟩
    have w2 : Same H G2 := w1.trans (s2.trans u2)
    have y2 := hx.same w2
    refine ⟨_, rfl, _, rfl, a, C, fs, _, _, b9, rfl, y2, hc, .own _, k9, _, rfl, a, C, fs, _, _, b10, rfl, y2, hc, .own _, k10, _, rfl, a, C, fs, _, _, b11, rfl, y2, hc, .own _, k11, by show 3 ≤ sizeLine; decide, fun p3 H3 n3 e3 s3 => ⟨r2, p3, _, _, rfl, rfl, s3 _ _ f2, e3, by show 9 + 3 ≤ sizeLine; decide, fun r3 G3 m3 f3 u3 => ?_⟩⟩
    have w3 : Same H G3 := w2.trans (s3.trans u3)
    have y3 := hx.same w3
    refine ⟨_, rfl, _, rfl, a, C, fs, _, _, b12, rfl, y3, hc, .own _, k12, _, rfl, a, C, fs, _, _, b13, rfl, y3, hc, .own _, k13, by show 2 ≤ sizeLine; decide, fun p4 H4 n4 e4 s4 => ⟨r3, p4, _, _, rfl, rfl, s4 _ _ f3, e4, by show 12 + 2 ≤ sizeLine; decide, fun r4 G4 m4 f4 u4 => ?_⟩⟩
    have w4 : Same H G4 := w3.trans (s4.trans u4)
    exact q r4 G4 (w3.free (s4.free m4)) w4 f4

theorem ok_built_in {f : Addr} {fd : FuncData} (B : Blt mg) (m_ValueError : mg "ValueError" = none) (m_LookupError : mg "LookupError" = none) (m_KeyError : mg "KeyError" = none) (m_IndexError : mg "IndexError" = none) (m_ArithmeticError : mg "ArithmeticError" = none) (m_OverflowError : mg "OverflowError" = none) (m_RuntimeError : mg "RuntimeError" = none) (D : Df K mg "_law_built_in" s_built_in ["error"] f fd) : FnOk P w K mg base CX0 1 f fd ["error"] (spTab K [.type "ValueError", .type "LookupError", .type "KeyError", .type "IndexError", .type "ArithmeticError", .type "OverflowError", .type "RuntimeError"]) := by
  refine D.F.ok sc_built_in (fun vs H Q E h => ?_) (fun cdv A outer s H vs Q E hr h => ?_)
  · obtain ⟨a, C, fs, tab, rfl, _⟩ := h
    rfl
  · obtain ⟨a, C, fs, tab, rfl, hx, hc, ht, q⟩ := h
    obtain ⟨b0, t0, rfl, k0, ht⟩ := tab_cons ht
    obtain ⟨b1, t1, rfl, k1, ht⟩ := tab_cons ht
    obtain ⟨b2, t2, rfl, k2, ht⟩ := tab_cons ht
    obtain ⟨b3, t3, rfl, k3, ht⟩ := tab_cons ht
    obtain ⟨b4, t4, rfl, k4, ht⟩ := tab_cons ht
    obtain ⟨b5, t5, rfl, k5, ht⟩ := tab_cons ht
    obtain ⟨b6, t6, rfl, k6, ht⟩ := tab_cons ht
    obtain rfl := tab_nil ht
    refine ⟨_, (pss_cons (ps_set (i := 1) sc_built_in.nd rfl (Or.inl rfl) (pe_lstN (pa_cons (pe_callB call_isX (by rfl) B.isinstance_ (by decide +kernel) (pa_cons (pv 0) (pa_cons (pe_bltn (v := .ty "ValueError") rfl m_ValueError (by decide +kernel) rfl) pa_nil))) (pa_cons (pe_callB call_isX (by rfl) B.isinstance_ (by decide +kernel) (pa_cons (pv 0) (pa_cons (pe_bltn (v := .ty "LookupError") rfl m_LookupError (by decide +kernel) rfl) pa_nil))) (pa_cons (pe_callB call_isX (by rfl) B.isinstance_ (by decide +kernel) (pa_cons (pv 0) (pa_cons (pe_bltn (v := .ty "KeyError") rfl m_KeyError (by decide +kernel) rfl) pa_nil))) pa_nil)))))
    (pss_cons (ps_set (i := 1) sc_built_in.nd rfl (Or.inl rfl) (pe_op op_catN (pv 1) (pe_lstN (pa_cons (pe_callB call_isX (by rfl) B.isinstance_ (by decide +kernel) (pa_cons (pv 0) (pa_cons (pe_bltn (v := .ty "IndexError") rfl m_IndexError (by decide +kernel) rfl) pa_nil))) (pa_cons (pe_callB call_isX (by rfl) B.isinstance_ (by decide +kernel) (pa_cons (pv 0) (pa_cons (pe_bltn (v := .ty "ArithmeticError") rfl m_ArithmeticError (by decide +kernel) rfl) pa_nil))) pa_nil)))))
    (pss_one (ps_ret (pe_op op_catN (pv 1) (pe_lstN (pa_cons (pe_callB call_isX (by rfl) B.isinstance_ (by decide +kernel) (pa_cons (pv 0) (pa_cons (pe_bltn (v := .ty "OverflowError") rfl m_OverflowError (by decide +kernel) rfl) pa_nil))) (pa_cons (pe_callB call_isX (by rfl) B.isinstance_ (by decide +kernel) (pa_cons (pv 0) (pa_cons (pe_bltn (v := .ty "RuntimeError") rfl m_RuntimeError (by decide +kernel) rfl) pa_nil))) pa_nil)))))))), ?_⟩
    refine ⟨_, rfl, a, C, fs, _, _, b0, rfl, hx, hc, .ty _, k0, _, rfl, a, C, fs, _, _, b1, rfl, hx, hc, .ty _, k1, _, rfl, a, C, fs, _, _, b2, rfl, hx, hc, .ty _, k2, by show 3 ≤ sizeLine; decide, fun p0 H0 n0 e0 s0 => ?_⟩
    have x0 := hx.same s0
    refine ⟨_, rfl, _, rfl, a, C, fs, _, _, b3, rfl, x0, hc, .ty _, k3, _, rfl, a, C, fs, _, _, b4, rfl, x0, hc, .ty _, k4, by show 2 ≤ sizeLine; decide, fun p1 H1 n1 e1 s1 => ⟨p0, p1, _, _, rfl, rfl, s1 _ _ e0, e1, by show 3 + 2 ≤ sizeLine; decide, fun r1 G1 m1 f1 u1 => ?_⟩⟩
    have w1 : Same H G1 := s0.trans (s1.trans u1)
    have y1 := hx.same w1
    refine ⟨_, rfl, _, rfl, a, C, fs, _, _, b5, rfl, y1, hc, .ty _, k5, _, rfl, a, C, fs, _, _, b6, rfl, y1, hc, .ty _, k6, by show 2 ≤ sizeLine; decide, fun p2 H2 n2 e2 s2 => ⟨r1, p2, _, _, rfl, rfl, s2 _ _ f1, e2, by show 5 + 2 ≤ sizeLine; decide, fun r2 G2 m2 f2 u2 => ?_⟩⟩
    have w2 : Same H G2 := w1.trans (s2.trans u2)
    exact q r2 G2 (w1.free (s2.free m2)) w2 f2

end
end Gk

set_option Elab.async false
set_option linter.all false
set_option maxRecDepth 100000
set_option maxHeartbeats 8000000
namespace Gk
open PySem PySem.Spec PyProof.Rows L2
abbrev s_right : Stmt := topS 22
theorem sc_right : FnScope ["value", "number", "line", "claim", "messages", "errors", "at", "others", "due", "kept", "other", "error"] ["value", "number", "line", "claim"] (defScope s_right) := ⟨rfl, rfl, rfl, by decide +kernel, rfl, by decide +kernel, by decide +kernel⟩
/-! rows of truths, as data -/
theorem bDpS {K : PySem.W.Frag} {H : Hp} : ∀ bs : List Bool, DpAll K H (bs.map V.bl) (bs.map PyData.bool)
  | [] => .nil
  | b :: r => .cons (.bl b) (bDpS r)
theorem bDp {K : PySem.W.Frag} {H : Hp} {a : Addr} {bs : List Bool} (h : H a = some (.lst (bs.map V.bl))) : Dp K H (.ref a) (.list (bs.map PyData.bool)) := .lst (SqL.of h) (bDpS bs)
theorem bLay : ∀ bs : List Bool, PyData.canLayAll0 (bs.map PyData.bool) = true
  | [] => by simp [PyData.canLayAll0]
  | b :: r => by
    have ih := bLay r
    simp [PyData.canLayAll0, PyData.canLay0, ih]
theorem bDep : ∀ bs : List Bool, PyData.depthAll (bs.map PyData.bool) = 0
  | [] => by simp [PyData.depthAll]
  | b :: r => by
    have ih := bDep r
    simp [PyData.depthAll, PyData.depth, ih]
theorem bSh (bs : List Bool) : SeqAt.shaped (.list (bs.map PyData.bool)) = true := by
  simp [SeqAt.shaped, PyData.canLay0, PyData.depth, bLay bs, bDep]
theorem bEqv : ∀ bs cs : List Bool, PyData.eqvAll (bs.map PyData.bool) (cs.map PyData.bool) = decide (bs = cs)
  | [], [] => by simp [PyData.eqvAll]
  | [], c :: r => by simp [PyData.eqvAll]
  | b :: r, [] => by simp [PyData.eqvAll]
  | b :: r, c :: q => by
    have ih := bEqv r q
    simp only [List.map_cons, PyData.eqvAll, PyData.eqv, ih]
    cases b <;> cases c <;> simp
theorem bEqL (bs cs : List Bool) : PyData.eqv (.list (bs.map PyData.bool)) (.list (cs.map PyData.bool)) = decide (bs = cs) := by
  rw [PyData.eqv]
  exact bEqv bs cs
/-- equal rows of truths: != is false -/
theorem neB {K : PySem.W.Frag} {H : Hp} {a b : Addr} {bs : List Bool} {Q : VK} (ha : H a = some (.lst (bs.map V.bl))) (hb : H b = some (.lst (bs.map V.bl))) (q : Q (.bl false) H) : rNeD K (.ref a) (.ref b) H Q :=
  ⟨_, _, bDp ha, bDp hb, bSh bs, bSh bs, by rw [bEqL, decide_eq_true rfl]; exact q⟩
/-- small data, as a part of other -/
structure SmE (d : PyData) : Prop where
  s : d.showable = true
  n : d.hasDict = false
  l : d.leavesShort 13 = true
  b : d.bulk ≤ 100
  p : d.depth ≤ 10
theorem SmE.d {d : PyData} (h : SmE d) : SmD d := ⟨h.s, h.n, h.l, Nat.le_trans h.b (by decide), Nat.le_trans h.p (by decide)⟩
theorem SmE.int {n : Int} (h0 : 0 ≤ n) (h1 : n < 100000) : SmE (.int n) := by
  have e : (10 : Nat) ^ 12 = 1000000000000 := by decide
  have z := PyData.shown_int_le (i := n) (by omega)
  refine ⟨?_, rfl, ?_, by simp [PyData.bulk], by simp [PyData.depth]⟩
  · have := PySem.Flt.log2_lt_of (n := n.natAbs) (by decide : 0 < 30) (by
      have e2 : (2 : Nat) ^ 30 = 1073741824 := by decide
      omega)
    simp only [PyData.showable, decide_eq_true_eq]
    omega
  · simp only [PyData.leavesShort, decide_eq_true_eq]
    exact z
theorem sm_list {ds : List PyData} (h : ∀ d ∈ ds, SmE d) (hl : ds.length ≤ 8) : SmD (.list ds) := by
  have key : ∀ ds : List PyData, (∀ d ∈ ds, SmE d) → PyData.showableAll ds = true ∧ PyData.hasDictAll ds = false ∧ PyData.leavesShortAll 13 ds = true ∧ PyData.bulkAll ds ≤ 101 * ds.length ∧ PyData.depthAll ds ≤ 10 := by
    intro ds
    induction ds with
    | nil => intro _; simp [PyData.showableAll, PyData.hasDictAll, PyData.leavesShortAll, PyData.bulkAll, PyData.depthAll]
    | cons d r ih =>
      intro h
      have hd := h d (List.mem_cons_self ..)
      obtain ⟨i1, i2, i3, i4, i5⟩ := ih fun x hx => h x (List.mem_cons_of_mem _ hx)
      have hb := hd.b
      have hp := hd.p
      simp only [PyData.showableAll, PyData.hasDictAll, PyData.leavesShortAll, PyData.bulkAll, PyData.depthAll, hd.s, hd.n, hd.l, i1, i2, i3, Bool.and_self, Bool.or_self, List.length_cons, true_and]
      omega
  obtain ⟨k1, k2, k3, k4, k5⟩ := key ds h
  refine ⟨by simp only [PyData.showable, k1], by simp only [PyData.hasDict, k2], by simp only [PyData.leavesShort, k3], ?_, ?_⟩
  · simp only [PyData.bulk]
    omega
  · simp only [PyData.depth]
    omega
def tabO (b : Bool) (k : Nat) : List Bool := b :: (List.range 13).map fun j => decide (j = k)
/-- the classes' places: of the package, built-in -/
structure Er (K : PySem.W.Frag) (cs bs : List Value) (C : Addr) (b : Bool) (k : Nat) (bt : List Bool) : Prop where
  x : ExcC K C
  o : IsTab K C cs (tabO b k)
  t : IsTab K C bs bt
def spRight (K : PySem.W.Frag) : Sp := fun vs H Q _ => ∃ (v : V) (n : Int) (l c : V) (dv dl dc : PyData), vs = [v, .int n, l, c] ∧ Dp K H v dv ∧ Dp K H l dl ∧ Dp K H c dc ∧ SmE dv ∧ SmE dl ∧ SmE dc ∧ 0 ≤ n ∧ n < 3000 ∧ ∀ H', Same H H' → Q (.bl true) H'

theorem Dp.same1 {K : PySem.W.Frag} {H H' : Hp} (s : Same H H') {a : Addr} {xs : List V} (h : SqT K H a xs) : SqT K H' a xs := gSeqT s h
mutual
theorem dp_same {K : PySem.W.Frag} {H H' : Hp} (s : Same H H') : ∀ (d : PyData) (v : V), Dp K H v d → Dp K H' v d
  | .none, _, h => by
    cases h
    exact .non
  | .bool b, _, h => by
    cases h
    exact .bl b
  | .int i, _, h => by
    cases h
    exact .int i
  | .str x, _, h => by
    cases h
    exact .str x
  | .list ds, _, h => by
    cases h with
    | lst e r => exact .lst (s.seq e) (dp_sameAll s ds _ r)
  | .tuple ds, _, h => by
    cases h with
    | tup e r => exact .tup (gSeqT s e) (dp_sameAll s ds _ r)
  | .dict kvs, _, h => by cases h
theorem dp_sameAll {K : PySem.W.Frag} {H H' : Hp} (s : Same H H') : ∀ (ds : List PyData) (vs : List V), DpAll K H vs ds → DpAll K H' vs ds
  | [], _, h => by
    cases h
    exact .nil
  | d :: r, _, h => by
    cases h with
    | cons e q => exact .cons (dp_same s d _ e) (dp_sameAll s r _ q)
end
theorem pe_clo {X : Cx} {e : Expr} {te : TE} (h : PE X e te) : PE X e (fun σ H Q => ∃ R : VK, te σ H R ∧ ∀ v H', R v H' → Q v H') := ⟨fun pins s σ H Q I z => by
  obtain ⟨R, z, k⟩ := z
  exact thn (h.run pins s σ H R I z) fun u s1 ⟨v, H1, I1, r1, q1⟩ => ⟨v, H1, I1, r1, k _ _ q1⟩⟩
def tExc1N (C : Addr) (ta : TE) : TE := fun σ H Q => ta σ H fun _ H1 => ∀ a H', H1 a = none → Same H1 H' → ExV H' a C [] → Q (.ref a) H'
theorem pe_exc1N {X : Cx} {C : Addr} {bmB : List Value} {B newId initId : String} {x : Str} {e : Expr} {ta : TE} {p pos : Pos} (F : ExcBaseFacts B newId initId bmB) (q : PySem.W.excIn X.K C bmB newId = true) (gC : X.mg x = some (.ref C)) (kC : PySem.W.keepIn X.K (.ref C) = true) (hg : Gl X x)
    (he : PE X e ta) (hs : starEach [e] X.env = (false, eval e X.env) :: starEach [] X.env := by rfl) (hdb : (x == ("__debug__" : Str)) = false := by decide) : PE X (.Call (.Name x p) [e] [] pos) (tExc1N C ta) := by
  refine ⟨fun pins s σ H Q I h => (pe_exc1 F q gC kC hg (pe_clo he) hs hdb).run pins s σ H Q I ⟨_, h, fun _ H1 k a ha => k a _ ha (gSame_new ha) (.bare upd_same)⟩⟩
/-- C(v), held -/
theorem mk_read {K : PySem.W.Frag} {C : Addr} {fld : Str} {v : V} {d : PyData} {σ : L2.St} {H : Hp} {Q : VK} {ta : TA} (ht : ∀ q : List V → Hp → Prop, q [v] H → ta σ H q) (hd : Dp K H v d) (sm : SmD d)
    (q : ∀ a H', H a = none → Same H H' → ExV H' a C [(fld, v)] → Q (.ref a) H') : TMk C (spIniV K C fld) ta σ H Q := by
  refine ⟨ht _ ⟨by show 1 ≤ 1000; decide, fun a ha => ⟨a, v, d, rfl, upd_same, dp_same (gSame_new ha) _ _ hd, sm, fun dx hx ne => ⟨rfl, ?_⟩⟩⟩⟩
  rw [upd_ne ne] at hx
  refine q a _ ha (fun b o e => ?_) (.own upd_same ?_)
  · rw [upd_ne (ne_of_none e ha), upd_ne (ne_of_none e hx), upd_ne (ne_of_none e ha)]
    exact e
  · rw [upd_ne ne, upd_same]
end Gk

set_option Elab.async false
set_option linter.all false
set_option maxRecDepth 100000
set_option maxHeartbeats 16000000
namespace Gk
open PySem PySem.Spec PyProof.Rows L2
theorem iteN {c : Prop} [Decidable c] {A B : Prop} (h : ¬ c) (b : B) : if c then A else B := by
  rw [if_neg h]
  exact b
theorem ne_ft : ¬ (false = true) := by decide
/-- the row of truths that the law puts together -/
theorem tabRow (b : Bool) (k n : Nat) (h : n = 13) : ([V.bl b] ++ ((List.range n).map fun j => decide (j = k)).map V.bl) = (tabO b k).map V.bl := by
  subst h
  rfl
theorem rowStep (k j : Nat) : (((List.range (j + 1)).map fun m => decide (m = k)).map V.bl) = (((List.range j).map fun m => decide (m = k)).map V.bl) ++ [V.bl (decide (j = k))] := by
  rw [List.range_succ, List.map_append, List.map_append]
  rfl
def rowOf (bs : List Bool) : PyData := .list (bs.map PyData.bool)
theorem rows_dp {K : PySem.W.Frag} {H : Hp} : ∀ (ps : List Addr) (BT : List (List Bool)), ps.length = BT.length → (∀ (k : Nat) (p : Addr) (b : List Bool), ps[k]? = some p → BT[k]? = some b → H p = some (.lst (b.map V.bl))) → DpAll K H (ps.map V.ref) (BT.map rowOf)
  | [], [], _, _ => .nil
  | p :: ps, b :: BT, hl, h => .cons (bDp (h 0 p b rfl rfl)) (rows_dp ps BT (by simpa using hl) fun k p' b' h1 h2 => h (k + 1) p' b' h1 h2)
  | [], b :: BT, hl, _ => by cases hl
  | p :: ps, [], hl, _ => by cases hl
abbrev btV : List Bool := [true, false, false, false, false, false, false]
abbrev BTs : List (List Bool) := [[false, true, true, false, false, false, false], [false, true, false, false, false, false, false], [false, true, false, true, false, false, false], [false, false, false, false, true, true, false], [false, false, false, false, true, false, false], [false, false, false, false, false, false, true]]
theorem rows_sh : SeqAt.shaped (.list (BTs.map rowOf)) = true := by decide +kernel
theorem rows_eq : PyData.eqv (.list (BTs.map rowOf)) (.list (BTs.map rowOf)) = true := by decide +kernel
theorem exv_mut {H : Hp} {a C l : Addr} {fs : List (Str × V)} {xs : List V} {o : HO} (h : ExV H a C fs) (hl : H l = some (.lst xs)) : ExV (upd H l o) a C fs := by
  cases h with
  | bare e => exact .bare (by rw [upd_ne (ne_of e hl (by intro z; cases z))]; exact e)
  | own e d => exact .own (by rw [upd_ne (ne_of e hl (by intro z; cases z))]; exact e) (by rw [upd_ne (ne_of d hl (by intro z; cases z))]; exact d)
section
variable {P : Program} {w : World} {K : PySem.W.Frag} {mg : Str → Option Value} {base : Heap}

theorem ok_right {C_ClockError C_InvalidName C_InvalidAction C_InvalidSystem C_InvalidRun C_InvalidClocks C_InvalidOperation C_ParseError C_UnknownName C_NotPossible C_NothingToUndo C_TooMany C_Refused C_InvalidNumber : Addr}
    {fi_ParseError fi_UnknownName fi_NotPossible fi_NothingToUndo fi_TooMany fi_Refused fi_InvalidNumber f f1 f2 : Addr} {fd_ParseError fd_UnknownName fd_NotPossible fd_NothingToUndo fd_TooMany fd_Refused fd_InvalidNumber fd fd1 fd2 : FuncData}
    (B : Blt mg)
    (T_InvalidName : OwnT K mg "InvalidName" C_InvalidName) (E_InvalidName : Er K [.ref C_ClockError, .ref C_InvalidName, .ref C_InvalidAction, .ref C_InvalidSystem, .ref C_InvalidRun, .ref C_InvalidClocks, .ref C_InvalidOperation, .ref C_ParseError, .ref C_UnknownName, .ref C_NotPossible, .ref C_NothingToUndo, .ref C_TooMany, .ref C_Refused, .ref C_InvalidNumber] [.type "ValueError", .type "LookupError", .type "KeyError", .type "IndexError", .type "ArithmeticError", .type "OverflowError", .type "RuntimeError"] C_InvalidName true 0 btV)
    (T_InvalidAction : OwnT K mg "InvalidAction" C_InvalidAction) (E_InvalidAction : Er K [.ref C_ClockError, .ref C_InvalidName, .ref C_InvalidAction, .ref C_InvalidSystem, .ref C_InvalidRun, .ref C_InvalidClocks, .ref C_InvalidOperation, .ref C_ParseError, .ref C_UnknownName, .ref C_NotPossible, .ref C_NothingToUndo, .ref C_TooMany, .ref C_Refused, .ref C_InvalidNumber] [.type "ValueError", .type "LookupError", .type "KeyError", .type "IndexError", .type "ArithmeticError", .type "OverflowError", .type "RuntimeError"] C_InvalidAction true 1 btV)
    (T_InvalidSystem : OwnT K mg "InvalidSystem" C_InvalidSystem) (E_InvalidSystem : Er K [.ref C_ClockError, .ref C_InvalidName, .ref C_InvalidAction, .ref C_InvalidSystem, .ref C_InvalidRun, .ref C_InvalidClocks, .ref C_InvalidOperation, .ref C_ParseError, .ref C_UnknownName, .ref C_NotPossible, .ref C_NothingToUndo, .ref C_TooMany, .ref C_Refused, .ref C_InvalidNumber] [.type "ValueError", .type "LookupError", .type "KeyError", .type "IndexError", .type "ArithmeticError", .type "OverflowError", .type "RuntimeError"] C_InvalidSystem true 2 btV)
    (T_InvalidRun : OwnT K mg "InvalidRun" C_InvalidRun) (E_InvalidRun : Er K [.ref C_ClockError, .ref C_InvalidName, .ref C_InvalidAction, .ref C_InvalidSystem, .ref C_InvalidRun, .ref C_InvalidClocks, .ref C_InvalidOperation, .ref C_ParseError, .ref C_UnknownName, .ref C_NotPossible, .ref C_NothingToUndo, .ref C_TooMany, .ref C_Refused, .ref C_InvalidNumber] [.type "ValueError", .type "LookupError", .type "KeyError", .type "IndexError", .type "ArithmeticError", .type "OverflowError", .type "RuntimeError"] C_InvalidRun true 3 btV)
    (T_InvalidClocks : OwnT K mg "InvalidClocks" C_InvalidClocks) (E_InvalidClocks : Er K [.ref C_ClockError, .ref C_InvalidName, .ref C_InvalidAction, .ref C_InvalidSystem, .ref C_InvalidRun, .ref C_InvalidClocks, .ref C_InvalidOperation, .ref C_ParseError, .ref C_UnknownName, .ref C_NotPossible, .ref C_NothingToUndo, .ref C_TooMany, .ref C_Refused, .ref C_InvalidNumber] [.type "ValueError", .type "LookupError", .type "KeyError", .type "IndexError", .type "ArithmeticError", .type "OverflowError", .type "RuntimeError"] C_InvalidClocks true 4 btV)
    (T_InvalidOperation : OwnT K mg "InvalidOperation" C_InvalidOperation) (E_InvalidOperation : Er K [.ref C_ClockError, .ref C_InvalidName, .ref C_InvalidAction, .ref C_InvalidSystem, .ref C_InvalidRun, .ref C_InvalidClocks, .ref C_InvalidOperation, .ref C_ParseError, .ref C_UnknownName, .ref C_NotPossible, .ref C_NothingToUndo, .ref C_TooMany, .ref C_Refused, .ref C_InvalidNumber] [.type "ValueError", .type "LookupError", .type "KeyError", .type "IndexError", .type "ArithmeticError", .type "OverflowError", .type "RuntimeError"] C_InvalidOperation true 5 btV)
    (T_ParseError : InV K mg "ParseError" "line" s_ParseError___init C_ParseError fi_ParseError fd_ParseError "ValueError" "ValueError" "ValueError.__new__") (G_ParseError : FnG P w K mg base 1 fi_ParseError fd_ParseError ["self", "line"] (spIniV K C_ParseError "line")) (E_ParseError : Er K [.ref C_ClockError, .ref C_InvalidName, .ref C_InvalidAction, .ref C_InvalidSystem, .ref C_InvalidRun, .ref C_InvalidClocks, .ref C_InvalidOperation, .ref C_ParseError, .ref C_UnknownName, .ref C_NotPossible, .ref C_NothingToUndo, .ref C_TooMany, .ref C_Refused, .ref C_InvalidNumber] [.type "ValueError", .type "LookupError", .type "KeyError", .type "IndexError", .type "ArithmeticError", .type "OverflowError", .type "RuntimeError"] C_ParseError true 6 btV)
    (T_UnknownName : InV K mg "UnknownName" "wanted" s_UnknownName___init C_UnknownName fi_UnknownName fd_UnknownName "LookupError" "KeyError" "LookupError.__new__") (G_UnknownName : FnG P w K mg base 1 fi_UnknownName fd_UnknownName ["self", "wanted"] (spIniV K C_UnknownName "wanted")) (E_UnknownName : Er K [.ref C_ClockError, .ref C_InvalidName, .ref C_InvalidAction, .ref C_InvalidSystem, .ref C_InvalidRun, .ref C_InvalidClocks, .ref C_InvalidOperation, .ref C_ParseError, .ref C_UnknownName, .ref C_NotPossible, .ref C_NothingToUndo, .ref C_TooMany, .ref C_Refused, .ref C_InvalidNumber] [.type "ValueError", .type "LookupError", .type "KeyError", .type "IndexError", .type "ArithmeticError", .type "OverflowError", .type "RuntimeError"] C_UnknownName false 7 [false, true, true, false, false, false, false])
    (T_NotPossible : InV K mg "NotPossible" "at" s_NotPossible___init C_NotPossible fi_NotPossible fd_NotPossible "LookupError" "LookupError" "LookupError.__new__") (G_NotPossible : FnG P w K mg base 1 fi_NotPossible fd_NotPossible ["self", "at"] (spIniV K C_NotPossible "at")) (E_NotPossible : Er K [.ref C_ClockError, .ref C_InvalidName, .ref C_InvalidAction, .ref C_InvalidSystem, .ref C_InvalidRun, .ref C_InvalidClocks, .ref C_InvalidOperation, .ref C_ParseError, .ref C_UnknownName, .ref C_NotPossible, .ref C_NothingToUndo, .ref C_TooMany, .ref C_Refused, .ref C_InvalidNumber] [.type "ValueError", .type "LookupError", .type "KeyError", .type "IndexError", .type "ArithmeticError", .type "OverflowError", .type "RuntimeError"] C_NotPossible false 8 [false, true, false, false, false, false, false])
    (T_NothingToUndo : InV K mg "NothingToUndo" "many" s_NothingToUndo___init C_NothingToUndo fi_NothingToUndo fd_NothingToUndo "IndexError" "IndexError" "IndexError.__new__") (G_NothingToUndo : FnG P w K mg base 1 fi_NothingToUndo fd_NothingToUndo ["self", "many"] (spIniV K C_NothingToUndo "many")) (E_NothingToUndo : Er K [.ref C_ClockError, .ref C_InvalidName, .ref C_InvalidAction, .ref C_InvalidSystem, .ref C_InvalidRun, .ref C_InvalidClocks, .ref C_InvalidOperation, .ref C_ParseError, .ref C_UnknownName, .ref C_NotPossible, .ref C_NothingToUndo, .ref C_TooMany, .ref C_Refused, .ref C_InvalidNumber] [.type "ValueError", .type "LookupError", .type "KeyError", .type "IndexError", .type "ArithmeticError", .type "OverflowError", .type "RuntimeError"] C_NothingToUndo false 9 [false, true, false, true, false, false, false])
    (T_TooMany : InV K mg "TooMany" "limit" s_TooMany___init C_TooMany fi_TooMany fd_TooMany "OverflowError" "OverflowError" "OverflowError.__new__") (G_TooMany : FnG P w K mg base 1 fi_TooMany fd_TooMany ["self", "limit"] (spIniV K C_TooMany "limit")) (E_TooMany : Er K [.ref C_ClockError, .ref C_InvalidName, .ref C_InvalidAction, .ref C_InvalidSystem, .ref C_InvalidRun, .ref C_InvalidClocks, .ref C_InvalidOperation, .ref C_ParseError, .ref C_UnknownName, .ref C_NotPossible, .ref C_NothingToUndo, .ref C_TooMany, .ref C_Refused, .ref C_InvalidNumber] [.type "ValueError", .type "LookupError", .type "KeyError", .type "IndexError", .type "ArithmeticError", .type "OverflowError", .type "RuntimeError"] C_TooMany false 10 [false, false, false, false, true, true, false])
    (T_Refused : InV K mg "Refused" "claim" s_Refused___init C_Refused fi_Refused fd_Refused "ArithmeticError" "ArithmeticError" "ArithmeticError.__new__") (G_Refused : FnG P w K mg base 1 fi_Refused fd_Refused ["self", "claim"] (spIniV K C_Refused "claim")) (E_Refused : Er K [.ref C_ClockError, .ref C_InvalidName, .ref C_InvalidAction, .ref C_InvalidSystem, .ref C_InvalidRun, .ref C_InvalidClocks, .ref C_InvalidOperation, .ref C_ParseError, .ref C_UnknownName, .ref C_NotPossible, .ref C_NothingToUndo, .ref C_TooMany, .ref C_Refused, .ref C_InvalidNumber] [.type "ValueError", .type "LookupError", .type "KeyError", .type "IndexError", .type "ArithmeticError", .type "OverflowError", .type "RuntimeError"] C_Refused false 11 [false, false, false, false, true, false, false])
    (T_InvalidNumber : InV K mg "InvalidNumber" "given" s_InvalidNumber___init C_InvalidNumber fi_InvalidNumber fd_InvalidNumber "RuntimeError" "RuntimeError" "RuntimeError.__new__") (G_InvalidNumber : FnG P w K mg base 1 fi_InvalidNumber fd_InvalidNumber ["self", "given"] (spIniV K C_InvalidNumber "given")) (E_InvalidNumber : Er K [.ref C_ClockError, .ref C_InvalidName, .ref C_InvalidAction, .ref C_InvalidSystem, .ref C_InvalidRun, .ref C_InvalidClocks, .ref C_InvalidOperation, .ref C_ParseError, .ref C_UnknownName, .ref C_NotPossible, .ref C_NothingToUndo, .ref C_TooMany, .ref C_Refused, .ref C_InvalidNumber] [.type "ValueError", .type "LookupError", .type "KeyError", .type "IndexError", .type "ArithmeticError", .type "OverflowError", .type "RuntimeError"] C_InvalidNumber false 12 [false, false, false, false, false, false, true])
    (D_own : Df K mg "_law_own" s_own ["error"] f1 fd1) (G_own : FnOk P w K mg base CX0 1 f1 fd1 ["error"] (spTab K [.ref C_ClockError, .ref C_InvalidName, .ref C_InvalidAction, .ref C_InvalidSystem, .ref C_InvalidRun, .ref C_InvalidClocks, .ref C_InvalidOperation, .ref C_ParseError, .ref C_UnknownName, .ref C_NotPossible, .ref C_NothingToUndo, .ref C_TooMany, .ref C_Refused, .ref C_InvalidNumber]))
    (D_built_in : Df K mg "_law_built_in" s_built_in ["error"] f2 fd2) (G_built_in : FnOk P w K mg base CX0 1 f2 fd2 ["error"] (spTab K [.type "ValueError", .type "LookupError", .type "KeyError", .type "IndexError", .type "ArithmeticError", .type "OverflowError", .type "RuntimeError"]))
    (D : Df K mg "_law_right" s_right ["value", "number", "line", "claim"] f fd) :
    FnG P w K mg base 3 f fd ["value", "number", "line", "claim"] (spRight K) := by
  refine D.F.okG sc_right (fun vs H Q E h => ?_) (fun cdv A outer s H vs Q E hr hgd h => ?_)
  · obtain ⟨v, n, l, c, dv, dl, dc, rfl, _⟩ := h
    rfl
  · obtain ⟨v, n, l, c, dv, dl, dc, rfl, hv, hl, hc, sv, sl, sc, n0, n1, q⟩ := h
    have sn : SmE (.int n) := .int n0 (by omega)
    refine ⟨_, (pss_cons (ps_set (i := 4) sc_right.nd rfl (Or.inl rfl) (pe_lstN (pa_cons (pe_exc1N PySem.F.excBase_ValueError T_InvalidName.x T_InvalidName.g T_InvalidName.k (by rfl) pe_str) (pa_cons (pe_exc1N PySem.F.excBase_ValueError T_InvalidAction.x T_InvalidAction.g T_InvalidAction.k (by rfl) pe_str) (pa_cons (pe_exc1N PySem.F.excBase_ValueError T_InvalidSystem.x T_InvalidSystem.g T_InvalidSystem.k (by rfl) pe_str) (pa_cons (pe_exc1N PySem.F.excBase_ValueError T_InvalidRun.x T_InvalidRun.g T_InvalidRun.k (by rfl) pe_str) (pa_cons (pe_exc1N PySem.F.excBase_ValueError T_InvalidClocks.x T_InvalidClocks.g T_InvalidClocks.k (by rfl) pe_str) pa_nil)))))))
    (pss_cons (ps_set (i := 5) sc_right.nd rfl (Or.inl rfl) (pe_op op_catN (pv 4) (pe_lstN (pa_cons (pe_exc1N PySem.F.excBase_ValueError T_InvalidOperation.x T_InvalidOperation.g T_InvalidOperation.k (by rfl) pe_str) (pa_cons (pe_exV T_ParseError.o T_ParseError.i T_ParseError.ti G_ParseError (hr.mono (by decide)) hgd T_ParseError.bi (by rfl) T_ParseError.g (pa_cons (pv 2) pa_nil)) pa_nil)))))
    (pss_cons (ps_for PassesOwn.never rfl (pi_range1 (by rfl) B.range (pa_cons (pe_callB call_len_seq (by rfl) B.len_ (by decide +kernel) (pa_cons (pv 5) pa_nil)) pa_nil)) (pg_name (i := 6) sc_right.nd rfl (Or.inr rfl))
    (pss_cons (ps_if (pt_cmpR (op_neD hr.units) (pe_call G_own (hr.mono (by decide)) (by rfl) D_own.g D_own.F.kp D_own.b .nil pass0 (pa_cons (pe_ix ix_list (pv 5) (pv 6) (fun _ _ => rfl)) pa_nil)) (pe_op op_catN (pe_lstN (pa_cons pe_bl pa_nil)) (pe_lc (own := [("other", 10)]) (g := gName 10) (tt := tYes) (by rfl) sc_right.nd (pi_range1 (by rfl) B.range (pa_cons pe_int pa_nil)) (blkOk_by (N := ["value", "number", "line", "claim", "messages", "errors", "at", "others", "due", "kept", "other", "error"]) (sc := defScope s_right) (by decide +kernel)) (fun _ _ _ _ _ => (pg_name (i := 10) sc_right.nd rfl (Or.inl rfl))) (fun _ _ _ _ _ => pts_nil) (fun _ _ _ _ _ => (pe_cmpR op_eq (pv 10) (pv 6) (nomark _))))) (nomark _))
    (pss_one (ps_ret pe_bl)) pss_nil)
    (pss_one (ps_if (pt_cmpR (op_neD hr.units) (pe_call G_built_in (hr.mono (by decide)) (by rfl) D_built_in.g D_built_in.F.kp D_built_in.b .nil pass0 (pa_cons (pe_ix ix_list (pv 5) (pv 6) (fun _ _ => rfl)) pa_nil)) (pe_lstN (pa_cons pe_bl (pa_cons pe_bl (pa_cons pe_bl (pa_cons pe_bl (pa_cons pe_bl (pa_cons pe_bl (pa_cons pe_bl pa_nil)))))))) (nomark _))
    (pss_one (ps_ret pe_bl)) pss_nil))))
    (pss_cons (ps_set (i := 7) sc_right.nd rfl (Or.inl rfl) (pe_lstN (pa_cons (pe_exV T_UnknownName.o T_UnknownName.i T_UnknownName.ti G_UnknownName (hr.mono (by decide)) hgd T_UnknownName.bi (by rfl) T_UnknownName.g (pa_cons (pv 0) pa_nil)) (pa_cons (pe_exV T_NotPossible.o T_NotPossible.i T_NotPossible.ti G_NotPossible (hr.mono (by decide)) hgd T_NotPossible.bi (by rfl) T_NotPossible.g (pa_cons (pv 1) pa_nil)) (pa_cons (pe_exV T_NothingToUndo.o T_NothingToUndo.i T_NothingToUndo.ti G_NothingToUndo (hr.mono (by decide)) hgd T_NothingToUndo.bi (by rfl) T_NothingToUndo.g (pa_cons (pv 1) pa_nil)) (pa_cons (pe_exV T_TooMany.o T_TooMany.i T_TooMany.ti G_TooMany (hr.mono (by decide)) hgd T_TooMany.bi (by rfl) T_TooMany.g (pa_cons (pv 1) pa_nil)) (pa_cons (pe_exV T_Refused.o T_Refused.i T_Refused.ti G_Refused (hr.mono (by decide)) hgd T_Refused.bi (by rfl) T_Refused.g (pa_cons (pv 3) pa_nil)) pa_nil)))))))
    (pss_cons (ps_expr (pe_bm PySem.F.plainAttrs_list PySem.F.slot_list_append PySem.F.type_list_append mt_append (pv 7) (pa_cons (pe_exV T_InvalidNumber.o T_InvalidNumber.i T_InvalidNumber.ti G_InvalidNumber (hr.mono (by decide)) hgd T_InvalidNumber.bi (by rfl) T_InvalidNumber.g (pa_cons (pv 0) pa_nil)) pa_nil)))
    (pss_cons (ps_for PassesOwn.never rfl (pi_range1 (by rfl) B.range (pa_cons (pe_callB call_len_seq (by rfl) B.len_ (by decide +kernel) (pa_cons (pv 7) pa_nil)) pa_nil)) (pg_name (i := 6) sc_right.nd rfl (Or.inr rfl))
    (pss_one (ps_if (pt_cmpR (op_neD hr.units) (pe_call G_own (hr.mono (by decide)) (by rfl) D_own.g D_own.F.kp D_own.b .nil pass0 (pa_cons (pe_ix ix_list (pv 7) (pv 6) (fun _ _ => rfl)) pa_nil)) (pe_op op_catN (pe_lstN (pa_cons pe_bl pa_nil)) (pe_lc (own := [("other", 10)]) (g := gName 10) (tt := tYes) (by rfl) sc_right.nd (pi_range1 (by rfl) B.range (pa_cons pe_int pa_nil)) (blkOk_by (N := ["value", "number", "line", "claim", "messages", "errors", "at", "others", "due", "kept", "other", "error"]) (sc := defScope s_right) (by decide +kernel)) (fun _ _ _ _ _ => (pg_name (i := 10) sc_right.nd rfl (Or.inl rfl))) (fun _ _ _ _ _ => pts_nil) (fun _ _ _ _ _ => (pe_cmpR op_eq (pv 10) (pe_op op_add (pv 6) pe_int) (nomark _))))) (nomark _))
    (pss_one (ps_ret pe_bl)) pss_nil)))
    (pss_cons (ps_set (i := 8) sc_right.nd rfl (Or.inl rfl) (pe_lstN (pa_cons (pe_lstN (pa_cons pe_bl (pa_cons pe_bl (pa_cons pe_bl (pa_cons pe_bl (pa_cons pe_bl (pa_cons pe_bl (pa_cons pe_bl pa_nil)))))))) (pa_cons (pe_lstN (pa_cons pe_bl (pa_cons pe_bl (pa_cons pe_bl (pa_cons pe_bl (pa_cons pe_bl (pa_cons pe_bl (pa_cons pe_bl pa_nil)))))))) pa_nil))))
    (pss_cons (ps_set (i := 8) sc_right.nd rfl (Or.inl rfl) (pe_op op_catN (pv 8) (pe_lstN (pa_cons (pe_lstN (pa_cons pe_bl (pa_cons pe_bl (pa_cons pe_bl (pa_cons pe_bl (pa_cons pe_bl (pa_cons pe_bl (pa_cons pe_bl pa_nil)))))))) (pa_cons (pe_lstN (pa_cons pe_bl (pa_cons pe_bl (pa_cons pe_bl (pa_cons pe_bl (pa_cons pe_bl (pa_cons pe_bl (pa_cons pe_bl pa_nil)))))))) pa_nil)))))
    (pss_cons (ps_set (i := 8) sc_right.nd rfl (Or.inl rfl) (pe_op op_catN (pv 8) (pe_lstN (pa_cons (pe_lstN (pa_cons pe_bl (pa_cons pe_bl (pa_cons pe_bl (pa_cons pe_bl (pa_cons pe_bl (pa_cons pe_bl (pa_cons pe_bl pa_nil)))))))) (pa_cons (pe_lstN (pa_cons pe_bl (pa_cons pe_bl (pa_cons pe_bl (pa_cons pe_bl (pa_cons pe_bl (pa_cons pe_bl (pa_cons pe_bl pa_nil)))))))) pa_nil)))))
    (pss_cons (ps_if (pt_cmpR (op_neD hr.units) (pe_lc (own := [("error", 11)]) (g := gName 11) (tt := tYes) (by rfl) sc_right.nd (pi_list (pv 7)) (blkOk_by (N := ["value", "number", "line", "claim", "messages", "errors", "at", "others", "due", "kept", "other", "error"]) (sc := defScope s_right) (by decide +kernel)) (fun _ _ _ _ _ => (pg_name (i := 11) sc_right.nd rfl (Or.inl rfl))) (fun _ _ _ _ _ => pts_nil) (fun _ _ _ _ _ => (pe_call G_built_in (hr.mono (by decide)) (by rfl) D_built_in.g D_built_in.F.kp D_built_in.b .nil pass0 (pa_cons (pv 11) pa_nil)))) (pv 8) (nomark _))
    (pss_one (ps_ret pe_bl)) pss_nil)
    (pss_cons (ps_set (i := 9) sc_right.nd rfl (Or.inl rfl) (pe_lstN (pa_cons (pe_exf (pe_ix ix_list (pv 5) pe_int (fun _ _ => rfl))) (pa_cons (pe_exf (pe_ix ix_list (pv 7) pe_int (fun _ _ => rfl))) (pa_cons (pe_exf (pe_ix ix_list (pv 7) pe_int (fun _ _ => rfl))) (pa_cons (pe_exf (pe_ix ix_list (pv 7) pe_int (fun _ _ => rfl))) (pa_cons (pe_exf (pe_ix ix_list (pv 7) pe_int (fun _ _ => rfl))) (pa_cons (pe_exf (pe_ix ix_list (pv 7) pe_int (fun _ _ => rfl))) pa_nil))))))))
    (pss_one (ps_ret (pe_cmpR op_eq (pe_callB (call_reprD hr hgd) (by rfl) B.repr_ (by decide +kernel) (pa_cons (pe_op op_catN (pv 9) (pe_lstN (pa_cons (pe_exf (pe_ix ix_list (pv 7) pe_int (fun _ _ => rfl))) pa_nil))) pa_nil)) (pe_callB (call_reprD hr hgd) (by rfl) B.repr_ (by decide +kernel) (pa_cons (pe_lstN (pa_cons (pv 2) (pa_cons (pv 0) (pa_cons (pv 1) (pa_cons (pv 1) (pa_cons (pv 1) (pa_cons (pv 3) (pa_cons (pv 0) pa_nil)))))))) pa_nil)) (nomark _))))))))))))))), ?_⟩
    -- messages
    refine fun a0 A0 m0 s0 x0 a1 A1 m1 s1 x1 a2 A2 m2 s2 x2 a3 A3 m3 s3 x3 a4 A4 m4 s4 x4 => ⟨by show 5 ≤ sizeLine; decide, fun pm Hm nm em sm => ?_⟩
    have y4 := x4.same sm
    have y3 := x3.same (s4.trans sm)
    have y2 := x2.same (s3.trans (s4.trans sm))
    have y1 := x1.same (s2.trans (s3.trans (s4.trans sm)))
    have y0 := x0.same (s1.trans (s2.trans (s3.trans (s4.trans sm))))
    have S0 : Same H Hm := s0.trans (s1.trans (s2.trans (s3.trans (s4.trans sm))))
    clear x0 x1 x2 x3 x4 s0 s1 s2 s3 s4 sm m0 m1 m2 m3 m4
    -- errors
    refine ⟨_, rfl, fun a5 A5 m5 s5 x5 => mk_read (fun _ z => ⟨_, rfl, z⟩) (dp_same (S0.trans s5) _ _ hl) sl.d fun a6 A6 m6 s6 x6 => ⟨by show 2 ≤ sizeLine; decide, fun p2 G2 k2 e2 t2 => ⟨pm, p2, _, _, rfl, rfl, t2 _ _ (s6 _ _ (s5 _ _ em)), e2, by show 5 + 2 ≤ sizeLine; decide, fun pe H1 ne ee se => ?_⟩⟩⟩
    have z6 := x6.same (t2.trans se)
    have z5 := x5.same (s6.trans (t2.trans se))
    have up : Same Hm H1 := s5.trans (s6.trans (t2.trans se))
    have z4 := y4.same up
    have z3 := y3.same up
    have z2 := y2.same up
    have z1 := y1.same up
    have z0 := y0.same up
    have S1 : Same H H1 := S0.trans up
    have ee : H1 pe = some (.lst [.ref a0, .ref a1, .ref a2, .ref a3, .ref a4, .ref a5, .ref a6]) := ee
    clear x5 x6 s5 s6 t2 se m5 m6 k2 e2 y0 y1 y2 y3 y4 S0 up ne
    have all7 : ∀ i, i < 7 → ∃ a, ([.ref a0, .ref a1, .ref a2, .ref a3, .ref a4, .ref a5, .ref a6] : List V)[i]? = some (.ref a) ∧ ∃ C fs, ExV H1 a C fs ∧ Er K [.ref C_ClockError, .ref C_InvalidName, .ref C_InvalidAction, .ref C_InvalidSystem, .ref C_InvalidRun, .ref C_InvalidClocks, .ref C_InvalidOperation, .ref C_ParseError, .ref C_UnknownName, .ref C_NotPossible, .ref C_NothingToUndo, .ref C_TooMany, .ref C_Refused, .ref C_InvalidNumber] [.type "ValueError", .type "LookupError", .type "KeyError", .type "IndexError", .type "ArithmeticError", .type "OverflowError", .type "RuntimeError"] C true i btV := fun i hi =>
      match i, hi with
      | 0, _ => ⟨a0, rfl, _, _, z0, E_InvalidName⟩
      | 1, _ => ⟨a1, rfl, _, _, z1, E_InvalidAction⟩
      | 2, _ => ⟨a2, rfl, _, _, z2, E_InvalidSystem⟩
      | 3, _ => ⟨a3, rfl, _, _, z3, E_InvalidRun⟩
      | 4, _ => ⟨a4, rfl, _, _, z4, E_InvalidClocks⟩
      | 5, _ => ⟨a5, rfl, _, _, z5, E_InvalidOperation⟩
      | 6, _ => ⟨a6, rfl, _, _, z6, E_ParseError⟩
      | n + 7, h => absurd h (by omega)
    -- the first loop
    refine ⟨_, rfl, pe, _, rfl, .inl (SqL.of ee), (7 : Int), rfl, by decide, by decide, ?_⟩
    refine for_range (lo := 0) (n := 7) (fun i σ H3 => ∃ a6' : Option V, σ = [some v, some (.int n), some l, some c, some (.ref pm), some (.ref pe), a6', none, none, none, none, none] ∧ Same H1 H3) ⟨none, rfl, Same.refl _⟩ (fun i σ H3 hi hP => ?_) (fun σ H3 hP => ?_)
    · obtain ⟨_, rfl, k3⟩ := hP
      obtain ⟨a, ea, C, fs, xa, er⟩ := all7 i hi
      have atx : atI ([.ref a0, .ref a1, .ref a2, .ref a3, .ref a4, .ref a5, .ref a6] : List V) (0 + (i : Int)) = some (.ref a) := at_of (j := i) (by omega) ea
      refine ⟨_, rfl, _, rfl, pe, _, _, _, rfl, rfl, SqL.of (k3 _ _ ee), atx, a, C, fs, _, rfl, xa.same k3, er.x, er.o, fun p Hp np sp ep => ?_⟩
      refine ⟨by show 1 ≤ sizeLine; decide, fun pT HT nT eT sT => ⟨(13 : Int), rfl, by decide, by decide, fun D hD => ?_⟩⟩
      refine lc_range (lo := 0) (n := 13) (fun j H5 => H5 D = some (.lst (((List.range j).map fun m => decide (m = i)).map V.bl)) ∧ Same HT H5) ⟨upd_same, gSame_new hD⟩ (fun j H5 hj hP => ?_) (fun H5 hP => ?_)
      · obtain ⟨d5, s5⟩ := hP
        refine ⟨rfl, _, rfl, _, rfl, rfl, _, d5, ?_, ?_, gSame_mut s5 hD⟩
        · rw [List.length_map, List.length_map, List.length_range, sizeLine_eq]
          omega
        · rw [upd_same, rowStep]
          have e : decide (V.int (0 + (j : Int)) = V.int (0 + (i : Int))) = decide (j = i) := by
            refine decide_eq_decide.mpr ⟨fun z => ?_, fun z => by rw [z]⟩
            have := V.int.inj z
            omega
          rw [e]
      · obtain ⟨d5, s5⟩ := hP
        refine ⟨pT, D, _, _, rfl, rfl, s5 _ _ eT, d5, ?_, fun pc Hc nc ec sc' => ?_⟩
        · rw [List.length_map, List.length_map, List.length_range, sizeLine_eq]
          decide
        · rw [tabRow true i _ rfl] at ec
          have kc : Same Hp Hc := sT.trans (s5.trans sc')
          refine neB (kc _ _ ep) ec ⟨_, rfl, iteN ne_ft ?_⟩
          have k4 : Same H1 Hc := k3.trans (sp.trans kc)
          refine ⟨_, rfl, _, rfl, pe, _, _, _, rfl, rfl, SqL.of (k4 _ _ ee), atx, a, C, fs, _, rfl, xa.same k4, er.x, er.t, fun p' Hp' np' sp' ep' => ?_⟩
          refine ⟨by show 7 ≤ sizeLine; decide, fun pl Hl nl el sl' => neB (bs := btV) (sl' _ _ ep') el ⟨_, rfl, iteN ne_ft ?_⟩⟩
          exact ⟨_, rfl, k4.trans (sp'.trans sl')⟩
    · obtain ⟨a6', rfl, k3⟩ := hP
      have S3 := S1.trans k3
      have ee3 := k3 _ _ ee
      have z63 := z6.same k3
      rename_i H3
      clear z0 z1 z2 z3 z4 z5 z6 all7 ee k3 S1
      -- others
      refine mk_read (fun _ z => ⟨_, rfl, z⟩) (dp_same S3 _ _ hv) sv.d fun b0 B0 m0 s0 w0 => mk_read (fun _ z => ⟨_, rfl, z⟩) (.int n) sn.d fun b1 B1 m1 s1 w1 => mk_read (fun _ z => ⟨_, rfl, z⟩) (.int n) sn.d fun b2 B2 m2 s2 w2 => mk_read (fun _ z => ⟨_, rfl, z⟩) (.int n) sn.d fun b3 B3 m3 s3 w3 =>
        mk_read (fun _ z => ⟨_, rfl, z⟩) (dp_same (S3.trans (s0.trans (s1.trans (s2.trans s3)))) _ _ hc) sc.d fun b4 B4 m4 s4 w4 => ⟨by show 5 ≤ sizeLine; decide, fun po Ho no eo so => ?_⟩
      have T4 : Same H3 B4 := s0.trans (s1.trans (s2.trans (s3.trans s4)))
      have no3 : H3 po = none := T4.free no
      have npe : pe ≠ po := ne_of_none ee3 no3
      refine ⟨_, rfl, .inl ⟨rfl, _, SqL.of eo⟩, mk_read (fun _ z => ⟨_, rfl, z⟩) (dp_same (S3.trans (T4.trans so)) _ _ hv) sv.d fun b5 B5 m5 s5 w5 => ⟨po, _, _, rfl, rfl, s5 _ _ eo, by show 5 < sizeLine; decide, ?_⟩⟩
      have e5 := s5 _ _ eo
      have U4 : Same H3 B5 := T4.trans (so.trans s5)
      have S4 : Same H (upd B5 po (.lst [.ref b0, .ref b1, .ref b2, .ref b3, .ref b4, .ref b5])) := gSame_mut (S3.trans U4) (S3.free no3)
      have ee4 : (upd B5 po (.lst [.ref b0, .ref b1, .ref b2, .ref b3, .ref b4, .ref b5])) pe = some (.lst [.ref a0, .ref a1, .ref a2, .ref a3, .ref a4, .ref a5, .ref a6]) := by
        rw [upd_ne npe]
        exact U4 _ _ ee3
      have eo4 : (upd B5 po (.lst [.ref b0, .ref b1, .ref b2, .ref b3, .ref b4, .ref b5])) po = some (.lst [.ref b0, .ref b1, .ref b2, .ref b3, .ref b4, .ref b5]) := upd_same
      have z64 : ExV (upd B5 po (.lst [.ref b0, .ref b1, .ref b2, .ref b3, .ref b4, .ref b5])) a6 _ _ := exv_mut (z63.same U4) e5
      have v0 : ExV (upd B5 po (.lst [.ref b0, .ref b1, .ref b2, .ref b3, .ref b4, .ref b5])) b0 _ _ := exv_mut (w0.same (s1.trans (s2.trans (s3.trans (s4.trans (so.trans s5)))))) e5
      have v1 : ExV (upd B5 po (.lst [.ref b0, .ref b1, .ref b2, .ref b3, .ref b4, .ref b5])) b1 _ _ := exv_mut (w1.same (s2.trans (s3.trans (s4.trans (so.trans s5))))) e5
      have v2 : ExV (upd B5 po (.lst [.ref b0, .ref b1, .ref b2, .ref b3, .ref b4, .ref b5])) b2 _ _ := exv_mut (w2.same (s3.trans (s4.trans (so.trans s5)))) e5
      have v3 : ExV (upd B5 po (.lst [.ref b0, .ref b1, .ref b2, .ref b3, .ref b4, .ref b5])) b3 _ _ := exv_mut (w3.same (s4.trans (so.trans s5))) e5
      have v4 : ExV (upd B5 po (.lst [.ref b0, .ref b1, .ref b2, .ref b3, .ref b4, .ref b5])) b4 _ _ := exv_mut (w4.same (so.trans s5)) e5
      have v5 : ExV (upd B5 po (.lst [.ref b0, .ref b1, .ref b2, .ref b3, .ref b4, .ref b5])) b5 _ _ := exv_mut w5 e5
      have eL : ([V.ref b0, .ref b1, .ref b2, .ref b3, .ref b4] ++ [.ref b5] : List V) = [.ref b0, .ref b1, .ref b2, .ref b3, .ref b4, .ref b5] := rfl
      rw [eL]
      clear w0 w1 w2 w3 w4 w5 s0 s1 s2 s3 s4 s5 so m0 m1 m2 m3 m4 m5 z63 ee3 T4 U4 e5 eo no no3 S3
      generalize upd B5 po (.lst [.ref b0, .ref b1, .ref b2, .ref b3, .ref b4, .ref b5]) = H4 at S4 ee4 eo4 z64 v0 v1 v2 v3 v4 v5 ⊢
      have all6 : ∀ i, i < 6 → ∃ a, ([.ref b0, .ref b1, .ref b2, .ref b3, .ref b4, .ref b5] : List V)[i]? = some (.ref a) ∧ ∃ C fs bt, ExV H4 a C fs ∧ Er K [.ref C_ClockError, .ref C_InvalidName, .ref C_InvalidAction, .ref C_InvalidSystem, .ref C_InvalidRun, .ref C_InvalidClocks, .ref C_InvalidOperation, .ref C_ParseError, .ref C_UnknownName, .ref C_NotPossible, .ref C_NothingToUndo, .ref C_TooMany, .ref C_Refused, .ref C_InvalidNumber] [.type "ValueError", .type "LookupError", .type "KeyError", .type "IndexError", .type "ArithmeticError", .type "OverflowError", .type "RuntimeError"] C false (i + 7) bt ∧ BTs[i]? = some bt := fun i hi =>
        match i, hi with
        | 0, _ => ⟨b0, rfl, _, _, _, v0, E_UnknownName, rfl⟩
        | 1, _ => ⟨b1, rfl, _, _, _, v1, E_NotPossible, rfl⟩
        | 2, _ => ⟨b2, rfl, _, _, _, v2, E_NothingToUndo, rfl⟩
        | 3, _ => ⟨b3, rfl, _, _, _, v3, E_TooMany, rfl⟩
        | 4, _ => ⟨b4, rfl, _, _, _, v4, E_Refused, rfl⟩
        | 5, _ => ⟨b5, rfl, _, _, _, v5, E_InvalidNumber, rfl⟩
        | n + 6, h => absurd h (by omega)
      -- the second loop
      refine ⟨_, rfl, po, _, rfl, .inl (SqL.of eo4), (6 : Int), rfl, by decide, by decide, ?_⟩
      refine for_range (lo := 0) (n := 6) (fun i σ H5 => ∃ a6' : Option V, σ = [some v, some (.int n), some l, some c, some (.ref pm), some (.ref pe), a6', some (.ref po), none, none, none, none] ∧ Same H4 H5) ⟨a6', rfl, Same.refl _⟩ (fun i σ H5 hi hP => ?_) (fun σ H5 hP => ?_)
      · obtain ⟨_, rfl, k5⟩ := hP
        obtain ⟨a, ea, C, fs, bt, xa, er, _⟩ := all6 i hi
        have atx : atI ([.ref b0, .ref b1, .ref b2, .ref b3, .ref b4, .ref b5] : List V) (0 + (i : Int)) = some (.ref a) := at_of (j := i) (by omega) ea
        refine ⟨_, rfl, _, rfl, po, _, _, _, rfl, rfl, SqL.of (k5 _ _ eo4), atx, a, C, fs, _, rfl, xa.same k5, er.x, er.o, fun p Hp np sp ep => ?_⟩
        refine ⟨by show 1 ≤ sizeLine; decide, fun pT HT nT eT sT => ⟨(13 : Int), rfl, by decide, by decide, fun D hD => ?_⟩⟩
        refine lc_range (lo := 0) (n := 13) (fun j H6 => H6 D = some (.lst (((List.range j).map fun m => decide (m = i + 7)).map V.bl)) ∧ Same HT H6) ⟨upd_same, gSame_new hD⟩ (fun j H6 hj hP => ?_) (fun H6 hP => ?_)
        · obtain ⟨d6, s6⟩ := hP
          refine ⟨rfl, _, rfl, _, rfl, _, _, rfl, rfl, rfl, _, d6, ?_, ?_, gSame_mut s6 hD⟩
          · rw [List.length_map, List.length_map, List.length_range, sizeLine_eq]
            omega
          · rw [upd_same, rowStep]
            have e : decide (V.int (0 + (j : Int)) = V.int (0 + (i : Int) + 7)) = decide (j = i + 7) := by
              refine decide_eq_decide.mpr ⟨fun z => ?_, fun z => congrArg V.int (by omega)⟩
              have := V.int.inj z
              omega
            rw [e]
        · obtain ⟨d6, s6⟩ := hP
          refine ⟨pT, D, _, _, rfl, rfl, s6 _ _ eT, d6, ?_, fun pc Hc nc ec sc' => ?_⟩
          · rw [List.length_map, List.length_map, List.length_range, sizeLine_eq]
            decide
          · rw [tabRow false (i + 7) _ rfl] at ec
            have kc : Same Hp Hc := sT.trans (s6.trans sc')
            refine neB (kc _ _ ep) ec ⟨_, rfl, iteN ne_ft ?_⟩
            exact ⟨_, rfl, k5.trans (sp.trans kc)⟩
      · obtain ⟨a6'', rfl, k5⟩ := hP
        have S5 := S4.trans k5
        have ee5 := k5 _ _ ee4
        have eo5 := k5 _ _ eo4
        have x6 := z64.same k5
        have u0 := v0.same k5
        have u1 := v1.same k5
        have u2 := v2.same k5
        have u3 := v3.same k5
        have u4 := v4.same k5
        have u5 := v5.same k5
        have all5 : ∀ i, i < 6 → ∃ a, ([.ref b0, .ref b1, .ref b2, .ref b3, .ref b4, .ref b5] : List V)[i]? = some (.ref a) ∧ ∃ C fs bt, ExV H5 a C fs ∧ Er K [.ref C_ClockError, .ref C_InvalidName, .ref C_InvalidAction, .ref C_InvalidSystem, .ref C_InvalidRun, .ref C_InvalidClocks, .ref C_InvalidOperation, .ref C_ParseError, .ref C_UnknownName, .ref C_NotPossible, .ref C_NothingToUndo, .ref C_TooMany, .ref C_Refused, .ref C_InvalidNumber] [.type "ValueError", .type "LookupError", .type "KeyError", .type "IndexError", .type "ArithmeticError", .type "OverflowError", .type "RuntimeError"] C false (i + 7) bt ∧ BTs[i]? = some bt := fun i hi => by
          obtain ⟨a, ea, C, fs, bt, xa, er, eb⟩ := all6 i hi
          exact ⟨a, ea, C, fs, bt, xa.same k5, er, eb⟩
        clear v0 v1 v2 v3 v4 v5 z64 all6 ee4 eo4 S4 k5
        -- due
        refine ⟨by show 7 ≤ sizeLine; decide, fun q0 Q0 m0 e0 s0 => ⟨by show 7 ≤ sizeLine; decide, fun q1 Q1 m1 e1 s1 => ⟨by show 2 ≤ sizeLine; decide, fun r0 R0 l0 f0 t0 => ?_⟩⟩⟩
        refine ⟨_, rfl, by show 7 ≤ sizeLine; decide, fun q2 Q2 m2 e2 s2 => ⟨by show 7 ≤ sizeLine; decide, fun q3 Q3 m3 e3 s3 => ⟨by show 2 ≤ sizeLine; decide, fun p1 P1 i1 g1 h1 => ⟨r0, p1, _, _, rfl, rfl, h1 _ _ (s3 _ _ (s2 _ _ f0)), g1, by show 2 + 2 ≤ sizeLine; decide, fun r1 R1 l1 f1 t1 => ?_⟩⟩⟩⟩
        refine ⟨_, rfl, by show 7 ≤ sizeLine; decide, fun q4 Q4 m4 e4 s4 => ⟨by show 7 ≤ sizeLine; decide, fun q5 Q5 m5 e5 s5 => ⟨by show 2 ≤ sizeLine; decide, fun p2 P2 i2 g2 h2 => ⟨r1, p2, _, _, rfl, rfl, h2 _ _ (s5 _ _ (s4 _ _ f1)), g2, by show 4 + 2 ≤ sizeLine; decide, fun r2 R2 l2 f2 t2 => ?_⟩⟩⟩⟩
        have f2 : R2 r2 = some (.lst [.ref q0, .ref q1, .ref q2, .ref q3, .ref q4, .ref q5]) := f2
        have c5 := h2.trans t2
        have c4 := s5.trans c5
        have c3 : Same Q3 R2 := h1.trans (t1.trans (s4.trans c4))
        have c2 := s3.trans c3
        have c1 : Same Q1 R2 := t0.trans (s2.trans c2)
        have c0 := s1.trans c1
        have d0 := c0 _ _ e0
        have d1 := c1 _ _ e1
        have d2 := c2 _ _ e2
        have d3 := c3 _ _ e3
        have d4 := c4 _ _ e4
        have d5 := c5 _ _ e5
        have W : Same H5 R2 := s0.trans c0
        clear e0 e1 e2 e3 e4 e5 c0 c1 c2 c3 c4 c5 s0 s1 s2 s3 s4 s5 t0 t1 t2 h1 h2 f0 f1 g1 g2 m0 m1 m2 m3 m4 m5 l0 l1 l2 i1 i2
        have dueD : ∀ H' : Hp, Same R2 H' → DpAll K H' ([q0, q1, q2, q3, q4, q5].map V.ref) (BTs.map rowOf) := fun H' s' => rows_dp _ _ rfl fun k p b hp hb =>
          match k, hp, hb with
          | 0, hp, hb => by cases hp; cases hb; exact s' _ _ d0
          | 1, hp, hb => by cases hp; cases hb; exact s' _ _ d1
          | 2, hp, hb => by cases hp; cases hb; exact s' _ _ d2
          | 3, hp, hb => by cases hp; cases hb; exact s' _ _ d3
          | 4, hp, hb => by cases hp; cases hb; exact s' _ _ d4
          | 5, hp, hb => by cases hp; cases hb; exact s' _ _ d5
          | k + 6, hp, hb => by cases hp
        -- the rows of the others
        refine ⟨_, rfl, po, rfl, ⟨_, SqL.of (W _ _ eo5)⟩, fun D hD => ?_⟩
        refine lc_list (xs := [.ref b0, .ref b1, .ref b2, .ref b3, .ref b4, .ref b5]) (fun i H6 => ∃ ps : List Addr, ps.length = i ∧ H6 D = some (.lst (ps.map V.ref)) ∧ (∀ (k : Nat) (p : Addr) (bt : List Bool), ps[k]? = some p → BTs[k]? = some bt → p ≠ D ∧ H6 p = some (.lst (bt.map V.bl))) ∧ Same R2 H6)
          ⟨[], rfl, upd_same, fun k p bt hp _ => by simp at hp, gSame_new hD⟩ (fun i H6 _ hP => ?_) (fun i x H6 hx hP => ?_) (fun H6 hP => ?_)
        · obtain ⟨_, _, _, _, s6⟩ := hP
          exact SqL.of (s6 _ _ (W _ _ eo5))
        · obtain ⟨ps, lp, d6, hps, s6⟩ := hP
          have hi : i < 6 := (List.getElem?_eq_some_iff.mp hx).1
          obtain ⟨a, ea, C, fs, bt, xa, er, eb⟩ := all5 i hi
          rw [ea] at hx
          cases hx
          refine ⟨rfl, _, rfl, a, C, fs, _, rfl, xa.same (W.trans s6), er.x, er.t, fun p Hp np sp ep => ⟨_, sp _ _ d6, ?_, ps ++ [p], ?_, ?_, fun k p' b' hp hb => ?_, gSame_mut (s6.trans sp) hD⟩⟩
          · rw [List.length_map, lp, sizeLine_eq]
            omega
          · rw [List.length_append, lp]
            rfl
          · rw [upd_same, List.map_append]
            rfl
          · have npD : p ≠ D := (ne_of_none d6 np).symm
            by_cases hk : k < ps.length
            · rw [List.getElem?_append_left hk] at hp
              obtain ⟨n1, g1⟩ := hps k p' b' hp hb
              exact ⟨n1, by rw [upd_ne n1]; exact sp _ _ g1⟩
            · have hk' : k = i := by
                have := (List.getElem?_eq_some_iff.mp hp).1
                rw [List.length_append] at this
                have e : [p].length = 1 := rfl
                omega
              subst hk'
              rw [List.getElem?_append_right (by omega), lp, Nat.sub_self] at hp
              cases hp
              rw [eb] at hb
              cases hb
              exact ⟨npD, by rw [upd_ne npD]; exact ep⟩
        · obtain ⟨ps, lp, d6, hps, s6⟩ := hP
          refine ⟨_, rfl, .list (BTs.map rowOf), .list (BTs.map rowOf), .lst (SqL.of d6) (rows_dp ps BTs lp fun k p b hp hb => (hps k p b hp hb).2), .lst (SqL.of (s6 _ _ f2)) (dueD _ s6), rows_sh, rows_sh, ?_⟩
          rw [rows_eq]
          refine ⟨_, rfl, iteN ne_ft ?_⟩
          have V6 : Same H5 H6 := W.trans s6
          have ee6 := V6 _ _ ee5
          have eo6 := V6 _ _ eo5
          have y6 := x6.same V6
          have S6 := S5.trans V6
          have j0 := u0.same V6
          have j1 := u1.same V6
          have j2 := u2.same V6
          have j3 := u3.same V6
          have j4 := u4.same V6
          have j5 := u5.same V6
          clear x6 u0 u1 u2 u3 u4 u5 ee5 eo5 V6 S5 all5 hps d6 W dueD f2 d0 d1 d2 d3 d4 d5 s6
          -- what they keep
          refine ⟨_, rfl, pe, _, 6, _, rfl, rfl, SqL.of ee6, atI_nat (j := 6) rfl, a6, _, _, l, rfl, y6, T_ParseError.xf, T_ParseError.no, by rw [lookup_put, if_pos rfl], _, rfl, po, _, 0, _, rfl, rfl, SqL.of eo6, atI_nat (j := 0) rfl, b0, _, _, _, rfl, j0, T_UnknownName.xf, T_UnknownName.no, by rw [lookup_put, if_pos rfl], _, rfl, po, _, 1, _, rfl, rfl, SqL.of eo6, atI_nat (j := 1) rfl, b1, _, _, _, rfl, j1, T_NotPossible.xf, T_NotPossible.no, by rw [lookup_put, if_pos rfl], _, rfl, po, _, 2, _, rfl, rfl, SqL.of eo6, atI_nat (j := 2) rfl, b2, _, _, _, rfl, j2, T_NothingToUndo.xf, T_NothingToUndo.no, by rw [lookup_put, if_pos rfl], _, rfl, po, _, 3, _, rfl, rfl, SqL.of eo6, atI_nat (j := 3) rfl, b3, _, _, _, rfl, j3, T_TooMany.xf, T_TooMany.no, by rw [lookup_put, if_pos rfl], _, rfl, po, _, 4, _, rfl, rfl, SqL.of eo6, atI_nat (j := 4) rfl, b4, _, _, _, rfl, j4, T_Refused.xf, T_Refused.no, by rw [lookup_put, if_pos rfl], by show 6 ≤ sizeLine; decide, fun pk Hk nk ek sk => ?_⟩
          have eok := sk _ _ eo6
          have jk := j5.same sk
          refine ⟨_, rfl, _, rfl, po, _, 5, _, rfl, rfl, SqL.of eok, atI_nat (j := 5) rfl, b5, _, _, _, rfl, jk, T_InvalidNumber.xf, T_InvalidNumber.no, by rw [lookup_put, if_pos rfl], by show 1 ≤ sizeLine; decide, fun p1 P1 i1 g1 h1 => ⟨pk, p1, _, _, rfl, rfl, h1 _ _ ek, g1, by show 6 + 1 ≤ sizeLine; decide, fun pA HA nA eA sA => ?_⟩⟩
          have SA : Same H HA := S6.trans (sk.trans (h1.trans sA))
          have sm : SmD (.list [dl, dv, .int n, .int n, .int n, dc, dv]) := sm_list (fun d hd => by
            simp only [List.mem_cons, List.not_mem_nil, or_false] at hd
            rcases hd with rfl | rfl | rfl | rfl | rfl | rfl | rfl <;> assumption) (by show 7 ≤ 8; decide)
          have dpAt : ∀ H' : Hp, Same H H' → DpAll K H' [l, v, .int n, .int n, .int n, c, v] [dl, dv, .int n, .int n, .int n, dc, dv] := fun H' s' =>
            .cons (dp_same s' _ _ hl) (.cons (dp_same s' _ _ hv) (.cons (.int n) (.cons (.int n) (.cons (.int n) (.cons (dp_same s' _ _ hc) (.cons (dp_same s' _ _ hv) .nil))))))
          refine ⟨pA, _, rfl, .lst (SqL.of eA) (dpAt _ SA), sm, ?_⟩
          refine ⟨_, rfl, _, rfl, _, rfl, _, rfl, _, rfl, _, rfl, _, rfl, by show 7 ≤ sizeLine; decide, fun pB HB nB eB sB => ⟨pB, _, rfl, .lst (SqL.of eB) (dpAt _ (SA.trans sB)), sm, rfl, ?_⟩⟩
          rw [decide_eq_true rfl]
          exact q _ (SA.trans sB)
end
end Gk

set_option Elab.async false
set_option linter.all false
set_option maxRecDepth 100000
set_option maxHeartbeats 16000000
namespace Gk
open PySem PySem.Spec PyProof.Rows L2
abbrev s_law : Stmt := topS 23
theorem sc_law : FnScope ["script", "at", "tape", "name", "value", "number", "line", "claim"] ["script"] (defScope s_law) := ⟨rfl, rfl, rfl, by decide +kernel, rfl, by decide +kernel, by decide +kernel⟩
structure SmN (b p : Nat) (d : PyData) : Prop where
  s : d.showable = true
  n : d.hasDict = false
  l : d.leavesShort 13 = true
  b : d.bulk ≤ b
  p : d.depth ≤ p
theorem SmN.e {b p : Nat} {d : PyData} (h : SmN b p d) (hb : b ≤ 100 := by decide) (hp : p ≤ 10 := by decide) : SmE d := ⟨h.s, h.n, h.l, Nat.le_trans h.b hb, Nat.le_trans h.p hp⟩
theorem SmN.mono {b p b' p' : Nat} {d : PyData} (h : SmN b p d) (hb : b ≤ b' := by decide) (hp : p ≤ p' := by decide) : SmN b' p' d := ⟨h.s, h.n, h.l, Nat.le_trans h.b hb, Nat.le_trans h.p hp⟩
theorem smN_all {b p : Nat} : ∀ ds : List PyData, (∀ d ∈ ds, SmN b p d) → PyData.showableAll ds = true ∧ PyData.hasDictAll ds = false ∧ PyData.leavesShortAll 13 ds = true ∧ PyData.bulkAll ds ≤ (b + 1) * ds.length ∧ PyData.depthAll ds ≤ p
  | [], _ => by simp [PyData.showableAll, PyData.hasDictAll, PyData.leavesShortAll, PyData.bulkAll, PyData.depthAll]
  | d :: r, h => by
    have hd := h d (List.mem_cons_self ..)
    obtain ⟨i1, i2, i3, i4, i5⟩ := smN_all r fun x hx => h x (List.mem_cons_of_mem _ hx)
    have hb := hd.b
    have hp := hd.p
    have e : (b + 1) * (r.length + 1) = (b + 1) * r.length + (b + 1) := Nat.mul_succ ..
    simp only [PyData.showableAll, PyData.hasDictAll, PyData.leavesShortAll, PyData.bulkAll, PyData.depthAll, hd.s, hd.n, hd.l, i1, i2, i3, Bool.and_self, Bool.or_self, List.length_cons, true_and]
    omega
theorem smN_tup {b p k : Nat} {ds : List PyData} (h : ∀ d ∈ ds, SmN b p d) (hl : ds.length = k) : SmN ((b + 1) * k) (p + 1) (.tuple ds) := by
  obtain ⟨k1, k2, k3, k4, k5⟩ := smN_all ds h
  rw [hl] at k4
  exact ⟨by simp only [PyData.showable, k1], by simp only [PyData.hasDict, k2], by simp only [PyData.leavesShort, k3], by simp only [PyData.bulk]; exact k4, by simp only [PyData.depth]; omega⟩
theorem smN_lst {b p k : Nat} {ds : List PyData} (h : ∀ d ∈ ds, SmN b p d) (hl : ds.length = k) : SmN ((b + 1) * k) (p + 1) (.list ds) := by
  obtain ⟨k1, k2, k3, k4, k5⟩ := smN_all ds h
  rw [hl] at k4
  exact ⟨by simp only [PyData.showable, k1], by simp only [PyData.hasDict, k2], by simp only [PyData.leavesShort, k3], by simp only [PyData.bulk]; exact k4, by simp only [PyData.depth]; omega⟩
theorem smN_str {x : Str} (h1 : x.length ≤ 8) (h2 : ∀ c ∈ x.cps.toList, c < 16 ^ 8) : SmN 8 0 (.str x) := by
  refine ⟨by simp [PyData.showable], by simp [PyData.hasDict], ?_, ?_, by simp [PyData.depth]⟩
  · simp only [PyData.leavesShort, List.all_eq_true, decide_eq_true_eq]
    exact h2
  · simp only [PyData.bulk]
    exact h1
theorem smN_W {x : Str} (h : isW x = true) : SmN 8 0 (.str x) := smN_str (isW_len h).2 fun c hc => by
  have := isW_let h c hc
  have e : (16 : Nat) ^ 8 = 4294967296 := by decide
  omega
theorem smN_int {n : Int} (h0 : 0 ≤ n) (h1 : n < 100000) : SmN 8 0 (.int n) := by
  have z := SmE.int h0 h1
  exact ⟨z.s, z.n, z.l, by simp [PyData.bulk], by simp [PyData.depth]⟩
theorem smE_non : SmE .none := ⟨rfl, rfl, rfl, by decide, by decide⟩
theorem smE_bl (b : Bool) : SmE (.bool b) := ⟨rfl, rfl, rfl, by simp [PyData.bulk], by simp [PyData.depth]⟩
theorem mem1 {α : Type} {P : α → Prop} {a : α} (h : P a) : ∀ d ∈ [a], P d := fun d hd => by rw [List.mem_singleton.mp hd]; exact h
theorem mem2 {α : Type} {P : α → Prop} {a b : α} (h : P a) (h2 : P b) : ∀ d ∈ [a, b], P d := fun d hd => by
  rcases List.mem_cons.mp hd with rfl | hd
  · exact h
  · exact mem1 h2 d hd
theorem mem3 {α : Type} {P : α → Prop} {a b c : α} (h : P a) (h2 : P b) (h3 : P c) : ∀ d ∈ [a, b, c], P d := fun d hd => by
  rcases List.mem_cons.mp hd with rfl | hd
  · exact h
  · exact mem2 h2 h3 d hd
def spLaw (K : PySem.W.Frag) : Sp := fun vs H Q _ => ∃ (a : Addr) (ns : List Int), vs = [.ref a] ∧ SqL K H a (ns.map V.int) ∧ ns.length ≤ 63 ∧ ∀ H', Q (.bl true) H'
section
variable {P : Program} {w : World} {K : PySem.W.Frag} {mg : Str → Option Value} {base : Heap}
theorem ok_law {f f1 f2 f3 f4 f5 : Addr} {fd d1 d2 d3 d4 d5 : FuncData} (B : Blt mg)
    (D_tape : Df K mg "_law_tape" s_tape ["script", "spot"] f1 d1) (G_tape : FnOk P w K mg base CX0 1 f1 d1 ["script", "spot"] (spTape K))
    (D_roll : Df K mg "_law_roll" s_roll ["tape", "total"] f2 d2) (G_roll : FnOk P w K mg base CX0 1 f2 d2 ["tape", "total"] spRoll)
    (D_pick : Df K mg "_law_pick" s_pick ["tape", "items"] f3 d3) (G_pick : FnOk P w K mg base CX0 2 f3 d3 ["tape", "items"] (spPick K))
    (D_word_drawn : Df K mg "_law_word_drawn" s_word_drawn ["tape"] f4 d4) (G_word_drawn : FnOk P w K mg base CX0 3 f4 d4 ["tape"] spWord)
    (D_right : Df K mg "_law_right" s_right ["value", "number", "line", "claim"] f5 d5) (G_right : FnG P w K mg base 3 f5 d5 ["value", "number", "line", "claim"] (spRight K))
    (D : Df K mg "law" s_law ["script"] f fd) : FnG P w K mg base 5 f fd ["script"] (spLaw K) := by
  refine D.F.okG sc_law (fun vs H Q E h => ?_) (fun cdv A outer s H vs Q E hr hgd h => ?_)
  · obtain ⟨a, ns, rfl, _⟩ := h
    rfl
  · obtain ⟨a, ns, rfl, hS, hlen, q⟩ := h
    refine ⟨_, (pss_cons (ps_for PassesOwn.never rfl (pi_range1 (by rfl) B.range (pa_cons (pe_callB (call_max2 rfl) (by rfl) B.max_ (by decide +kernel) (pa_cons pe_int (pa_cons (pe_callB (call_min2 rfl) (by rfl) B.min_ (by decide +kernel) (pa_cons pe_int (pa_cons (pe_callB call_len_seq (by rfl) B.len_ (by decide +kernel) (pa_cons (pv 0) pa_nil)) pa_nil))) pa_nil))) pa_nil)) (pg_name (i := 1) sc_law.nd rfl (Or.inl rfl))
    (pss_cons (ps_set (i := 2) sc_law.nd rfl (Or.inl rfl) (pe_call G_tape (hr.mono (by decide)) (by rfl) D_tape.g D_tape.F.kp D_tape.b .nil pass0 (pa_cons (pv 0) (pa_cons (pv 1) pa_nil))))
    (pss_cons (ps_set (i := 3) sc_law.nd rfl (Or.inl rfl) (pe_call G_word_drawn (hr.mono (by decide)) (by rfl) D_word_drawn.g D_word_drawn.F.kp D_word_drawn.b .nil pass0 (pa_cons (pv 2) pa_nil)))
    (pss_one (ps_for PassesOwn.never rfl (pi_list (pe_lstN (pa_cons (pe_call G_roll (hr.mono (by decide)) (by rfl) D_roll.g D_roll.F.kp D_roll.b .nil pass0 (pa_cons (pv 2) (pa_cons pe_int pa_nil))) (pa_cons (pv 3) (pa_cons pe_non (pa_cons (pe_tupN (pa_cons (pv 3) (pa_cons pe_int pa_nil))) (pa_cons (pe_lstN (pa_cons (pv 3) pa_nil)) (pa_cons pe_bl pa_nil)))))))) (pg_name (i := 4) sc_law.nd rfl (Or.inl rfl))
    (pss_cons (ps_par (i := 5) (j := 6) (by rfl) sc_law.nd rfl rfl (by decide) rfl rfl (pa_cons (pe_call G_roll (hr.mono (by decide)) (by rfl) D_roll.g D_roll.F.kp D_roll.b .nil pass0 (pa_cons (pv 2) (pa_cons pe_int pa_nil))) (pa_cons (pe_call G_pick (hr.mono (by decide)) (by rfl) D_pick.g D_pick.F.kp D_pick.b .nil pass0 (pa_cons (pv 2) (pa_cons (pe_lstN (pa_cons pe_non (pa_cons pe_int (pa_cons (pe_call G_roll (hr.mono (by decide)) (by rfl) D_roll.g D_roll.F.kp D_roll.b .nil pass0 (pa_cons (pv 2) (pa_cons pe_int pa_nil))) pa_nil)))) pa_nil))) pa_nil)) (by rfl))
    (pss_cons (ps_set (i := 7) sc_law.nd rfl (Or.inl rfl) (pe_call G_pick (hr.mono (by decide)) (by rfl) D_pick.g D_pick.F.kp D_pick.b .nil pass0 (pa_cons (pv 2) (pa_cons (pe_lstN (pa_cons (pe_tupN (pa_cons pe_str (pa_cons (pv 3) (pa_cons (pv 3) pa_nil)))) (pa_cons (pe_tupN (pa_cons pe_str (pa_cons (pe_tupN (pa_cons (pv 3) pa_nil)) pa_nil))) (pa_cons (pe_tupN (pa_cons pe_str (pa_cons (pe_tupN (pa_cons (pv 3) pa_nil)) (pa_cons (pv 3) pa_nil)))) pa_nil)))) pa_nil))))
    (pss_one (ps_if (pt_not (pt_val (pe_callG G_right (hr.mono (by decide)) hgd (by rfl) D_right.g D_right.F.kp D_right.b .nil (pa_cons (pv 4) (pa_cons (pv 5) (pa_cons (pv 6) (pa_cons (pv 7) pa_nil))))) (by intro _; rfl)))
    (pss_one (ps_ret pe_bl)) pss_nil)))))))))
    (pss_one (ps_ret pe_bl))), ?_⟩
    refine ⟨_, rfl, a, _, rfl, .inl hS, _, _, rfl, _, _, rfl, _, rfl, ?_, ?_, ?_⟩
    · split <;> split <;> omega
    · split <;> split <;> omega
    · refine for_range (lo := 0) (fun i σ H1 => Same H H1 ∧ ∃ b1 b2 b3 b4 b5 b6 b7 : Option V, σ = [some (.ref a), b1, b2, b3, b4, b5, b6, b7]) ⟨Same.refl H, _, _, _, _, _, _, _, rfl⟩ (fun i σ H1 hi hP => ?_) (fun σ H1 hP => ?_)
      · obtain ⟨s1, b1, b2, b3, b4, b5, b6, b7, rfl⟩ := hP
        refine ⟨_, rfl, _, rfl, a, ns, _, rfl, s1.seq hS, by omega, fun t x y z ht => ?_⟩
        have hT2 : Tp (upd H1 t (.lst [.int x, .int y, .int z])) t := ⟨x, y, z, upd_same⟩
        have s2 : Same H1 (upd H1 t (.lst [.int x, .int y, .int z])) := gSame_new ht
        generalize upd H1 t (.lst [.int x, .int y, .int z]) = H2 at hT2 s2
        have back : ∀ H3, Kt t H2 H3 → Same H H3 := fun H3 k b o e => k.kp b o (ne_of_none (s1 _ _ e) ht) (s2 _ _ (s1 _ _ e))
        refine ⟨_, rfl, t, rfl, hT2, fun nm H3 hw k3 => ?_⟩
        -- the values
        refine ⟨_, rfl, t, 100, rfl, k3.tp, by decide, by decide, fun r H4 r0 r1 k4 => ⟨_, rfl, _, rfl, by show 2 ≤ sizeLine; decide, fun pt Ht nt et st => ⟨_, rfl, by show 1 ≤ sizeLine; decide, fun pl Hl nl el sl => ⟨by show 6 ≤ sizeLine; decide, fun p Hp np ep sp => ?_⟩⟩⟩⟩
        have kt : Kt t H2 Ht := (k3.trans k4).trans (Kt.same k4.tp st)
        have kl : Kt t H2 Hl := kt.trans (Kt.same kt.tp sl)
        have kp : Kt t H2 Hp := kl.trans (Kt.same kl.tp sp)
        have epl : Hp pl = some (.lst [.str nm]) := sp _ _ el
        have ept : Hp pt = some (.tup [.str nm, .int 5]) := sp _ _ (sl _ _ et)
        have nplt : pl ≠ t := Kt.ne kt.tp nl
        have npt : p ≠ t := Kt.ne kl.tp np
        have good : ∀ (j : Nat) (v : V), ([.int r, .str nm, .non, .ref pt, .ref pl, .bl true] : List V)[j]? = some v → ∀ H', Kt t Hp H' → ∃ d, Dp K H' v d ∧ SmE d := fun j v hv H' k =>
          match j, hv with
          | 0, hv => by cases hv; exact ⟨_, .int r, (smN_int r0 (by omega)).e⟩
          | 1, hv => by cases hv; exact ⟨_, .str nm, (smN_W hw).e⟩
          | 2, hv => by cases hv; exact ⟨_, .non, smE_non⟩
          | 3, hv => by cases hv; exact ⟨_, .tup (SqT.of (k.tup kp.tp ept)) (.cons (.str nm) (.cons (.int 5) .nil)), (smN_tup (k := 2) (mem2 (smN_W hw) (smN_int (by decide) (by decide))) rfl).e⟩
          | 4, hv => by cases hv; exact ⟨_, .lst (SqL.of (k.kp _ _ nplt epl)) (.cons (.str nm) .nil), (smN_lst (k := 1) (mem1 (smN_W hw)) rfl).e⟩
          | 5, hv => by cases hv; exact ⟨_, .bl true, smE_bl true⟩
          | j + 6, hv => by cases hv
        refine ⟨p, rfl, ⟨_, SqL.of ep⟩, ?_⟩
        refine for_list (xs := [.int r, .str nm, .non, .ref pt, .ref pl, .bl true]) (fun j σ H5 => Kt t Hp H5 ∧ ∃ c4 c5 c6 c7 : Option V, σ = [some (.ref a), some (.int (0 + i)), some (.ref t), some (.str nm), c4, c5, c6, c7]) ⟨Kt.refl kp.tp, _, _, _, _, rfl⟩ (fun j σ H5 _ hP => SqL.of (hP.1.kp _ _ npt ep)) (fun j v σ H5 hv hP => ?_) (fun σ H5 hP => ?_)
        · obtain ⟨k5, c4, c5, c6, c7, rfl⟩ := hP
          refine ⟨_, rfl, t, 2001, rfl, k5.tp, by decide, by decide, fun nr H6 nr0 nr1 k6 => ?_⟩
          refine ⟨_, rfl, _, rfl, t, 20, rfl, k6.tp, by decide, by decide, fun lr H7 lr0 lr1 k7 => ⟨by show 3 ≤ sizeLine; decide, fun p3 H8 n8 e8 s8 => ?_⟩⟩
          have k8 : Kt t Hp H8 := ((k5.trans k6).trans k7).trans (Kt.same k7.tp s8)
          refine ⟨t, .ref p3, _, rfl, k8.tp, .inl ⟨p3, rfl, Kt.ne k7.tp n8, .inl (SqL.of e8)⟩, by show 0 < 3; decide, by show 3 < 100000; decide, fun ln H9 hln k9 => ⟨_, _, rfl, ?_⟩⟩
          have line : ∀ H', ∃ d, Dp K H' ln d ∧ SmE d := fun H' => by
            simp only [List.mem_cons, List.not_mem_nil, or_false] at hln
            rcases hln with rfl | rfl | rfl
            · exact ⟨_, .non, smE_non⟩
            · exact ⟨_, .int 0, (smN_int (by decide) (by decide)).e⟩
            · exact ⟨_, .int lr, (smN_int lr0 (by omega)).e⟩
          have k9 : Kt t Hp H9 := k8.trans k9
          -- the claim
          refine ⟨_, rfl, _, rfl, _, rfl, by show 3 ≤ sizeLine; decide, fun u0 U0 m0 e0 t0 => ⟨_, rfl, by show 1 ≤ sizeLine; decide, fun g1 G1 o1 f1 v1 => ⟨by show 2 ≤ sizeLine; decide, fun u1 U1 m1 e1 t1 => ⟨_, rfl, by show 1 ≤ sizeLine; decide, fun g2 G2 o2 f2 v2 => ⟨_, rfl, by show 3 ≤ sizeLine; decide, fun u2 U2 m2 e2 t2 => ⟨by show 3 ≤ sizeLine; decide, fun pc Hc nc ec sc => ?_⟩⟩⟩⟩⟩⟩
          have w2 : Same U2 Hc := sc
          have x2 : Same G2 Hc := t2.trans w2
          have w1 : Same U1 Hc := v2.trans x2
          have x1 : Same G1 Hc := t1.trans w1
          have w0 : Same U0 Hc := v1.trans x1
          have kc : Kt t Hp Hc := k9.trans (Kt.same k9.tp (t0.trans w0))
          have kU : Kt t Hp U2 := k9.trans (Kt.same k9.tp (t0.trans (v1.trans (t1.trans (v2.trans t2)))))
          refine ⟨t, .ref pc, _, rfl, kc.tp, .inl ⟨pc, rfl, Kt.ne kU.tp nc, .inl (SqL.of ec)⟩, by show 0 < 3; decide, by show 3 < 100000; decide, fun cl H10 hcl k10 => ?_⟩
          have claim : ∃ d, Dp K H10 cl d ∧ SmE d := by
            have tp : ∀ {q : Addr} {xs : List V}, Hc q = some (.tup xs) → SqT K H10 q xs := fun e => SqT.of (k10.tup kc.tp e)
            simp only [List.mem_cons, List.not_mem_nil, or_false] at hcl
            have one : SmN 9 1 (.tuple [.str nm]) := smN_tup (k := 1) (mem1 (smN_W hw)) rfl
            rcases hcl with rfl | rfl | rfl
            · exact ⟨_, .tup (tp (w0 _ _ e0)) (.cons (.str _) (.cons (.str nm) (.cons (.str nm) .nil))), (smN_tup (k := 3) (mem3 (smN_str (by decide +kernel) (by decide +kernel)) (smN_W hw) (smN_W hw)) rfl).e⟩
            · exact ⟨_, .tup (tp (w1 _ _ e1)) (.cons (.str _) (.cons (.tup (tp (x1 _ _ f1)) (.cons (.str nm) .nil)) .nil)), (smN_tup (k := 2) (mem2 (smN_str (x := Str.ofString "group") (by decide +kernel) (by decide +kernel)).mono one) rfl).e⟩
            · exact ⟨_, .tup (tp (w2 _ _ e2)) (.cons (.str _) (.cons (.tup (tp (x2 _ _ f2)) (.cons (.str nm) .nil)) (.cons (.str nm) .nil))), (smN_tup (k := 3) (mem3 (smN_str (x := Str.ofString "always") (by decide +kernel) (by decide +kernel)).mono one (smN_W hw).mono) rfl).e⟩
          have k10 : Kt t Hp H10 := kc.trans k10
          obtain ⟨dc, hdc, smc⟩ := claim
          obtain ⟨dl, hdl, sml⟩ := line H10
          obtain ⟨dv, hdv, smv⟩ := good j v hv H10 k10
          refine ⟨_, rfl, _, rfl, _, rfl, _, rfl, v, nr, ln, cl, dv, dl, dc, rfl, hdv, hdl, hdc, smv, sml, smc, nr0, by omega, fun H11 s11 => ⟨_, rfl, iteN ne_ft ?_⟩⟩
          exact ⟨k10.trans (Kt.same k10.tp s11), _, _, _, _, rfl⟩
        · obtain ⟨k5, c4, c5, c6, c7, rfl⟩ := hP
          exact ⟨back _ (kp.trans k5), _, _, _, _, _, _, _, rfl⟩
      · exact q H1
end
end Gk

set_option Elab.async false
set_option linter.all false
set_option maxRecDepth 1000000
set_option maxHeartbeats 0
namespace Gk
open PySem PySem.Spec PyProof.Rows L2
abbrev xCs (K : PySem.W.Frag) : List Value := [.ref (He.ga K "ClockError"), .ref (He.ga K "InvalidName"), .ref (He.ga K "InvalidAction"), .ref (He.ga K "InvalidSystem"), .ref (He.ga K "InvalidRun"), .ref (He.ga K "InvalidClocks"), .ref (He.ga K "InvalidOperation"), .ref (He.ga K "ParseError"), .ref (He.ga K "UnknownName"), .ref (He.ga K "NotPossible"), .ref (He.ga K "NothingToUndo"), .ref (He.ga K "TooMany"), .ref (He.ga K "Refused"), .ref (He.ga K "InvalidNumber")]
abbrev xBs : List Value := [.type "ValueError", .type "LookupError", .type "KeyError", .type "IndexError", .type "ArithmeticError", .type "OverflowError", .type "RuntimeError"]
def xFn : List He.DefD := [⟨("_law_tape", none), "_law_tape", "_law_tape", defArgs s_tape, defBody s_tape, defScope s_tape, [], []⟩, ⟨("_law_roll", none), "_law_roll", "_law_roll", defArgs s_roll, defBody s_roll, defScope s_roll, [], []⟩, ⟨("_law_pick", none), "_law_pick", "_law_pick", defArgs s_pick, defBody s_pick, defScope s_pick, [], []⟩, ⟨("_law_word_drawn", none), "_law_word_drawn", "_law_word_drawn", defArgs s_word_drawn, defBody s_word_drawn, defScope s_word_drawn, [], []⟩, ⟨("_law_own", none), "_law_own", "_law_own", defArgs s_own, defBody s_own, defScope s_own, [], []⟩, ⟨("_law_built_in", none), "_law_built_in", "_law_built_in", defArgs s_built_in, defBody s_built_in, defScope s_built_in, [], []⟩, ⟨("_law_right", none), "_law_right", "_law_right", defArgs s_right, defBody s_right, defScope s_right, [], []⟩, ⟨("law", none), "law", "law", defArgs s_law, defBody s_law, defScope s_law, [], []⟩, ⟨("ParseError", some "__init__"), "__init__", "ParseError.__init__", defArgs s_ParseError___init, defBody s_ParseError___init, defScope s_ParseError___init, [], []⟩, ⟨("UnknownName", some "__init__"), "__init__", "UnknownName.__init__", defArgs s_UnknownName___init, defBody s_UnknownName___init, defScope s_UnknownName___init, [], []⟩, ⟨("NotPossible", some "__init__"), "__init__", "NotPossible.__init__", defArgs s_NotPossible___init, defBody s_NotPossible___init, defScope s_NotPossible___init, [], []⟩, ⟨("NothingToUndo", some "__init__"), "__init__", "NothingToUndo.__init__", defArgs s_NothingToUndo___init, defBody s_NothingToUndo___init, defScope s_NothingToUndo___init, [], []⟩, ⟨("TooMany", some "__init__"), "__init__", "TooMany.__init__", defArgs s_TooMany___init, defBody s_TooMany___init, defScope s_TooMany___init, [], []⟩, ⟨("Refused", some "__init__"), "__init__", "Refused.__init__", defArgs s_Refused___init, defBody s_Refused___init, defScope s_Refused___init, [], []⟩, ⟨("InvalidNumber", some "__init__"), "__init__", "InvalidNumber.__init__", defArgs s_InvalidNumber___init, defBody s_InvalidNumber___init, defScope s_InvalidNumber___init, [], []⟩]
def xFa : List He.Fa := [.glo "_law_tape", .glo "_law_roll", .glo "_law_pick", .glo "_law_word_drawn", .glo "_law_own", .glo "_law_built_in", .glo "_law_right", .glo "law", .glo "ClockError", .glo "InvalidName", .glo "InvalidAction", .glo "InvalidSystem", .glo "InvalidRun", .glo "InvalidClocks", .glo "InvalidOperation", .glo "ParseError", .glo "UnknownName", .glo "NotPossible", .glo "NothingToUndo", .glo "TooMany", .glo "Refused", .glo "InvalidNumber", .exc "InvalidName", .exm "InvalidName" "InvalidName" true, .exc "InvalidAction", .exm "InvalidAction" "InvalidAction" true, .exc "InvalidSystem", .exm "InvalidSystem" "InvalidSystem" true, .exc "InvalidRun", .exm "InvalidRun" "InvalidRun" true, .exc "InvalidClocks", .exm "InvalidClocks" "InvalidClocks" true, .exc "InvalidOperation", .exm "InvalidOperation" "InvalidOperation" true, .free "len", .free "int", .free "abs", .free "max", .free "min", .free "range", .free "all", .free "isinstance", .free "str", .free "tuple", .free "list", .free "set", .free "sorted", .free "repr", .free "bool", .free "dict", .free "ValueError", .free "LookupError", .free "KeyError", .free "IndexError", .free "ArithmeticError", .free "OverflowError", .free "RuntimeError"]
def xTf : List He.Defn := []
def xEx (K : PySem.W.Frag) : Bool := (cinB "ClockError" K && (invB "ParseError" "line" XB.mValue "ValueError.__new__" K && (invB "UnknownName" "wanted" XB.mKey "LookupError.__new__" K && (invB "NotPossible" "at" XB.mLookup "LookupError.__new__" K && (invB "NothingToUndo" "many" XB.mIndex "IndexError.__new__" K && (invB "TooMany" "limit" XB.mOver "OverflowError.__new__" K && (invB "Refused" "claim" XB.mArith "ArithmeticError.__new__" K && (invB "InvalidNumber" "given" XB.mRun "RuntimeError.__new__" K && (excB K (He.ga K "InvalidName") && (excB K (He.ga K "InvalidAction") && (excB K (He.ga K "InvalidSystem") && (excB K (He.ga K "InvalidRun") && (excB K (He.ga K "InvalidClocks") && (excB K (He.ga K "InvalidOperation") && (excB K (He.ga K "ParseError") && (excB K (He.ga K "UnknownName") && (excB K (He.ga K "NotPossible") && (excB K (He.ga K "NothingToUndo") && (excB K (He.ga K "TooMany") && (excB K (He.ga K "Refused") && (excB K (He.ga K "InvalidNumber") && (tabIs K (He.ga K "InvalidName") (xCs K) (tabO true 0) && (tabIs K (He.ga K "InvalidName") xBs btV && (tabIs K (He.ga K "InvalidAction") (xCs K) (tabO true 1) && (tabIs K (He.ga K "InvalidAction") xBs btV && (tabIs K (He.ga K "InvalidSystem") (xCs K) (tabO true 2) && (tabIs K (He.ga K "InvalidSystem") xBs btV && (tabIs K (He.ga K "InvalidRun") (xCs K) (tabO true 3) && (tabIs K (He.ga K "InvalidRun") xBs btV && (tabIs K (He.ga K "InvalidClocks") (xCs K) (tabO true 4) && (tabIs K (He.ga K "InvalidClocks") xBs btV && (tabIs K (He.ga K "InvalidOperation") (xCs K) (tabO true 5) && (tabIs K (He.ga K "InvalidOperation") xBs btV && (tabIs K (He.ga K "ParseError") (xCs K) (tabO true 6) && (tabIs K (He.ga K "ParseError") xBs btV && (tabIs K (He.ga K "UnknownName") (xCs K) (tabO false 7) && (tabIs K (He.ga K "UnknownName") xBs [false, true, true, false, false, false, false] && (tabIs K (He.ga K "NotPossible") (xCs K) (tabO false 8) && (tabIs K (He.ga K "NotPossible") xBs [false, true, false, false, false, false, false] && (tabIs K (He.ga K "NothingToUndo") (xCs K) (tabO false 9) && (tabIs K (He.ga K "NothingToUndo") xBs [false, true, false, true, false, false, false] && (tabIs K (He.ga K "TooMany") (xCs K) (tabO false 10) && (tabIs K (He.ga K "TooMany") xBs [false, false, false, false, true, true, false] && (tabIs K (He.ga K "Refused") (xCs K) (tabO false 11) && (tabIs K (He.ga K "Refused") xBs [false, false, false, false, true, false, false] && (tabIs K (He.ga K "InvalidNumber") (xCs K) (tabO false 12) && (tabIs K (He.ga K "InvalidNumber") xBs [false, false, false, false, false, false, true] && (binB "KeyError" "KeyError.__init__" K && (binB "LookupError" "LookupError.__init__" K && (binB "IndexError" "IndexError.__init__" K && (binB "OverflowError" "OverflowError.__init__" K && (binB "ArithmeticError" "ArithmeticError.__init__" K && (binB "RuntimeError" "RuntimeError.__init__" K && true)))))))))))))))))))))))))))))))))))))))))))))))))))))
abbrev xR : PySem.W.OpenRow := PySem.W.OpenLaw.row PySem.Challenge.rw_groupclocks_k00_errors_and_their_fields
abbrev xHk : PySem.W.Hook := L2.hookL 6 xFa xFn xTf xEx
def xOb (s : PySem.W.SharedT) : He.AlX := L2.obsL 6 xFa xFn xTf xEx (HandSHeadRun.getT s)
theorem xOb_eq (s : PySem.W.SharedT) : xOb s = xHk.obs s.abs := L2.obsL_eq (HandSHeadRun.getT_eq s)
theorem xRun (w : World) : HandSHeadRun.RunEq xR (PySem.W.view xR.prog [23]) xHk xOb 4000 ["ClockError", "InvalidName", "InvalidAction", "InvalidSystem", "InvalidRun", "InvalidClocks", "InvalidOperation", "ParseError", "UnknownName", "NotPossible", "NothingToUndo", "TooMany", "Refused", "InvalidNumber", "_law_tape", "_law_roll", "_law_pick", "_law_word_drawn", "_law_own", "_law_built_in", "_law_right"] w := by
  intro os
  kernel_rfl
theorem sub_ParseError : XB.Subs XB.mValue "ValueError" "ValueError" := ⟨by decide +kernel, by decide +kernel, by decide +kernel, by decide +kernel, by decide +kernel⟩
theorem sub_UnknownName : XB.Subs XB.mKey "LookupError" "KeyError" := ⟨by decide +kernel, by decide +kernel, by decide +kernel, by decide +kernel, by decide +kernel⟩
theorem boot_UnknownName : bootBuiltins "KeyError" = some (.type "KeyError") := by decide +kernel
theorem typ_UnknownName : typeOf (.type "KeyError") = pure (.type "type") := by kernel_rfl
theorem sub_NotPossible : XB.Subs XB.mLookup "LookupError" "LookupError" := ⟨by decide +kernel, by decide +kernel, by decide +kernel, by decide +kernel, by decide +kernel⟩
theorem boot_NotPossible : bootBuiltins "LookupError" = some (.type "LookupError") := by decide +kernel
theorem typ_NotPossible : typeOf (.type "LookupError") = pure (.type "type") := by kernel_rfl
theorem sub_NothingToUndo : XB.Subs XB.mIndex "IndexError" "IndexError" := ⟨by decide +kernel, by decide +kernel, by decide +kernel, by decide +kernel, by decide +kernel⟩
theorem boot_NothingToUndo : bootBuiltins "IndexError" = some (.type "IndexError") := by decide +kernel
theorem typ_NothingToUndo : typeOf (.type "IndexError") = pure (.type "type") := by kernel_rfl
theorem sub_TooMany : XB.Subs XB.mOver "OverflowError" "OverflowError" := ⟨by decide +kernel, by decide +kernel, by decide +kernel, by decide +kernel, by decide +kernel⟩
theorem boot_TooMany : bootBuiltins "OverflowError" = some (.type "OverflowError") := by decide +kernel
theorem typ_TooMany : typeOf (.type "OverflowError") = pure (.type "type") := by kernel_rfl
theorem sub_Refused : XB.Subs XB.mArith "ArithmeticError" "ArithmeticError" := ⟨by decide +kernel, by decide +kernel, by decide +kernel, by decide +kernel, by decide +kernel⟩
theorem boot_Refused : bootBuiltins "ArithmeticError" = some (.type "ArithmeticError") := by decide +kernel
theorem typ_Refused : typeOf (.type "ArithmeticError") = pure (.type "type") := by kernel_rfl
theorem sub_InvalidNumber : XB.Subs XB.mRun "RuntimeError" "RuntimeError" := ⟨by decide +kernel, by decide +kernel, by decide +kernel, by decide +kernel, by decide +kernel⟩
theorem boot_InvalidNumber : bootBuiltins "RuntimeError" = some (.type "RuntimeError") := by decide +kernel
theorem typ_InvalidNumber : typeOf (.type "RuntimeError") = pure (.type "type") := by kernel_rfl
theorem xFacts {w : World} {K : PySem.W.Frag} {h : Heap} {mg : Str → Option Value} {fl : Addr} (X : K.In h) (G : h.Ns mainGlobals mg) (hfl : mg ("law" : Str) = some (.ref fl)) (c : He.SaysX xFa xFn [] xTf xEx w h K) : LawG PySem.Challenge.rw_groupclocks_k00_errors_and_their_fields w K 5 63 "script" mg fl := by
  have cd := c.t.d
  obtain ⟨d_tape, F_tape⟩ := cd.def_ 0 (d := ⟨("_law_tape", none), "_law_tape", "_law_tape", defArgs s_tape, defBody s_tape, defScope s_tape, [], []⟩) rfl
  have D_tape : Df K mg "_law_tape" s_tape ["script", "spot"] _ d_tape := df_he X G F_tape (cd.fact 0 (f := .glo "_law_tape") rfl) fun _ _ _ _ _ _ us hl => match us, hl with | [_, _], _ => rfl
  obtain ⟨d_roll, F_roll⟩ := cd.def_ 1 (d := ⟨("_law_roll", none), "_law_roll", "_law_roll", defArgs s_roll, defBody s_roll, defScope s_roll, [], []⟩) rfl
  have D_roll : Df K mg "_law_roll" s_roll ["tape", "total"] _ d_roll := df_he X G F_roll (cd.fact 1 (f := .glo "_law_roll") rfl) fun _ _ _ _ _ _ us hl => match us, hl with | [_, _], _ => rfl
  obtain ⟨d_pick, F_pick⟩ := cd.def_ 2 (d := ⟨("_law_pick", none), "_law_pick", "_law_pick", defArgs s_pick, defBody s_pick, defScope s_pick, [], []⟩) rfl
  have D_pick : Df K mg "_law_pick" s_pick ["tape", "items"] _ d_pick := df_he X G F_pick (cd.fact 2 (f := .glo "_law_pick") rfl) fun _ _ _ _ _ _ us hl => match us, hl with | [_, _], _ => rfl
  obtain ⟨d_word_drawn, F_word_drawn⟩ := cd.def_ 3 (d := ⟨("_law_word_drawn", none), "_law_word_drawn", "_law_word_drawn", defArgs s_word_drawn, defBody s_word_drawn, defScope s_word_drawn, [], []⟩) rfl
  have D_word_drawn : Df K mg "_law_word_drawn" s_word_drawn ["tape"] _ d_word_drawn := df_he X G F_word_drawn (cd.fact 3 (f := .glo "_law_word_drawn") rfl) fun _ _ _ _ _ _ us hl => match us, hl with | [_], _ => rfl
  obtain ⟨d_own, F_own⟩ := cd.def_ 4 (d := ⟨("_law_own", none), "_law_own", "_law_own", defArgs s_own, defBody s_own, defScope s_own, [], []⟩) rfl
  have D_own : Df K mg "_law_own" s_own ["error"] _ d_own := df_he X G F_own (cd.fact 4 (f := .glo "_law_own") rfl) fun _ _ _ _ _ _ us hl => match us, hl with | [_], _ => rfl
  obtain ⟨d_built_in, F_built_in⟩ := cd.def_ 5 (d := ⟨("_law_built_in", none), "_law_built_in", "_law_built_in", defArgs s_built_in, defBody s_built_in, defScope s_built_in, [], []⟩) rfl
  have D_built_in : Df K mg "_law_built_in" s_built_in ["error"] _ d_built_in := df_he X G F_built_in (cd.fact 5 (f := .glo "_law_built_in") rfl) fun _ _ _ _ _ _ us hl => match us, hl with | [_], _ => rfl
  obtain ⟨d_right, F_right⟩ := cd.def_ 6 (d := ⟨("_law_right", none), "_law_right", "_law_right", defArgs s_right, defBody s_right, defScope s_right, [], []⟩) rfl
  have D_right : Df K mg "_law_right" s_right ["value", "number", "line", "claim"] _ d_right := df_he X G F_right (cd.fact 6 (f := .glo "_law_right") rfl) fun _ _ _ _ _ _ us hl => match us, hl with | [_, _, _, _], _ => rfl
  obtain ⟨d_law, F_law⟩ := cd.def_ 7 (d := ⟨("law", none), "law", "law", defArgs s_law, defBody s_law, defScope s_law, [], []⟩) rfl
  have D_law : Df K mg "law" s_law ["script"] _ d_law := df_he X G F_law (cd.fact 7 (f := .glo "law") rfl) fun _ _ _ _ _ _ us hl => match us, hl with | [_], _ => rfl
  have hex := c.more
  obtain ⟨ex_cin, hex⟩ := He.ba (show (cinB "ClockError" K && _) = true from hex)
  obtain ⟨ex_inv_ParseError, hex⟩ := He.ba (show (invB "ParseError" "line" XB.mValue "ValueError.__new__" K && _) = true from hex)
  obtain ⟨ex_inv_UnknownName, hex⟩ := He.ba (show (invB "UnknownName" "wanted" XB.mKey "LookupError.__new__" K && _) = true from hex)
  obtain ⟨ex_inv_NotPossible, hex⟩ := He.ba (show (invB "NotPossible" "at" XB.mLookup "LookupError.__new__" K && _) = true from hex)
  obtain ⟨ex_inv_NothingToUndo, hex⟩ := He.ba (show (invB "NothingToUndo" "many" XB.mIndex "IndexError.__new__" K && _) = true from hex)
  obtain ⟨ex_inv_TooMany, hex⟩ := He.ba (show (invB "TooMany" "limit" XB.mOver "OverflowError.__new__" K && _) = true from hex)
  obtain ⟨ex_inv_Refused, hex⟩ := He.ba (show (invB "Refused" "claim" XB.mArith "ArithmeticError.__new__" K && _) = true from hex)
  obtain ⟨ex_inv_InvalidNumber, hex⟩ := He.ba (show (invB "InvalidNumber" "given" XB.mRun "RuntimeError.__new__" K && _) = true from hex)
  obtain ⟨ex_exc_InvalidName, hex⟩ := He.ba (show (excB K (He.ga K "InvalidName") && _) = true from hex)
  obtain ⟨ex_exc_InvalidAction, hex⟩ := He.ba (show (excB K (He.ga K "InvalidAction") && _) = true from hex)
  obtain ⟨ex_exc_InvalidSystem, hex⟩ := He.ba (show (excB K (He.ga K "InvalidSystem") && _) = true from hex)
  obtain ⟨ex_exc_InvalidRun, hex⟩ := He.ba (show (excB K (He.ga K "InvalidRun") && _) = true from hex)
  obtain ⟨ex_exc_InvalidClocks, hex⟩ := He.ba (show (excB K (He.ga K "InvalidClocks") && _) = true from hex)
  obtain ⟨ex_exc_InvalidOperation, hex⟩ := He.ba (show (excB K (He.ga K "InvalidOperation") && _) = true from hex)
  obtain ⟨ex_exc_ParseError, hex⟩ := He.ba (show (excB K (He.ga K "ParseError") && _) = true from hex)
  obtain ⟨ex_exc_UnknownName, hex⟩ := He.ba (show (excB K (He.ga K "UnknownName") && _) = true from hex)
  obtain ⟨ex_exc_NotPossible, hex⟩ := He.ba (show (excB K (He.ga K "NotPossible") && _) = true from hex)
  obtain ⟨ex_exc_NothingToUndo, hex⟩ := He.ba (show (excB K (He.ga K "NothingToUndo") && _) = true from hex)
  obtain ⟨ex_exc_TooMany, hex⟩ := He.ba (show (excB K (He.ga K "TooMany") && _) = true from hex)
  obtain ⟨ex_exc_Refused, hex⟩ := He.ba (show (excB K (He.ga K "Refused") && _) = true from hex)
  obtain ⟨ex_exc_InvalidNumber, hex⟩ := He.ba (show (excB K (He.ga K "InvalidNumber") && _) = true from hex)
  obtain ⟨ex_to_InvalidName, hex⟩ := He.ba (show (tabIs K (He.ga K "InvalidName") (xCs K) (tabO true 0) && _) = true from hex)
  obtain ⟨ex_tb_InvalidName, hex⟩ := He.ba (show (tabIs K (He.ga K "InvalidName") xBs btV && _) = true from hex)
  obtain ⟨ex_to_InvalidAction, hex⟩ := He.ba (show (tabIs K (He.ga K "InvalidAction") (xCs K) (tabO true 1) && _) = true from hex)
  obtain ⟨ex_tb_InvalidAction, hex⟩ := He.ba (show (tabIs K (He.ga K "InvalidAction") xBs btV && _) = true from hex)
  obtain ⟨ex_to_InvalidSystem, hex⟩ := He.ba (show (tabIs K (He.ga K "InvalidSystem") (xCs K) (tabO true 2) && _) = true from hex)
  obtain ⟨ex_tb_InvalidSystem, hex⟩ := He.ba (show (tabIs K (He.ga K "InvalidSystem") xBs btV && _) = true from hex)
  obtain ⟨ex_to_InvalidRun, hex⟩ := He.ba (show (tabIs K (He.ga K "InvalidRun") (xCs K) (tabO true 3) && _) = true from hex)
  obtain ⟨ex_tb_InvalidRun, hex⟩ := He.ba (show (tabIs K (He.ga K "InvalidRun") xBs btV && _) = true from hex)
  obtain ⟨ex_to_InvalidClocks, hex⟩ := He.ba (show (tabIs K (He.ga K "InvalidClocks") (xCs K) (tabO true 4) && _) = true from hex)
  obtain ⟨ex_tb_InvalidClocks, hex⟩ := He.ba (show (tabIs K (He.ga K "InvalidClocks") xBs btV && _) = true from hex)
  obtain ⟨ex_to_InvalidOperation, hex⟩ := He.ba (show (tabIs K (He.ga K "InvalidOperation") (xCs K) (tabO true 5) && _) = true from hex)
  obtain ⟨ex_tb_InvalidOperation, hex⟩ := He.ba (show (tabIs K (He.ga K "InvalidOperation") xBs btV && _) = true from hex)
  obtain ⟨ex_to_ParseError, hex⟩ := He.ba (show (tabIs K (He.ga K "ParseError") (xCs K) (tabO true 6) && _) = true from hex)
  obtain ⟨ex_tb_ParseError, hex⟩ := He.ba (show (tabIs K (He.ga K "ParseError") xBs btV && _) = true from hex)
  obtain ⟨ex_to_UnknownName, hex⟩ := He.ba (show (tabIs K (He.ga K "UnknownName") (xCs K) (tabO false 7) && _) = true from hex)
  obtain ⟨ex_tb_UnknownName, hex⟩ := He.ba (show (tabIs K (He.ga K "UnknownName") xBs [false, true, true, false, false, false, false] && _) = true from hex)
  obtain ⟨ex_to_NotPossible, hex⟩ := He.ba (show (tabIs K (He.ga K "NotPossible") (xCs K) (tabO false 8) && _) = true from hex)
  obtain ⟨ex_tb_NotPossible, hex⟩ := He.ba (show (tabIs K (He.ga K "NotPossible") xBs [false, true, false, false, false, false, false] && _) = true from hex)
  obtain ⟨ex_to_NothingToUndo, hex⟩ := He.ba (show (tabIs K (He.ga K "NothingToUndo") (xCs K) (tabO false 9) && _) = true from hex)
  obtain ⟨ex_tb_NothingToUndo, hex⟩ := He.ba (show (tabIs K (He.ga K "NothingToUndo") xBs [false, true, false, true, false, false, false] && _) = true from hex)
  obtain ⟨ex_to_TooMany, hex⟩ := He.ba (show (tabIs K (He.ga K "TooMany") (xCs K) (tabO false 10) && _) = true from hex)
  obtain ⟨ex_tb_TooMany, hex⟩ := He.ba (show (tabIs K (He.ga K "TooMany") xBs [false, false, false, false, true, true, false] && _) = true from hex)
  obtain ⟨ex_to_Refused, hex⟩ := He.ba (show (tabIs K (He.ga K "Refused") (xCs K) (tabO false 11) && _) = true from hex)
  obtain ⟨ex_tb_Refused, hex⟩ := He.ba (show (tabIs K (He.ga K "Refused") xBs [false, false, false, false, true, false, false] && _) = true from hex)
  obtain ⟨ex_to_InvalidNumber, hex⟩ := He.ba (show (tabIs K (He.ga K "InvalidNumber") (xCs K) (tabO false 12) && _) = true from hex)
  obtain ⟨ex_tb_InvalidNumber, hex⟩ := He.ba (show (tabIs K (He.ga K "InvalidNumber") xBs [false, false, false, false, false, false, true] && _) = true from hex)
  obtain ⟨ex_bin_UnknownName, hex⟩ := He.ba (show (binB "KeyError" "KeyError.__init__" K && _) = true from hex)
  obtain ⟨ex_bin_NotPossible, hex⟩ := He.ba (show (binB "LookupError" "LookupError.__init__" K && _) = true from hex)
  obtain ⟨ex_bin_NothingToUndo, hex⟩ := He.ba (show (binB "IndexError" "IndexError.__init__" K && _) = true from hex)
  obtain ⟨ex_bin_TooMany, hex⟩ := He.ba (show (binB "OverflowError" "OverflowError.__init__" K && _) = true from hex)
  obtain ⟨ex_bin_Refused, hex⟩ := He.ba (show (binB "ArithmeticError" "ArithmeticError.__init__" K && _) = true from hex)
  obtain ⟨ex_bin_InvalidNumber, hex⟩ := He.ba (show (binB "RuntimeError" "RuntimeError.__init__" K && _) = true from hex)
  have B : Blt mg := ⟨He.free_ok X G (cd.fact 34 (f := .free "len") rfl), He.free_ok X G (cd.fact 35 (f := .free "int") rfl), He.free_ok X G (cd.fact 36 (f := .free "abs") rfl), He.free_ok X G (cd.fact 37 (f := .free "max") rfl), He.free_ok X G (cd.fact 38 (f := .free "min") rfl), He.free_ok X G (cd.fact 39 (f := .free "range") rfl), He.free_ok X G (cd.fact 40 (f := .free "all") rfl), He.free_ok X G (cd.fact 41 (f := .free "isinstance") rfl), He.free_ok X G (cd.fact 42 (f := .free "str") rfl), He.free_ok X G (cd.fact 43 (f := .free "tuple") rfl), He.free_ok X G (cd.fact 44 (f := .free "list") rfl), He.free_ok X G (cd.fact 45 (f := .free "set") rfl), He.free_ok X G (cd.fact 46 (f := .free "sorted") rfl), He.free_ok X G (cd.fact 47 (f := .free "repr") rfl), He.free_ok X G (cd.fact 48 (f := .free "bool") rfl), He.free_ok X G (cd.fact 49 (f := .free "dict") rfl)⟩
  have g_ClockError := He.glo_ok X G (cd.fact 8 (f := .glo "ClockError") rfl)
  have g_InvalidName := He.glo_ok X G (cd.fact 9 (f := .glo "InvalidName") rfl)
  have g_InvalidAction := He.glo_ok X G (cd.fact 10 (f := .glo "InvalidAction") rfl)
  have g_InvalidSystem := He.glo_ok X G (cd.fact 11 (f := .glo "InvalidSystem") rfl)
  have g_InvalidRun := He.glo_ok X G (cd.fact 12 (f := .glo "InvalidRun") rfl)
  have g_InvalidClocks := He.glo_ok X G (cd.fact 13 (f := .glo "InvalidClocks") rfl)
  have g_InvalidOperation := He.glo_ok X G (cd.fact 14 (f := .glo "InvalidOperation") rfl)
  have g_ParseError := He.glo_ok X G (cd.fact 15 (f := .glo "ParseError") rfl)
  have g_UnknownName := He.glo_ok X G (cd.fact 16 (f := .glo "UnknownName") rfl)
  have g_NotPossible := He.glo_ok X G (cd.fact 17 (f := .glo "NotPossible") rfl)
  have g_NothingToUndo := He.glo_ok X G (cd.fact 18 (f := .glo "NothingToUndo") rfl)
  have g_TooMany := He.glo_ok X G (cd.fact 19 (f := .glo "TooMany") rfl)
  have g_Refused := He.glo_ok X G (cd.fact 20 (f := .glo "Refused") rfl)
  have g_InvalidNumber := He.glo_ok X G (cd.fact 21 (f := .glo "InvalidNumber") rfl)
  have m_ValueError := He.free_ok X G (cd.fact 50 (f := .free "ValueError") rfl)
  have m_LookupError := He.free_ok X G (cd.fact 51 (f := .free "LookupError") rfl)
  have m_KeyError := He.free_ok X G (cd.fact 52 (f := .free "KeyError") rfl)
  have m_IndexError := He.free_ok X G (cd.fact 53 (f := .free "IndexError") rfl)
  have m_ArithmeticError := He.free_ok X G (cd.fact 54 (f := .free "ArithmeticError") rfl)
  have m_OverflowError := He.free_ok X G (cd.fact 55 (f := .free "OverflowError") rfl)
  have m_RuntimeError := He.free_ok X G (cd.fact 56 (f := .free "RuntimeError") rfl)
  have TB_ParseError := cin_he X G (cd.fact 8 (f := .glo "ClockError") rfl) ex_cin
  have TB_UnknownName : BIn K mg "KeyError" "KeyError" "KeyError.__init__" := ⟨m_KeyError, boot_UnknownName, by decide, by decide, typ_UnknownName, by decide +kernel, binB_ok ex_bin_UnknownName, by decide +kernel, XB.inKey⟩
  have TB_NotPossible : BIn K mg "LookupError" "LookupError" "LookupError.__init__" := ⟨m_LookupError, boot_NotPossible, by decide, by decide, typ_NotPossible, by decide +kernel, binB_ok ex_bin_NotPossible, by decide +kernel, .of PySem.F.excCall_LookupError⟩
  have TB_NothingToUndo : BIn K mg "IndexError" "IndexError" "IndexError.__init__" := ⟨m_IndexError, boot_NothingToUndo, by decide, by decide, typ_NothingToUndo, by decide +kernel, binB_ok ex_bin_NothingToUndo, by decide +kernel, .of PySem.F.excCall_IndexError⟩
  have TB_TooMany : BIn K mg "OverflowError" "OverflowError" "OverflowError.__init__" := ⟨m_OverflowError, boot_TooMany, by decide, by decide, typ_TooMany, by decide +kernel, binB_ok ex_bin_TooMany, by decide +kernel, .of PySem.F.excCall_OverflowError⟩
  have TB_Refused : BIn K mg "ArithmeticError" "ArithmeticError" "ArithmeticError.__init__" := ⟨m_ArithmeticError, boot_Refused, by decide, by decide, typ_Refused, by decide +kernel, binB_ok ex_bin_Refused, by decide +kernel, .of PySem.F.excCall_ArithmeticError⟩
  have TB_InvalidNumber : BIn K mg "RuntimeError" "RuntimeError" "RuntimeError.__init__" := ⟨m_RuntimeError, boot_InvalidNumber, by decide, by decide, typ_InvalidNumber, by decide +kernel, binB_ok ex_bin_InvalidNumber, by decide +kernel, .of PySem.F.excCall_RuntimeError⟩
  obtain ⟨xc_ParseError, xf_ParseError⟩ := excB_ok ex_exc_ParseError
  have iv_ParseError := invB_ok (B := "ValueError") (D := "ValueError") (XB.NewF.of PySem.F.excBase_ValueError) sub_ParseError PySem.F.store_ValueError ex_inv_ParseError
  obtain ⟨di_ParseError, Fi_ParseError⟩ := cd.def_ 8 (d := ⟨("ParseError", some "__init__"), "__init__", "ParseError.__init__", defArgs s_ParseError___init, defBody s_ParseError___init, defScope s_ParseError___init, [], []⟩) rfl
  have Fu_ParseError : Fun K "__init__" (Str.ofString "ParseError" ++ ".__init__") s_ParseError___init (He.ma K (He.ga K "ParseError") "__init__") di_ParseError := by
    have e : (Str.ofString "ParseError" ++ ".__init__" : Str) = "ParseError.__init__" := by decide +kernel
    rw [e]
    exact funD_fun Fi_ParseError
  have T_ParseError : InV K mg "ParseError" "line" s_ParseError___init (He.ga K "ParseError") (He.ma K (He.ga K "ParseError") "__init__") di_ParseError "ValueError" "ValueError" "ValueError.__new__" := ⟨g_ParseError, iv_ParseError.o, iv_ParseError.s xc_ParseError.hd, xc_ParseError, xf_ParseError, iv_ParseError.no, iv_ParseError.i, iv_ParseError.ti, Fu_ParseError, Fu_ParseError.binds fun _ _ _ _ _ _ us hl => match us, hl with | [_, _], _ => rfl⟩
  obtain ⟨xc_UnknownName, xf_UnknownName⟩ := excB_ok ex_exc_UnknownName
  have iv_UnknownName := invB_ok (B := "LookupError") (D := "KeyError") (XB.NewF.of PySem.F.excBase_LookupError) sub_UnknownName XB.stKey ex_inv_UnknownName
  obtain ⟨di_UnknownName, Fi_UnknownName⟩ := cd.def_ 9 (d := ⟨("UnknownName", some "__init__"), "__init__", "UnknownName.__init__", defArgs s_UnknownName___init, defBody s_UnknownName___init, defScope s_UnknownName___init, [], []⟩) rfl
  have Fu_UnknownName : Fun K "__init__" (Str.ofString "UnknownName" ++ ".__init__") s_UnknownName___init (He.ma K (He.ga K "UnknownName") "__init__") di_UnknownName := by
    have e : (Str.ofString "UnknownName" ++ ".__init__" : Str) = "UnknownName.__init__" := by decide +kernel
    rw [e]
    exact funD_fun Fi_UnknownName
  have T_UnknownName : InV K mg "UnknownName" "wanted" s_UnknownName___init (He.ga K "UnknownName") (He.ma K (He.ga K "UnknownName") "__init__") di_UnknownName "LookupError" "KeyError" "LookupError.__new__" := ⟨g_UnknownName, iv_UnknownName.o, iv_UnknownName.s xc_UnknownName.hd, xc_UnknownName, xf_UnknownName, iv_UnknownName.no, iv_UnknownName.i, iv_UnknownName.ti, Fu_UnknownName, Fu_UnknownName.binds fun _ _ _ _ _ _ us hl => match us, hl with | [_, _], _ => rfl⟩
  obtain ⟨xc_NotPossible, xf_NotPossible⟩ := excB_ok ex_exc_NotPossible
  have iv_NotPossible := invB_ok (B := "LookupError") (D := "LookupError") (XB.NewF.of PySem.F.excBase_LookupError) sub_NotPossible XB.stLookup ex_inv_NotPossible
  obtain ⟨di_NotPossible, Fi_NotPossible⟩ := cd.def_ 10 (d := ⟨("NotPossible", some "__init__"), "__init__", "NotPossible.__init__", defArgs s_NotPossible___init, defBody s_NotPossible___init, defScope s_NotPossible___init, [], []⟩) rfl
  have Fu_NotPossible : Fun K "__init__" (Str.ofString "NotPossible" ++ ".__init__") s_NotPossible___init (He.ma K (He.ga K "NotPossible") "__init__") di_NotPossible := by
    have e : (Str.ofString "NotPossible" ++ ".__init__" : Str) = "NotPossible.__init__" := by decide +kernel
    rw [e]
    exact funD_fun Fi_NotPossible
  have T_NotPossible : InV K mg "NotPossible" "at" s_NotPossible___init (He.ga K "NotPossible") (He.ma K (He.ga K "NotPossible") "__init__") di_NotPossible "LookupError" "LookupError" "LookupError.__new__" := ⟨g_NotPossible, iv_NotPossible.o, iv_NotPossible.s xc_NotPossible.hd, xc_NotPossible, xf_NotPossible, iv_NotPossible.no, iv_NotPossible.i, iv_NotPossible.ti, Fu_NotPossible, Fu_NotPossible.binds fun _ _ _ _ _ _ us hl => match us, hl with | [_, _], _ => rfl⟩
  obtain ⟨xc_NothingToUndo, xf_NothingToUndo⟩ := excB_ok ex_exc_NothingToUndo
  have iv_NothingToUndo := invB_ok (B := "IndexError") (D := "IndexError") (XB.NewF.of PySem.F.excBase_IndexError) sub_NothingToUndo XB.stIndex ex_inv_NothingToUndo
  obtain ⟨di_NothingToUndo, Fi_NothingToUndo⟩ := cd.def_ 11 (d := ⟨("NothingToUndo", some "__init__"), "__init__", "NothingToUndo.__init__", defArgs s_NothingToUndo___init, defBody s_NothingToUndo___init, defScope s_NothingToUndo___init, [], []⟩) rfl
  have Fu_NothingToUndo : Fun K "__init__" (Str.ofString "NothingToUndo" ++ ".__init__") s_NothingToUndo___init (He.ma K (He.ga K "NothingToUndo") "__init__") di_NothingToUndo := by
    have e : (Str.ofString "NothingToUndo" ++ ".__init__" : Str) = "NothingToUndo.__init__" := by decide +kernel
    rw [e]
    exact funD_fun Fi_NothingToUndo
  have T_NothingToUndo : InV K mg "NothingToUndo" "many" s_NothingToUndo___init (He.ga K "NothingToUndo") (He.ma K (He.ga K "NothingToUndo") "__init__") di_NothingToUndo "IndexError" "IndexError" "IndexError.__new__" := ⟨g_NothingToUndo, iv_NothingToUndo.o, iv_NothingToUndo.s xc_NothingToUndo.hd, xc_NothingToUndo, xf_NothingToUndo, iv_NothingToUndo.no, iv_NothingToUndo.i, iv_NothingToUndo.ti, Fu_NothingToUndo, Fu_NothingToUndo.binds fun _ _ _ _ _ _ us hl => match us, hl with | [_, _], _ => rfl⟩
  obtain ⟨xc_TooMany, xf_TooMany⟩ := excB_ok ex_exc_TooMany
  have iv_TooMany := invB_ok (B := "OverflowError") (D := "OverflowError") (XB.NewF.of PySem.F.excBase_OverflowError) sub_TooMany XB.stOver ex_inv_TooMany
  obtain ⟨di_TooMany, Fi_TooMany⟩ := cd.def_ 12 (d := ⟨("TooMany", some "__init__"), "__init__", "TooMany.__init__", defArgs s_TooMany___init, defBody s_TooMany___init, defScope s_TooMany___init, [], []⟩) rfl
  have Fu_TooMany : Fun K "__init__" (Str.ofString "TooMany" ++ ".__init__") s_TooMany___init (He.ma K (He.ga K "TooMany") "__init__") di_TooMany := by
    have e : (Str.ofString "TooMany" ++ ".__init__" : Str) = "TooMany.__init__" := by decide +kernel
    rw [e]
    exact funD_fun Fi_TooMany
  have T_TooMany : InV K mg "TooMany" "limit" s_TooMany___init (He.ga K "TooMany") (He.ma K (He.ga K "TooMany") "__init__") di_TooMany "OverflowError" "OverflowError" "OverflowError.__new__" := ⟨g_TooMany, iv_TooMany.o, iv_TooMany.s xc_TooMany.hd, xc_TooMany, xf_TooMany, iv_TooMany.no, iv_TooMany.i, iv_TooMany.ti, Fu_TooMany, Fu_TooMany.binds fun _ _ _ _ _ _ us hl => match us, hl with | [_, _], _ => rfl⟩
  obtain ⟨xc_Refused, xf_Refused⟩ := excB_ok ex_exc_Refused
  have iv_Refused := invB_ok (B := "ArithmeticError") (D := "ArithmeticError") (XB.NewF.of PySem.F.excBase_ArithmeticError) sub_Refused XB.stArith ex_inv_Refused
  obtain ⟨di_Refused, Fi_Refused⟩ := cd.def_ 13 (d := ⟨("Refused", some "__init__"), "__init__", "Refused.__init__", defArgs s_Refused___init, defBody s_Refused___init, defScope s_Refused___init, [], []⟩) rfl
  have Fu_Refused : Fun K "__init__" (Str.ofString "Refused" ++ ".__init__") s_Refused___init (He.ma K (He.ga K "Refused") "__init__") di_Refused := by
    have e : (Str.ofString "Refused" ++ ".__init__" : Str) = "Refused.__init__" := by decide +kernel
    rw [e]
    exact funD_fun Fi_Refused
  have T_Refused : InV K mg "Refused" "claim" s_Refused___init (He.ga K "Refused") (He.ma K (He.ga K "Refused") "__init__") di_Refused "ArithmeticError" "ArithmeticError" "ArithmeticError.__new__" := ⟨g_Refused, iv_Refused.o, iv_Refused.s xc_Refused.hd, xc_Refused, xf_Refused, iv_Refused.no, iv_Refused.i, iv_Refused.ti, Fu_Refused, Fu_Refused.binds fun _ _ _ _ _ _ us hl => match us, hl with | [_, _], _ => rfl⟩
  obtain ⟨xc_InvalidNumber, xf_InvalidNumber⟩ := excB_ok ex_exc_InvalidNumber
  have iv_InvalidNumber := invB_ok (B := "RuntimeError") (D := "RuntimeError") (XB.NewF.of PySem.F.excBase_RuntimeError) sub_InvalidNumber XB.stRun ex_inv_InvalidNumber
  obtain ⟨di_InvalidNumber, Fi_InvalidNumber⟩ := cd.def_ 14 (d := ⟨("InvalidNumber", some "__init__"), "__init__", "InvalidNumber.__init__", defArgs s_InvalidNumber___init, defBody s_InvalidNumber___init, defScope s_InvalidNumber___init, [], []⟩) rfl
  have Fu_InvalidNumber : Fun K "__init__" (Str.ofString "InvalidNumber" ++ ".__init__") s_InvalidNumber___init (He.ma K (He.ga K "InvalidNumber") "__init__") di_InvalidNumber := by
    have e : (Str.ofString "InvalidNumber" ++ ".__init__" : Str) = "InvalidNumber.__init__" := by decide +kernel
    rw [e]
    exact funD_fun Fi_InvalidNumber
  have T_InvalidNumber : InV K mg "InvalidNumber" "given" s_InvalidNumber___init (He.ga K "InvalidNumber") (He.ma K (He.ga K "InvalidNumber") "__init__") di_InvalidNumber "RuntimeError" "RuntimeError" "RuntimeError.__new__" := ⟨g_InvalidNumber, iv_InvalidNumber.o, iv_InvalidNumber.s xc_InvalidNumber.hd, xc_InvalidNumber, xf_InvalidNumber, iv_InvalidNumber.no, iv_InvalidNumber.i, iv_InvalidNumber.ti, Fu_InvalidNumber, Fu_InvalidNumber.binds fun _ _ _ _ _ _ us hl => match us, hl with | [_, _], _ => rfl⟩
  obtain ⟨xc_InvalidName, _⟩ := excB_ok ex_exc_InvalidName
  have T_InvalidName := own_he X G (cd.fact 9 (f := .glo "InvalidName") rfl) (cd.fact 22 (f := .exc "InvalidName") rfl) (cd.fact 23 (f := .exm "InvalidName" "InvalidName" true) rfl)
  obtain ⟨xc_InvalidAction, _⟩ := excB_ok ex_exc_InvalidAction
  have T_InvalidAction := own_he X G (cd.fact 10 (f := .glo "InvalidAction") rfl) (cd.fact 24 (f := .exc "InvalidAction") rfl) (cd.fact 25 (f := .exm "InvalidAction" "InvalidAction" true) rfl)
  obtain ⟨xc_InvalidSystem, _⟩ := excB_ok ex_exc_InvalidSystem
  have T_InvalidSystem := own_he X G (cd.fact 11 (f := .glo "InvalidSystem") rfl) (cd.fact 26 (f := .exc "InvalidSystem") rfl) (cd.fact 27 (f := .exm "InvalidSystem" "InvalidSystem" true) rfl)
  obtain ⟨xc_InvalidRun, _⟩ := excB_ok ex_exc_InvalidRun
  have T_InvalidRun := own_he X G (cd.fact 12 (f := .glo "InvalidRun") rfl) (cd.fact 28 (f := .exc "InvalidRun") rfl) (cd.fact 29 (f := .exm "InvalidRun" "InvalidRun" true) rfl)
  obtain ⟨xc_InvalidClocks, _⟩ := excB_ok ex_exc_InvalidClocks
  have T_InvalidClocks := own_he X G (cd.fact 13 (f := .glo "InvalidClocks") rfl) (cd.fact 30 (f := .exc "InvalidClocks") rfl) (cd.fact 31 (f := .exm "InvalidClocks" "InvalidClocks" true) rfl)
  obtain ⟨xc_InvalidOperation, _⟩ := excB_ok ex_exc_InvalidOperation
  have T_InvalidOperation := own_he X G (cd.fact 14 (f := .glo "InvalidOperation") rfl) (cd.fact 32 (f := .exc "InvalidOperation") rfl) (cd.fact 33 (f := .exm "InvalidOperation" "InvalidOperation" true) rfl)
  have E_InvalidName : Er K (xCs K) xBs (He.ga K "InvalidName") true 0 btV := ⟨xc_InvalidName, tabIs_ok (of_decide_eq_true ex_to_InvalidName), tabIs_ok (of_decide_eq_true ex_tb_InvalidName)⟩
  have E_InvalidAction : Er K (xCs K) xBs (He.ga K "InvalidAction") true 1 btV := ⟨xc_InvalidAction, tabIs_ok (of_decide_eq_true ex_to_InvalidAction), tabIs_ok (of_decide_eq_true ex_tb_InvalidAction)⟩
  have E_InvalidSystem : Er K (xCs K) xBs (He.ga K "InvalidSystem") true 2 btV := ⟨xc_InvalidSystem, tabIs_ok (of_decide_eq_true ex_to_InvalidSystem), tabIs_ok (of_decide_eq_true ex_tb_InvalidSystem)⟩
  have E_InvalidRun : Er K (xCs K) xBs (He.ga K "InvalidRun") true 3 btV := ⟨xc_InvalidRun, tabIs_ok (of_decide_eq_true ex_to_InvalidRun), tabIs_ok (of_decide_eq_true ex_tb_InvalidRun)⟩
  have E_InvalidClocks : Er K (xCs K) xBs (He.ga K "InvalidClocks") true 4 btV := ⟨xc_InvalidClocks, tabIs_ok (of_decide_eq_true ex_to_InvalidClocks), tabIs_ok (of_decide_eq_true ex_tb_InvalidClocks)⟩
  have E_InvalidOperation : Er K (xCs K) xBs (He.ga K "InvalidOperation") true 5 btV := ⟨xc_InvalidOperation, tabIs_ok (of_decide_eq_true ex_to_InvalidOperation), tabIs_ok (of_decide_eq_true ex_tb_InvalidOperation)⟩
  have E_ParseError : Er K (xCs K) xBs (He.ga K "ParseError") true 6 btV := ⟨xc_ParseError, tabIs_ok (of_decide_eq_true ex_to_ParseError), tabIs_ok (of_decide_eq_true ex_tb_ParseError)⟩
  have E_UnknownName : Er K (xCs K) xBs (He.ga K "UnknownName") false 7 [false, true, true, false, false, false, false] := ⟨xc_UnknownName, tabIs_ok (of_decide_eq_true ex_to_UnknownName), tabIs_ok (of_decide_eq_true ex_tb_UnknownName)⟩
  have E_NotPossible : Er K (xCs K) xBs (He.ga K "NotPossible") false 8 [false, true, false, false, false, false, false] := ⟨xc_NotPossible, tabIs_ok (of_decide_eq_true ex_to_NotPossible), tabIs_ok (of_decide_eq_true ex_tb_NotPossible)⟩
  have E_NothingToUndo : Er K (xCs K) xBs (He.ga K "NothingToUndo") false 9 [false, true, false, true, false, false, false] := ⟨xc_NothingToUndo, tabIs_ok (of_decide_eq_true ex_to_NothingToUndo), tabIs_ok (of_decide_eq_true ex_tb_NothingToUndo)⟩
  have E_TooMany : Er K (xCs K) xBs (He.ga K "TooMany") false 10 [false, false, false, false, true, true, false] := ⟨xc_TooMany, tabIs_ok (of_decide_eq_true ex_to_TooMany), tabIs_ok (of_decide_eq_true ex_tb_TooMany)⟩
  have E_Refused : Er K (xCs K) xBs (He.ga K "Refused") false 11 [false, false, false, false, true, false, false] := ⟨xc_Refused, tabIs_ok (of_decide_eq_true ex_to_Refused), tabIs_ok (of_decide_eq_true ex_tb_Refused)⟩
  have E_InvalidNumber : Er K (xCs K) xBs (He.ga K "InvalidNumber") false 12 [false, false, false, false, false, false, true] := ⟨xc_InvalidNumber, tabIs_ok (of_decide_eq_true ex_to_InvalidNumber), tabIs_ok (of_decide_eq_true ex_tb_InvalidNumber)⟩
  have el := hfl.symm.trans D_law.g
  cases el
  refine ⟨d_law, spLaw K, fun s v => FunD.bindsA (ps := ["script"]) F_law (fun _ _ _ _ _ _ us hl => match us, hl with | [_], _ => rfl) s [v] rfl, fun H a ns hl hS => ⟨a, ns, rfl, hS, hl, fun _ => rfl⟩, fun base KB GB => ?_⟩
  have G_tape := ok_tape (P := PySem.Challenge.rw_groupclocks_k00_errors_and_their_fields.prog) (w := w) (base := base) B D_tape
  have G_roll := ok_roll (P := PySem.Challenge.rw_groupclocks_k00_errors_and_their_fields.prog) (w := w) (base := base) B D_roll
  have G_pick := ok_pick (P := PySem.Challenge.rw_groupclocks_k00_errors_and_their_fields.prog) (w := w) (base := base) B D_roll D_pick
  have G_word := ok_word (P := PySem.Challenge.rw_groupclocks_k00_errors_and_their_fields.prog) (w := w) (base := base) B D_pick G_pick D_word_drawn
  have G_ParseError := ok_ParseError (P := PySem.Challenge.rw_groupclocks_k00_errors_and_their_fields.prog) (w := w) (base := base) T_ParseError TB_ParseError
  have G_UnknownName := ok_UnknownName (P := PySem.Challenge.rw_groupclocks_k00_errors_and_their_fields.prog) (w := w) (base := base) T_UnknownName TB_UnknownName
  have G_NotPossible := ok_NotPossible (P := PySem.Challenge.rw_groupclocks_k00_errors_and_their_fields.prog) (w := w) (base := base) T_NotPossible TB_NotPossible
  have G_NothingToUndo := ok_NothingToUndo (P := PySem.Challenge.rw_groupclocks_k00_errors_and_their_fields.prog) (w := w) (base := base) T_NothingToUndo TB_NothingToUndo
  have G_TooMany := ok_TooMany (P := PySem.Challenge.rw_groupclocks_k00_errors_and_their_fields.prog) (w := w) (base := base) T_TooMany TB_TooMany
  have G_Refused := ok_Refused (P := PySem.Challenge.rw_groupclocks_k00_errors_and_their_fields.prog) (w := w) (base := base) T_Refused TB_Refused
  have G_InvalidNumber := ok_InvalidNumber (P := PySem.Challenge.rw_groupclocks_k00_errors_and_their_fields.prog) (w := w) (base := base) T_InvalidNumber TB_InvalidNumber
  have G_own := ok_own (P := PySem.Challenge.rw_groupclocks_k00_errors_and_their_fields.prog) (w := w) (base := base) B g_ClockError g_InvalidName g_InvalidAction g_InvalidSystem g_InvalidRun g_InvalidClocks g_InvalidOperation g_ParseError g_UnknownName g_NotPossible g_NothingToUndo g_TooMany g_Refused g_InvalidNumber D_own
  have G_built_in := ok_built_in (P := PySem.Challenge.rw_groupclocks_k00_errors_and_their_fields.prog) (w := w) (base := base) B m_ValueError m_LookupError m_KeyError m_IndexError m_ArithmeticError m_OverflowError m_RuntimeError D_built_in
  have G_right := ok_right B T_InvalidName E_InvalidName T_InvalidAction E_InvalidAction T_InvalidSystem E_InvalidSystem T_InvalidRun E_InvalidRun T_InvalidClocks E_InvalidClocks T_InvalidOperation E_InvalidOperation T_ParseError G_ParseError E_ParseError T_UnknownName G_UnknownName E_UnknownName T_NotPossible G_NotPossible E_NotPossible T_NothingToUndo G_NothingToUndo E_NothingToUndo T_TooMany G_TooMany E_TooMany T_Refused G_Refused E_Refused T_InvalidNumber G_InvalidNumber E_InvalidNumber D_own G_own D_built_in G_built_in D_right
  exact ok_law B D_tape G_tape D_roll G_roll D_pick G_pick D_word_drawn G_word D_right G_right D_law
end Gk
open PySem PySem.W PySem.Calls PyProof.Rows
set_option maxRecDepth 1000000 in
set_option maxHeartbeats 0 in
theorem PySem.Challenge.cw_groupclocks_k00_errors_and_their_fields_holds : PySem.Challenge.rw_groupclocks_k00_errors_and_their_fields.Holds := by
  w_on; o_law
  refine HandSHeadRun.head_any (r := OpenLaw.row PySem.Challenge.rw_groupclocks_k00_errors_and_their_fields) (q := view (OpenLaw.row PySem.Challenge.rw_groupclocks_k00_errors_and_their_fields).prog [23]) (H := Gk.xHk) (ob := Gk.xOb) (M := 4000) (loose := ["ClockError", "InvalidName", "InvalidAction", "InvalidSystem", "InvalidRun", "InvalidClocks", "InvalidOperation", "ParseError", "UnknownName", "NotPossible", "NothingToUndo", "TooMany", "Refused", "InvalidNumber", "_law_tape", "_law_roll", "_law_pick", "_law_word_drawn", "_law_own", "_law_built_in", "_law_right"]) (d := HandSHeadRun.topDef (OpenLaw.row PySem.Challenge.rw_groupclocks_k00_errors_and_their_fields).prog 23) (kwd := []) Gk.xOb_eq
    (by kernel_rfl) (fun s => by kernel_rfl) Gk.xRun (by kernel_rfl) (by kernel_rfl) (by kernel_rfl) (by rfl) (by first | assumption | decide +kernel) (by decide +kernel) ⟨rfl, rfl, rfl, rfl, rfl, by decide +kernel⟩ ?hw ?hc
  case hw => w_witness2
  case hc =>
    refine L2.walk_ofG (l := PySem.Challenge.rw_groupclocks_k00_errors_and_their_fields) (n := 63) (k := 5) (x := "script") rfl (by decide) (by kernel_rfl) ⟨rfl, by decide, by decide⟩ ?F
    intro w mg fa h Y G hmg0
    obtain ⟨K, KX, c⟩ := Y
    have hmg : mg ("law" : PySem.Str) = some (.ref fa) := by
      have e : (HandSHeadRun.topDef (OpenLaw.row PySem.Challenge.rw_groupclocks_k00_errors_and_their_fields).prog 23).name = ("law" : PySem.Str) := by kernel_rfl
      rw [← e]
      exact hmg0
    exact ⟨K, KX, Gk.xFacts KX G hmg c⟩

