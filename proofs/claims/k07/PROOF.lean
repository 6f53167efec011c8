import PyProof.Rows.All
import PySem.Challenge.RW_groupclocks_k07_whole_systems_and_their
import Wide.All
import OpenK.AllK
import Wide.FinOn
import HandS.Base
import HandS.Call
import HandS.List
import HandS.Comp
import HandS.Ends
import HandS.Dict
import HandS.Iter
import HandS.Text
import HandS.Words
import HandS.WordsList
import HandS.Wide
import HandS.ForMost
import HandS.Walk
import HandS.TupAny
import HandS.Style
import HandS.FStr
import HandS.IsInst
import HandS.ExcInit
import HandS.ExcOwn
import HandS.TryOnly
import HandS.WordsExc
import HandS.Strs
import HandS.RaiseMore
import HandS.Set
import PyProof.Rows.SortShellAny
import PyProof.NeKinds
import PyProof.ListStr
import HandS.TryMany
import HandS.ExcField
import HandS.Lambda
import HandS.EndTab
import HandS.Defaults
import HandS.Head0
import HandS.Head1
import HandS.Head2
import HandS.HeadEnd
import HandS.HeadHook1
import HandS.HeadHook2
import HandS.HeadHook3
import HandS.HeadHook4
import HandS.HeadWalk
import KE.SortData
import HandS.SetBool
import HandS.OwnEq
import HandS.Property
import HandS.ClsMeth
import KE.KCallOwn
import PyProof.InstNe
import HandS.ReplaceLit
import PyProof.Rows.StrCase
import PyProof.StrLawsReplace
import HandS.HeadNt
import PyProof.DictUpdate
import HandS.DictComp
import KE.KFmtOwn
import HandS.Star
import KE.KDictSum
import HandS.Conv
import HandS.Sort
import KE.GoesEnum
import Lean
set_option Elab.async false
set_option linter.all false
set_option maxRecDepth 100000
set_option maxHeartbeats 4000000
namespace L2
open PySem PySem.Spec PyProof.Rows

/-! ### heaps: what stays -/
theorem gSame_new {H : Hp} {p : Addr} {o : HO} (h : H p = none) : Same H (upd H p o) := fun b x e => by
  rw [upd_ne (ne_of_none e h)]
  exact e
theorem gSame_back {H H' : Hp} {p : Addr} (e : Same H H') (h : H' p = none) : H p = none := e.free h
theorem gSame_mut {H H' : Hp} {p : Addr} {o : HO} (e : Same H H') (h : H p = none) : Same H (upd H' p o) := fun b u q => by
  rw [upd_ne (ne_of_none q h)]
  exact e b u q
theorem gSeqT {K : PySem.W.Frag} {H H' : Hp} {a : Addr} {xs : List V} (e : Same H H') (h : SqT K H a xs) : SqT K H' a xs := by
  rcases h with (h | ⟨o, h⟩) | h
  · exact .inl (.inl (e _ _ h))
  · exact .inl (.inr ⟨o, e _ _ h⟩)
  · exact .inr h

/-! ### the tape of draws: a list of three ints, the one thing that the drawing defs change -/
def Tp (H : Hp) (t : Addr) : Prop := ∃ a b c : Int, H t = some (.lst [.int a, .int b, .int c])
structure Kt (t : Addr) (H H' : Hp) : Prop where
  tp : Tp H' t
  kp : ∀ b o, b ≠ t → H b = some o → H' b = some o
theorem Kt.refl {t : Addr} {H : Hp} (h : Tp H t) : Kt t H H := ⟨h, fun _ _ _ e => e⟩
theorem Kt.trans {t : Addr} {H H1 H2 : Hp} (a : Kt t H H1) (b : Kt t H1 H2) : Kt t H H2 := ⟨b.tp, fun c o n e => b.kp c o n (a.kp c o n e)⟩
theorem Kt.same {t : Addr} {H H' : Hp} (h : Tp H t) (s : Same H H') : Kt t H H' := by
  obtain ⟨a, b, c, e⟩ := h
  exact ⟨⟨a, b, c, s _ _ e⟩, fun d o _ q => s d o q⟩
theorem Kt.wr {t : Addr} {H : Hp} {a b c : Int} (h : Tp H t) : Kt t H (upd H t (.lst [.int a, .int b, .int c])) := ⟨⟨a, b, c, upd_same⟩, fun d o n q => by
  rw [upd_ne n]
  exact q⟩
theorem Kt.ne {t p : Addr} {H : Hp} (h : Tp H t) (n : H p = none) : p ≠ t := fun z => by
  obtain ⟨a, b, c, e⟩ := h
  rw [z, e] at n
  cases n
theorem Kt.new {t p : Addr} {H : Hp} {o : HO} (h : Tp H t) (n : H p = none) : Kt t H (upd H p o) := Kt.same h (gSame_new n)
/-- a thing made since may change -/
theorem Kt.mut {t p : Addr} {H H' : Hp} {o : HO} (e : Kt t H H') (n : H p = none) (np : p ≠ t) : Kt t H (upd H' p o) := by
  obtain ⟨a, b, c, q⟩ := e.tp
  refine ⟨⟨a, b, c, by rw [upd_ne np.symm]; exact q⟩, fun d u nd r => ?_⟩
  rw [upd_ne (ne_of_none r n)]
  exact e.kp d u nd r
theorem Kt.free {t p : Addr} {H H' : Hp} (e : Kt t H H') (n : H' p = none) : H p = none := by
  have np := Kt.ne e.tp n
  cases q : H p with
  | none => rfl
  | some o =>
    rw [e.kp p o np q] at n
    cases n
theorem Tp.ne_tup {H : Hp} {t a : Addr} {xs : List V} (h : Tp H t) (e : H a = some (.tup xs)) : a ≠ t := by
  obtain ⟨x, y, z, q⟩ := h
  exact ne_of e q (by intro w; cases w)
theorem Tp.ne_frz {H : Hp} {t a : Addr} {o : Obj} {u : HO} (h : Tp H t) (e : H a = some (.frz o u)) : a ≠ t := by
  obtain ⟨x, y, z, q⟩ := h
  exact ne_of e q (by intro w; cases w)
theorem Tp.ne_strs {H : Hp} {t a : Addr} {ss : List Str} (h : Tp H t) (e : H a = some (.lst (ss.map V.str))) : a ≠ t := by
  obtain ⟨x, y, z, q⟩ := h
  refine ne_of e q ?_
  intro w
  cases ss with
  | nil => cases w
  | cons s r => cases w
theorem Kt.tup {t a : Addr} {H H' : Hp} {xs : List V} (k : Kt t H H') (h : Tp H t) (e : H a = some (.tup xs)) : H' a = some (.tup xs) := k.kp _ _ (h.ne_tup e) e
theorem Kt.strs {t a : Addr} {H H' : Hp} {ss : List Str} (k : Kt t H H') (h : Tp H t) (e : H a = some (.lst (ss.map V.str))) : H' a = some (.lst (ss.map V.str)) := k.kp _ _ (h.ne_strs e) e
theorem Kt.sqT {K : PySem.W.Frag} {t a : Addr} {H H' : Hp} {xs : List V} (k : Kt t H H') (h : Tp H t) (e : SqT K H a xs) : SqT K H' a xs := by
  rcases e with (e | ⟨o, e⟩) | e
  · exact .inl (.inl (k.tup h e))
  · exact .inl (.inr ⟨o, k.kp _ _ (h.ne_frz e) e⟩)
  · exact .inr e

/-! ### great powers -/
def CPowW (i j : Int) : Prop := 0 ≤ j ∧ (Builtin.Int.intBits i : Int) * j ≤ 2 ^ 27
section
variable {X : Cx}
theorem op_powW : OpR X (binaryOp .Pow) (rI CPowW fun i j => .int (i ^ j.toNat)) := opI fun _ _ _ _ _ _ _ hc q => pow_int hc.1 hc.2 q
end

theorem p570 : (((10 : Int) ^ Int.toNat 57) ^ Int.toNat 10) ≠ 0 := by decide +kernel
theorem c57 : CPowW 10 57 := ⟨by decide, by decide +kernel⟩
theorem c570 : CPowW ((10 : Int) ^ Int.toNat 57) 10 := ⟨by decide, by decide +kernel⟩
theorem c18 : CPowW 10 18 := ⟨by decide, by decide +kernel⟩
theorem cmL {i j : Int} (h : -(2 ^ 64) < i ∧ i < 2 ^ 64 := by constructor <;> decide) : CMul i j := .inl h
theorem cmR {i j : Int} (h : -(2 ^ 64) < j ∧ j < 2 ^ 64 := by constructor <;> decide) : CMul i j := .inr h
theorem fmod_rng {a n : Int} (h : 0 < n) : 0 ≤ a.fmod n ∧ a.fmod n < n := ⟨Int.fmod_nonneg_of_pos a h, Int.fmod_lt_of_pos a h⟩

/-! ### words -/
/-- a word: one to eight letters a to z -/
def isW (z : Str) : Bool := decide (1 ≤ z.length) && decide (z.length ≤ 8) && (TL.tl z).all fun c => decide (97 ≤ c) && decide (c ≤ 122)
theorem isW_len {z : Str} (h : isW z = true) : 1 ≤ z.length ∧ z.length ≤ 8 := by
  unfold isW at h
  simp only [Bool.and_eq_true, decide_eq_true_eq] at h
  exact h.1
theorem isW_let {z : Str} (h : isW z = true) : ∀ c ∈ TL.tl z, 97 ≤ c ∧ c ≤ 122 := by
  unfold isW at h
  simp only [Bool.and_eq_true, decide_eq_true_eq, List.all_eq_true] at h
  exact h.2
theorem isW_mk {z : Str} (h1 : 1 ≤ z.length) (h2 : z.length ≤ 8) (h3 : ∀ c ∈ TL.tl z, 97 ≤ c ∧ c ≤ 122) : isW z = true := by
  unfold isW
  simp only [Bool.and_eq_true, decide_eq_true_eq, List.all_eq_true]
  exact ⟨⟨h1, h2⟩, h3⟩
end L2

set_option Elab.async false
set_option linter.all false
set_option maxRecDepth 100000
set_option maxHeartbeats 4000000
namespace L2
open PySem PySem.Spec PyProof.Rows

/-! ### the built-in names that the text leaves as they are -/
structure Blt (mg : Str → Option Value) : Prop where
  len_ : mg "len" = none
  int_ : mg "int" = none
  abs_ : mg "abs" = none
  max_ : mg "max" = none
  min_ : mg "min" = none
  range : mg "range" = none
  all_ : mg "all" = none
  isinstance_ : mg "isinstance" = none
  str_ : mg "str" = none
  tuple_ : mg "tuple" = none
  list_ : mg "list" = none
  set_ : mg "set" = none
  sorted_ : mg "sorted" = none
  repr_ : mg "repr" = none
  bool_ : mg "bool" = none
  dict_ : mg "dict" = none
/-- a def of the text: where it stands, how it is called -/
structure Df (K : PySem.W.Frag) (mg : Str → Option Value) (x : Str) (st : Stmt) (ps : List Str) (f : Addr) (fd : FuncData) : Prop where
  F : Fun K x x st f fd
  g : mg x = some (.ref f)
  b : Binds K fd ps []
theorem passL0 {X : Cx} : Passes (L2.CX X.prog X.w) X (fun _ _ _ => False) := passL
/-- a branch that comes to one value -/
theorem meetI {c : Prop} [Decidable c] {A B : VK → Prop} {Q : VK} (H : Hp) (v : V) (h1 : c → ∀ Q : VK, Q v H → A Q) (h2 : ¬ c → ∀ Q : VK, Q v H → B Q) (q : Q v H) : if c then A Q else B Q := by
  by_cases h : c
  · rw [if_pos h]
    exact h1 h Q q
  · rw [if_neg h]
    exact h2 h Q q

/-! ### promises of the drawing defs -/
def spTape (K : PySem.W.Frag) : Sp := fun vs H Q _ => ∃ (a : Addr) (ns : List Int) (n : Int), vs = [.ref a, .int n] ∧ SqL K H a (ns.map V.int) ∧ 0 ≤ n ∧ ∀ t x y z, H t = none → Q (.ref t) (upd H t (.lst [.int x, .int y, .int z]))
def spRoll : Sp := fun vs H Q _ => ∃ (t : Addr) (n : Int), vs = [.ref t, .int n] ∧ Tp H t ∧ 0 < n ∧ n < 1073741824 ∧ ∀ r H', 0 ≤ r → r < n → Kt t H H' → Q (.int r) H'
/-- the items of a list, a tuple, a text -/
def Items (K : PySem.W.Frag) (H : Hp) (t : Addr) (x : V) (xs : List V) : Prop :=
  (∃ p, x = .ref p ∧ p ≠ t ∧ (SqL K H p xs ∨ SqT K H p xs)) ∨ ∃ z : Str, x = .str z ∧ xs = (TL.tl z).map fun c => V.str ⟨#[c]⟩
def spPick (K : PySem.W.Frag) : Sp := fun vs H Q _ => ∃ (t : Addr) (x : V) (xs : List V), vs = [.ref t, x] ∧ Tp H t ∧ Items K H t x xs ∧ 0 < xs.length ∧ xs.length < 100000 ∧ ∀ y H', y ∈ xs → Kt t H H' → Q y H'
end L2

set_option Elab.async false
set_option linter.all false
set_option maxRecDepth 100000
set_option maxHeartbeats 4000000
namespace L2
open PySem PySem.Spec PyProof.Rows
/-! ### texts in rows, as data -/
def OkS (ss : List Str) : Prop := ss.all PyData.strOk = true
theorem OkS.mk {ss : List Str} (h : ∀ s ∈ ss, PyData.strOk s = true) : OkS ss := List.all_eq_true.mpr h
theorem OkS.of {ss : List Str} (h : ∀ s ∈ ss, isW s = true) : OkS ss := OkS.mk fun s hs => by
  have hl := isW_let (h s hs)
  unfold PyData.strOk
  rw [Array.all_eq_true_iff_forall_mem]
  intro c hc
  have := hl c (by unfold TL.tl; exact Array.mem_toList_iff.mpr hc)
  exact decide_eq_true (by omega)
theorem gLayS (ss : List Str) (h : OkS ss) : PyData.canLayAll0 (ss.map PyData.str) = true := by
  rw [PyProof.Rows.canLayAll_strs']
  exact h
theorem gDepS : ∀ ss : List Str, PyData.depthAll (ss.map PyData.str) = 0
  | [] => by simp [PyData.depthAll]
  | s :: r => by
    have ih := gDepS r
    simp [PyData.depthAll, PyData.depth, ih]
theorem gShL (ss : List Str) (h : OkS ss) : SeqAt.shaped (.list (ss.map PyData.str)) = true := by
  simp [SeqAt.shaped, PyData.canLay0, PyData.depth, gLayS ss h, gDepS]
theorem gShT (ss : List Str) (h : OkS ss) : SeqAt.shaped (.tuple (ss.map PyData.str)) = true := by
  simp [SeqAt.shaped, PyData.canLay0, PyData.depth, gLayS ss h, gDepS]
theorem gEqvS : ∀ ss ts : List Str, PyData.eqvAll (ss.map PyData.str) (ts.map PyData.str) = decide (ss = ts)
  | [], [] => by simp [PyData.eqvAll]
  | [], t :: r => by simp [PyData.eqvAll]
  | s :: r, [] => by simp [PyData.eqvAll]
  | s :: r, t :: q => by
    have ih := gEqvS r q
    simp only [List.map_cons, PyData.eqvAll, PyData.eqv, ih]
    by_cases h : s = t
    · subst h
      simp
    · have hb : (s == t) = false := by simpa using h
      simp [hb, h]
theorem gEqvL (ss ts : List Str) : PyData.eqv (.list (ss.map PyData.str)) (.list (ts.map PyData.str)) = decide (ss = ts) := by
  rw [PyData.eqv]
  exact gEqvS ss ts
theorem gEqvT (ss ts : List Str) : PyData.eqv (.tuple (ss.map PyData.str)) (.tuple (ts.map PyData.str)) = decide (ss = ts) := by
  rw [PyData.eqv]
  exact gEqvS ss ts
theorem gDpS {K : PySem.W.Frag} {H : Hp} : ∀ ss : List Str, DpAll K H (ss.map V.str) (ss.map PyData.str)
  | [] => .nil
  | s :: r => .cons (.str s) (gDpS r)
theorem gDpL {K : PySem.W.Frag} {H : Hp} {a : Addr} {ss : List Str} (h : SqL K H a (ss.map V.str)) : Dp K H (.ref a) (.list (ss.map PyData.str)) := .lst h (gDpS ss)
theorem gDpT {K : PySem.W.Frag} {H : Hp} {a : Addr} {ss : List Str} (h : SqT K H a (ss.map V.str)) : Dp K H (.ref a) (.tuple (ss.map PyData.str)) := .tup h (gDpS ss)
/-- == and != of rows of texts: what the rule asks -/
theorem neLS {K : PySem.W.Frag} {H : Hp} {a b : Addr} {ss ts : List Str} {Q : VK} (oa : OkS ss) (ob : OkS ts) (ha : SqL K H a (ss.map V.str)) (hb : SqL K H b (ts.map V.str)) (q : Q (.bl (!decide (ss = ts))) H) : rNeD K (.ref a) (.ref b) H Q :=
  ⟨_, _, gDpL ha, gDpL hb, gShL ss oa, gShL ts ob, by rw [gEqvL]; exact q⟩
theorem neTS {K : PySem.W.Frag} {H : Hp} {a b : Addr} {ss ts : List Str} {Q : VK} (oa : OkS ss) (ob : OkS ts) (ha : SqT K H a (ss.map V.str)) (hb : SqT K H b (ts.map V.str)) (q : Q (.bl (!decide (ss = ts))) H) : rNeD K (.ref a) (.ref b) H Q :=
  ⟨_, _, gDpT ha, gDpT hb, gShT ss oa, gShT ts ob, by rw [gEqvT]; exact q⟩
theorem eqLS {K : PySem.W.Frag} {H : Hp} {a b : Addr} {ss ts : List Str} {Q : VK} (oa : OkS ss) (ob : OkS ts) (ha : SqL K H a (ss.map V.str)) (hb : SqL K H b (ts.map V.str)) (q : Q (.bl (decide (ss = ts))) H) : rEqD K (.ref a) (.ref b) H Q :=
  ⟨_, _, gDpL ha, gDpL hb, gShL ss oa, gShL ts ob, by rw [gEqvL]; exact q⟩
theorem eqTS {K : PySem.W.Frag} {H : Hp} {a b : Addr} {ss ts : List Str} {Q : VK} (oa : OkS ss) (ob : OkS ts) (ha : SqT K H a (ss.map V.str)) (hb : SqT K H b (ts.map V.str)) (q : Q (.bl (decide (ss = ts))) H) : rEqD K (.ref a) (.ref b) H Q :=
  ⟨_, _, gDpT ha, gDpT hb, gShT ss oa, gShT ts ob, by rw [gEqvT]; exact q⟩

/-! ### items -/
theorem Kt.sqL {K : PySem.W.Frag} {t a : Addr} {H H' : Hp} {xs : List V} (k : Kt t H H') (n : a ≠ t) (e : SqL K H a xs) : SqL K H' a xs := by
  rcases e with (e | ⟨o, e⟩) | e
  · exact .inl (.inl (k.kp _ _ n e))
  · exact .inl (.inr ⟨o, k.kp _ _ n e⟩)
  · exact .inr e
theorem Items.kt {K : PySem.W.Frag} {t : Addr} {H H' : Hp} {x : V} {xs : List V} (i : Items K H t x xs) (h : Tp H t) (k : Kt t H H') : Items K H' t x xs := by
  rcases i with ⟨p, e, n, hS | hS⟩ | i
  · exact .inl ⟨p, e, n, .inl (k.sqL n hS)⟩
  · exact .inl ⟨p, e, n, .inr (k.sqT h hS)⟩
  · exact .inr i
theorem Items.len {K : PySem.W.Frag} {t : Addr} {H : Hp} {x : V} {xs : List V} (i : Items K H t x xs) (h : xs.length < 100000) : LenV K x H xs.length := by
  rcases i with ⟨p, rfl, n, hS | hS⟩ | ⟨z, rfl, rfl⟩
  · exact .inl ⟨_, hS, rfl⟩
  · exact .inr ⟨_, hS, rfl⟩
  · rw [List.length_map] at h ⊢
    refine ⟨?_, (TL.len_tl z).symm⟩
    rw [TL.len_tl, sizeLine_eq]
    omega
theorem Items.ix {K : PySem.W.Frag} {t : Addr} {H : Hp} {x y : V} {xs : List V} {r : Int} {Q : VK} (i : Items K H t x xs) (h : xs.length < 100000) (ha : atI xs r = some y) (q : Q y H) : rIx K x (.int r) H Q := by
  rcases i with ⟨p, rfl, n, hS | hS⟩ | ⟨z, rfl, rfl⟩
  · exact .inl ⟨p, _, r, y, rfl, rfl, hS, ha, q⟩
  · exact .inr (.inl ⟨p, _, r, y, rfl, rfl, hS, ha, q⟩)
  · unfold atI at ha
    rw [List.length_map] at ha h
    cases hj : ixN (TL.tl z).length r with
    | none =>
      rw [hj] at ha
      cases ha
    | some j =>
      rw [hj] at ha
      have ha' : ((TL.tl z).map fun c => V.str ⟨#[c]⟩)[j]? = some y := ha
      rw [List.getElem?_map] at ha'
      cases hc : (TL.tl z)[j]? with
      | none =>
        rw [hc] at ha'
        cases ha'
      | some c =>
        rw [hc] at ha'
        have e : V.str ⟨#[c]⟩ = y := Option.some.inj ha'
        refine .inr (.inr ⟨z, r, c, rfl, rfl, by rw [TL.len_tl, sizeLine_eq]; omega, ?_, by rw [e]; exact q⟩)
        show (ixN (TL.tl z).length r).bind _ = _
        rw [hj]
        exact hc
theorem at_int {α : Type} {xs : List α} {r : Int} (h0 : 0 ≤ r) (h1 : r < xs.length) : ∃ y, atI xs r = some y ∧ y ∈ xs := by
  have hj : r.toNat < xs.length := by omega
  refine ⟨xs[r.toNat], ?_, List.getElem_mem hj⟩
  obtain ⟨k, rfl⟩ : ∃ k : Nat, r = (k : Int) := ⟨r.toNat, by omega⟩
  exact atI_nat (by rw [List.getElem?_eq_getElem]; rfl)

/-! ### few -/
def spFew (K : PySem.W.Frag) : Sp := fun vs H Q _ => ∃ (t a : Addr) (ss : List Str) (many : Int), vs = [.ref t, .ref a, .int many] ∧ Tp H t ∧ a ≠ t ∧ SqL K H a (ss.map V.str) ∧ OkS ss ∧ ss.length ≤ 1000 ∧ 0 ≤ many ∧
  ∀ (p : Addr) (ys rest : List Str) (H' : Hp), (ys ++ rest).Perm ss → ys.length = min many.toNat ss.length → H p = none → H' p = some (.lst (ys.map V.str)) → Kt t H H' → Q (.ref p) H'
theorem OkS.sub {ss ts : List Str} (h : OkS ss) (hs : ∀ x ∈ ts, x ∈ ss) : OkS ts := OkS.mk fun s hm => List.all_eq_true.mp h s (hs s hm)
theorem perm_pick {ys xs ss : List Str} {k : Nat} {x : Str} (h : (ys ++ xs).Perm ss) (hk : xs[k]? = some x) : ((ys ++ [x]) ++ xs.eraseIdx k).Perm ss := by
  refine List.Perm.trans ?_ h
  rw [List.append_assoc]
  refine List.Perm.append_left ys ?_
  exact erase_perm _ _ _ hk
theorem seqIx {r : Int} {n : Nat} (h0 : 0 ≤ r) (h1 : r < n) : seqIndex? r n = some r.toNat := PySem.StrLaws.seqIndex_nonneg h0 h1
theorem erase_len {α : Type} {l : List α} {k : Nat} (h : k < l.length) : (l.eraseIdx k).length + 1 = l.length := by
  rw [List.length_eraseIdx, if_pos h]
  omega
theorem map_erase {α β : Type} (f : α → β) : ∀ (l : List α) (k : Nat), (l.map f).eraseIdx k = (l.eraseIdx k).map f
  | [], k => by simp
  | a :: r, 0 => by simp
  | a :: r, k + 1 => by simp [map_erase f r k]

/-! ### signs and words -/
def sg (c : Nat) : Str := ⟨#[c]⟩
theorem sg_inj {a b : Nat} (h : sg a = sg b) : a = b := by
  have := congrArg TL.tl h
  have e : ([a] : List Nat) = [b] := this
  cases e
  rfl
theorem sg_W {c : Nat} (h : 97 ≤ c ∧ c ≤ 122) : isW (sg c) = true := isW_mk (by show 1 ≤ 1; decide) (by show 1 ≤ 8; decide) fun d hd => by
  have e : TL.tl (sg c) = [c] := rfl
  rw [e] at hd
  rw [List.mem_singleton.mp hd]
  exact h
abbrev abc : Str := "abcdefghijklmnopqrstuvwxyz"
theorem abc_rng : ∀ c ∈ TL.tl abc, 97 ≤ c ∧ c ≤ 122 := by decide +kernel
theorem abc_nd : (TL.tl abc).Nodup := by decide +kernel
theorem abc_len : (TL.tl abc).length = 26 := by decide +kernel
theorem joinL_nil : ∀ cs : List Nat, TL.joinL [] (cs.map fun c => [c]) = cs
  | [] => rfl
  | [c] => rfl
  | c :: d :: r => by
    have ih := joinL_nil (d :: r)
    show [c] ++ ([] ++ TL.joinL [] ((d :: r).map fun c => [c])) = c :: d :: r
    rw [ih]
    rfl
theorem tl_join0 (cs : List Nat) : TL.tl (Txt.join "" (cs.map sg)) = cs := by
  rw [TL.join_eq, TL.tl_join, List.map_map]
  exact joinL_nil cs
theorem join0_W {cs : List Nat} (h1 : 1 ≤ cs.length) (h2 : cs.length ≤ 8) (h : ∀ c ∈ cs, 97 ≤ c ∧ c ≤ 122) : isW (Txt.join "" (cs.map sg)) = true := by
  refine isW_mk ?_ ?_ ?_
  · rw [TL.len_tl, tl_join0]
    exact h1
  · rw [TL.len_tl, tl_join0]
    exact h2
  · rw [tl_join0]
    exact h
theorem inV_strs (s : Str) : ∀ ws : List Str, inV (.str s) (ws.map V.str) = decide (s ∈ ws)
  | [] => by simp [inV]
  | x :: r => by
    have ih := inV_strs s r
    unfold inV at ih ⊢
    rw [List.map_cons, List.any_cons, ih]
    by_cases h : s = x
    · subst h
      simp [eqV]
    · have hb : eqV (.str x) (.str s) = false := by
        show (x == s) = false
        simpa using fun z : x = s => h z.symm
      rw [hb]
      simp [h]
theorem nodup_sub_len {α : Type} [DecidableEq α] : ∀ (l m : List α), l.Nodup → (∀ x ∈ l, x ∈ m) → l.length ≤ m.length
  | [], _, _, _ => Nat.zero_le _
  | a :: r, m, hd, hs => by
    have ha : a ∈ m := hs a (List.mem_cons_self ..)
    have hn := List.nodup_cons.mp hd
    have ih := nodup_sub_len r (m.erase a) hn.2 fun x hx => by
      refine (List.mem_erase_of_ne ?_).mpr (hs x (List.mem_cons_of_mem _ hx))
      intro z
      exact hn.1 (z ▸ hx)
    rw [List.length_erase_of_mem ha] at ih
    have : 0 < m.length := List.length_pos_iff.mpr (List.ne_nil_of_mem ha)
    show r.length + 1 ≤ m.length
    omega
/-- a sign that is none of fewer than 26 words -/
theorem left_ne {ws : List Str} (h : ws.length < 26) : ((TL.tl abc).map sg).filter (fun s => decide (s ∉ ws)) ≠ [] := by
  intro z
  have h2 := nodup_sub_len ((TL.tl abc).map sg) ws (by
    rw [List.nodup_iff_pairwise_ne, List.pairwise_map]
    exact abc_nd.imp fun {a b} n e => n (sg_inj e)) fun x hx => by
      have := List.filter_eq_nil_iff.mp z x hx
      simpa using this
  rw [List.length_map, abc_len] at h2
  omega
def spWord : Sp := fun vs H Q _ => ∃ t : Addr, vs = [.ref t] ∧ Tp H t ∧ ∀ (x : Str) (H' : Hp), isW x = true → Kt t H H' → Q (.str x) H'
def spWords : Sp := fun vs H Q _ => ∃ (t : Addr) (n : Int), vs = [.ref t, .int n] ∧ Tp H t ∧ 0 ≤ n ∧ n ≤ 25 ∧
  ∀ (p : Addr) (ws : List Str) (H' : Hp), ws.length = n.toNat → (∀ x ∈ ws, isW x = true) → ws.Nodup → H p = none → H' p = some (.lst (ws.map V.str)) → Kt t H H' → Q (.ref p) H'
theorem lots6 {y : V} (h : y ∈ [V.int 1, .int 1, .int 2, .int 3, .int 5, .int 8]) : ∃ n : Nat, y = .int n ∧ 1 ≤ n ∧ n ≤ 8 := by
  simp only [List.mem_cons, List.not_mem_nil, or_false] at h
  rcases h with h | h | h | h | h | h
  · exact ⟨1, h, by decide, by decide⟩
  · exact ⟨1, h, by decide, by decide⟩
  · exact ⟨2, h, by decide, by decide⟩
  · exact ⟨3, h, by decide, by decide⟩
  · exact ⟨5, h, by decide, by decide⟩
  · exact ⟨8, h, by decide, by decide⟩

/-! ### rules with the written part told (within a comprehension) -/
section
variable {X : Cx} (K : PySem.W.Frag)
theorem op_in_seqK (h : X.K = K) : OpR X (compareOp .In) (rIn K false) := by subst h; exact op_in_seq
theorem op_notIn_seqK (h : X.K = K) : OpR X (compareOp .NotIn) (rIn K true) := by subst h; exact op_notIn_seq
theorem ix_listK (h : X.K = K) : IxR X (rIxL K) := by subst h; exact ix_list
theorem ix_tupK (h : X.K = K) : IxR X (rIxT K) := by subst h; exact ix_tup
theorem ix_seqK (h : X.K = K) : IxR X (rIx K) := by subst h; exact ix_seq
theorem sl_listK (h : X.K = K) : SlR X (rSlL K) := by subst h; exact sl_list
theorem sl_tupAK (h : X.K = K) : SlR X (rSlA K) := by subst h; exact sl_tupA
theorem op_catAK (h : X.K = K) : OpR X (binaryOp .Add) (rCatA K) := by subst h; exact op_catA
theorem op_eqDK (h : X.K = K) (hu : X.A.units + 64 < cLine) : OpR X (compareOp .Eq) (rEqD K) := by subst h; exact op_eqD hu
theorem op_neDK (h : X.K = K) (hu : X.A.units + 64 < cLine) : OpR X (compareOp .NotEq) (rNeD K) := by subst h; exact op_neD hu
theorem call_isiK' (h : X.K = K) : CallR X (.builtin "isinstance") (rIsi K) := by subst h; exact call_isi
theorem call_len_seqK (h : X.K = K) : CallR X (.builtin "len") (fun xs H Q => ∃ p ys, xs = [.ref p] ∧ (SqL K H p ys ∨ SqT K H p ys) ∧ Q (.int ys.length) H) := by subst h; exact call_len_seq
theorem call_lenK (h : X.K = K) : CallR X (.builtin "len") (fun xs H Q => ∃ x n, xs = [x] ∧ LenV K x H n ∧ Q (.int n) H) := by subst h; exact call_len
end
end L2

set_option Elab.async false
set_option linter.all false
set_option maxRecDepth 100000
set_option maxHeartbeats 6400000
/-! set(xs) of a list or a tuple of texts, of any length, equal ones among them: how many different ones there are -/
namespace Gs
open PySem PySem.Spec PyProof.Rows
/-- how many different ones stand among the first i -/
def dst (xs : List Str) : Nat → Nat
  | 0 => 0
  | i + 1 => if decide (xs.getD i Str.empty ∈ xs.take i) = true then dst xs i else dst xs i + 1
theorem dst_le (xs : List Str) : ∀ i, dst xs i ≤ i
  | 0 => Nat.le_refl _
  | i + 1 => by
    have := dst_le xs i
    unfold dst
    split <;> omega
theorem getD_at {xs : List Str} {i : Nat} (h : i < xs.length) : xs.getD i Str.empty = xs[i] := by
  rw [List.getD_eq_getElem?_getD, List.getElem?_eq_getElem h]
  rfl
theorem dst_nd {xs : List Str} : ∀ i, i ≤ xs.length → (dst xs i = i ↔ (xs.take i).Nodup)
  | 0, _ => by simp [dst]
  | i + 1, h => by
    have ih := dst_nd (xs := xs) i (by omega)
    have le := dst_le xs i
    have e : xs.take (i + 1) = xs.take i ++ [xs[i]] := by
      rw [List.take_add_one, List.getElem?_eq_getElem (show i < xs.length by omega)]
      rfl
    unfold dst
    rw [getD_at (show i < xs.length by omega), e, List.nodup_append]
    by_cases hm : xs[i] ∈ xs.take i
    · rw [if_pos (decide_eq_true hm)]
      constructor
      · intro z
        omega
      · intro z
        exact absurd rfl (z.2.2 _ hm _ (List.mem_singleton.mpr rfl))
    · rw [if_neg (by rw [decide_eq_false hm]; exact Bool.false_ne_true)]
      constructor
      · intro z
        refine ⟨ih.mp (by omega), by simp, fun a ha b hb => ?_⟩
        rw [List.mem_singleton.mp hb]
        exact fun q => hm (q ▸ ha)
      · intro z
        have := ih.mpr z.1
        omega
theorem dst_all (xs : List Str) : decide (dst xs xs.length = xs.length) = decide xs.Nodup := by
  have h := dst_nd (xs := xs) xs.length (Nat.le_refl _)
  rw [List.take_length] at h
  exact decide_eq_decide.mpr h
/-- the members behind i turns -/
def mem (xs : List Str) (i : Nat) : Str → Bool := fun k => decide (k ∈ xs.take i)
section
variable {prog : Program} {w : World} {A : Around} {R : Result → Shared → Prop} {I : Addr} {fp wr : List Addr} {G : Array GenState → Array GenState → Prop} {n : Nat} {P : Nat → Value → Prop} {St : Nat → Shared → Prop}
theorem setOf_same {S : Addr} {f : Str → Bool} {c : Nat} {h h' : Heap} (k : ∀ o, h.get? S = some o → h'.get? S = some o) (x : h.SetOf (PySem.strKind prog w) S f c) : h'.SetOf (PySem.strKind prog w) S f c := by
  obtain ⟨o, es, ep, tb, ho, r⟩ := x
  exact ⟨o, es, ep, tb, k o ho, r⟩
/-- the loop of set.update over m turns still to come -/
theorem upd_loop (W : WalksS prog w A.in1 I fp wr G n P St) (S : Addr) (nS : S ∉ fp) (xs : List Str) (len : xs.length = n) (few : n + 1 < scanBound) (val : ∀ i v, P i v → ∃ t, v = .str (xs.getD i Str.empty) t)
    (m : Nat) : ∀ (i : Nat) (s : Shared), i + m = n → St i s → s.heap.SetOf (PySem.strKind prog w) S (mem xs i) (dst xs i) →
      (∀ s', Moved (S :: wr) G s s' → s'.heap.SetOf (PySem.strKind prog w) S (mem xs n) (dst xs n) → R (.ok (.ret .none)) s') → codeAny (model prog w) A (.builtin "set.update.loop" ⟨[.ref S, .ref I], []⟩) R s := by
  have nW : S ∉ wr := fun z => nS (W.sub S z)
  have more : ∀ b, b ∈ wr → b ∈ S :: wr := fun b z => .tail _ z
  induction m with
  | zero =>
    intro i s e st hS fin
    obtain rfl : i = n := e
    refine codeAny_builtin F.entry_set_update_loop (by
      rw [Around.under_plainId F.plain_set_update_loop]
      exact wpAny_bind (W.done s _ _ st fun s2 mv => wpAny_pure (fin s2 (mv.mono more) (setOf_same (fun o q => mv.heap S o nW q) hS))))
  | succ m ih =>
    intro i s e st hS fin
    have lt : i < n := by omega
    refine codeAny_builtin F.entry_set_update_loop (by
      rw [Around.under_plainId F.plain_set_update_loop]
      refine wpAny_bind (W.item i s _ _ lt st fun v s2 pv st2 mv => ?_)
      obtain ⟨t, rfl⟩ := val i v pv
      have hS2 := setOf_same (fun o q => mv.heap S o nW q) hS
      have le := dst_le xs i
      refine wpAny_bind (wpAny_holding (wpAny_holding (wpAny_bind ((PySem.strKind prog w).pyHash (k := xs.getD i Str.empty) (strKind_is _ _ _ _) ?_))))
      refine wpAny_setAddHashed_of (knd := PySem.strKind prog w) (s := { s2 with toks := s2.toks + 1 }) (strKind_is _ _ _ _) rfl hS2 (by omega) fun h3 sb hS3 => ?_
      have nx : h3.SetOf (PySem.strKind prog w) S (mem xs (i + 1)) (dst xs (i + 1)) := by
        have lx : i < xs.length := by omega
        refine SetOf_congr hS3 (fun k => ?_) rfl
        have tk : xs.take (i + 1) = xs.take i ++ [xs[i]] := by
          rw [List.take_add_one, List.getElem?_eq_getElem lx]
          rfl
        unfold mem
        rw [getD_at lx, tk]
        rw [Bool.eq_iff_iff]
        simp only [Bool.or_eq_true, decide_eq_true_eq, List.mem_append, List.mem_singleton]
      refine wpAny_pure ⟨plainId_quiet F.plain_set_update_loop _, ih (i + 1) _ (by omega) (W.frame _ s2 _ _ st2 (Nat.le_succ _) fun b hb o q => ?_) nx fun s4 mv4 hS4 => fin s4 (Moved.trans W.gtrans ((mv.mono more).then_heap (Nat.le_succ _) fun b o nb q => ?_) mv4) hS4⟩
      · exact (sb.2 b (fun z => nS (z ▸ hb))).trans q
      · exact (sb.2 b (fun z => nb (z ▸ List.mem_cons_self))).trans q)
end
/-! ### the call -/
theorem off2 {a j l : Nat} (h1 : a < j) (h2 : l < a) : a ∉ [j, l] := by
  simp
  omega
theorem off2' {b a j : Nat} (h1 : b < a) (h2 : a < j) : b ∉ [a, j] := by
  simp
  omega
/-- what is asked of the row at l: of kind T, walked by an iterator that is laid next -/
structure Row (prog : Program) (w : World) (T : String) (l : Addr) (n : Nat) (Pv : Nat → Value → Prop) (hp : Heap) (St : Addr → Nat → Heap → Prop) : Prop where
  at_ : ∃ dd dt sl, hp.get? l = some { cls := .type T, dict := dd, data := dt, slots := sl }
  s1 : isSubtype (.type T) (.type "set") = pure false
  s2 : isSubtype (.type T) (.type "frozenset") = pure false
  nd : (Value.type T == Value.type "dict") = false
  iter : ∀ (A : Around) (E : Value → Shared → Prop) (Q : Value → Shared → Prop) (s : Shared), (∀ o, hp.get? l = some o → s.heap.get? l = some o) →
    (∀ o : Obj, St s.heap.objs.size 0 (s.heap.push o) → Q (.ref s.heap.objs.size) { s with heap := s.heap.push o }) → wpAny (model prog w) A (pyIter (.ref l)) Q E s
  walk : ∀ (A : Around) (J : Addr), A.handled = none → l ≠ J → Walks prog w A J [J, l] [J] n Pv (St J)
section
variable {prog : Program} {w : World} {A : Around} {E : Value → Shared → Prop} {s : Shared}
abbrev bare (led : Bool) : Obj := { cls := .type "set", dict := none, data := .set #[] 0 (.fresh 0 0 led) }
theorem set_init {T : String} {l : Addr} {n : Nat} {Pv : Nat → Value → Prop} {St : Addr → Nat → Heap → Prop} {xs : List Str} {led : Bool} {hp : Heap} {g : Array GenState} {d : Drawn} {tk : Nat} {os : OsState} (hh : A.handled = none) (r : Row prog w T l n Pv hp St)
    (len : xs.length = n) (few : n + 1 < scanBound) (val : ∀ i v, Pv i v → ∃ t, v = .str (xs.getD i Str.empty) t) :
    codeAny (model prog w) A (.call (.builtin "set.__init__") ⟨[.ref hp.objs.size, .ref l], []⟩)
      (wants (fun v s2 => v = .none ∧ ∃ h2 t2, s2 = ⟨h2, g, d, t2, os⟩ ∧ h2.SetOf (PySem.strKind prog w) hp.objs.size (mem xs n) (dst xs n) ∧ ∀ b o, hp.get? b = some o → h2.get? b = some o) E) ⟨hp.push (bare led), g, d, tk, os⟩ := by
  have oS : (hp.push (bare led)).get? hp.objs.size = some (bare led) := Heap.get?_push_size _ rfl
  have tS : Shared.TypeIs ⟨hp.push (bare led), g, d, tk, os⟩ (.ref hp.objs.size) "set" := ⟨_, oS, rfl⟩
  refine codeAny_call_builtin PySem.F.called_set.init.plain PySem.F.entry_set_init (check_set_init_1 tS ?_)
  obtain ⟨dd, dt, sl, ol⟩ := r.at_
  have ol2 : (hp.push (bare led)).get? l = some { cls := .type T, dict := dd, data := dt, slots := sl } := Heap.get?_push_of_some _ ol
  have q1 := r.s1
  have q2 := r.s2
  have q3 := r.nd
  unfold Builtin.«set.__init__» noKeywords Builtin.Frozenset.updateFrom
  generalize hI : pyIter = PI
  wp_walk
  subst hI
  have lt : l < hp.objs.size := Heap.lt_size ol
  refine r.iter _ _ _ _ (fun o q => Heap.get?_push_of_some _ q) fun o st => ?_
  have z1 : (hp.push (bare led)).objs.size = hp.objs.size + 1 := Heap.size_push ..
  have z2 : ∀ b u, hp.get? b = some u → ((hp.push (bare led)).push o).get? b = some u := fun b u q => Heap.get?_push_of_some _ (Heap.get?_push_of_some _ q)
  refine wpAny_bind (wpAny_runValue ?_)
  have W := (r.walk A.in1.in1 (hp.push (bare led)).objs.size (by simp [hh]) (by rw [z1]; exact Nat.ne_of_lt (Nat.lt_succ_of_lt lt))).toS
  refine upd_loop W hp.objs.size (off2 (by rw [z1]; exact Nat.lt_succ_self _) lt) xs len few val n 0 ⟨(hp.push (bare led)).push o, g, d, tk, os⟩ (by omega) st ?_ fun s3 mv hS => ?_
  · exact SetOf_congr ((setObjOf_fresh (knd := PySem.strKind prog w) led).setOf (Heap.get?_push_of_some _ oS) (by unfold scanBound; omega)) (fun k => by simp [mem]) rfl
  · obtain ⟨h3, g3, d3, t3, os3⟩ := s3
    obtain rfl : g3 = g := mv.gens
    obtain rfl : d3 = d := mv.drawn
    obtain rfl : os3 = os := mv.os
    refine wpAny_pure (wpAny_pure ⟨rfl, h3, t3, rfl, hS, fun b u q => mv.heap b u ?_ (z2 b u q)⟩)
    have lb : b < hp.objs.size := Heap.lt_size q
    exact off2' lb (by rw [z1]; exact Nat.lt_succ_self _)
/-- set(x) of such a row -/
theorem set_call {T : String} {l : Addr} {n : Nat} {Pv : Nat → Value → Prop} {St : Addr → Nat → Heap → Prop} {xs : List Str} {Q : Value → Shared → Prop} (hh : A.handled = none) (r : Row prog w T l n Pv s.heap St)
    (len : xs.length = n) (few : n + 1 < scanBound) (val : ∀ i v, Pv i v → ∃ t, v = .str (xs.getD i Str.empty) t)
    (q : ∀ h2 t2, h2.SetOf (PySem.strKind prog w) s.heap.objs.size (mem xs n) (dst xs n) → (∀ b o, s.heap.get? b = some o → h2.get? b = some o) → Q (.ref s.heap.objs.size) { s with heap := h2, toks := t2 }) :
    wpAny (model prog w) A (call (.type "set") [.ref l]) Q E s := by
  obtain ⟨hp, g, d, tk, os⟩ := s
  obtain ⟨c, tl, m1⟩ := PySem.F.called_set.mro
  have m2 := PySem.F.called_set.made
  have m3 := PySem.F.called_set.sub
  have m4 := PySem.F.called_set.notType
  have m5 := PySem.F.called_set.canCreate
  have m6 := PySem.F.typeCall_set_1 (.ref l)
  refine wpAny_call (codeAny_of_tree (wpAny_pure ⟨Code.quiet_builtin _ (by decide +kernel), codeAny_builtin PySem.F.entry_type_call ?_⟩))
  rw [Around.under_plain (weight_type_call_type "set" [.ref l] []) rfl]
  repeat (any_goals (first | assumption | wp_step))
  refine codeAny_mono (code_set_new_1 (.ref l) (E := E) (Q₁ := fun v s2 => ∃ led : Bool, v = .ref hp.objs.size ∧ s2 = ⟨hp.push (bare led), g, d, tk, os⟩) fun led => ⟨led, rfl, rfl⟩) fun a s2 h2 => ?_
  match a, h2 with
  | .error e, h2 => exact h2
  | .ok .next, h2 => exact h2.elim
  | .ok .brk, h2 => exact h2.elim
  | .ok .cont, h2 => exact h2.elim
  | .ok (.ret v), h2 =>
    obtain ⟨led, rfl, rfl⟩ := h2
    have m7 := PySem.F.called_set.init.lookup
    have m8 := PySem.F.called_set.init.bind (.ref hp.objs.size)
    have oS : (hp.push (bare led)).get? hp.objs.size = some (bare led) := Heap.get?_push_size _ rfl
    have tS : Shared.TypeIs ⟨hp.push (bare led), g, d, tk, os⟩ (.ref hp.objs.size) "set" := ⟨_, oS, rfl⟩
    repeat (any_goals (first | assumption | wp_step))
    refine codeAny_mono (set_init (E := E) ?_ r len few val) fun b s3 h3 => ?_
    · simp [hh]
    · match b, h3 with
      | .error e, h3 => exact h3
      | .ok .next, h3 => exact h3.elim
      | .ok .brk, h3 => exact h3.elim
      | .ok .cont, h3 => exact h3.elim
      | .ok (.ret v), h3 =>
        obtain ⟨rfl, h4, t4, rfl, hS, keep⟩ := h3
        repeat (any_goals (first | assumption | wp_step))
        exact q h4 t4 hS keep
theorem row_list {prog : Program} {w : World} {hp : Heap} {l : Addr} {items : Array Value} (h : hp.IsList l items) : Row prog w "list" l items.size (fun i v => items[i]? = some v) hp (fun J i h => h.IsListIter J l i ∧ h.IsList l items) := by
  obtain ⟨o, ho, hc, k, hd⟩ := id h
  refine ⟨?_, PySem.F.sub_list_set, PySem.F.sub_list_frozenset, by decide, fun A E Q s keep q => ?_, fun A J hh ne => Walks.list hh J l ne items⟩
  · obtain ⟨c, dd, dt, sl⟩ := o
    obtain rfl : c = Value.type "list" := hc
    exact ⟨dd, dt, sl, ho⟩
  · have h2 : s.heap.IsList l items := ⟨o, keep o ho, hc, k, hd⟩
    exact wpAny_pyIter_list h2 (q _ ⟨⟨_, Heap.get?_push_size _ rfl, rfl, rfl⟩, h2.push _⟩)
theorem row_tuple {prog : Program} {w : World} {hp : Heap} {l : Addr} {items : Array Value} (h : hp.IsTuple l items) : Row prog w "tuple" l items.size (fun i v => items[i]? = some v) hp (fun J i h => h.IsTupleIter J l i ∧ h.IsTuple l items) := by
  obtain ⟨o, ho, hc, k, hd⟩ := id h
  refine ⟨?_, PySem.F.sub_tuple_set, PySem.F.sub_tuple_frozenset, by decide, fun A E Q s keep q => ?_, fun A J hh ne => Walks.tuple hh J l ne items⟩
  · obtain ⟨c, dd, dt, sl⟩ := o
    obtain rfl : c = Value.type "tuple" := hc
    exact ⟨dd, dt, sl, ho⟩
  · have h2 : s.heap.IsTuple l items := ⟨o, keep o ho, hc, k, hd⟩
    exact wpAny_pyIter_tuple h2 (q _ ⟨⟨_, Heap.get?_push_size _ rfl, rfl, rfl⟩, h2.push _⟩)
end
end Gs
namespace L2
open PySem PySem.Spec PyProof.Rows
/-- len(set(xs)), xs a list or a tuple of texts -/
def tLenSetA (K : PySem.W.Frag) (ta : TE) : TE := fun σ H Q => ta σ H fun x H1 => ∃ (l : Addr) (xs : List Str), x = .ref l ∧ (SqL K H1 l (xs.map V.str) ∨ SqT K H1 l (xs.map V.str)) ∧ xs.length ≤ 1000 ∧ Q (.int (Gs.dst xs xs.length)) H1
theorem pe_lenSetA {X : Cx} {a : Expr} {ta : TE} {p p2 q pos : Pos} (hc : X.calm = true) (hg : Gl X "len") (hm : X.mg "len" = none) (hg2 : Gl X "set") (hm2 : X.mg "set" = none) (ha : PE X a ta)
    (na : starEach [a] X.env = (false, eval a X.env) :: starEach [] X.env := by rfl) : PE X (.Call (.Name "len" p) [.Call (.Name "set" p2) [a] [] q] [] pos) (tLenSetA X.K ta) := by
  refine ⟨fun pins s σ H Q I h => ?_⟩
  refine Call_ (ld_blt I hg hm boot_len (PyProof.Rows.callWith_builtin1 (PyProof.Rows.args_cons ?_ rfl) rfl rfl))
  refine Call_ (ld_blt I hg2 hm2 boot_set (PyProof.Rows.callWith_type1 (PyProof.Rows.args_cons (thn (ha.run pins s σ H _ I h) fun v s1 hv => PyProof.Rows.args_nil ?_) na) na rfl))
  obtain ⟨x, H1, I1, r1, l, xs, rfl, hq, h1, q1⟩ := hv
  cases r1
  have sb : (1001 : Nat) < scanBound := by unfold scanBound; decide
  have back : ∀ (h2 : Heap) (t2 : Nat), h2.SetOf (PySem.strKind X.prog X.w) s1.heap.objs.size (Gs.mem xs xs.length) (Gs.dst xs xs.length) → (∀ b o, s1.heap.get? b = some o → h2.get? b = some o) →
      wpAny (model X.prog X.w) X.A (spliced (backTo pos (starEach [] X.env))) (fun vs s2 => wpAny (model X.prog X.w) X.A (call (.builtin "len") (Value.ref s1.heap.objs.size :: vs)) (EP X pins σ Q) X.xe s2) X.xe { s1 with heap := h2, toks := t2 } := fun h2 t2 hS keep => by
    refine PyProof.Rows.args_nil ?_
    have le := Gs.dst_le xs xs.length
    obtain ⟨o, es, ep, t, ho, hex, hd, _, _, _, hf, hn⟩ := hS
    have I2 : Inv X pins σ H1 { s1 with heap := h2, toks := t2 } := I1.kept keep
    refine call_len_set ho hex hd hf (by rw [hn]; omega) ⟨.int (Gs.dst xs xs.length), H1, I2.tok _, ⟨_, by rw [hn]⟩, q1⟩
  have at_ : ∀ {its : List Value}, Vals (xs.map V.str) its → ∀ (i : Nat) (v : Value), its.toArray[i]? = some v → ∃ t, v = .str (xs.getD i Str.empty) t := fun {its} r i v hv => by
    have hv2 : its[i]? = some v := by simpa using hv
    have lx : i < xs.length := by
      obtain ⟨h3, _⟩ := List.getElem?_eq_some_iff.mp hv2
      have := r.length
      rw [List.length_map] at this
      omega
    obtain ⟨u, hu, ru⟩ := r.get (i := i) (x := .str xs[i]) (by rw [List.getElem?_map, List.getElem?_eq_getElem lx]; rfl)
    rw [hv2] at hu
    obtain rfl := Option.some.inj hu
    rw [Gs.getD_at lx]
    exact ru
  rcases hq with hq | hq
  · obtain ⟨its, r, pl, hz⟩ := I1.list hq
    have hl : xs.length = its.toArray.size := by rw [List.size_toArray, ← r.length, List.length_map]
    refine Gs.set_call (I1.ok.hd hc) (Gs.row_list pl.isList) hl (by omega) (at_ r) fun h2 t2 hS keep => back h2 t2 (by rw [hl]; exact hS) keep
  · obtain ⟨its, r, pl, hz⟩ := I1.tuple hq
    have hl : xs.length = its.toArray.size := by rw [List.size_toArray, ← r.length, List.length_map]
    refine Gs.set_call (I1.ok.hd hc) (Gs.row_tuple pl) hl (by omega) (at_ r) fun h2 t2 hS keep => back h2 t2 (by rw [hl]; exact hS) keep
end L2

set_option Elab.async false
set_option linter.all false
set_option maxRecDepth 100000
set_option maxHeartbeats 4000000
namespace L2
open PySem PySem.Spec PyProof.Rows
section
variable {X : Cx}
/-- {x!r} of None, a text, an int -/
def tFmtA (te : TE) : TE := fun σ H Q => te σ H fun x H1 => (x = .non ∧ Q (.str "None") H1) ∨ (∃ y : Str, x = .str y ∧ (reprText y).length ≤ sizeLine ∧ Q (.str (reprText y)) H1) ∨ ∃ i : Int, x = .int i ∧ i.natAbs.log2 < 1920 ∧ Q (.str (toString i)) H1
theorem pe_fmtA {e : Expr} {te : TE} {pos : Pos} (he : PE X e te) : PE X (.FormattedValue e 114 none pos) (tFmtA te) := by
  refine ⟨fun pins s σ H Q I h => wpAny_FormattedValue_repr (thn (he.run pins s σ H _ I h) fun v s1 hv => ?_)⟩
  obtain ⟨x, H1, I1, r1, q⟩ := hv
  have sn : (Str.ofString "None").length ≤ sizeLine := by decide +kernel
  rcases q with ⟨rfl, q⟩ | ⟨y, rfl, hz, q⟩ | ⟨i, rfl, hz, q⟩
  · cases r1
    exact pyReprObj_none (wpAny_formatField_str ⟨.str "None", H1, I1.tok _, ⟨_, rfl⟩, q⟩ ⟨.str "None", H1, I1.tok _, ⟨_, rfl⟩, q⟩ sn)
  · obtain ⟨t, rfl⟩ := r1
    exact pyReprObj_str (wpAny_formatField_str ⟨.str (reprText y), H1, I1.tok _, ⟨_, rfl⟩, q⟩ ⟨.str (reprText y), H1, I1.tok _, ⟨_, rfl⟩, q⟩ hz) hz
  · obtain ⟨t, rfl⟩ := r1
    exact pyReprObj_int hz (wpAny_formatField_str ⟨.str (toString i), H1, I1.tok _, ⟨_, rfl⟩, q⟩ ⟨.str (toString i), H1, I1.tok _, ⟨_, rfl⟩, q⟩ (int_text_fits hz))
end
/-- an exception class of the text whose __init__ is ValueError's, read off by its name -/
structure CIn (K : PySem.W.Frag) (mg : Str → Option Value) (n : Str) (CB : Addr) : Prop where
  g : mg n = some (.ref CB)
  ga : PySem.W.specialIn K (.ref CB) "__getattribute__" = some (some (.builtin "type.__getattribute__"))
  rd : PySem.W.readsIn K CB (.type "type") = true
  fi : PySem.W.findCls K (.ref CB) (.type "type") "__init__" = some (.val (.builtin "ValueError.__init__"))
section
variable {X : Cx} {e : Expr} {es : List Expr} {ta : TA} {p1 p2 pos : Pos} {n : Str} {CB : Addr}
theorem pe_cinit {pl : Sem Bool} (T : CIn X.K X.mg n CB) (hg : Gl X n) (ha : PA X (e :: es) ta)
    (hc : eval (.Call (.Attribute (.Name n p1) "__init__" p2) (e :: es) [] pos) X.env = (do
      let ov ← eval (.Name n p1) X.env
      standAt p2.atName
      let (f, first) ← holding [ov] (getMethod ov "__init__" pl)
      callWith pos f first (backTo pos (starEach (e :: es) X.env)) (backToKw pos (keywordEach [] X.env))) := by rfl)
    (hdb : (n == ("__debug__" : Str)) = false := by decide) (he : starEach (e :: es) X.env = (false, eval e X.env) :: starEach es X.env := by rfl) (hpl : (backTo pos (starEach es X.env)).any (·.1) = false := by rfl) :
    PE X (.Call (.Attribute (.Name n p1) "__init__" p2) (e :: es) [] pos) (tVeI X.K ta) := by
  refine ⟨fun pins s σ H Q I h => ?_⟩
  refine PySem.W.methodCall_KW (ld_glob I hg T.g ?_ hdb) hc
  refine PySem.W.method_cls I.kIn T.ga (PySem.W.cls_value I.kIn T.rd T.fi (by decide +kernel) ?_)
  show wpAny _ _ (callWith pos (Value.builtin "ValueError.__init__") [] (backTo pos (starEach (e :: es) X.env)) []) _ _ _
  refine PyProof.Rows.callWith_method1 (thn (ha.run pos pins _ σ H _ (I.tok _) h) fun us s1 hu => ?_) he hpl
  obtain ⟨vs, H1, I1, r1, a, C, ws, rfl, hl, oc, ea, q⟩ := hu
  match us, r1 with
  | _ :: ur, .cons ra rw' =>
    obtain rfl := ra
    exact oinit_ok oc I1 ea (by rw [← Paired.length rw', sizeLine_eq]; omega) fun s2 J => ⟨.non, H1, J, rfl, q⟩
end
/-- an exception class over ClockError with an own __init__ that keeps one field -/
structure IniT (K : PySem.W.Frag) (mg : Str → Option Value) (n fld : Str) (st : Stmt) (C fI : Addr) (fd : FuncData) : Prop where
  g : mg n = some (.ref C)
  o : OexC K C
  i : PySem.W.findIn K (.ref C) "__init__" = some (some (.ref fI))
  ti : PySem.W.typeIn K (.ref fI) = some (.type "function")
  te : PySem.W.exmOne K (.ref C) (.ref C) = some true
  no : PySem.W.findIn K (.ref C) fld = some none
  F : Fun K "__init__" (n ++ ".__init__") st fI fd
  bi : Binds K fd ["self", fld] []
/-- an exception class over ClockError without more -/
structure OwnT (K : PySem.W.Frag) (mg : Str → Option Value) (n : Str) (C : Addr) : Prop where
  g : mg n = some (.ref C)
  x : PySem.W.excIn K C [.type "ValueError", .type "Exception", .type "BaseException", .type "object"] "ValueError.__new__" = true
  k : PySem.W.keepIn K (.ref C) = true
  b : PySem.W.subIn K (.ref C) (.type "BaseException") = some true
  t : PySem.W.typeIn K (.ref C) = some (.type "type")
  te : PySem.W.exmOne K (.ref C) (.ref C) = some true
def spIni (C : Addr) (fld : Str) : Sp := fun vs H Q _ => ∃ (a : Addr) (v : V), vs = [.ref a, v] ∧ H a = some (exo a C none) ∧ (v = .non ∨ ∃ i : Int, v = .int i ∧ 0 ≤ i ∧ i < 10 ^ 9) ∧
  ∀ dx, H dx = none → dx ≠ a → Q .non (upd (upd H dx (exd dx [(fld, v)])) a (exo a C (some dx)))
/-- what the making of such an exception asks, from what is wished of it -/
theorem ini_mk {C : Addr} {fld : Str} {v : V} {σ : St} {H : Hp} {Q : XK} {ta : TE} (hv : v = .non ∨ ∃ i : Int, v = .int i ∧ 0 ≤ i ∧ i < 10 ^ 9) (ht : ∀ q : VK, q v H → ta σ H q)
    (q : ∀ d H', H d = none → Same H H' → H' d = some (.xd [(fld, v)]) → Q (.ref C) (some d) H') : tMkO C (spIni C fld) [] (tCons ta tNil) σ H Q := by
  refine ht _ ⟨by show 1 ≤ 1000; decide, fun a ha => ⟨a, v, rfl, upd_same, hv, fun dx hd ne => ⟨rfl, dx, [(fld, v)], upd_same, ?_, ?_, ?_⟩⟩⟩
  · rw [upd_ne ne, upd_same]
  · rw [upd_ne ne] at hd
    exact hd
  · have hd' : H dx = none := by
      rw [upd_ne ne] at hd
      exact hd
    refine q dx _ hd' (fun b o e => ?_) upd_same
    have nb : b ≠ dx := ne_of_none e hd'
    have na : b ≠ a := ne_of_none e ha
    rw [upd_ne nb, del_ne na, upd_ne na, upd_ne nb, upd_ne na]
    exact e

/-! ### what is a name, what are names -/
theorem TyOf.same {K : PySem.W.Frag} {H H' : Hp} {x : V} {t : Value} (s : Same H H') (h : TyOf K H x t) : TyOf K H' x t := by
  cases h with
  | non => exact .non
  | bl b => exact .bl b
  | int i => exact .int i
  | str z => exact .str z
  | flt z => exact .flt z
  | lst e => exact .lst (s _ _ e)
  | frz e => exact .frz (s _ _ e)
  | tup e => exact .tup (s _ _ e)
  | dK e => exact .dK (s _ _ e)
  | dT e => exact .dT (s _ _ e)
  | ins e cl ha hn htk hm => exact .ins (s _ _ e) cl ha hn htk hm
theorem TyX.same {K : PySem.W.Frag} {H H' : Hp} {x : V} {t : Value} (s : Same H H') (h : TyX K H x t) : TyX K H' x t := by
  cases h with
  | base b => exact .base (b.same s)
  | byt b => exact .byt b
  | set e => exact .set (s _ _ e)
  | kList e c => exact .kList e c
  | kTuple e c => exact .kTuple e c
  | kDict e c => exact .kDict e c
  | fTuple e => exact .fTuple (s _ _ e)
  | fDict e => exact .fDict (s _ _ e)
/-- x is a name or is none, as b says -/
def NmV (K : PySem.W.Frag) (H : Hp) (x : V) (b : Bool) : Prop :=
  (∃ z : Str, x = .str z ∧ z.length ≤ 100000 ∧ b = isW z) ∨ (b = false ∧ ∃ t, TyX K H x t ∧ PySem.W.kitOne K t (.type "str") = some false)
theorem NmV.same {K : PySem.W.Frag} {H H' : Hp} {x : V} {b : Bool} (s : Same H H') (h : NmV K H x b) : NmV K H' x b := by
  rcases h with h | ⟨e, t, ht, hk⟩
  · exact .inl h
  · exact .inr ⟨e, t, ht.same s, hk⟩
theorem NmV.yes {K : PySem.W.Frag} {H : Hp} {x : V} (h : NmV K H x true) : ∃ z : Str, x = .str z ∧ isW z = true := by
  rcases h with ⟨z, e, _, hw⟩ | ⟨e, _⟩
  · exact ⟨z, e, hw.symm⟩
  · cases e
theorem NmV.of {K : PySem.W.Frag} {H : Hp} {z : Str} (h : z.length ≤ 100000) : NmV K H (.str z) (isW z) := .inl ⟨z, rfl, h, rfl⟩
def spIsName (K : PySem.W.Frag) : Sp := fun vs H Q _ => ∃ (x : V) (b : Bool), vs = [x] ∧ NmV K H x b ∧ ∀ H', Same H H' → Q (.bl b) H'
/-- x is a row of names or is none, as b says -/
def NmsV (K : PySem.W.Frag) (H : Hp) (x : V) (b : Bool) : Prop :=
  (∃ (a : Addr) (xs : List V) (bs : List Bool), x = .ref a ∧ SqT K H a xs ∧ TyX K H x (.type "tuple") ∧ Paired (NmV K H) xs bs ∧ b = (decide (xs.length ≤ 16) && (bs.all id && decide xs.Nodup))) ∨
    (b = false ∧ ∃ t, TyX K H x t ∧ PySem.W.kitOne K t (.type "tuple") = some false)
def spIsNames (K : PySem.W.Frag) : Sp := fun vs H Q _ => ∃ (x : V) (b : Bool), vs = [x] ∧ NmsV K H x b ∧ ∀ H', Same H H' → Q (.bl b) H'
theorem nms_strs {K : PySem.W.Frag} {H : Hp} : ∀ {xs : List V} {bs : List Bool}, Paired (NmV K H) xs bs → bs.all id = true → ∃ ss : List Str, xs = ss.map V.str ∧ ∀ s ∈ ss, isW s = true
  | _, _, .nil, _ => ⟨[], rfl, by simp⟩
  | _, _, .cons (b := b) h t, e => by
    rw [List.all_cons, Bool.and_eq_true] at e
    obtain ⟨e1, e2⟩ := e
    have e1 : b = true := e1
    subst e1
    obtain ⟨z, rfl, hz⟩ := h.yes
    obtain ⟨ss, rfl, hs⟩ := nms_strs t e2
    refine ⟨z :: ss, rfl, fun s hm => ?_⟩
    rcases List.mem_cons.mp hm with rfl | hm
    · exact hz
    · exact hs s hm
theorem nd_strs (ss : List Str) : (ss.map V.str).Nodup ↔ ss.Nodup := by
  rw [List.nodup_iff_pairwise_ne, List.nodup_iff_pairwise_ne, List.pairwise_map]
  constructor
  · intro h
    exact h.imp fun {a b} n e => n (congrArg V.str e)
  · intro h
    exact h.imp fun {a b} n e => n (V.str.inj e)
/-- rows of texts -/
def okNames (ss : List Str) : Bool := decide (ss.length ≤ 16) && ((ss.map isW).all id && decide ss.Nodup)
theorem pair_strs {K : PySem.W.Frag} {H : Hp} : ∀ {ss : List Str}, (∀ s ∈ ss, s.length ≤ 100000) → Paired (NmV K H) (ss.map V.str) (ss.map isW)
  | [], _ => .nil
  | s :: r, h => .cons (.of (h s (List.mem_cons_self ..))) (pair_strs fun x hx => h x (List.mem_cons_of_mem _ hx))
theorem NmsV.strs {K : PySem.W.Frag} {H : Hp} {a : Addr} {ss : List Str} (h : H a = some (.tup (ss.map V.str))) (hl : ∀ s ∈ ss, s.length ≤ 100000) : NmsV K H (.ref a) (okNames ss) := by
  refine .inl ⟨a, _, ss.map isW, rfl, .inl (.inl h), .base (.tup h), pair_strs hl, ?_⟩
  unfold okNames
  rw [List.length_map, decide_eq_decide.mpr (nd_strs ss)]
theorem okNames_mk {ss : List Str} (h1 : ss.length ≤ 16) (h2 : ∀ s ∈ ss, isW s = true) (h3 : ss.Nodup) : okNames ss = true := by
  unfold okNames
  simp only [Bool.and_eq_true, decide_eq_true_eq, List.all_map, List.all_eq_true]
  exact ⟨h1, h2, h3⟩
theorem okNames_of {ss : List Str} (h : okNames ss = true) : ss.length ≤ 16 ∧ (∀ s ∈ ss, isW s = true) ∧ ss.Nodup := by
  unfold okNames at h
  simp only [Bool.and_eq_true, decide_eq_true_eq, List.all_map, List.all_eq_true] at h
  exact h
theorem lt_abc {a c : Nat} : decide (([a] : List Nat) < [c]) = decide (a < c) := by
  by_cases h : a < c
  · rw [decide_eq_true h]
    exact decide_eq_true (List.Lex.rel h)
  · rw [decide_eq_false h]
    refine decide_eq_false fun z => ?_
    cases z with
    | rel q => exact h q
    | cons q => cases q
theorem sum_names : ∀ (ss : List Str), ss.length ≤ 16 → (∀ s ∈ ss, isW s = true) → (ss.map (·.length)).sum + ss.length * (Str.ofString " ").length ≤ 16777216 := by
  have key : ∀ ss : List Str, (∀ s ∈ ss, isW s = true) → (ss.map (·.length)).sum ≤ ss.length * 8 := by
    intro ss
    induction ss with
    | nil => intro _; exact Nat.le_refl _
    | cons s r ih =>
      intro h
      have h1 := (isW_len (h s (List.mem_cons_self ..))).2
      have h2 := ih fun x hx => h x (List.mem_cons_of_mem _ hx)
      rw [List.map_cons, List.sum_cons, List.length_cons]
      omega
  intro ss hl hw
  have e : (Str.ofString " ").length = 1 := by decide +kernel
  have := key ss hw
  rw [e]
  omega
theorem spl_part_len (S : List Nat) : ∀ (l : List Nat) (k : Nat) (acc p : List Nat), p ∈ TL.spl S k acc l → p.length ≤ acc.length + l.length
  | [], k, acc, p, h => by
    rw [TL.spl_nil] at h
    rw [List.mem_singleton.mp h]
    exact Nat.le_add_right _ _
  | c :: r, k + 1, acc, p, h => by
    have h2 : p ∈ TL.spl S k acc r := h
    have := spl_part_len S r k acc p h2
    rw [List.length_cons]
    omega
  | c :: r, 0, acc, p, h => by
    rw [List.length_cons]
    cases hp : TL.pre S (c :: r) with
    | true =>
      rw [TL.spl_hit hp] at h
      rcases List.mem_cons.mp h with rfl | h
      · omega
      · have := spl_part_len S r _ [] p h
        rw [List.length_nil] at this
        omega
    | false =>
      rw [TL.spl_miss hp] at h
      have := spl_part_len S r 0 (acc ++ [c]) p h
      rw [List.length_append] at this
      have e : [c].length = 1 := rfl
      omega
/-- two ways that meet -/
theorem meetR {c : Prop} [Decidable c] {A B : VK → Prop} {Q : VK} (P : V → Hp → Prop) (h1 : c → ∀ Q : VK, (∀ v H, P v H → Q v H) → A Q) (h2 : ¬ c → ∀ Q : VK, (∀ v H, P v H → Q v H) → B Q) (q : ∀ v H, P v H → Q v H) : if c then A Q else B Q := by
  by_cases h : c
  · rw [if_pos h]
    exact h1 h Q q
  · rw [if_neg h]
    exact h2 h Q q
end L2

set_option Elab.async false
set_option linter.all false
set_option maxRecDepth 100000
set_option maxHeartbeats 4000000
namespace L2
open PySem PySem.Spec PyProof.Rows
/-! ### texts of names -/
abbrev dash : Str := "-"
abbrev jn (ss : List Str) : Str := Txt.join " " ss
def wr (ss : List Str) : Str := if ss = [] then "-" else jn ss
def rd (z : Str) : List Str := if z = "-" then [] else Txt.split z " "
theorem tl_sp : TL.tl " " = [32] := by decide +kernel
theorem tl_dash : TL.tl "-" = [45] := by decide +kernel
def NoSp (ss : List Str) : Prop := ∀ s ∈ ss, 32 ∉ TL.tl s
theorem NoSp.of {ss : List Str} (h : ∀ s ∈ ss, isW s = true) : NoSp ss := fun s hs hm => by
  have := isW_let (h s hs) 32 hm
  omega
theorem NoSp.app {ss ts : List Str} (a : NoSp ss) (b : NoSp ts) : NoSp (ss ++ ts) := fun s hs => (List.mem_append.mp hs).elim (a s) (b s)
theorem split_jn {ss : List Str} (h : ss ≠ []) (n : NoSp ss) : Txt.split (jn ss) " " = ss := TL.split_join tl_sp (by decide +kernel) h n
theorem rd_jn {ss : List Str} (h : ss ≠ []) (n : NoSp ss) : rd (jn ss) = if ss = [dash] then [] else ss := by
  by_cases e : ss = [dash]
  · subst e
    rw [if_pos rfl]
    unfold rd
    exact if_pos rfl
  · rw [if_neg e]
    unfold rd
    rw [if_neg, split_jn h n]
    intro z
    have h1 := split_jn h n
    rw [z] at h1
    have h2 : Txt.split "-" " " = [dash] := split_jn (ss := [dash]) (by simp) (by
      intro s hs
      rw [List.mem_singleton.mp hs, tl_dash]
      decide)
    exact e (h1.symm.trans h2)
theorem isW_dash : isW "-" = false := by decide +kernel
theorem ne_dash {ss : List Str} (h : ∀ s ∈ ss, isW s = true) : ss ≠ [dash] := fun e => by
  have := h dash (by rw [e]; exact List.mem_singleton.mpr rfl)
  rw [isW_dash] at this
  cases this
theorem rd_wr {ss : List Str} (h : ∀ s ∈ ss, isW s = true) : rd (wr ss) = ss := by
  unfold wr
  by_cases e : ss = []
  · subst e
    rw [if_pos rfl]
    exact if_pos rfl
  · rw [if_neg e, rd_jn e (.of h), if_neg (ne_dash h)]
theorem joinL_app (S : List Nat) : ∀ xs ys : List (List Nat), xs ≠ [] → ys ≠ [] → TL.joinL S (xs ++ ys) = TL.joinL S xs ++ (S ++ TL.joinL S ys)
  | [], _, h, _ => absurd rfl h
  | [x], [], _, h => absurd rfl h
  | [x], y :: r, _, _ => rfl
  | x :: z :: r, ys, _, h => by
    have ih := joinL_app S (z :: r) ys (by simp) h
    show x ++ (S ++ TL.joinL S ((z :: r) ++ ys)) = (x ++ (S ++ TL.joinL S (z :: r))) ++ (S ++ TL.joinL S ys)
    rw [ih]
    simp [List.append_assoc]
theorem jn_app {xs ys : List Str} (hx : xs ≠ []) (hy : ys ≠ []) : jn (xs ++ ys) = jn xs ++ " " ++ jn ys := by
  refine TL.ext_tl ?_
  rw [TL.tl_append, TL.tl_append]
  unfold jn
  rw [TL.join_eq, TL.join_eq, TL.join_eq, TL.tl_join, TL.tl_join, TL.tl_join, List.map_append, joinL_app _ _ _ (by simpa using hx) (by simpa using hy), List.append_assoc]
theorem wr_jn {ss : List Str} (h : ss ≠ []) : wr ss = jn ss := if_neg h
theorem jn_len : ∀ (ss : List Str), (∀ s ∈ ss, s.length ≤ 8) → (jn ss).length ≤ ss.length * 9
  | [], _ => Nat.zero_le _
  | [s], h => by
    have := h s (List.mem_cons_self ..)
    have e : jn [s] = s := TL.ext_tl (by
      unfold jn
      rw [TL.join_eq, TL.tl_join]
      rfl)
    rw [e]
    show s.length ≤ 1 * 9
    omega
  | s :: t :: r, h => by
    have h1 := h s (List.mem_cons_self ..)
    have ih := jn_len (t :: r) fun x hx => h x (List.mem_cons_of_mem _ hx)
    have e := jn_app (xs := [s]) (ys := t :: r) (by simp) (by simp)
    have e1 : jn [s] = s := TL.ext_tl (by
      unfold jn
      rw [TL.join_eq, TL.tl_join]
      rfl)
    have e2 : s :: t :: r = [s] ++ (t :: r) := rfl
    have e3 : (Str.ofString " ").length = 1 := by decide +kernel
    rw [e2, e, e1, Str.length_append, Str.length_append, e3]
    rw [List.length_append]
    have e4 : [s].length = 1 := rfl
    omega
theorem wr_len {ss : List Str} (h : ∀ s ∈ ss, isW s = true) (l : ss.length ≤ 16) : (wr ss).length ≤ 200 := by
  unfold wr
  split
  · decide +kernel
  · have := jn_len ss fun s hs => (isW_len (h s hs)).2
    omega
theorem okNames_perm {ss ts : List Str} (p : ss.Perm ts) (h : okNames ss = true) : okNames ts = true := by
  obtain ⟨h1, h2, h3⟩ := okNames_of h
  exact okNames_mk (by rw [← p.length_eq]; exact h1) (fun s hs => h2 s (p.mem_iff.mpr hs)) (p.nodup_iff.mp h3)
/-- two rows behind one another -/
theorem okNames_app {xs ys : List Str} (hx : okNames xs = true) (hy : okNames ys = true) : okNames (xs ++ ys) = (decide (xs.filter (fun s => decide (s ∈ ys)) = []) && decide ((xs ++ ys).length < 17)) := by
  obtain ⟨a1, a2, a3⟩ := okNames_of hx
  obtain ⟨b1, b2, b3⟩ := okNames_of hy
  have hd : xs.filter (fun s => decide (s ∈ ys)) = [] ↔ (xs ++ ys).Nodup := by
    rw [List.nodup_append]
    constructor
    · intro h
      refine ⟨a3, b3, fun a ha b hb e => ?_⟩
      have := List.filter_eq_nil_iff.mp h a ha
      exact this (decide_eq_true (e ▸ hb))
    · intro h
      refine List.filter_eq_nil_iff.mpr fun a ha e => ?_
      exact h.2.2 a ha a (of_decide_eq_true e) rfl
  rw [Bool.eq_iff_iff]
  constructor
  · intro h
    obtain ⟨h1, _, h3⟩ := okNames_of h
    rw [Bool.and_eq_true]
    exact ⟨decide_eq_true (hd.mpr h3), decide_eq_true (by omega)⟩
  · intro h
    rw [Bool.and_eq_true] at h
    have h1 := of_decide_eq_true h.1
    have h2 := of_decide_eq_true h.2
    refine okNames_mk (by omega) (fun s hs => (List.mem_append.mp hs).elim (a2 s) (b2 s)) (hd.mp h1)
theorem okNames_dash1 {ss : List Str} : okNames (dash :: ss) = false := by
  cases e : okNames (dash :: ss) with
  | false => rfl
  | true =>
    have := (okNames_of e).2.1 dash (List.mem_cons_self ..)
    rw [isW_dash] at this
    cases this
theorem okNames_dash2 {ss : List Str} : okNames (ss ++ [dash]) = false := by
  cases e : okNames (ss ++ [dash]) with
  | false => rfl
  | true =>
    have := (okNames_of e).2.1 dash (List.mem_append_right _ (List.mem_singleton.mpr rfl))
    rw [isW_dash] at this
    cases this
theorem NmsV.strsB {K : PySem.W.Frag} {H : Hp} {a : Addr} {ss : List Str} (h : SqT K H a (ss.map V.str)) (t : TyX K H (.ref a) (.type "tuple")) (hl : ∀ s ∈ ss, s.length ≤ 100000) : NmsV K H (.ref a) (okNames ss) := by
  refine .inl ⟨a, _, ss.map isW, rfl, h, t, pair_strs hl, ?_⟩
  unfold okNames
  rw [List.length_map, decide_eq_decide.mpr (nd_strs ss)]
theorem NmsV.strsT {K : PySem.W.Frag} {H : Hp} {a : Addr} {ss : List Str} (h : SqT K H a (ss.map V.str)) (t : TyX K H (.ref a) (.type "tuple")) (ok : okNames ss = true) : NmsV K H (.ref a) true := by
  have z := NmsV.strsB h t fun s hs => Nat.le_trans (isW_len ((okNames_of ok).2.1 s hs)).2 (by decide)
  rw [ok] at z
  exact z
theorem cut_from {α : Type} (f : α → V) (ws : List α) (j : Nat) : cutV (ws.map f) (some (j : Int)) none = (ws.drop j).map f := by
  unfold cutV
  rw [HT.sIx_nat, HT.sIx_none, List.length_map, ← List.map_drop, ← List.map_take]
  congr 1
  by_cases h : j ≤ ws.length
  · rw [Nat.min_eq_left h]
    exact List.take_of_length_le (by rw [List.length_drop]; exact Nat.le_refl _)
  · rw [Nat.min_eq_right (by omega), Nat.sub_self, List.take_zero, List.drop_of_length_le (by omega)]
theorem cut_to {α : Type} (f : α → V) (ws : List α) (j : Nat) : cutV (ws.map f) none (some (j : Int)) = (ws.take j).map f := by
  unfold cutV
  rw [HT.sIx_nat, HT.sIx_none, List.length_map, List.drop_zero, Nat.sub_zero, ← List.map_take]
  congr 1
  by_cases h : j ≤ ws.length
  · rw [Nat.min_eq_left h]
  · rw [Nat.min_eq_right (by omega), List.take_of_length_le (Nat.le_refl _), List.take_of_length_le (by omega)]
theorem rot_ok {ws : List Str} (j : Nat) (h : okNames ws = true) : okNames (ws.drop j ++ ws.take j) = true := okNames_perm (ss := ws) (by
  have p : (ws.take j ++ ws.drop j).Perm (ws.drop j ++ ws.take j) := List.perm_append_comm
  rw [List.take_append_drop] at p
  exact p) h
theorem take_ok {ws : List Str} (j : Nat) (h : okNames ws = true) : okNames (ws.take j) = true := by
  obtain ⟨h1, h2, h3⟩ := okNames_of h
  refine okNames_mk (by rw [List.length_take]; omega) (fun s hs => h2 s (List.mem_of_mem_take hs)) (h3.sublist (List.take_sublist j ws))
theorem drop_ok {ws : List Str} (j : Nat) (h : okNames ws = true) : okNames (ws.drop j) = true := by
  obtain ⟨h1, h2, h3⟩ := okNames_of h
  refine okNames_mk (by rw [List.length_drop]; omega) (fun s hs => h2 s (List.mem_of_mem_drop hs)) (h3.sublist (List.drop_sublist j ws))
/-- a statement whose ways meet -/
theorem seq_meet {t u : TS} {D : Ends} {σ : St} {H : Hp} (P : St → Hp → Prop) (h : ∀ N : St → Hp → Prop, (∀ σ' H', P σ' H' → N σ' H') → t { D with nx := N } σ H) (q : ∀ σ' H', P σ' H' → u D σ' H') : tSeq t u D σ H := h (u D) q
theorem slA_to {K : PySem.W.Frag} {H : Hp} {a : Addr} {ss : List Str} {j : Nat} {Q : VK} (h : H a = some (.tup (ss.map V.str))) (q : ∀ p H', Same H H' → H' p = some (.tup ((ss.take j).map V.str)) → Q (.ref p) H') : rSlA K (.ref a) none (some (j : Int)) H Q := by
  refine ⟨a, _, rfl, SqT.of h, fun hw => ?_, fun _ p hp => ?_⟩
  · have h2 := hw.2
    rw [HT.sIx_nat, List.length_map] at h2
    refine q a H (Same.refl H) ?_
    rw [List.take_of_length_le (by omega)]
    exact h
  · rw [cut_to]
    exact q p _ (gSame_new hp) upd_same
theorem slA_from {K : PySem.W.Frag} {H : Hp} {a : Addr} {ss : List Str} {j : Nat} {Q : VK} (h : H a = some (.tup (ss.map V.str))) (q : ∀ p H', Same H H' → H' p = some (.tup ((ss.drop j).map V.str)) → Q (.ref p) H') : rSlA K (.ref a) (some (j : Int)) none H Q := by
  refine ⟨a, _, rfl, SqT.of h, fun hw => ?_, fun _ p hp => ?_⟩
  · have h1 := hw.1
    rw [HT.sIx_nat, List.length_map] at h1
    refine q a H (Same.refl H) ?_
    have e : ss.drop j = ss := by
      cases j with
      | zero => rfl
      | succ j =>
        have : ss.length = 0 := by omega
        rw [List.length_eq_zero_iff.mp this]
        rfl
    rw [e]
    exact h
  · rw [cut_from]
    exact q p _ (gSame_new hp) upd_same
theorem catA_strs {K : PySem.W.Frag} {H : Hp} {a b : Addr} {xs ys : List Str} {Q : VK} (ha : H a = some (.tup (xs.map V.str))) (hb : H b = some (.tup (ys.map V.str))) (hl : xs.length + ys.length ≤ 1000) (q : ∀ p H', Same H H' → H' p = some (.tup ((xs ++ ys).map V.str)) → Q (.ref p) H') : rCatA K (.ref a) (.ref b) H Q := by
  refine ⟨a, b, _, _, rfl, rfl, SqT.of ha, SqT.of hb, by rw [List.length_map, List.length_map, sizeLine_eq]; omega, fun e => ?_, fun _ e => ?_, fun _ _ p hp => ?_⟩
  · refine q b H (Same.refl H) ?_
    rw [List.map_append, e]
    exact hb
  · refine q a H (Same.refl H) ?_
    rw [List.map_append, e, List.append_nil]
    exact ha
  · refine q p _ (gSame_new hp) ?_
    rw [upd_same, List.map_append]
end L2

set_option Elab.async false
set_option linter.all false
set_option maxRecDepth 100000
set_option maxHeartbeats 4000000
namespace L2
open PySem PySem.Spec PyProof.Rows
/-! ### what the text's top has written -/
/-- an error of the class at S is what «except S» names -/
theorem exm_self {K : PySem.W.Frag} {S : Addr} (h1 : PySem.W.subIn K (.ref S) (.type "BaseException") = some true) (h2 : PySem.W.isClsIn K S = true) (h3 : PySem.W.typeIn K (.ref S) = some (.type "type")) (h4 : PySem.W.subIn K (.ref S) (.ref S) = some true) :
    PySem.W.exmOne K (.ref S) (.ref S) = some true := by
  have e1 : (PySem.W.subIn K (.ref S) (.type "BaseException") == some true) = true := by rw [h1] <;> rfl
  have e2 : ((PySem.W.clsIn K S).isSome && PySem.W.typeIn K (.ref S) == some (.type "type")) = true := by
    have h2' : (PySem.W.clsIn K S).isSome = true := h2
    rw [h2', h3] <;> rfl
  show (if (PySem.W.subIn K (.ref S) (.type "BaseException") == some true) = true then (if ((PySem.W.clsIn K S).isSome && PySem.W.typeIn K (.ref S) == some (.type "type")) = true then PySem.W.subIn K (.ref S) (.ref S) else none) else none) = some true
  rw [if_pos e1, if_pos e2]
  exact h4
section
variable {K : PySem.W.Frag} {h : Heap} {mg : Str → Option Value} (X : K.In h) (G : h.Ns mainGlobals mg)
include X G
theorem blt_mk (z1 : PySem.W.nsIn K mainGlobals "len" = some none) (z2 : PySem.W.nsIn K mainGlobals "int" = some none) (z3 : PySem.W.nsIn K mainGlobals "abs" = some none) (z4 : PySem.W.nsIn K mainGlobals "max" = some none)
    (z5 : PySem.W.nsIn K mainGlobals "min" = some none) (z6 : PySem.W.nsIn K mainGlobals "range" = some none) (z7 : PySem.W.nsIn K mainGlobals "all" = some none) (z8 : PySem.W.nsIn K mainGlobals "isinstance" = some none)
    (z9 : PySem.W.nsIn K mainGlobals "str" = some none) (z10 : PySem.W.nsIn K mainGlobals "tuple" = some none) (z11 : PySem.W.nsIn K mainGlobals "list" = some none) (z12 : PySem.W.nsIn K mainGlobals "set" = some none)
    (z13 : PySem.W.nsIn K mainGlobals "sorted" = some none) (z14 : PySem.W.nsIn K mainGlobals "repr" = some none) (z15 : PySem.W.nsIn K mainGlobals "bool" = some none) (z16 : PySem.W.nsIn K mainGlobals "dict" = some none) : Blt mg :=
  ⟨PySem.W.mg_none_of X G z1, PySem.W.mg_none_of X G z2, PySem.W.mg_none_of X G z3, PySem.W.mg_none_of X G z4, PySem.W.mg_none_of X G z5, PySem.W.mg_none_of X G z6, PySem.W.mg_none_of X G z7, PySem.W.mg_none_of X G z8,
    PySem.W.mg_none_of X G z9, PySem.W.mg_none_of X G z10, PySem.W.mg_none_of X G z11, PySem.W.mg_none_of X G z12, PySem.W.mg_none_of X G z13, PySem.W.mg_none_of X G z14, PySem.W.mg_none_of X G z15, PySem.W.mg_none_of X G z16⟩
theorem df_mk {x : Str} {st : Stmt} {ps : List Str} {f : Addr} {oc : Value} {od an : Option Addr} {osl : Array (Option Value)} {kV doc pm cdv ct : Value} (a : PySem.W.nsIn K mainGlobals x = some (some (.ref f)))
    (l : K.lookup f = some ⟨oc, od, .func (PySem.W.fnOf x x (defArgs st) (defBody st) (defScope st) .none kV doc pm an cdv ct), osl⟩) (c : PySem.W.codeIn K cdv x = true) (k : PySem.W.keepIn K (.ref f) = true)
    (hb : ∀ (kV doc pm : Value) (an : Option Addr) (cdv ct : Value) (us : List Value), us.length = ps.length → bindArgs (PySem.W.fnOf x x (defArgs st) (defBody st) (defScope st) .none kV doc pm an cdv ct) ⟨us, []⟩ = pure (ps.zip us)) :
    Df K mg x st ps f (PySem.W.fnOf x x (defArgs st) (defBody st) (defScope st) .none kV doc pm an cdv ct) :=
  have F := fun_mk (st := st) l c k
  ⟨F, PySem.W.mg_of X G a, F.binds hb⟩
theorem iniT_mk {n fld q : Str} {st : Stmt} {C f : Addr} {nm q0 : Str} {N : Addr} {bs bm : List Value} {sn : List Str} {sub : List Value} {ab : Bool} {col : Option Bool} {dd : Option Addr} {m0 m1 m2 m3 m5 : Option Value}
    {oc : Value} {od an : Option Addr} {osl : Array (Option Value)} {kV doc pm cdv ct : Value} (hq : n ++ ".__init__" = q)
    (aC : PySem.W.nsIn K mainGlobals n = some (some (.ref C))) (xL : K.lookup C = some (excClassObj nm q0 C N bs bm true sn sub ab col dd m0 m1 m2 m3 m5 "ValueError.__new__")) (hbm : PySem.HandSPX.refsVE bm = true)
    (sa : PySem.W.findIn K (.ref C) "__setattr__" = some (some (.builtin "object.__setattr__"))) (nb : PySem.W.findIn K (.ref C) fld = some none)
    (a1 : PySem.W.findIn K (.ref C) "__init__" = some (some (.ref f))) (t1 : PySem.W.typeIn K (.ref f) = some (.type "function"))
    (l : K.lookup f = some ⟨oc, od, .func (PySem.W.fnOf "__init__" q (defArgs st) (defBody st) (defScope st) .none kV doc pm an cdv ct), osl⟩) (c : PySem.W.codeIn K cdv q = true) (k : PySem.W.keepIn K (.ref f) = true)
    (kC : PySem.W.keepIn K (.ref C) = true) (eC : PySem.W.subIn K (.ref C) (.type "BaseException") = some true) (tC : PySem.W.typeIn K (.ref C) = some (.type "type")) (iC : PySem.W.isClsIn K C = true) (sC : PySem.W.subIn K (.ref C) (.ref C) = some true)
    (hb : ∀ (kV doc pm : Value) (an : Option Addr) (cdv ct : Value) (us : List Value), us.length = (["self", fld] : List Str).length → bindArgs (PySem.W.fnOf "__init__" q (defArgs st) (defBody st) (defScope st) .none kV doc pm an cdv ct) ⟨us, []⟩ = pure ((["self", fld] : List Str).zip us)) :
    IniT K mg n fld st C f (PySem.W.fnOf "__init__" q (defArgs st) (defBody st) (defScope st) .none kV doc pm an cdv ct) := by
  subst hq
  have F := fun_mk (st := st) l c k
  exact ⟨PySem.W.mg_of X G aC, ⟨⟨nm, q0, N, bs, bm, sn, sub, ab, col, dd, m0, m1, m2, m3, m5, xL, hbm⟩, sa, eC, tC, kC⟩, a1, t1, exm_self eC iC tC sC, nb, F, F.binds hb⟩
theorem ownT_mk {n : Str} {C : Addr} (aC : PySem.W.nsIn K mainGlobals n = some (some (.ref C))) (xC : PySem.W.excIn K C [.type "ValueError", .type "Exception", .type "BaseException", .type "object"] "ValueError.__new__" = true)
    (kC : PySem.W.keepIn K (.ref C) = true) (eC : PySem.W.subIn K (.ref C) (.type "BaseException") = some true) (tC : PySem.W.typeIn K (.ref C) = some (.type "type")) (iC : PySem.W.isClsIn K C = true) (sC : PySem.W.subIn K (.ref C) (.ref C) = some true) : OwnT K mg n C :=
  ⟨PySem.W.mg_of X G aC, xC, kC, eC, tC, exm_self eC iC tC sC⟩
theorem cin_mk {n : Str} {C : Addr} (aC : PySem.W.nsIn K mainGlobals n = some (some (.ref C))) (ga : PySem.W.specialIn K (.ref C) "__getattribute__" = some (some (.builtin "type.__getattribute__")))
    (rd : PySem.W.readsIn K C (.type "type") = true) (fi : PySem.W.findCls K (.ref C) (.type "type") "__init__" = some (.val (.builtin "ValueError.__init__"))) : CIn K mg n C := ⟨PySem.W.mg_of X G aC, ga, rd, fi⟩
end
end L2

set_option Elab.async false
set_option linter.all false
set_option maxRecDepth 100000
set_option maxHeartbeats 6400000
/-! sets of texts at their places: set(xs), sorted(set(xs)), sorted(xs) of tuples -/
namespace Gt
open PySem PySem.Spec PyProof.Rows L2
def keyOf (e : Int × Value) : Str := match e.2 with | .str k _ => k | _ => Str.empty
def GoodE (P : Program) (w : World) (e : Int × Value) : Prop := ∃ k tk, e.2 = Value.str k tk ∧ e.1 = (PySem.strKind P w).hash k
def SetS (P : Program) (w : World) (h : Heap) (a : Addr) (S : Str → Bool) (n : Nat) : Prop :=
  ∃ o es ep t, h.get? a = some o ∧ o.ExactSet ∧ o.data = .set es ep t ∧ (∀ e ∈ es.toList, GoodE P w e) ∧ (es.toList.map keyOf).Nodup ∧ (∀ k, S k = true ↔ k ∈ es.toList.map keyOf) ∧
    es.size < scanBound ∧ t.fits es.size = true ∧ es.size = n ∧ Ris t.place.toList ∧ (w.params.followText "set-order" = true ∨ t.led = true)
section
variable {P : Program} {w : World} {h h' : Heap} {a : Addr} {S : Str → Bool} {n : Nat}
theorem SetS.at (R : SetS P w h a S n) (k : ∀ o, h.get? a = some o → h'.get? a = some o) : SetS P w h' a S n := by
  obtain ⟨o, es, ep, t, ho, r⟩ := R
  exact ⟨o, es, ep, t, k o ho, r⟩
theorem SetS.congr {S' : Str → Bool} (R : SetS P w h a S n) (e : ∀ k, S' k = S k) : SetS P w h a S' n := by
  have q : S' = S := funext e
  rw [q]; exact R
theorem good_elems {l : List (Int × Value)} (g : ∀ e ∈ l, GoodE P w e) : ElemsOf (PySem.strKind P w) l := fun e he => by
  obtain ⟨k, tk, h1, h2⟩ := g e he
  exact ⟨⟨k, by rw [h1]; exact strKind_is P w k tk, h2⟩, by rw [h1] <;> rfl⟩
theorem good_is {e : Int × Value} (g : GoodE P w e) (k : Str) : (PySem.strKind P w).is k e.2 = true ↔ keyOf e = k := by
  obtain ⟨k0, tk, h1, _⟩ := g
  unfold keyOf
  rw [h1]
  show (Value.isStrOf k (.str k0 tk) = true) ↔ k0 = k
  simp [Value.isStrOf]
theorem good_mem {l : List (Int × Value)} (g : ∀ e ∈ l, GoodE P w e) (k : Str) : k ∈ l.map keyOf ↔ ∃ e ∈ l, (PySem.strKind P w).is k e.2 = true := by
  rw [List.mem_map]
  constructor
  · rintro ⟨e, he, q⟩
    exact ⟨e, he, (good_is (g e he) k).2 q⟩
  · rintro ⟨e, he, q⟩
    exact ⟨e, he, (good_is (g e he) k).1 q⟩
end
section
variable {P : Program} {w : World} {A : Around} {E : Value → Shared → Prop} {s : Shared} {a : Addr} {S : Str → Bool} {n : Nat}
theorem add_tail {g : Bool → Sem Unit} (hg : ∀ (b : Bool) (s₁ : Shared) (Q' : Unit → Shared → Prop), Q' () s₁ → wpAny (model P w) A (g b) Q' E s₁)
    {o : Obj} {es : Array (Int × Value)} {ep : Nat} {t : SetTable} (ho : s.heap.get? a = some o) (hex : o.ExactSet) (hd : o.data = .set es ep t)
    {es1 : Array (Int × Value)} {t2 : SetTable} {S' : Str → Bool} (g1 : ∀ e ∈ es1.toList, GoodE P w e) (nd1 : (es1.toList.map keyOf).Nodup) (m1 : ∀ k, S' k = true ↔ k ∈ es1.toList.map keyOf)
    (hb1 : es1.size < scanBound) (hf2 : t2.fits es1.size = true) (hr : Ris t2.place.toList) (hl : w.params.followText "set-order" = true ∨ t2.led = true) {wasDummy : Bool} {R : Option Bool → Shared → Prop}
    (hR : ∀ h', Heap.SameBut a s.heap h' → SetS P w h' a S' es1.size → R (some true) { s with heap := h' }) :
    wpAny (model P w) A (do
        storeSet a es1 t2
        if (!wasDummy && t2.tooFull) = true then do
            g (relayAll t2 es1 (SetTable.grown es1.size)).2.2
            storeSet a (relayAll t2 es1 (SetTable.grown es1.size)).1 (relayAll t2 es1 (SetTable.grown es1.size)).2.1
            pure (some true)
          else pure (some true)) R E s := by
  refine wpAny_bind (wpAny_storeSet_of ho hd ?_ (fits_of_scanBound hb1))
  have ho1 := store_at (es' := es1) (t' := t2) ho hd
  have sb1 := Heap.SameBut.update s.heap a (Obj.putSet es1 t2)
  split
  · have pm := relayAll_perm t2 es1 (SetTable.grown es1.size)
    have hf3 := relayAll_fits t2 es1 (SetTable.grown es1.size)
    have hr3 := relayAll_ris t2 es1 (SetTable.grown es1.size)
    have hl3 := relayAll_led t2 es1 (SetTable.grown es1.size)
    generalize relayAll t2 es1 (SetTable.grown es1.size) = Z at pm hf3 hr3 hl3 ⊢
    obtain ⟨es2, t3, gave⟩ := Z
    dsimp only at pm hf3 hr3 hl3 ⊢
    have hsz : es2.size = es1.size := by rw [← Array.length_toList, pm.length_eq, Array.length_toList]
    have hb2 : es2.size < scanBound := by rw [hsz]; exact hb1
    refine wpAny_bind (hg _ _ _ ?_)
    refine wpAny_bind (wpAny_storeSet_of ho1 rfl ?_ (fits_of_scanBound hb2))
    have ho2 := store_at (es' := es2) (t' := t3) ho1 rfl
    refine wpAny_pure (hR _ (sb1.trans (Heap.SameBut.update _ a _)) ?_)
    exact ⟨_, es2, _, t3, ho2, hex, rfl, fun e he => g1 e (pm.mem_iff.mp he), (pm.map keyOf).nodup_iff.mpr nd1, fun k => (m1 k).trans (pm.map keyOf).mem_iff.symm, hb2, hf3, hsz, hr3,
      hl.imp id fun z => by rw [hl3]; exact z⟩
  · exact wpAny_pure (hR _ sb1 ⟨_, es1, _, t2, ho1, hex, rfl, g1, nd1, m1, hb1, hf2, rfl, hr, hl⟩)
theorem add_hashed {k : Str} {tk : Tok} {Q : Bool → Shared → Prop} (R : SetS P w s.heap a S n) (room : n + 1 < scanBound)
    (hQ : ∀ h', Heap.SameBut a s.heap h' → SetS P w h' a (fun j => S j || decide (j = k)) (if S k = true then n else n + 1) → Q (!S k) { s with heap := h' }) :
    wpAny (model P w) A (setAddHashed a (.str k tk) ((PySem.strKind P w).hash k)) Q E s := by
  obtain ⟨o, es, ep, t, ho, hex, hd, g, nd, hm, hb, hf, hn, hr, hl⟩ := R
  have hkey : (PySem.strKind P w).is k (.str k tk) = true := strKind_is P w k tk
  have hsc : (Value.str k tk).scannable = true := rfl
  have hel : ElemsOf (PySem.strKind P w) es.toList := good_elems g
  unfold setAddHashed setAddHashedIn
  refine wpAny_holding (wpAny_bind (wpAny_setState_of ho hd hf ?_))
  dsimp only
  rw [byScan_of hsc hb hel]
  simp only [↓reduceIte]
  unfold setAddByScan
  refine wpAny_bind ?_
  refine wpAny_bind (wpAny_rule ?_)
  refine wpAny_bind (wpAny_setScan_of hkey ho hd hf hel ?_)
  cases hfi : List.findIdx? (fun e => (PySem.strKind P w).is k e.2) es.toList with
  | some j =>
    dsimp only
    obtain ⟨hj, pj, _⟩ := List.findIdx?_eq_some_iff_getElem.mp hfi
    have hSk : S k = true := (hm k).2 ((good_mem (P := P) (w := w) g k).2 ⟨es.toList[j], List.getElem_mem hj, pj⟩)
    refine wpAny_pure (wpAny_pure ?_)
    have q := hQ s.heap (Heap.SameBut.refl a s.heap) ⟨o, es, ep, t, ho, hex, hd, g, nd, fun i => by
      rw [Bool.or_eq_true, decide_eq_true_eq, ← hm i]
      exact ⟨fun z => z.elim id (fun e => e ▸ hSk), .inl⟩, hb, hf, by rw [if_pos hSk]; exact hn, hr, hl⟩
    rw [hSk] at q
    exact q
  | none =>
    dsimp only
    have hnk : k ∉ es.toList.map keyOf := fun z => by
      obtain ⟨e, he, q⟩ := (good_mem (P := P) (w := w) g k).1 z
      have c := List.findIdx?_eq_none_iff.mp hfi e he
      rw [q] at c
      cases c
    have hSk : S k = false := by
      cases q : S k with
      | false => rfl
      | true => exact absurd ((hm k).1 q) hnk
    have hgw : ∀ (b : Bool) {s₁ : Shared} {Q' : Unit → Shared → Prop}, Q' () s₁ → wpAny (model P w) A (match b with | true => rule "set.scan.the-table-gave-way" | false => pure ()) Q' E s₁ :=
      fun b s₁ Q' q => by cases b <;> first | exact wpAny_pure q | exact wpAny_rule q
    have pm := layNew_perm t es ((PySem.strKind P w).hash k) (.str k tk)
    have hf1 := layNew_fits t es ((PySem.strKind P w).hash k) (.str k tk)
    have hr1 := layNew_ris t es ((PySem.strKind P w).hash k) (.str k tk) hr
    have hl1 := layNew_led t es ((PySem.strKind P w).hash k) (.str k tk)
    generalize layNew t es ((PySem.strKind P w).hash k) (.str k tk) = Z at pm hf1 hr1 hl1 ⊢
    obtain ⟨es1, t1, wasDummy, gave⟩ := Z
    dsimp only at pm hf1 hr1 hl1 ⊢
    rw [Array.toList_push] at pm
    have pc : es1.toList.Perm (((PySem.strKind P w).hash k, Value.str k tk) :: es.toList) := pm.trans (List.perm_append_singleton _ _)
    have pk : (es1.toList.map keyOf).Perm (k :: es.toList.map keyOf) := pc.map keyOf
    have g1 : ∀ e ∈ es1.toList, GoodE P w e := fun e he => by
      rcases List.mem_cons.mp (pc.mem_iff.mp he) with z | z
      · rw [z]; exact ⟨k, tk, rfl, rfl⟩
      · exact g e z
    have nd1 : (es1.toList.map keyOf).Nodup := pk.nodup_iff.mpr (List.nodup_cons.mpr ⟨hnk, nd⟩)
    have m1 : ∀ i, (S i || decide (i = k)) = true ↔ i ∈ es1.toList.map keyOf := fun i => by
      rw [Bool.or_eq_true, decide_eq_true_eq, hm i, pk.mem_iff, List.mem_cons]
      exact Or.comm
    have hsz : es1.size = n + 1 := by rw [← Array.length_toList, pc.length_eq, List.length_cons, Array.length_toList, hn]
    have hb1 : es1.size < scanBound := by rw [hsz]; exact room
    have hled : w.params.followText "set-order" = true ∨ t1.led = true := hl.imp id fun z => by rw [hl1]; exact z
    have fin : ∀ h', Heap.SameBut a s.heap h' → SetS P w h' a (fun j => S j || decide (j = k)) es1.size → Q true { s with heap := h' } := fun h' sb r => by
      have q := hQ h' sb
      rw [hSk] at q
      rw [hsz] at r
      exact q r
    refine wpAny_bind (hgw _ ?_)
    split
    · refine wpAny_bind ?_
      rw [hashByValue_scannable 8 hsc]
      refine wpAny_pure ?_
      refine add_tail ?_ ho hex hd g1 nd1 m1 hb1 ?_ ?_ ?_ ?_
      · intro b s₁ Q' q; cases b <;> first | exact wpAny_pure q | exact wpAny_rule q
      · first | (split <;> first | exact hf1 | exact SetTable.fits_plain_off hf1) | exact hf1
      · first | (split <;> exact hr1) | exact hr1
      · first | (split <;> exact hled) | exact hled
      · intro h' sb r; dsimp only; exact wpAny_pure (fin h' sb r)
    · refine wpAny_bind (wpAny_pure ?_)
      simp only [↓reduceIte]
      refine add_tail ?_ ho hex hd g1 nd1 m1 hb1 hf1 hr1 hled ?_
      · intro b s₁ Q' q; cases b <;> first | exact wpAny_pure q | exact wpAny_rule q
      · intro h' sb r; dsimp only; exact wpAny_pure (fin h' sb r)
end
section
variable {prog : Program} {w : World} {A : Around} {R : Result → Shared → Prop} {I : Addr} {fp wr : List Addr} {G : Array GenState → Array GenState → Prop} {n : Nat} {P : Nat → Value → Prop} {St : Nat → Shared → Prop}
/-- the loop of set.update over m turns still to come -/
theorem upd_loop (W : WalksS prog w A.in1 I fp wr G n P St) (S : Addr) (nS : S ∉ fp) (xs : List Str) (len : xs.length = n) (few : n + 1 < scanBound) (val : ∀ i v, P i v → ∃ t, v = .str (xs.getD i Str.empty) t)
    (m : Nat) : ∀ (i : Nat) (s : Shared), i + m = n → St i s → SetS prog w s.heap S (Gs.mem xs i) (Gs.dst xs i) →
      (∀ s', Moved (S :: wr) G s s' → SetS prog w s'.heap S (Gs.mem xs n) (Gs.dst xs n) → R (.ok (.ret .none)) s') → codeAny (model prog w) A (.builtin "set.update.loop" ⟨[.ref S, .ref I], []⟩) R s := by
  have nW : S ∉ wr := fun z => nS (W.sub S z)
  have more : ∀ b, b ∈ wr → b ∈ S :: wr := fun b z => .tail _ z
  induction m with
  | zero =>
    intro i s e st hS fin
    obtain rfl : i = n := e
    refine codeAny_builtin F.entry_set_update_loop (by
      rw [Around.under_plainId F.plain_set_update_loop]
      exact wpAny_bind (W.done s _ _ st fun s2 mv => wpAny_pure (fin s2 (mv.mono more) (hS.at fun o q => mv.heap S o nW q))))
  | succ m ih =>
    intro i s e st hS fin
    have lt : i < n := by omega
    refine codeAny_builtin F.entry_set_update_loop (by
      rw [Around.under_plainId F.plain_set_update_loop]
      refine wpAny_bind (W.item i s _ _ lt st fun v s2 pv st2 mv => ?_)
      obtain ⟨t, rfl⟩ := val i v pv
      have hS2 := hS.at (h' := s2.heap) fun o q => mv.heap S o nW q
      have le := Gs.dst_le xs i
      refine wpAny_bind (wpAny_holding (wpAny_holding (wpAny_bind ((PySem.strKind prog w).pyHash (k := xs.getD i Str.empty) (strKind_is _ _ _ _) ?_))))
      refine add_hashed (s := { s2 with toks := s2.toks + 1 }) hS2 (by omega) fun h3 sb hS3 => ?_
      have nx : SetS prog w h3 S (Gs.mem xs (i + 1)) (Gs.dst xs (i + 1)) := by
        have lx : i < xs.length := by omega
        refine SetS.congr hS3 (fun k => ?_)
        have tk : xs.take (i + 1) = xs.take i ++ [xs[i]] := by
          rw [List.take_add_one, List.getElem?_eq_getElem lx]
          rfl
        unfold Gs.mem
        rw [Gs.getD_at lx, tk]
        rw [Bool.eq_iff_iff]
        simp only [Bool.or_eq_true, decide_eq_true_eq, List.mem_append, List.mem_singleton]
      refine wpAny_pure ⟨plainId_quiet F.plain_set_update_loop _, ih (i + 1) _ (by omega) (W.frame _ s2 _ _ st2 (Nat.le_succ _) fun b hb o q => ?_) nx fun s4 mv4 hS4 => fin s4 (Moved.trans W.gtrans ((mv.mono more).then_heap (Nat.le_succ _) fun b o nb q => ?_) mv4) hS4⟩
      · exact (sb.2 b (fun z => nS (z ▸ hb))).trans q
      · exact (sb.2 b (fun z => nb (z ▸ List.mem_cons_self))).trans q)
end
section
variable {prog : Program} {w : World} {A : Around} {E : Value → Shared → Prop} {s : Shared}
abbrev bareW (w : World) : Obj := { cls := .type "set", dict := none, data := .set #[] 0 (.fresh 0 0 (!w.params.followText "set-order")) }
theorem fresh_at {h : Heap} {a : Addr} (w : World) (ho : h.get? a = some (bareW w)) : SetS prog w h a (fun _ => false) 0 :=
  ⟨_, #[], 0, _, ho, ⟨rfl, rfl, rfl⟩, rfl, (fun e he => by simp at he), (by simp), (fun k => by simp), (by decide), (by rfl), rfl, List.Pairwise.nil, by
    show _ ∨ (!w.params.followText "set-order") = true
    cases w.params.followText "set-order"
    · exact .inr rfl
    · exact .inl rfl⟩
theorem code_new1 (a : Value) {Q₁ : Value → Shared → Prop}
    (h : Q₁ (.ref s.heap.objs.size) { s with heap := s.heap.push (bareW w) }) :
    codeAny (model prog w) A (.call (.builtin "set.__new__") ⟨[.type "set", a], []⟩) (wants Q₁ E) s := by
  refine codeAny_of_tree ?_
  show wpAny _ A.in1 (do checkBuiltinCall "set.__new__" ⟨[.type "set", a], []⟩; again (.builtin "set.__new__" ⟨[.type "set", a], []⟩)) _ _ s
  refine wpAny_bind (wpAny_of_eq (F.newCall_set_1 a) (wpAny_pure ⟨plainId_quiet F.plain_set_new _, codeAny_builtin F.entry_set_new ?_⟩))
  rw [Around.under_plainId F.plain_set_new _]
  unfold Builtin.«set.__new__» Builtin.Frozenset.newClass
  have hsub := sub_set_self
  obtain ⟨hp, g, d, tk, os⟩ := s
  dsimp only
  wp_walk
  refine wpAny_askSetting (wpAny_pure ?_)
  dsimp only
  simp only [newObj]
  refine wpAny_bind (wpAny_alloc (wpAny_pure ?_))
  exact wpAny_pure h
theorem set_init {T : String} {l : Addr} {n : Nat} {Pv : Nat → Value → Prop} {St : Addr → Nat → Heap → Prop} {xs : List Str} {hp : Heap} {g : Array GenState} {d : Drawn} {tk : Nat} {os : OsState} (hh : A.handled = none) (r : Gs.Row prog w T l n Pv hp St)
    (len : xs.length = n) (few : n + 1 < scanBound) (val : ∀ i v, Pv i v → ∃ t, v = .str (xs.getD i Str.empty) t) :
    codeAny (model prog w) A (.call (.builtin "set.__init__") ⟨[.ref hp.objs.size, .ref l], []⟩)
      (wants (fun v s2 => v = .none ∧ ∃ h2 t2, s2 = ⟨h2, g, d, t2, os⟩ ∧ SetS prog w h2 hp.objs.size (Gs.mem xs n) (Gs.dst xs n) ∧ ∀ b o, hp.get? b = some o → h2.get? b = some o) E) ⟨hp.push (bareW w), g, d, tk, os⟩ := by
  have oS : (hp.push (bareW w)).get? hp.objs.size = some (bareW w) := Heap.get?_push_size _ rfl
  have tS : Shared.TypeIs ⟨hp.push (bareW w), g, d, tk, os⟩ (.ref hp.objs.size) "set" := ⟨_, oS, rfl⟩
  refine codeAny_call_builtin PySem.F.called_set.init.plain PySem.F.entry_set_init (check_set_init_1 tS ?_)
  obtain ⟨dd, dt, sl, ol⟩ := r.at_
  have ol2 : (hp.push (bareW w)).get? l = some { cls := .type T, dict := dd, data := dt, slots := sl } := Heap.get?_push_of_some _ ol
  have q1 := r.s1
  have q2 := r.s2
  have q3 := r.nd
  unfold Builtin.«set.__init__» noKeywords Builtin.Frozenset.updateFrom
  generalize hI : pyIter = PI
  wp_walk
  subst hI
  have lt : l < hp.objs.size := Heap.lt_size ol
  refine r.iter _ _ _ _ (fun o q => Heap.get?_push_of_some _ q) fun o st => ?_
  have z1 : (hp.push (bareW w)).objs.size = hp.objs.size + 1 := Heap.size_push ..
  have z2 : ∀ b u, hp.get? b = some u → ((hp.push (bareW w)).push o).get? b = some u := fun b u q => Heap.get?_push_of_some _ (Heap.get?_push_of_some _ q)
  refine wpAny_bind (wpAny_runValue ?_)
  have W := (r.walk A.in1.in1 (hp.push (bareW w)).objs.size (by simp [hh]) (by rw [z1]; exact Nat.ne_of_lt (Nat.lt_succ_of_lt lt))).toS
  refine upd_loop W hp.objs.size (Gs.off2 (by rw [z1]; exact Nat.lt_succ_self _) lt) xs len few val n 0 ⟨(hp.push (bareW w)).push o, g, d, tk, os⟩ (by omega) st ?_ fun s3 mv hS => ?_
  · exact SetS.congr (fresh_at w (Heap.get?_push_of_some _ oS)) (fun k => by simp [Gs.mem])
  · obtain ⟨h3, g3, d3, t3, os3⟩ := s3
    obtain rfl : g3 = g := mv.gens
    obtain rfl : d3 = d := mv.drawn
    obtain rfl : os3 = os := mv.os
    refine wpAny_pure (wpAny_pure ⟨rfl, h3, t3, rfl, hS, fun b u q => mv.heap b u ?_ (z2 b u q)⟩)
    have lb : b < hp.objs.size := Heap.lt_size q
    exact Gs.off2' lb (by rw [z1]; exact Nat.lt_succ_self _)
/-- set(x) of such a row -/
theorem set_call {T : String} {l : Addr} {n : Nat} {Pv : Nat → Value → Prop} {St : Addr → Nat → Heap → Prop} {xs : List Str} {Q : Value → Shared → Prop} (hh : A.handled = none) (r : Gs.Row prog w T l n Pv s.heap St)
    (len : xs.length = n) (few : n + 1 < scanBound) (val : ∀ i v, Pv i v → ∃ t, v = .str (xs.getD i Str.empty) t)
    (q : ∀ h2 t2, SetS prog w h2 s.heap.objs.size (Gs.mem xs n) (Gs.dst xs n) → (∀ b o, s.heap.get? b = some o → h2.get? b = some o) → Q (.ref s.heap.objs.size) { s with heap := h2, toks := t2 }) :
    wpAny (model prog w) A (call (.type "set") [.ref l]) Q E s := by
  obtain ⟨hp, g, d, tk, os⟩ := s
  obtain ⟨c, tl, m1⟩ := PySem.F.called_set.mro
  have m2 := PySem.F.called_set.made
  have m3 := PySem.F.called_set.sub
  have m4 := PySem.F.called_set.notType
  have m5 := PySem.F.called_set.canCreate
  have m6 := PySem.F.typeCall_set_1 (.ref l)
  refine wpAny_call (codeAny_of_tree (wpAny_pure ⟨Code.quiet_builtin _ (by decide +kernel), codeAny_builtin PySem.F.entry_type_call ?_⟩))
  rw [Around.under_plain (weight_type_call_type "set" [.ref l] []) rfl]
  repeat (any_goals (first | assumption | wp_step))
  refine codeAny_mono (code_new1 (.ref l) (E := E) (Q₁ := fun v s2 => v = .ref hp.objs.size ∧ s2 = ⟨hp.push (bareW w), g, d, tk, os⟩) ⟨rfl, rfl⟩) fun a s2 h2 => ?_
  match a, h2 with
  | .error e, h2 => exact h2
  | .ok .next, h2 => exact h2.elim
  | .ok .brk, h2 => exact h2.elim
  | .ok .cont, h2 => exact h2.elim
  | .ok (.ret v), h2 =>
    obtain ⟨rfl, rfl⟩ := h2
    have m7 := PySem.F.called_set.init.lookup
    have m8 := PySem.F.called_set.init.bind (.ref hp.objs.size)
    have oS : (hp.push (bareW w)).get? hp.objs.size = some (bareW w) := Heap.get?_push_size _ rfl
    have tS : Shared.TypeIs ⟨hp.push (bareW w), g, d, tk, os⟩ (.ref hp.objs.size) "set" := ⟨_, oS, rfl⟩
    repeat (any_goals (first | assumption | wp_step))
    refine codeAny_mono (set_init (E := E) ?_ r len few val) fun b s3 h3 => ?_
    · simp [hh]
    · match b, h3 with
      | .error e, h3 => exact h3
      | .ok .next, h3 => exact h3.elim
      | .ok .brk, h3 => exact h3.elim
      | .ok .cont, h3 => exact h3.elim
      | .ok (.ret v), h3 =>
        obtain ⟨rfl, h4, t4, rfl, hS, keep⟩ := h3
        repeat (any_goals (first | assumption | wp_step))
        exact q h4 t4 hS keep
theorem strs_of : ∀ (l : List Value), (∀ v ∈ l, ∃ k tk, v = Value.str k tk) → StrsAre l (l.map fun v => keyOf (0, v))
  | [], _ => .nil
  | v :: r, h => by
    obtain ⟨k, tk, rfl⟩ := h v (List.mem_cons_self ..)
    exact .cons k tk (strs_of r fun x hx => h x (List.mem_cons_of_mem _ hx))
/-- sorted(s) of a set of texts -/
theorem sorted_set {a : Addr} {S : Str → Bool} {n : Nat} {Q : Value → Shared → Prop} (R : SetS prog w s.heap a S n) (hh : A.handled = none) (h64 : n < 64)
    (hQ : ∀ s' p (out : Array Value) (c : Nat) (ys : List Str), (∀ b o, s.heap.get? b = some o → s'.heap.get? b = some o) → s'.gens = s.gens → s'.os = s.os → s.heap.objs.size ≤ p →
      s'.heap.get? p = some (seqObj "list" out c) → StrsAre out.toList ys → sortedS ys = true → ys.Nodup → (∀ k, k ∈ ys ↔ S k = true) → Q (.ref p) s') :
    wpAny (model prog w) A (call (.builtin "sorted") [.ref a]) Q E s := by
  obtain ⟨o, es, ep, t, ho, hex, hd, g, nd, hm, hb, hf, hn, hr, hl⟩ := R
  refine Calls.call_function_entry kind_sorted plain_sorted entry_sorted (args_sorted1 _) ?_
  unfold Builtin.«sorted»
  refine wpAny_bind (m := checkCount "sorted" 1 1 _) (wpAny_pure ?_)
  refine wpAny_bind (collect_set (A := A.in1) hh ⟨o, ho, hex.1, hd⟩ hf hb hr hl fun s1 vs k1 hz g1 o1 pm => ?_)
  have hvl : vs.length = n := by rw [pm.length_eq, List.length_map, Array.length_toList]; exact hn
  have hI : StrsAre vs (vs.map fun v => keyOf (0, v)) := strs_of vs fun v hv => by
    obtain ⟨e, he, q⟩ := List.mem_map.mp (pm.mem_iff.mp hv)
    obtain ⟨k, tk, h1, _⟩ := g e he
    exact ⟨k, tk, by rw [← q]; exact h1⟩
  have pk : (vs.map fun v => keyOf (0, v)).Perm (es.toList.map keyOf) := by
    have q := pm.map fun v => keyOf (0, v)
    rw [List.map_map] at q
    exact q
  refine wpAny_bind (wpAny_newList ?_ (by rw [hvl, sizeLine_eq]; omega))
  have hoL : (s1.heap.push (seqObj "list" vs.toArray 0)).get? s1.heap.objs.size = some (seqObj "list" vs.toArray 0) := Heap.get?_push_size _ rfl
  refine wpAny_bind (wpAny_holding (wpAny_call_entry slot_list_sort ⟨_, hoL, rfl⟩ entry_list_sort (list_sort_treeKAny strKind_oneLt hoL hI.keysOf (fun v₁ v₂ rest e => keyKind_strs (by rw [← e]; exact hI)) (by rw [hvl, sizeLine_eq]; omega) fun st' a1 a2 => ⟨_, rfl, ?_⟩) (args_list_sort _)))
  obtain ⟨ys, b1, b2, b3⟩ := sorted_out_str hI a1 a2
  obtain ⟨c, hc⟩ := sortedHeap_at (vs := vs) (out := (arrOf st').map (·.2)) hoL
  have pn : ys.Perm (es.toList.map keyOf) := b2.trans pk
  refine wpAny_pure ⟨_, rfl, hQ _ s1.heap.objs.size _ c ys (fun b u e => ?_) g1 o1 hz hc b1 b3 (pn.nodup_iff.mpr nd) (fun k => by rw [pn.mem_iff, ← hm k])⟩
  have q := k1 b u e
  have hlt := Heap.lt_size q
  show (sortedHeap (s1.heap.push (seqObj "list" vs.toArray 0)) s1.heap.objs.size vs _).get? b = some u
  rw [sortedHeap_old (Nat.ne_of_lt hlt) (by rw [size_push']; exact Nat.lt_succ_of_lt hlt)]
  exact Heap.get?_push_of_some _ q
end
end Gt

set_option Elab.async false
set_option linter.all false
set_option maxRecDepth 100000
set_option maxHeartbeats 4000000
namespace L2
open PySem PySem.Spec PyProof.Rows
/-! ### sorted texts -/
def leT (a b : Str) : Prop := ¬ (TL.tl b < TL.tl a)
theorem leT_trans {a b c : Str} (h1 : leT a b) (h2 : leT b c) : leT a c := by
  unfold leT at *
  exact List.not_lt.mpr (List.le_trans (List.not_lt.mp h1) (List.not_lt.mp h2))
theorem leT_anti {a b : Str} (h1 : leT a b) (h2 : leT b a) : a = b := TL.ext_tl (List.le_antisymm (List.not_lt.mp h1) (List.not_lt.mp h2))
theorem rising_pw : ∀ (p : Str) (l : List Str), risingS p l = true → (p :: l).Pairwise leT
  | p, [], _ => by simp
  | p, x :: r, h => by
    have h' : (!ltCps x.cps.toList p.cps.toList && risingS x r) = true := h
    rw [Bool.and_eq_true] at h'
    obtain ⟨h1, h2⟩ := h'
    have ih := rising_pw x r h2
    have px : leT p x := by
      rw [ltCps_eq] at h1
      unfold leT TL.tl
      simpa using h1
    refine List.pairwise_cons.mpr ⟨fun y hy => ?_, ih⟩
    rcases List.mem_cons.mp hy with rfl | hy
    · exact px
    · exact leT_trans px ((List.pairwise_cons.mp ih).1 y hy)
theorem sorted_pw : ∀ {l : List Str}, sortedS l = true → l.Pairwise leT
  | [], _ => List.Pairwise.nil
  | x :: r, h => rising_pw x r h
theorem sorted_one {l m : List Str} (hl : sortedS l = true) (hm : sortedS m = true) (p : l.Perm m) : l = m := p.eq_of_pairwise (fun a b _ _ h1 h2 => leT_anti h1 h2) (sorted_pw hl) (sorted_pw hm)
/-- sorted(set(xs)) == sorted(xs) -/
theorem set_sorted {xs ys zs : List Str} (h1 : sortedS ys = true) (n1 : ys.Nodup) (m1 : ∀ k, k ∈ ys ↔ k ∈ xs) (h2 : sortedS zs = true) (p2 : zs.Perm xs) : decide (ys = zs) = decide xs.Nodup := by
  refine decide_eq_decide.mpr ⟨fun e => ?_, fun hn => ?_⟩
  · subst e
    exact p2.nodup_iff.mp n1
  · refine sorted_one h1 h2 ?_
    refine (List.perm_ext_iff_of_nodup n1 (p2.nodup_iff.mpr hn)).mpr fun k => ?_
    rw [m1 k, p2.mem_iff]
section
variable {prog : Program} {w : World} {A : Around} {E : Value → Shared → Prop} {s : Shared}
theorem collect_tup {l : Addr} {vs : List Value} {Q : List Value → Shared → Prop} (hl : s.heap.IsTuple l vs.toArray)
    (h : Q vs { s with heap := (s.heap.push (seqObj "list" #[] 0)).update s.heap.objs.size (Obj.mapSeq (· ++ vs.toArray)) }) (hsz : vs.length ≤ sizeLine) :
    wpAny (model prog w) A (collect (.ref l)) Q E s := by
  obtain ⟨o, ho, hc, n, hd⟩ := id hl
  unfold collect
  refine wpAny_bind (wpAny_runValue (codeAny_builtin entry_proto_collect' ?_))
  show wpAny _ _ (do again (.builtin "list.__iadd__" ⟨[← newList [], .ref l], []⟩)) _ _ s
  refine wpAny_bind (wpAny_newList (wpAny_pure ⟨Code.quiet_builtin _ (by decide +kernel), codeAny_builtin entry_list_iadd' ?_⟩))
  show wpAny _ _ (Builtin.List.listExtendWith (.ref s.heap.objs.size) (.ref l) (.ref s.heap.objs.size)) _ _ { s with heap := s.heap.push (seqObj "list" #[] 0) }
  unfold Builtin.List.listExtendWith
  have ho' : (s.heap.push (seqObj "list" #[] 0)).get? l = some o := Heap.get?_push_of_some _ ho
  refine wpAny_bind (wpAny_typeOf (T := "tuple") ⟨o, ho', hc⟩ ?_)
  have ht : (Value.type "tuple" == Value.type "tuple") = true := by rfl
  rw [if_pos (by rw [ht]; simp)]
  refine wpAny_bind (listItems_at ho' hd ?_)
  refine wpAny_bind (listItems_at (xs := #[]) (n := 0) (Heap.get?_push_size _ rfl) rfl ?_)
  rw [if_neg (by simp)]
  refine wpAny_bind (listUpdate_at (xs := #[]) (n := 0) (Heap.get?_push_size _ rfl) rfl ?_ (Nat.zero_le _) (by show (#[] ++ vs.toArray).size ≤ sizeLine + 1; simp only [Array.size_append, List.size_toArray, List.length_nil]; omega))
  refine wpAny_pure ?_
  show wpAny (model prog w) A (do
      let o ← load s.heap.objs.size
      match o.data with
      | .seq xs _ => pure xs.toList
      | _ => unsupported "internal:collect") Q E { s with heap := (s.heap.push (seqObj "list" #[] 0)).update s.heap.objs.size (Obj.mapSeq (· ++ vs.toArray)) }
  refine wpAny_bind (wpAny_load (get?_update_seq (Heap.get?_push_size _ rfl) _) ?_)
  show wpAny _ _ (pure ((#[] : Array Value) ++ vs.toArray).toList) Q E _
  rw [show ((#[] : Array Value) ++ vs.toArray).toList = vs by simp]
  exact wpAny_pure h
theorem sorted_strsT {l : Addr} {vs : List Value} {ss : List Str} {Q : Value → Shared → Prop} (hl : s.heap.IsTuple l vs.toArray) (hS : StrsAre vs ss) (hL : vs.length ≤ sizeLine)
    (h : ∀ (out : Array Value) (ss' : List Str), StrsAre out.toList ss' → ss'.Perm ss → sortedS ss' = true → Q (.ref (s.heap.objs.size + 1)) { s with heap := sortedAll s.heap vs out }) :
    wpAny (model prog w) A (call (.builtin "sorted") [.ref l]) Q E s := by
  refine Calls.call_function_entry kind_sorted plain_sorted entry_sorted (args_sorted1 _) ?_
  unfold Builtin.«sorted»
  refine wpAny_bind (m := checkCount "sorted" 1 1 _) (wpAny_pure ?_)
  refine wpAny_bind (collect_tup hl ?_ hL)
  refine wpAny_bind (wpAny_newList ?_ hL)
  have hsz : ((s.heap.push (seqObj "list" #[] 0)).update s.heap.objs.size (Obj.mapSeq (· ++ vs.toArray))).objs.size = s.heap.objs.size + 1 := by
    rw [Heap.size_update, size_push']
  have hoL : (((s.heap.push (seqObj "list" #[] 0)).update s.heap.objs.size (Obj.mapSeq (· ++ vs.toArray))).push (seqObj "list" vs.toArray 0)).get? (s.heap.objs.size + 1) = some (seqObj "list" vs.toArray 0) := by
    rw [← hsz]; exact Heap.get?_push_size _ rfl
  show wpAny _ _ _ _ _ { s with heap := ((s.heap.push (seqObj "list" #[] 0)).update s.heap.objs.size (Obj.mapSeq (· ++ vs.toArray))).push (seqObj "list" vs.toArray 0) }
  rw [hsz]
  refine wpAny_bind (wpAny_holding (wpAny_call_entry slot_list_sort ⟨_, hoL, rfl⟩ entry_list_sort (list_sort_treeKAny strKind_oneLt hoL hS.keysOf (fun v₁ v₂ rest e => keyKind_strs (by rw [← e]; exact hS)) hL fun st' a1 a2 => ⟨_, rfl, ?_⟩) (args_list_sort _)))
  obtain ⟨ys, b1, b2, b3⟩ := sorted_out_str hS a1 a2
  exact wpAny_pure ⟨_, rfl, h _ ys b1 b2 b3⟩
end
section
variable {X : Cx}
/-- sorted(t), a tuple of texts -/
def rSortTS (K : PySem.W.Frag) : List V → Hp → VK → Prop := fun vs H Q => ∃ (a : Addr) (xs : List Str), vs = [V.ref a] ∧ SqT K H a (xs.map V.str) ∧
  ∀ (ys : List Str) (p : Addr), ys.Perm xs → sortedS ys = true → H p = none → Q (.ref p) (upd H p (.lst (ys.map V.str)))
theorem cr_sortTS : CallR X (.builtin "sorted") (rSortTS X.K) := by
  intro pins s σ H vs us Q I r h
  obtain ⟨a, xs, rfl, hs, q⟩ := h
  obtain ⟨its, rv, hl, hz⟩ := I.tuple hs
  rw [Vals.ref1 r]
  have hlen0 := rv.length
  refine sorted_strsT hl rv.strs (by rw [← hlen0]; exact hz) fun out ys h1 h2 h3 => ?_
  obtain ⟨ep, he'⟩ := PyProof.Rows.sortedAll_at s.heap its out
  have hlen : (ys.map V.str).length ≤ sizeLine := by
    rw [List.length_map, h2.length_eq]
    rw [List.length_map] at hz
    exact hz
  exact ⟨.ref _, upd H (s.heap.objs.size + 1) (.lst (ys.map V.str)), I.laid (t' := s.toks) (fun _ _ => PyProof.Rows.sortedAll_old) (Nat.le_succ _) ⟨hlen, out.toList, ep, vals_of_strs h1, he'⟩, rfl, q ys _ h2 h3 (I.hok.fresh (Nat.le_succ _))⟩
/-- sorted(set(xs)), xs a list or a tuple of texts -/
def tSortSet (K : PySem.W.Frag) (ta : TE) : TE := fun σ H Q => ta σ H fun x H1 => ∃ (l : Addr) (xs : List Str), x = .ref l ∧ (SqL K H1 l (xs.map V.str) ∨ SqT K H1 l (xs.map V.str)) ∧ xs.length < 60 ∧
  ∀ (ys : List Str) (p : Addr), sortedS ys = true → ys.Nodup → (∀ k, k ∈ ys ↔ k ∈ xs) → H1 p = none → Q (.ref p) (upd H1 p (.lst (ys.map V.str)))
theorem pe_sortSet {a : Expr} {ta : TE} {p p2 q pos : Pos} (hc : X.calm = true) (hg : Gl X "sorted") (hm : X.mg "sorted" = none) (hg2 : Gl X "set") (hm2 : X.mg "set" = none) (ha : PE X a ta)
    (na : starEach [a] X.env = (false, eval a X.env) :: starEach [] X.env := by rfl) : PE X (.Call (.Name "sorted" p) [.Call (.Name "set" p2) [a] [] q] [] pos) (tSortSet X.K ta) := by
  refine ⟨fun pins s σ H Q I h => ?_⟩
  refine Call_ (ld_blt I hg hm (show bootBuiltins "sorted" = some (.builtin "sorted") from by decide +kernel) (PyProof.Rows.callWith_builtin1 (PyProof.Rows.args_cons ?_ rfl) rfl rfl))
  refine Call_ (ld_blt I hg2 hm2 boot_set (PyProof.Rows.callWith_type1 (PyProof.Rows.args_cons (thn (ha.run pins s σ H _ I h) fun v s1 hv => PyProof.Rows.args_nil ?_) na) na rfl))
  obtain ⟨x, H1, I1, r1, l, xs, rfl, hq, h1, q1⟩ := hv
  cases r1
  have sb : (61 : Nat) < scanBound := by unfold scanBound; decide
  have back : ∀ (h2 : Heap) (t2 : Nat), Gt.SetS X.prog X.w h2 s1.heap.objs.size (Gs.mem xs xs.length) (Gs.dst xs xs.length) → (∀ b o, s1.heap.get? b = some o → h2.get? b = some o) →
      wpAny (model X.prog X.w) X.A (spliced (backTo pos (starEach [] X.env))) (fun vs s2 => wpAny (model X.prog X.w) X.A (call (.builtin "sorted") (Value.ref s1.heap.objs.size :: vs)) (EP X pins σ Q) X.xe s2) X.xe { s1 with heap := h2, toks := t2 } := fun h2 t2 hS keep => by
    refine PyProof.Rows.args_nil ?_
    have le := Gs.dst_le xs xs.length
    have I2 : Inv X pins σ H1 { s1 with heap := h2, toks := t2 } := I1.kept keep
    refine Gt.sorted_set hS (I1.ok.hd hc) (by omega) fun s' p out c ys k2 g2 o2 hz hp hI hs hn hmem => ?_
    have hsz : s1.heap.objs.size ≤ h2.objs.size := by
      obtain ⟨o, es, ep, t, ho, _⟩ := hS
      exact Nat.le_of_lt (Heap.lt_size ho)
    have fr : H1 p = none := I2.hok.fresh hz
    have hlen : (ys.map V.str).length ≤ sizeLine := by
      rw [List.length_map]
      have sub := nodup_sub_len ys xs hn fun k hk => (hmem k).mp hk |> fun z => by
        unfold Gs.mem at z
        have z := of_decide_eq_true z
        exact List.mem_of_mem_take z
      rw [sizeLine_eq]
      omega
    have J : Inv X pins σ (upd H1 p (.lst (ys.map V.str))) { { s1 with heap := h2, toks := t2 } with heap := s'.heap, gens := s'.gens, drawn := s'.drawn, toks := s'.toks } :=
      I2.call (ch := []) (Un.laid k2 hz fr) (I2.hok.laid k2 hz ⟨hlen, out.toList, c, vals_of_strs hI, hp⟩) (by rw [g2]; exact I2.bare) (fun _ z => nomatch z)
    have e : s' = { { s1 with heap := h2, toks := t2 } with heap := s'.heap, gens := s'.gens, drawn := s'.drawn, toks := s'.toks } := by
      cases s'
      cases s1
      cases o2
      rfl
    rw [e]
    refine ⟨.ref p, _, J, rfl, q1 ys p hs hn (fun k => ?_) fr⟩
    rw [hmem k]
    unfold Gs.mem
    rw [decide_eq_true_eq, List.take_length]
  have at_ : ∀ {its : List Value}, Vals (xs.map V.str) its → ∀ (i : Nat) (v : Value), its.toArray[i]? = some v → ∃ t, v = .str (xs.getD i Str.empty) t := fun {its} r i v hv => by
    have hv2 : its[i]? = some v := by simpa using hv
    have lx : i < xs.length := by
      obtain ⟨h3, _⟩ := List.getElem?_eq_some_iff.mp hv2
      have := r.length
      rw [List.length_map] at this
      omega
    obtain ⟨u, hu, ru⟩ := r.get (i := i) (x := .str xs[i]) (by rw [List.getElem?_map, List.getElem?_eq_getElem lx]; rfl)
    rw [hv2] at hu
    obtain rfl := Option.some.inj hu
    rw [Gs.getD_at lx]
    exact ru
  rcases hq with hq | hq
  · obtain ⟨its, r, pl, hz⟩ := I1.list hq
    have hl : xs.length = its.toArray.size := by rw [List.size_toArray, ← r.length, List.length_map]
    refine Gt.set_call (I1.ok.hd hc) (Gs.row_list pl.isList) hl (by omega) (at_ r) fun h2 t2 hS keep => back h2 t2 (by rw [hl]; exact hS) keep
  · obtain ⟨its, r, pl, hz⟩ := I1.tuple hq
    have hl : xs.length = its.toArray.size := by rw [List.size_toArray, ← r.length, List.length_map]
    refine Gt.set_call (I1.ok.hd hc) (Gs.row_tuple pl) hl (by omega) (at_ r) fun h2 t2 hS keep => back h2 t2 (by rw [hl]; exact hS) keep
theorem call_repr_bl : CallR X (.builtin "repr") (fun xs H Q => ∃ b : Bool, xs = [.bl b] ∧ Q (.str (if b then "True" else "False")) H) := by
  intro pins s σ H xs us Q I r h
  obtain ⟨b, rfl, q⟩ := h
  obtain ⟨u, rfl, r1⟩ := vals1 r
  cases r1
  exact PySem.P.repr_of_bool ⟨.str _, H, I.tok _, ⟨_, rfl⟩, q⟩
/-- != of lists, where one of them is empty -/
def rNeE (K : PySem.W.Frag) : R2 := fun x y H Q => ∃ (a b : Addr) (xs : List V), x = .ref a ∧ y = .ref b ∧ SqL K H a xs ∧ SqL K H b [] ∧ Q (.bl (!xs.isEmpty)) H
theorem op_neE (hu : X.A.units + 64 < cLine) : OpR X (compareOp .NotEq) (rNeE X.K) := by
  intro pins s σ H x y v u Q I rx ry h
  obtain ⟨a, b, xs, rfl, rfl, ha, hb, q⟩ := h
  cases xs with
  | nil => exact op_neD hu pins s σ H _ _ v u Q I rx ry ⟨.list [], .list [], .lst ha .nil, .lst hb .nil, rfl, rfl, q⟩
  | cons z r =>
    cases rx
    cases ry
    obtain ⟨its, r1, pl, hz⟩ := I.list ha
    obtain ⟨its2, r2, pl2, hz2⟩ := I.list hb
    have e1 := r1.length
    have e2 := r2.length
    refine PySem.SeqAt.RcNeAt.lists_lengths pl.isList pl2.isList ?_ (by omega) X.prog X.w X.xe _ ⟨.bl _, H, I, rfl, q⟩
    have e3 : its.length = r.length + 1 := e1.symm
    have e4 : its2.length = 0 := e2.symm
    simp [e3, e4]
/-- == of lists, where one of them is empty -/
def rEqE (K : PySem.W.Frag) : R2 := fun x y H Q => ∃ (a b : Addr) (xs : List V), x = .ref a ∧ y = .ref b ∧ SqL K H a xs ∧ SqL K H b [] ∧ Q (.bl xs.isEmpty) H
theorem op_eqE (hu : X.A.units + 64 < cLine) : OpR X (compareOp .Eq) (rEqE X.K) := by
  intro pins s σ H x y v u Q I rx ry h
  obtain ⟨a, b, xs, rfl, rfl, ha, hb, q⟩ := h
  cases xs with
  | nil => exact op_eqD hu pins s σ H _ _ v u Q I rx ry ⟨.list [], .list [], .lst ha .nil, .lst hb .nil, rfl, rfl, q⟩
  | cons z r =>
    cases rx
    cases ry
    obtain ⟨its, r1, pl, hz⟩ := I.list ha
    obtain ⟨its2, r2, pl2, hz2⟩ := I.list hb
    have e1 := r1.length
    have e2 := r2.length
    refine PySem.SeqAt.RcAt.lists_lengths pl.isList pl2.isList ?_ (by omega) X.prog X.w X.xe _ ⟨.bl _, H, I, rfl, q⟩
    have e3 : its.length = r.length + 1 := e1.symm
    have e4 : its2.length = 0 := e2.symm
    simp [e3, e4]
end
end L2

set_option Elab.async false
set_option linter.all false
set_option maxRecDepth 100000
set_option maxHeartbeats 4000000
namespace L2
open PySem PySem.Spec PyProof.Rows
abbrev signs (z : Str) : List V := (TL.tl z).map fun c => V.str (sg c)
theorem signs_strs (z : Str) : signs z = ((TL.tl z).map sg).map V.str := by rw [List.map_map]; rfl
theorem vals_signs {z : Str} : ∀ {k : Nat} {vs : List Value} {cs : List Nat}, vs.length = cs.length → (∀ (j : Nat) (v : Value), vs[j]? = some v → ∃ (c : Nat) (u : Tok), cs[j]? = some c ∧ v = Value.str ⟨#[c]⟩ u) → Vals (cs.map fun c => V.str (sg c)) vs
  | _, [], [], _, _ => .nil
  | _, [], c :: r, h, _ => by cases h
  | _, v :: r, [], h, _ => by cases h
  | k, v :: r, c :: cs, h, hs => by
    obtain ⟨c', u, h1, h2⟩ := hs 0 v rfl
    have e : c = c' := Option.some.inj h1
    subst e
    refine .cons ⟨u, h2⟩ (vals_signs (z := z) (k := k) (Nat.succ.inj h) fun j w hw => hs (j + 1) w hw)
section
variable {X : Cx}
/-- list(z) of a text -/
def rListS : List V → Hp → VK → Prop := fun xs H Q => ∃ z : Str, xs = [.str z] ∧ z.length ≤ 100000 ∧ ∀ l, H l = none → Q (.ref l) (upd H l (.lst (signs z)))
theorem call_listS (hc : X.calm = true) : CallR X (.type "list") rListS := by
  intro pins s σ H xs us Q I r h
  obtain ⟨z, rfl, hz, q⟩ := h
  obtain ⟨u, rfl, t, rfl⟩ := vals1 r
  have hz' : z.cps.size ≤ sizeLine := by
    rw [sizeLine_eq]
    have e : z.cps.size = z.length := rfl
    omega
  refine call_list_str (I.ok.hd hc) z t (fun h' tk acc' c' kp e hi => ?_) hz'
  obtain ⟨h1, h2⟩ := hi
  have rv : Vals (signs z) acc'.toList := vals_signs (z := z) (k := 0) (by rw [Array.length_toList, h1]; rfl) fun j v hv => by
    obtain ⟨c, u, hc2, rfl⟩ := h2 j v (by simpa using hv)
    refine ⟨c, u, ?_, rfl⟩
    show z.cps.toList[j]? = some c
    rw [Array.getElem?_toList]
    exact hc2
  have hlen : (signs z).length ≤ sizeLine := by
    rw [List.length_map, TL.len_tl z |>.symm]
    exact hz'
  exact ⟨.ref s.heap.objs.size, _, I.laid (t' := tk) kp (Nat.le_refl _) (show ObjOk X.prog X.w _ h' _ (.lst (signs z)) from ⟨hlen, acc'.toList, c', rv, e⟩), rfl, q _ (I.hok.fresh (Nat.le_refl _))⟩
end
/-! ### values of other kinds -/
section
variable {K : PySem.W.Frag} {H : Hp}
theorem NmV.non : NmV K H .non false := .inr ⟨rfl, _, .base .non, kit_ty (by decide +kernel)⟩
theorem NmV.int (i : Int) : NmV K H (.int i) false := .inr ⟨rfl, _, .base (.int i), kit_ty (by decide +kernel)⟩
theorem NmV.lst {a : Addr} {xs : List V} (e : H a = some (.lst xs)) : NmV K H (.ref a) false := .inr ⟨rfl, _, .base (.lst e), kit_ty (by decide +kernel)⟩
theorem NmV.tup {a : Addr} {xs : List V} (e : H a = some (.tup xs)) : NmV K H (.ref a) false := .inr ⟨rfl, _, .base (.tup e), kit_ty (by decide +kernel)⟩
theorem NmV.dK {a : Addr} {kvs : List (Key × V)} (e : H a = some (.dK kvs)) : NmV K H (.ref a) false := .inr ⟨rfl, _, .base (.dK e), kit_ty (by decide +kernel)⟩
theorem NmsV.non : NmsV K H .non false := .inr ⟨rfl, _, .base .non, kit_ty (by decide +kernel)⟩
theorem NmsV.int (i : Int) : NmsV K H (.int i) false := .inr ⟨rfl, _, .base (.int i), kit_ty (by decide +kernel)⟩
theorem NmsV.txt (z : Str) : NmsV K H (.str z) false := .inr ⟨rfl, _, .base (.str z), kit_ty (by decide +kernel)⟩
theorem NmsV.lst {a : Addr} {xs : List V} (e : H a = some (.lst xs)) : NmsV K H (.ref a) false := .inr ⟨rfl, _, .base (.lst e), kit_ty (by decide +kernel)⟩
theorem NmsV.dK {a : Addr} {kvs : List (Key × V)} (e : H a = some (.dK kvs)) : NmsV K H (.ref a) false := .inr ⟨rfl, _, .base (.dK e), kit_ty (by decide +kernel)⟩
theorem pairedImp {α β : Type} {R S : α → β → Prop} (h : ∀ a b, R a b → S a b) : ∀ {xs : List α} {ys : List β}, Paired R xs ys → Paired S xs ys
  | _, _, .nil => .nil
  | _, _, .cons r t => .cons (h _ _ r) (pairedImp h t)
theorem NmsV.same {H' : Hp} {x : V} {b : Bool} (s : Same H H') (h : NmsV K H x b) : NmsV K H' x b := by
  rcases h with ⟨a, xs, bs, e, hS, hT, hP, hb⟩ | ⟨e, t, ht, hk⟩
  · exact .inl ⟨a, xs, bs, e, gSeqT s hS, hT.same s, pairedImp (fun _ _ q => q.same s) hP, hb⟩
  · exact .inr ⟨e, t, ht.same s, hk⟩
end
/-! ### what an integer is -/
def IntV (K : PySem.W.Frag) (H : Hp) (x : V) (b : Bool) : Prop :=
  (∃ i : Int, x = .int i ∧ b = (decide (-(10 ^ 60) < i) && decide (i < 10 ^ 60))) ∨ ((∃ c, x = .bl c) ∧ b = false) ∨ (b = false ∧ ∃ t, TyX K H x t ∧ PySem.W.kitOne K t (.type "int") = some false)
def spIsInt (K : PySem.W.Frag) : Sp := fun vs H Q _ => ∃ (x : V) (b : Bool), vs = [x] ∧ IntV K H x b ∧ Q (.bl b) H
section
variable {K : PySem.W.Frag} {H : Hp}
theorem IntV.non : IntV K H .non false := .inr (.inr ⟨rfl, _, .base .non, kit_ty (by decide +kernel)⟩)
theorem IntV.txt (z : Str) : IntV K H (.str z) false := .inr (.inr ⟨rfl, _, .base (.str z), kit_ty (by decide +kernel)⟩)
theorem IntV.lst {a : Addr} {xs : List V} (e : H a = some (.lst xs)) : IntV K H (.ref a) false := .inr (.inr ⟨rfl, _, .base (.lst e), kit_ty (by decide +kernel)⟩)
theorem IntV.tup {a : Addr} {xs : List V} (e : H a = some (.tup xs)) : IntV K H (.ref a) false := .inr (.inr ⟨rfl, _, .base (.tup e), kit_ty (by decide +kernel)⟩)
theorem IntV.dK {a : Addr} {kvs : List (Key × V)} (e : H a = some (.dK kvs)) : IntV K H (.ref a) false := .inr (.inr ⟨rfl, _, .base (.dK e), kit_ty (by decide +kernel)⟩)
theorem IntV.bl (c : Bool) : IntV K H (.bl c) false := .inr (.inl ⟨⟨c, rfl⟩, rfl⟩)
end
/-- what is laid anew, without its heap's words -/
theorem newO {H : Hp} {o : HO} {Q : VK} (h : ∀ (p : Addr) (H' : Hp), H p = none → H' p = some o → Same H H' → Q (.ref p) H') : ∀ p, H p = none → Q (.ref p) (upd H p o) := fun p hp => h p _ hp upd_same (gSame_new hp)
theorem sum8 : ∀ ss : List Str, (∀ s ∈ ss, isW s = true) → (ss.map (·.length)).sum ≤ ss.length * 8
  | [], _ => Nat.le_refl _
  | s :: r, h => by
    have h1 := (isW_len (h s (List.mem_cons_self ..))).2
    have h2 := sum8 r fun x hx => h x (List.mem_cons_of_mem _ hx)
    rw [List.map_cons, List.sum_cons, List.length_cons]
    omega
theorem IntV.same {K : PySem.W.Frag} {H H' : Hp} {x : V} {b : Bool} (s : Same H H') (h : IntV K H x b) : IntV K H' x b := by
  rcases h with h | h | ⟨e, t, ht, hk⟩
  · exact .inl h
  · exact .inr (.inl h)
  · exact .inr (.inr ⟨e, t, ht.same s, hk⟩)
theorem c60 : CPowW 10 60 := ⟨by decide, by decide +kernel⟩
theorem c54 : CPowW 10 54 := ⟨by decide, by decide +kernel⟩
theorem c55 : CPowW 10 55 := ⟨by decide, by decide +kernel⟩
theorem c39 : CPowW 10 39 := ⟨by decide, by decide +kernel⟩
theorem c6 : CPowW 10 6 := ⟨by decide, by decide +kernel⟩
end L2

set_option Elab.async false
set_option linter.all false
set_option maxRecDepth 100000
set_option maxHeartbeats 4000000
/-! what is laid anew stands in a heap of which only that is told -/
namespace L2
open PySem PySem.Spec PyProof.Rows
def New (H : Hp) (o : HO) (Q : VK) : Prop := ∀ (p : Addr) (H' : Hp), H p = none → H' p = some o → Same H H' → Q (.ref p) H'
theorem New.go {H : Hp} {o : HO} {Q : VK} (h : New H o Q) (p : Addr) (hp : H p = none) : Q (.ref p) (upd H p o) := h p _ hp upd_same (gSame_new hp)
def tTupN (t : TA) : TE := fun σ H Q => t σ H fun xs H1 => xs.length ≤ sizeLine ∧ New H1 (.tup xs) Q
def tLstN (t : TA) : TE := fun σ H Q => t σ H fun xs H1 => xs.length ≤ sizeLine ∧ New H1 (.lst xs) Q
section
variable {X : Cx} {es : List Expr} {t : TA} {pos : Pos}
theorem pe_tupN {x1} (h : PA X es t) : PE X (.Tuple es x1 pos) (tTupN t) := by
  refine ⟨fun pins s σ H Q I hq => ?_⟩
  refine wpAny_Tuple_spliced (thn (h.run pos pins s σ H _ I hq) fun us s1 ⟨xs, H1, I1, r, z, q⟩ => ⟨by rw [← r.length]; exact z, ?_⟩)
  have hf : H1 s1.heap.objs.size = none := I1.hok.fresh (Nat.le_refl _)
  refine ⟨.ref s1.heap.objs.size, upd H1 s1.heap.objs.size (.tup xs), I1.laid (t' := s1.toks) (fun b u e => Heap.get?_push_of_some _ e) (Nat.le_refl _) ?_, rfl, q.go _ hf⟩
  exact ⟨z, us, r, ⟨_, Heap.get?_push_size _ rfl, rfl, _, rfl⟩⟩
theorem pe_lstN (h : PA X es t) : PE X (.List es pos) (tLstN t) := by
  refine ⟨fun pins s σ H Q I hq => ?_⟩
  refine wpAny_List_spliced (thn (h.run pos pins s σ H _ I hq) fun us s1 ⟨xs, H1, I1, r, z, q⟩ => ⟨by rw [← r.length]; exact z, ?_⟩)
  have hf : H1 s1.heap.objs.size = none := I1.hok.fresh (Nat.le_refl _)
  refine ⟨.ref s1.heap.objs.size, upd H1 s1.heap.objs.size (.lst xs), I1.laid (t' := s1.toks) (fun b u e => Heap.get?_push_of_some _ e) (Nat.le_refl _) ?_, rfl, q.go _ hf⟩
  exact ⟨z, us, 0, r, Heap.get?_push_size _ rfl⟩
def rCatN : R2 := fun x y H Q => ∃ l b xs zs, x = .ref l ∧ y = .ref b ∧ H l = some (.lst xs) ∧ H b = some (.lst zs) ∧ xs.length + zs.length ≤ sizeLine ∧ New H (.lst (xs ++ zs)) Q
theorem op_catN : OpR X (binaryOp .Add) rCatN := fun pins s σ H x y v u Q I rx ry ⟨l, b, xs, zs, e1, e2, h1, h2, hl, q⟩ => op_cat pins s σ H x y v u Q I rx ry ⟨l, b, xs, zs, e1, e2, h1, h2, hl, q.go⟩
def rSlLN (K : PySem.W.Frag) : V → Option Int → Option Int → Hp → VK → Prop := fun x lo hi H Q => ∃ a xs, x = .ref a ∧ SqL K H a xs ∧ New H (.lst (cutV xs lo hi)) Q
theorem sl_listN : SlR X (rSlLN X.K) := fun pins s σ H x v vl vu lo hi sl Q I rx hs pl pu ⟨a, xs, e, hq, q⟩ => sl_list pins s σ H x v vl vu lo hi sl Q I rx hs pl pu ⟨a, xs, e, hq, q.go⟩
def rTupN (K : PySem.W.Frag) : List V → Hp → VK → Prop := fun xs H Q => ∃ p ys, xs = [.ref p] ∧ SqL K H p ys ∧ New H (.tup ys) Q
theorem call_tupN : CallR X (.type "tuple") (rTupN X.K) := fun pins s σ H xs us Q I r ⟨p, ys, e, h, q⟩ => call_tuple_of pins s σ H xs us Q I r ⟨p, ys, e, .inl ⟨h, q.go⟩⟩
def rLstN (K : PySem.W.Frag) : List V → Hp → VK → Prop := fun xs H Q => ∃ p ys, xs = [.ref p] ∧ (SqL K H p ys ∨ SqT K H p ys) ∧ New H (.lst ys) Q
theorem call_lstN : CallR X (.type "list") (rLstN X.K) := fun pins s σ H xs us Q I r ⟨p, ys, e, h, q⟩ => call_list_of pins s σ H xs us Q I r ⟨p, ys, e, h, q.go⟩
def rListSN : List V → Hp → VK → Prop := fun xs H Q => ∃ z : Str, xs = [.str z] ∧ z.length ≤ 100000 ∧ New H (.lst (signs z)) Q
theorem call_listSN (hc : X.calm = true) : CallR X (.type "list") rListSN := fun pins s σ H xs us Q I r ⟨z, e, h, q⟩ => call_listS hc pins s σ H xs us Q I r ⟨z, e, h, q.go⟩
def tDNewTN : TE := fun _ H Q => New H (.dT []) Q
theorem pe_dnewTN : PE X (.Dict [] [] pos) tDNewTN := ⟨fun pins s σ H Q I h => pe_dnewT.run pins s σ H Q I h.go⟩
def tDNewN : TE := fun _ H Q => New H (.dK []) Q
theorem pe_dnewN : PE X (.Dict [] [] pos) tDNewN := ⟨fun pins s σ H Q I h => pe_dnewK.run pins s σ H Q I h.go⟩
end
theorem New.kt {H : Hp} {o : HO} {Q : VK} {t : Addr} (hT : Tp H t) (h : ∀ (p : Addr) (H' : Hp), H' p = some o → Same H H' → Tp H' t → Q (.ref p) H') : New H o Q := fun p H' _ e s => h p H' e s (by
  obtain ⟨a, b, c, q⟩ := hT
  exact ⟨a, b, c, s _ _ q⟩)
end L2

set_option Elab.async false
set_option linter.all false
set_option maxRecDepth 100000
set_option maxHeartbeats 4000000
/-! texts of few signs; texts split and put together -/
namespace L2
open PySem PySem.Spec PyProof.Rows
def lev (cs : List Nat) : Nat → List Str
  | 0 => [Str.ofString ""]
  | n + 1 => (lev cs n).flatMap fun z => cs.map fun c => z ++ sg c
def allT (cs : List Nat) : Nat → List Str
  | 0 => [Str.ofString ""]
  | n + 1 => allT cs n ++ lev cs (n + 1)
theorem tl_sg (z : Str) (c : Nat) : TL.tl (z ++ sg c) = TL.tl z ++ [c] := by
  rw [TL.tl_append]
  rfl
theorem tl_empty : TL.tl (Str.ofString "") = [] := by decide +kernel
theorem fm_len {α β : Type} (f : α → List β) (k : Nat) : ∀ l : List α, (∀ a ∈ l, (f a).length = k) → (l.flatMap f).length = l.length * k
  | [], _ => by simp
  | a :: r, h => by
    have ih := fm_len f k r fun x hx => h x (List.mem_cons_of_mem _ hx)
    rw [List.flatMap_cons, List.length_append, h a (List.mem_cons_self ..), ih, List.length_cons, Nat.succ_mul]
    omega
theorem lev_len (cs : List Nat) : ∀ n, (lev cs n).length = cs.length ^ n
  | 0 => by simp [lev]
  | n + 1 => by
    unfold lev
    rw [fm_len _ cs.length _ (fun a _ => List.length_map ..), lev_len cs n, Nat.pow_succ]
theorem lev_of {cs : List Nat} : ∀ {n : Nat} {z : Str}, z ∈ lev cs n → (TL.tl z).length = n ∧ ∀ c ∈ TL.tl z, c ∈ cs
  | 0, z, h => by
    rw [List.mem_singleton.mp h, tl_empty]
    exact ⟨rfl, by simp⟩
  | n + 1, z, h => by
    obtain ⟨y, hy, hz⟩ := List.mem_flatMap.mp h
    obtain ⟨c, hc, rfl⟩ := List.mem_map.mp hz
    obtain ⟨h1, h2⟩ := lev_of hy
    rw [tl_sg]
    refine ⟨by rw [List.length_append, h1]; rfl, fun d hd => ?_⟩
    rcases List.mem_append.mp hd with h | h
    · exact h2 d h
    · rw [List.mem_singleton.mp h]
      exact hc
theorem app_sg {a b : Str} {c d : Nat} (h : a ++ sg c = b ++ sg d) : a = b ∧ c = d := by
  have e := congrArg TL.tl h
  rw [tl_sg, tl_sg] at e
  have e1 := List.append_inj_left' e rfl
  have e2 := List.append_inj_right' e rfl
  cases e2
  exact ⟨TL.ext_tl e1, rfl⟩
theorem lev_nd {cs : List Nat} (hc : cs.Nodup) : ∀ n, (lev cs n).Nodup
  | 0 => by simp [lev]
  | n + 1 => by
    unfold lev
    rw [List.nodup_iff_pairwise_ne, List.pairwise_flatMap]
    refine ⟨fun z _ => ?_, ?_⟩
    · rw [List.pairwise_map]
      exact (List.nodup_iff_pairwise_ne.mp hc).imp fun {a b} ne e => ne (app_sg e).2
    · refine (List.nodup_iff_pairwise_ne.mp (lev_nd hc n)).imp fun {a b} ne x hx y hy e => ?_
      obtain ⟨c, _, rfl⟩ := List.mem_map.mp hx
      obtain ⟨d, _, rfl⟩ := List.mem_map.mp hy
      exact ne (app_sg e).1
theorem allT_of {cs : List Nat} : ∀ {n : Nat} {z : Str}, z ∈ allT cs n → (TL.tl z).length ≤ n ∧ ∀ c ∈ TL.tl z, c ∈ cs
  | 0, z, h => by
    rw [List.mem_singleton.mp h, tl_empty]
    exact ⟨Nat.le_refl _, by simp⟩
  | n + 1, z, h => by
    rcases List.mem_append.mp h with h | h
    · obtain ⟨h1, h2⟩ := allT_of h
      exact ⟨by omega, h2⟩
    · obtain ⟨h1, h2⟩ := lev_of h
      exact ⟨by omega, h2⟩
theorem allT_nd {cs : List Nat} (hc : cs.Nodup) : ∀ n, (allT cs n).Nodup
  | 0 => by simp [allT]
  | n + 1 => by
    unfold allT
    rw [List.nodup_append]
    refine ⟨allT_nd hc n, lev_nd hc (n + 1), fun a ha b hb e => ?_⟩
    subst e
    have h1 := (allT_of ha).1
    have h2 := (lev_of hb).1
    omega
theorem lev_few {cs : List Nat} (h : cs.length = 4) {n : Nat} (hn : n ≤ 4) : (lev cs n).length ≤ 256 := by
  rw [lev_len, h]
  exact Nat.pow_le_pow_right (by decide) hn
theorem allT_few {cs : List Nat} (h : cs.length = 4) : ∀ {n : Nat}, n ≤ 4 → (allT cs n).length ≤ (n + 1) * 256
  | 0, _ => by show 1 ≤ 256; decide
  | n + 1, hn => by
    have h1 := allT_few h (n := n) (by omega)
    have h2 := lev_few h hn
    unfold allT
    rw [List.length_append]
    omega
/-! ### split -/
theorem spl_ne (S : List Nat) : ∀ (l : List Nat) (k : Nat) (acc : List Nat), TL.spl S k acc l ≠ []
  | [], k, acc => by rw [TL.spl_nil]; simp
  | c :: r, k + 1, acc => spl_ne S r k acc
  | c :: r, 0, acc => by
    cases hp : TL.pre S (c :: r) with
    | true => rw [TL.spl_hit hp]; simp
    | false => rw [TL.spl_miss hp]; exact spl_ne S r 0 _
theorem spl_sub (S : List Nat) : ∀ (l : List Nat) (k : Nat) (acc p : List Nat), p ∈ TL.spl S k acc l → ∀ c ∈ p, c ∈ acc ∨ c ∈ l
  | [], k, acc, p, h, c, hc => by
    rw [TL.spl_nil] at h
    rw [List.mem_singleton.mp h] at hc
    exact .inl hc
  | d :: r, k + 1, acc, p, h, c, hc => (spl_sub S r k acc p h c hc).imp id (List.mem_cons_of_mem _)
  | d :: r, 0, acc, p, h, c, hc => by
    cases hp : TL.pre S (d :: r) with
    | true =>
      rw [TL.spl_hit hp] at h
      rcases List.mem_cons.mp h with rfl | h
      · exact .inl hc
      · rcases spl_sub S r _ [] p h c hc with z | z
        · cases z
        · exact .inr (List.mem_cons_of_mem _ z)
    | false =>
      rw [TL.spl_miss hp] at h
      rcases spl_sub S r 0 _ p h c hc with z | z
      · rcases List.mem_append.mp z with z | z
        · exact .inl z
        · rw [List.mem_singleton.mp z]
          exact .inr (List.mem_cons_self ..)
      · exact .inr (List.mem_cons_of_mem _ z)
theorem spl_no (s : Nat) : ∀ (l : List Nat) (acc p : List Nat), s ∉ acc → p ∈ TL.spl [s] 0 acc l → s ∉ p
  | [], acc, p, ha, h => by
    rw [TL.spl_nil] at h
    rw [List.mem_singleton.mp h]
    exact ha
  | d :: r, acc, p, ha, h => by
    cases hp : TL.pre [s] (d :: r) with
    | true =>
      rw [TL.spl_hit hp] at h
      rcases List.mem_cons.mp h with rfl | h
      · exact ha
      · exact spl_no s r [] p (by simp) h
    | false =>
      rw [TL.spl_miss hp] at h
      refine spl_no s r _ p (fun z => ?_) h
      rcases List.mem_append.mp z with z | z
      · exact ha z
      · have e := List.mem_singleton.mp z
        rw [e] at hp
        simp [TL.pre] at hp
theorem split_tl (z : Str) : (Txt.split z " ").map TL.tl = TL.spl [32] 0 [] (TL.tl z) := by
  have h := TL.split_spl z " " (by decide +kernel) (TL.kind_ok (by decide +kernel))
  rw [tl_sp] at h
  exact h
theorem split_ne (z : Str) : Txt.split z " " ≠ [] := fun h => by
  have e := split_tl z
  rw [h] at e
  exact spl_ne _ _ _ _ e.symm
theorem split_part {z p : Str} (h : p ∈ Txt.split z " ") : (∀ c ∈ TL.tl p, c ∈ TL.tl z) ∧ 32 ∉ TL.tl p := by
  have hm : TL.tl p ∈ (Txt.split z " ").map TL.tl := List.mem_map.mpr ⟨p, h, rfl⟩
  rw [split_tl] at hm
  exact ⟨fun c hc => (spl_sub _ _ _ _ _ hm c hc).elim (fun z => nomatch z) id, spl_no 32 _ _ _ (by simp) hm⟩
theorem jn_split (z : Str) : jn (Txt.split z " ") = z := by
  unfold jn
  rw [TL.join_eq]
  exact StrLaws.join_split z " "
theorem wr_rd {z : Str} : wr (rd z) = z := by
  unfold rd
  by_cases e : z = "-"
  · rw [if_pos e, e]
    rfl
  · rw [if_neg e, wr_jn (split_ne z), jn_split]
end L2

set_option Elab.async false
set_option linter.all false
set_option maxRecDepth 100000
set_option maxHeartbeats 4000000
/-! except A as n, then more clauses -/
namespace L2
open PySem PySem.Spec PyProof.Rows
def wAsMany (K : PySem.W.Frag) (c : Value) (i : Nat) (ts : Addr → Value → Option Addr → TS) (l : List (Value × (Addr → Value → Option Addr → TS))) (Wout : WX) (D : Ends) : WX := fun cls d σ H =>
  ∃ b, PySem.W.exmOne K cls c = some b ∧ (b = true → ∀ a, H a = none → ts a cls d { nx := fun σ' H' => D.nx (σ'.set i none) H', rt := D.rt, bk := fun σ' H' => D.bk (σ'.set i none) H', ct := fun σ' H' => D.ct (σ'.set i none) H' } (σ.set i (some (.ref a))) H) ∧
    (b = false → wMany K Wout D l cls d σ H)
section
variable {X : Cx} {x n : Str} {c : Value} {i : Nat} {body suite : List Stmt} {b₀ : Stmt} {np pos pos' : Pos} {tb : WX → TS} {ts : Addr → Value → Option Addr → TS} {Wout : WX} {hds : List ExceptHandler} {l : List (Value × (Addr → Value → Option Addr → TS))}
theorem ps_try_asMany (hs : X.stack = X.env :: X.outer) (hf : X.env.frame = some X.env.locals) (hN : X.N.Nodup) (hi : X.N[i]? = some n) (hln : X.env.kindOf n = some .local) (hc : Names X x c) (tk : Takes X Wout)
    (hb : ∀ (W : WX) (pn : List (Addr × Obj)) (xe : Value → Shared → Prop), Takes (X.tr pn xe) W → PassesOwn (model X.prog X.w) X.A X.env xe → PSs (X.tr pn xe) body (tb W))
    (hsu : ∀ (a : Addr) (oe : Obj) (cls : Value) (d : Option Addr) (pn : List (Addr × Obj)), Zc cls d oe → (∃ vs, oe.data = .fields vs) → PSs (X.suite a ((a, oe) :: pn)) (b₀ :: suite) (ts a cls d)) (hh : HdsOk X hds l) :
    PS X (.Try body (.ExceptHandler (some (.Name x np)) (some n) (b₀ :: suite) pos' :: hds) [] [] pos) (fun D σ H => tb (wAsMany X.K c i ts l Wout D) D σ H) := by
  refine ⟨fun pins s σ H D I h => ?_⟩
  have ok := I.ok
  have hfr : X.A.frames = some (X.env :: X.outer) := by rw [ok.frames, hs]
  have hloc : Loc X.env.scope n := .inl hln
  refine wpAny_Try_except (wpAny_mono ((hb (wAsMany X.K c i ts l Wout D) (X.pn ++ pins) _ (fun u s' xx => ?_) PassesOwn.looking).run [] s σ H D (I.toTry _) h) (fun f s1 hsp => ?_) (fun e s1 he => he))
  · obtain ⟨a, B, sI, pins', σ', H', cls, d, rfl, J', nb, up, sky, na, os, ag, b, hb1, hyes, hno⟩ := xx
    have J : Inv X pins σ' H' sI := J'.ofTry ok
    have sky' : Sky B (X.env :: X.outer) a (Zc cls d) X.env.locals s'.heap := by rw [← hs]; exact sky
    show wpAny (model X.prog X.w) X.A (noteFrame (.ref a) X.env) _ _ _
    refine Sky.land Zc.steady hfr hf sky' fun h3 fl3 up3 => ?_
    have J3 : Inv X pins σ' H' { s' with heap := h3 } := J.landed nb fl3.1 (up.trans up3) os ag
    obtain ⟨oe3, vs3, he3, hz3, hd3⟩ := fl3.there
    have nfr : a ∉ frs (X.env :: X.outer) := fun hm => by
      obtain ⟨_, o', e', hnf⟩ := fl3.2.2.1.mem hm
      rw [he3] at e'
      cases e'
      exact hnf _ hd3
    have nL : a ≠ X.env.locals := fun z => nfr (List.mem_filterMap.mpr ⟨X.env, List.mem_cons_self, by rw [hf, z]⟩)
    have nF : a ∉ X.fs := fun hm => by
      obtain ⟨e, he, q⟩ := List.mem_filterMap.mp hm
      exact nfr (List.mem_filterMap.mpr ⟨e, List.mem_cons_of_mem _ he, q⟩)
    have S3 := J3.suite he3 hd3 na nL nF
    have LT : PySem.W.Looks (model X.prog X.w) h3 (typeOf (.ref a)) cls := fun A Q E s k q => wpAny_typeOf_ref (k _ _ he3) (by rw [hz3.1]; exact q)
    have test : ∀ {x : Str} {c : Value} {np : Pos} {Q : Value → Shared → Prop} {E : Value → Shared → Prop}, Names X x c → Q c { s' with heap := h3 } → wpAny (model X.prog X.w) (X.A.mark (some (.ref a))) (eval (.Name x np) X.env) Q E { s' with heap := h3 } := fun {x c np Q E} hc q => by
      obtain ⟨hg, hdbg, hm | ⟨hm, hv, hnn⟩⟩ := hc
      · exact ld_glob (X := X.suite a ((a, oe3) :: (X.pn ++ pins))) S3 hg hm q hdbg
      · exact ld_blt (X := X.suite a ((a, oe3) :: (X.pn ++ pins))) S3 hg hm hv q hnn hdbg
    have go : ∀ {hds' : List ExceptHandler} {l' : List (Value × (Addr → Value → Option Addr → TS))}, HdsOk X hds' l' → wMany X.K Wout D l' cls d σ' H' →
        wpAny (model X.prog X.w) X.A (handleBy (.ref a) X.env hds') (SP X pins D) X.xe { s' with heap := h3 } := by
      intro hds' l' hk
      induction hk with
      | nil =>
        intro w
        refine wpAny_handleBy_nil ?_
        obtain ⟨k1, k2, k3, oe, vs, T, oT, ts', he, hz, hd, h1, hr⟩ := id fl3
        unfold PySem.passOn
        refine wpAny_bind (wpAny_field he hd h1 ?_)
        rw [if_neg (show ¬ ((Value.ref T == Value.none) = true) from by simp)]
        have fin : wpAny (model X.prog X.w) X.A (setFlight (.ref a) X.env.frame) (fun _ s4 => wpAny (model X.prog X.w) X.A (throw (.ref a) : Sem Flow) (SP X pins D) X.xe s4) X.xe { s' with heap := h3 } := by
          rw [hf]
          refine HandSPX.setFlight_upZ fl3 fun h4 hh4 up4 => wpAny_throw (tk _ _ ?_)
          exact ⟨a, B, sI, pins, σ', H', cls, d, rfl, J, nb, (up.trans up3).trans up4, .inr (.inr (by rw [hs]; exact hh4)), na, os, ag, w⟩
        first
          | exact wpAny_bind (wpAny_pure (wpAny_bind fin))
          | exact wpAny_bind fin
      | @cons x2 c2 ts2 b2 suite2 np2 pos2 hds2 l2 hc2 hsu2 r2 ih =>
        intro w
        obtain ⟨b', hb', hyes', hno'⟩ := w
        refine wpAny_handleBy_cons (codeAny_handlers_test ?_) (by intro q; cases q)
        refine test hc2 ((PySem.W.exm_one (M := model X.prog X.w) (J3.kIn) LT hb').here ?_)
        cases b' with
        | true =>
          refine codeAny_handlers_suite ?_
          refine HandSPX.lands_againZ fl3 fun h4 fl4 up4 => ?_
          have J4 : Inv X pins σ' H' { s' with heap := h4 } := J.landed nb fl4.1 ((up.trans up3).trans up4) os ag
          obtain ⟨oe4, vs4, he4, hz4, hd4⟩ := fl4.there
          have S4 := J4.suite he4 hd4 na nL nF
          refine wpAny_mono ((hsu2 a oe4 cls d (X.pn ++ pins) hz4 ⟨_, hd4⟩).run [] _ _ H' _ S4 (hyes' rfl a na)) (fun f s6 hsp => ?_) (fun _ _ z => False.elim z)
          cases f with
          | next =>
            obtain ⟨σ6, H6, S6, q6⟩ := hsp
            exact ⟨_, _, S6.unsuite ok, q6⟩
          | brk =>
            obtain ⟨σ6, H6, S6, q6⟩ := hsp
            exact ⟨_, _, S6.unsuite ok, q6⟩
          | cont =>
            obtain ⟨σ6, H6, S6, q6⟩ := hsp
            exact ⟨_, _, S6.unsuite ok, q6⟩
          | ret u =>
            obtain ⟨v6, σ6, H6, S6, r6, q6⟩ := hsp
            exact ⟨_, _, _, S6.unsuite ok, r6, q6⟩
        | false =>
          show wpAny _ X.A (handleBy (.ref a) X.env hds2) _ _ _
          exact ih (hno' rfl)
    refine wpAny_handleBy_cons (codeAny_handlers_test ?_) (by intro q; cases q)
    refine test hc ((PySem.W.exm_one (M := model X.prog X.w) (J3.kIn) LT hb1).here ?_)
    cases b with
    | false =>
      show wpAny _ X.A (handleBy (.ref a) X.env hds) _ _ _
      exact go hh (hno rfl)
    | true =>
      refine codeAny_handlers_suite_as ?_
      refine HandSPX.lands_againZ fl3 fun h4 fl4 up4 => ?_
      have J4 : Inv X pins σ' H' { s' with heap := h4 } := J.landed nb fl4.1 ((up.trans up3).trans up4) os ag
      obtain ⟨oe4, vs4, he4, hz4, hd4⟩ := fl4.there
      have S4 := J4.suite he4 hd4 na nL nF
      refine store_ok (X := X.suite a ((a, oe4) :: (X.pn ++ pins))) (v := .ref a) S4 hN hi hloc rfl (fun s5 S5 => ?_) (.inr hln)
      refine wpAny_mono ((hsu a oe4 cls d (X.pn ++ pins) hz4 ⟨_, hd4⟩).run [] s5 _ H' _ S5 (hyes rfl a na)) (fun f s6 hsp => ?_) (fun _ _ z => False.elim z)
      have end_ : ∀ {σ6 : St} {H6 : Hp} {Q : Shared → Prop}, Inv (X.suite a ((a, oe4) :: (X.pn ++ pins))) [] σ6 H6 s6 → (∀ s7, Inv X pins (σ6.set i none) H6 s7 → Q s7) →
          wpAny (model X.prog X.w) X.A (do bindName X.env n .none; unbindBehindTheSuite X.env n pos') (fun _ s7 => Q s7) X.xe s6 := fun {σ6 H6 Q} S6 hq => gone_ok (S6.unsuite ok) hN hi hln hq
      cases f with
      | next =>
        obtain ⟨σ6, H6, S6, q6⟩ := hsp
        exact end_ S6 fun s7 J7 => ⟨_, _, J7, q6⟩
      | brk =>
        obtain ⟨σ6, H6, S6, q6⟩ := hsp
        exact end_ S6 fun s7 J7 => ⟨_, _, J7, q6⟩
      | cont =>
        obtain ⟨σ6, H6, S6, q6⟩ := hsp
        exact end_ S6 fun s7 J7 => ⟨_, _, J7, q6⟩
      | ret u =>
        obtain ⟨v6, σ6, H6, S6, r6, q6⟩ := hsp
        exact end_ S6 fun s7 J7 => ⟨_, _, _, J7, r6, q6⟩
  · cases f with
    | next =>
      obtain ⟨σ', H', J', q⟩ := hsp
      exact wpAny_execs_nil ⟨σ', H', J'.ofTry ok, q⟩
    | brk =>
      obtain ⟨σ', H', J', q⟩ := hsp
      exact ⟨σ', H', J'.ofTry ok, q⟩
    | cont =>
      obtain ⟨σ', H', J', q⟩ := hsp
      exact ⟨σ', H', J'.ofTry ok, q⟩
    | ret u =>
      obtain ⟨v, σ', H', J', r, q⟩ := hsp
      exact ⟨v, σ', H', J'.ofTry ok, r, q⟩
end
end L2

set_option Elab.async false
set_option linter.all false
set_option maxRecDepth 100000
set_option maxHeartbeats 4000000
/-! what a Hook tells, as the texts before want it -/
namespace L2
open PySem PySem.Spec PyProof.Rows
section
variable {K : PySem.W.Frag} {h : Heap} {mg : Str → Option Value}
theorem funD_fun {x q : Str} {st : Stmt} {f : Addr} {fd : FuncData} (F : FunD K x q (defArgs st) (defBody st) (defScope st) [] [] f fd) : Fun K x q st f fd := by
  obtain ⟨oc, od, dV, kV, doc, pm, an, cdv, ct, osl, rfl, lk, hcd, hD, hK⟩ := F.ex
  rcases hD with ⟨_, rfl⟩ | ⟨e, _⟩
  · exact ⟨⟨oc, od, kV, doc, pm, an, cdv, ct, osl, rfl, lk, hcd⟩, F.kp⟩
  · exact absurd rfl e
theorem df_he (X : K.In h) (G : h.Ns mainGlobals mg) {x : Str} {st : Stmt} {ps : List Str} {fd : FuncData} (F : FunD K x x (defArgs st) (defBody st) (defScope st) [] [] (He.ga K x) fd) (c : (He.Fa.glo x).ok K = true)
    (hb : ∀ (kV doc pm : Value) (an : Option Addr) (cdv ct : Value) (us : List Value), us.length = ps.length → bindArgs (PySem.W.fnOf x x (defArgs st) (defBody st) (defScope st) .none kV doc pm an cdv ct) ⟨us, []⟩ = pure (ps.zip us)) :
    Df K mg x st ps (He.ga K x) fd :=
  have F' := funD_fun F
  ⟨F', He.glo_ok X G c, F'.binds hb⟩
/-- an exception class with an own __init__, told by a Bool -/
def oexB (K : PySem.W.Frag) (C : Addr) : Bool := match K.lookup C with
  | some ⟨.type t, dd, .cls cd, sl⟩ => (match cd.mro, sl.toList with
    | .ref C' :: bm, [_, _, _, _, some (.builtin n), _] => decide (t = "type") && (decide (C' = C) && (decide (n = "ValueError.__new__") && (cd.hasDict && (!cd.hasDel && PySem.HandSPX.refsVE bm))))
    | _, _ => false)
  | _ => false
theorem oexB_ok {C : Addr} (e : oexB K C = true) : ∃ nm q N bs bm sn sub ab col dd k0 k1 k2 k3 k5, K.lookup C = some (excClassObj nm q C N bs bm true sn sub ab col dd k0 k1 k2 k3 k5 "ValueError.__new__") ∧ PySem.HandSPX.refsVE bm = true := by
  unfold oexB at e
  split at e
  · rename_i t dd cd sl ho
    split at e
    · rename_i C' bm k0 k1 k2 k3 n k5 hm hs
      simp only [Bool.and_eq_true, decide_eq_true_eq, Bool.not_eq_true'] at e
      obtain ⟨rfl, rfl, rfl, hd, hdel, hr⟩ := e
      obtain ⟨nm, bs, mro, N, q, hdct, sn, sub, ab, col, hdl⟩ := cd
      obtain ⟨l⟩ := sl
      subst hm hd hdel hs
      exact ⟨nm, q, N, bs, bm, sn, sub, ab, col, dd, k0, k1, k2, k3, k5, ho, hr⟩
    · cases e
  · cases e
def iniB (x fld : Str) (K : PySem.W.Frag) : Bool := oexB K (He.ga K x) && (He.eqO (PySem.W.findIn K (.ref (He.ga K x)) "__setattr__") (some (some (.builtin "object.__setattr__"))) && (decide (PySem.W.subIn K (.ref (He.ga K x)) (.type "BaseException") = some true) &&
  (decide (PySem.W.typeIn K (.ref (He.ga K x)) = some (.type "type")) && (PySem.W.keepIn K (.ref (He.ga K x)) && (He.eqO (PySem.W.findIn K (.ref (He.ga K x)) "__init__") (some (some (.ref (He.ma K (He.ga K x) "__init__")))) &&
  (decide (PySem.W.typeIn K (.ref (He.ma K (He.ga K x) "__init__")) = some (.type "function")) && (decide (PySem.W.exmOne K (.ref (He.ga K x)) (.ref (He.ga K x)) = some true) && (He.eqO (PySem.W.findIn K (.ref (He.ga K x)) fld) (some none) && xfB K (He.ga K x)))))))))
theorem ini_he (X : K.In h) (G : h.Ns mainGlobals mg) {x fld q : Str} {st : Stmt} {fd : FuncData} (hq : x ++ ".__init__" = q) (e : iniB x fld K = true) (c : (He.Fa.glo x).ok K = true)
    (F : FunD K "__init__" q (defArgs st) (defBody st) (defScope st) [] [] (He.ma K (He.ga K x) "__init__") fd)
    (hb : ∀ (kV doc pm : Value) (an : Option Addr) (cdv ct : Value) (us : List Value), us.length = (["self", fld] : List Str).length → bindArgs (PySem.W.fnOf "__init__" q (defArgs st) (defBody st) (defScope st) .none kV doc pm an cdv ct) ⟨us, []⟩ = pure ((["self", fld] : List Str).zip us)) :
    IniT K mg x fld st (He.ga K x) (He.ma K (He.ga K x) "__init__") fd ∧ XfC K (He.ga K x) := by
  subst hq
  obtain ⟨e1, e⟩ := He.ba e
  obtain ⟨e2, e⟩ := He.ba e
  obtain ⟨e3, e⟩ := He.ba e
  obtain ⟨e4, e⟩ := He.ba e
  obtain ⟨e5, e⟩ := He.ba e
  obtain ⟨e6, e⟩ := He.ba e
  obtain ⟨e7, e⟩ := He.ba e
  obtain ⟨e8, e⟩ := He.ba e
  obtain ⟨e9, e10⟩ := He.ba e
  have F' := funD_fun F
  exact ⟨⟨He.glo_ok X G c, ⟨oexB_ok e1, He.eqO_ok e2, of_decide_eq_true e3, of_decide_eq_true e4, e5⟩, He.eqO_ok e6, of_decide_eq_true e7, of_decide_eq_true e8, He.eqO_ok e9, F', F'.binds hb⟩, xfB_ok e10⟩
theorem own_he (X : K.In h) (G : h.Ns mainGlobals mg) {x : Str} (c : (He.Fa.glo x).ok K = true) (e : (He.Fa.exc x).ok K = true) (m : (He.Fa.exm x x true).ok K = true) : OwnT K mg x (He.ga K x) := by
  obtain ⟨e1, e2, e3, e4⟩ := He.exc_ok e
  exact ⟨He.glo_ok X G c, e1, e2, e3, e4, He.exm_ok m⟩
def cinB (x : Str) (K : PySem.W.Frag) : Bool := He.eqO (PySem.W.specialIn K (.ref (He.ga K x)) "__getattribute__") (some (some (.builtin "type.__getattribute__"))) && (PySem.W.readsIn K (He.ga K x) (.type "type") &&
  (match PySem.W.findCls K (.ref (He.ga K x)) (.type "type") "__init__" with
  | some (.val (.builtin n)) => decide (n = "ValueError.__init__")
  | _ => false))
theorem cin_he (X : K.In h) (G : h.Ns mainGlobals mg) {x : Str} (c : (He.Fa.glo x).ok K = true) (e : cinB x K = true) : CIn K mg x (He.ga K x) := by
  obtain ⟨e1, e⟩ := He.ba e
  obtain ⟨e2, e3⟩ := He.ba e
  refine ⟨He.glo_ok X G c, He.eqO_ok e1, e2, ?_⟩
  split at e3
  · rename_i n hn
    rw [of_decide_eq_true e3] at hn
    exact hn
  · cases e3
end
end L2

set_option Elab.async false
set_option linter.all false
set_option maxRecDepth 100000
set_option maxHeartbeats 4000000
/-! the Hook that looks at one more object: where the model keeps its own names -/
namespace L2
open PySem PySem.Spec PyProof.Rows
def asL (n : Nat) (g : Addr → Option Obj) : List Addr := cStatics :: He.asD g n
abbrev frL (n : Nat) (g : Addr → Option Obj) : PySem.W.Frag := He.frT g (asL n g)
def obsL (n : Nat) (fa : List He.Fa) (fn : List He.DefD) (tf : List He.Defn) (ex : PySem.W.Frag → Bool) (g : Addr → Option Obj) : He.AlX := (He.obsT fa fn [] (frL n g), ex (frL n g) && He.tabsB g tf (frL n g))
theorem tabsB_at {g : Addr → Option Obj} {tf : List He.Defn} {K : PySem.W.Frag} (e : He.tabsB g tf K = true) {p : He.Defn} (hp : p ∈ tf) : PySem.W.codeHdIn K (He.cT K p).1 (He.cT K p).2 = true ∧ ∃ o, g (He.cT K p).2 = some o ∧ He.emptyTab o = true := by
  obtain ⟨h1, h2⟩ := He.ba (List.all_eq_true.mp e p hp)
  cases q : g (He.cT K p).2 with
  | none =>
    rw [q] at h2
    cases h2
  | some o =>
    rw [q] at h2
    exact ⟨h1, o, rfl, h2⟩
theorem saysL_of {n : Nat} {fa : List He.Fa} {fn : List He.DefD} {tf : List He.Defn} {ex : PySem.W.Frag → Bool} {w : World} {h : Heap} (e : obsL n fa fn tf ex h.get? = He.valX fn [] w) : He.SaysX fa fn [] tf ex w h (frL n h.get?) := by
  obtain ⟨h1, h2⟩ := He.ba (show (ex (frL n h.get?) && He.tabsB h.get? tf (frL n h.get?)) = true from congrArg (fun z : He.AlX => z.2) e)
  refine ⟨congrArg (fun z : He.AlX => z.1) e, h1, fun p hp => (tabsB_at h2 hp).1, fun p hp => ?_, fun p hp => ?_⟩
  · obtain ⟨_, o, q, z⟩ := tabsB_at h2 hp
    exact He.frT_none q z
  · obtain ⟨_, o, q, z⟩ := tabsB_at h2 hp
    rw [q, He.emptyTab_eq z]
def hookL (n : Nat) (fa : List He.Fa) (fn : List He.DefD) (tf : List He.Defn) (ex : PySem.W.Frag → Bool) : PySem.W.Hook where
  α := He.AlX
  obs := fun s => obsL n fa fn tf ex s.heap.get?
  val := fun w => He.valX fn [] w
  says := fun w h => ∃ K : PySem.W.Frag, K.In h ∧ He.SaysX fa fn [] tf ex w h K
  of := fun _ _ e => ⟨_, He.frT_in, saysL_of e⟩
  keeps := fun _ _ _ ⟨K, hK, c⟩ k => ⟨K, PySem.W.Frag.In.keeps hK k, ⟨c.t, c.more, c.hd, c.out, fun p hp => k _ _ (c.empty p hp)⟩⟩
theorem obsL_eq {n : Nat} {fa : List He.Fa} {fn : List He.DefD} {tf : List He.Defn} {ex : PySem.W.Frag → Bool} {g : Addr → Option Obj} {s : Shared} (h : ∀ a, g a = s.heap.get? a) : obsL n fa fn tf ex g = (hookL n fa fn tf ex).obs s := by
  have e : g = s.heap.get? := funext h
  rw [e] <;> rfl
end L2

set_option Elab.async false
set_option linter.all false
set_option maxRecDepth 100000
set_option maxHeartbeats 4000000
/-! a def whose code object is known; lambdas in it -/
namespace L2
open PySem PySem.Spec PyProof.Rows LamX
section
variable {P : Program} {w : World} {K : PySem.W.Frag} {mg : Str → Option Value} {base : Heap}
theorem fun_okC {x qual : Str} {st : Stmt} {p : He.Defn} {f : Addr} {fd : FuncData} {N ps : List Str} {k : Nat} {sp : Sp} (hf : f = He.fAd K p) (F : Fun K x qual st f fd) (S : FnScope N ps (defScope st)) (len : ∀ vs H Q E, sp vs H Q E → vs.length = ps.length)
    (hbody : ∀ (A : Around) (outer : List Env) (s : Shared) (H : Hp) (vs : List V) (Q : VK) (E : XK), Room k (A.deeper (envOfC qual (defScope st) s.heap.objs.size f (.ref (He.cT K p).1))) → sp vs H Q E →
      ∃ t, PSs (cxOf CX0 P w K mg base N qual (defScope st) f (.ref (He.cT K p).1) A outer s H E).nox (defBody st) t ∧ t { nx := fun _ H' => Q .non H', rt := Q } (L2.start N vs) H) : FnOk P w K mg base CX0 (k + 1) f fd ps sp := by
  subst hf
  obtain ⟨oc, od, kV, doc, pm, an, cdv, ct, osl, rfl, lk, hcd⟩ := F.ex
  obtain ⟨c, rfl⟩ := He.codeIn_ref hcd
  have e : (He.cT K p).1 = c := He.codeOf_eq lk rfl
  rw [e] at hbody
  refine fn_of lk hcd S len fun A outer s H vs Q E hr hsp => ?_
  obtain ⟨t, h, q⟩ := hbody A outer s H vs Q E hr hsp
  exact ⟨t, h.nox, q⟩
end
section
variable {X : Cx} (K : PySem.W.Frag)
theorem call_tupNK (h : X.K = K) : CallR X (.type "tuple") (rTupN K) := by subst h; exact call_tupN
theorem call_lstNK (h : X.K = K) : CallR X (.type "list") (rLstN K) := by subst h; exact call_lstN
theorem pe_joinK {o e : Expr} {to te : TE} {apos pos : Pos} (h : X.K = K) (ho : PE X o to) (he : PE X e te) (hs : starEach [e] X.env = [(false, eval e X.env)] := by rfl) (hbase : attributeBase o "join" X.env (eval o X.env) = eval o X.env := by rfl) (hline : (apos.endLine == pos.line) = true := by rfl) :
    PE X (.Call (.Attribute o "join" apos) [e] [] pos) (tM1 (fun x xs H Q => ∃ a p, ∃ ys : List Str, x = .str a ∧ xs = [.ref p] ∧ (SqL K H p (ys.map V.str) ∨ SqT K H p (ys.map V.str)) ∧
      (ys.map (·.length)).sum + ys.length * a.length ≤ 16777216 ∧ Q (.str (Txt.join a ys)) H) to te) := by
  subst h
  exact pe_join ho he hs hbase hline
theorem sl_listNK (h : X.K = K) : SlR X (rSlLN K) := by subst h; exact sl_listN
end
section
variable {X : Cx}
/-- a captured name -/
theorem pvF {x : Str} {pos : Pos} (i : Nat) (hN : X.N[i]? = some x := by rfl) (hv : Vis X.env.scope x := by exact .inr (.inr rfl)) (hd : (x == ("__debug__" : Str)) = false := by decide) (hcd : (x == ("__classdict__" : Str)) = false := by decide) : PE X (.Name x pos) (tVar i) := pe_var hN hv hd hcd
/-- a def of one parameter that calls a lambda without parameters -/
theorem pe_met {x a : Str} {st : Stmt} {g c P : Addr} {k : Nat} {fd : FuncData} {Ng : List Str} {TT : (XK → Hp → VK → Prop) → Hp → VK → Prop} {params : Arguments} {body : Expr} {scope : Scope} {t : XK → TE} {p lpos pos : Pos} (hg : Gl X x) (D : Df X.K X.mg x st [a] g fd) (Sg : FnScope Ng [a] (defScope st)) (hNg : Ng[0]? = some a) (hva : Vis (defScope st) a)
    (hG : ∀ cdg : Value, GivesTo X Ng x (defScope st) g cdg (defBody st) a (X.env.qual ++ "<lambda>") TT) (TB : LamX.TabB X.base X.mg c P) (hcode : X.env.code = .ref c) (hr : Room (k + 2) X.A) (L : LamS X.env.scope scope) (hdef : defaultsOf params X.env = ([], []))
    (hbind : ∀ (q : Str) (cl : List (Str × Addr)) (pm cv ctv : Value), bindArgs (PySem.W.kla_fn "<lambda>" q params body scope cl pm cv ctv) ⟨[], []⟩ = pure [])
    (hbody : ∀ (A : Around) (outer : List Env) (s : Shared) (H : Hp) (E : XK) (f c' : Addr), Room k (A.deeper (lamEnv X scope s.heap.objs.size f c')) → PE (lamCx X A outer s H E scope f c') body (t E))
    (hdb : (x == ("__debug__" : Str)) = false := by decide) (hd : (a == ("__debug__" : Str)) = false := by decide) (hcd : (a == ("__classdict__" : Str)) = false := by decide) :
    PE X (.Call (.Name x p) [.Lambda params body scope lpos] [] pos) (tLam [(P, X.env.qual ++ "<lambda>")] TT t) := by
  have hb := D.b
  obtain ⟨oc, od, kV, doc, pm, an, cdv, ct, osl, rfl, lk, hcg⟩ := D.F.ex
  exact pe_lamcall hg D.g D.F.kp lk hcg hb Sg hNg hva (hG cdv) TB hcode (List.mem_singleton.mpr rfl) (fun q hq _ => by rw [List.mem_singleton.mp hq]) hr L hdef hbind hbody hdb hd hcd
end
end L2

set_option Elab.async false
set_option linter.all false
set_option maxRecDepth 100000
set_option maxHeartbeats 4000000
/-! sorted of rows whose items are data, lists and tuples -/
namespace L2
open PySem PySem.Spec PyProof.Rows
section
variable {prog : Program} {w : World} {A : Around} {E : Value → Shared → Prop} {s : Shared}
theorem sorted_bodyT {l : Addr} {vs : List Value} {Q : Value → Shared → Prop} (hl : s.heap.IsTuple l vs.toArray) (hL : vs.length ≤ sizeLine)
    (bd : ∀ E' : Value → Shared → Prop, wpAny (model prog w) A.in1.in1 (Builtin.«list.sort» ⟨[.ref (s.heap.objs.size + 1)], []⟩) (fun f s' => f = .done (.ret .none) ∧ Q (.ref (s.heap.objs.size + 1)) s') E' { s with heap := PySem.W.copyHeap s.heap vs }) :
    wpAny (model prog w) A (call (.builtin "sorted") [.ref l]) Q E s := by
  refine PyProof.Rows.call_function_entry_kw kind_sorted plain_sorted entry_sorted (args_sorted1 _) ?_
  unfold Builtin.«sorted»
  refine wpAny_bind (m := checkCount "sorted" 1 1 _) (wpAny_pure ?_)
  refine wpAny_bind (collect_tup hl ?_ hL)
  refine wpAny_bind (wpAny_newList ?_ hL)
  have sz : ((s.heap.push (seqObj "list" #[] 0)).update s.heap.objs.size (Obj.mapSeq (· ++ vs.toArray))).objs.size = s.heap.objs.size + 1 := by
    rw [Heap.size_update, size_push']
  show wpAny _ _ _ _ _ { s with heap := PySem.W.copyHeap s.heap vs }
  rw [sz]
  refine wpAny_bind (wpAny_holding (PyProof.Rows.wpAny_call_entry_kw slot_list_sort ⟨_, PySem.W.copyHeap_at s.heap vs, rfl⟩ entry_list_sort ?body (args_list_sort _)))
  case body =>
    show wpAny (model prog w) A.in1.in1 (Builtin.«list.sort» ⟨[.ref (s.heap.objs.size + 1)], []⟩) _ _ _
    refine wpAny_mono (bd _) (fun f s' hf => ?_) fun _ _ z => z
    obtain ⟨rfl, hq⟩ := hf
    exact ⟨_, rfl, wpAny_pure ⟨_, rfl, hq⟩⟩
end
section
variable {X : Cx} {β : Type}
theorem r_each {R : V → β → Prop} {pins : List (Addr × Obj)} {σ : St} {H : Hp} {s : Shared} {enc : β → PyData} (I : Inv X pins σ H s) (hR : ∀ x b, R x b → Dp X.K H x (enc b)) : ∀ (xs : List V) (its : List Value) (bs : List β), Vals xs its → Paired R xs bs →
    PySem.W.EachIs (fun v b => ∃ x, RelV x v ∧ R x b) its bs ∧ PySem.W.EachIs (fun v b => ∃ as, Reads s.heap v (enc b) as) its bs
  | _, _, _, .nil, .nil => ⟨.nil, .nil⟩
  | _, _, _, .cons r1 r2, .cons d1 d2 =>
    let ⟨h1, h2⟩ := r_each I hR _ _ _ r2 d2
    ⟨.cons ⟨_, r1, d1⟩ h1, .cons (Dp.reads I _ _ _ (hR _ _ d1) r1) h2⟩
theorem each_vals {R : V → β → Prop} : ∀ (out : List Value) (bs : List β), PySem.W.EachIs (fun v b => ∃ x, RelV x v ∧ R x b) out bs → ∃ ys : List V, Vals ys out ∧ Paired R ys bs
  | [], [], _ => ⟨[], .nil, .nil⟩
  | v :: out, b :: bs, h => by
    cases h with
    | cons h1 h2 =>
      obtain ⟨x, r, i⟩ := h1
      obtain ⟨ys, r2, p⟩ := each_vals out bs h2
      exact ⟨x :: ys, .cons r r2, .cons i p⟩
  | [], _ :: _, h => by cases h
  | _ :: _, [], h => by cases h
/-- sorted of a list or tuple whose items stand for bs, as R says of each -/
def rSortD (K : PySem.W.Frag) (enc : β → PyData) (R : Hp → V → β → Prop) : List V → Hp → VK → Prop := fun vs H Q => ∃ (a : Addr) (xs : List V) (bs : List β), vs = [.ref a] ∧ (SqL K H a xs ∨ SqT K H a xs) ∧ Paired (R H) xs bs ∧ (∀ x b, R H x b → Dp K H x (enc b)) ∧
  PySem.W.AllAlike (bs.map enc) ∧ PySem.W.Sortable (bs.map enc) ∧ (∀ b ∈ bs, (enc b).depth ≤ 20) ∧ bs.length ≤ 100000 ∧ ∀ ys, Paired (R H) ys (bs.mergeSort (PySem.W.dataLe false enc)) → New H (.lst ys) Q
theorem cr_sortD (enc : β → PyData) (R : Hp → V → β → Prop) {k : Nat} (hr : Room k X.A) : CallR X (.builtin "sorted") (rSortD X.K enc R) := by
  intro pins s σ H vs us Q I r h
  obtain ⟨a, xs, bs, rfl, hq, hd, hR, hal, hk, hdep, hlen, q⟩ := h
  rw [Vals.ref1 r]
  have hu := hr.un
  have room : ∀ b, b ∈ bs → X.A.units + 2 + (enc b).depth < cLine := fun b hb => by
    have := hdep b hb
    omega
  have fin : ∀ (its : List Value), Vals xs its → ∀ out, out.length = bs.length → PySem.W.EachIs (fun v b => ∃ x, RelV x v ∧ R H x b) out (bs.mergeSort (PySem.W.dataLe false enc)) → EP X pins σ Q (.ref (s.heap.objs.size + 1)) { s with heap := sortedAll s.heap its (List.toArray out) } := by
    intro its rv out hl he
    obtain ⟨ys, ry, py⟩ := each_vals out _ he
    obtain ⟨ep, he'⟩ := PyProof.Rows.sortedAll_at s.heap its out.toArray
    have ly : ys.length = out.length := ry.length
    have hn : H (s.heap.objs.size + 1) = none := I.hok.fresh (Nat.le_succ _)
    refine ⟨.ref _, upd H (s.heap.objs.size + 1) (.lst ys), I.laid (t' := s.toks) (fun _ _ => PyProof.Rows.sortedAll_old) (Nat.le_succ _) ⟨?_, out, ep, ry, he'⟩, rfl, (q ys py).go _ hn⟩
    rw [ly, hl, sizeLine_eq]
    omega
  rcases hq with hq | hq
  · obtain ⟨its, rv, hl, hz⟩ := I.list hq
    obtain ⟨e1, e2⟩ := r_each I hR xs its bs rv hd
    exact PySem.W.sorted_data hl.isList e1 e2 hal hk (by rw [sizeLine_eq]; omega) room (fin its rv)
  · obtain ⟨its, rv, hl, hz⟩ := I.tuple hq
    obtain ⟨e1, e2⟩ := r_each I hR xs its bs rv hd
    have e3 := e2.mono (fun v b ⟨as, z⟩ => (⟨as, PyProof.Rows.Reads.keeps (fun _ _ => PySem.W.sorting_copy_old) z⟩ : ∃ as, Reads (PySem.W.sortingHeap (PySem.W.copyHeap s.heap its) (s.heap.objs.size + 1) its) v (enc b) as))
    have il : its.length = bs.length := e1.length
    refine sorted_bodyT hl (by rw [il, sizeLine_eq]; omega) fun E' => ?_
    refine PySem.W.list_sort_vals (s := { s with heap := PySem.W.copyHeap s.heap its }) (PySem.W.copyHeap_at s.heap its) (PySem.W.SortsAt.data (s := { s with heap := PySem.W.sortingHeap (PySem.W.copyHeap s.heap its) (s.heap.objs.size + 1) its }) (PySem.W.each_map (R := fun v d => ∃ as, Reads (PySem.W.sortingHeap (PySem.W.copyHeap s.heap its) (s.heap.objs.size + 1) its) v d as) enc e3) hal hk (PySem.W.bound_map room)) (by rw [il, sizeLine_eq]; omega) ⟨rfl, ?_⟩
    exact fin its rv _ (by rw [PySem.W.sortVals_length false rfl]; exact il) (PySem.W.sortVals_data false e1 e3 hal)
end
end L2

set_option Elab.async false
set_option linter.all false
set_option maxRecDepth 100000
set_option maxHeartbeats 4000000
/-! a set comprehension whatever its members are: what set.add does with a member is told from outside; then of texts -/
namespace L2
open PySem PySem.Spec PyProof.Rows PpSet
/-- at D a set stands as f tells of its members so far; Ad says what an item adds -/
abbrev Adds := Addr → V → Hp → (Hp → Prop) → Prop
def tSetC (ini : Addr → HO) (Ad : Adds) (wi : TI) (g : TG) (tt : TT) (te : TE) (vs : List Nat) : TE := fun σ H Q => wi σ H fun J H1 => ∀ D, H1 D = none → ∃ W : Nat → Nat → Hp → Prop, (∃ m, W 0 m (upd H1 D (ini D))) ∧ ∀ i m H, W i m H →
  (J.stop i H ∧ Q (.ref D) H) ∨ (J.go i H ∧ ∃ Nx : Hp → Prop, (∀ H', Nx H' → ∃ m', m' < m ∧ W (i + 1) m' H') ∧ ∀ x H', J.yld i H x H' → g x (wipe σ vs) H' fun σ2 H2 => wipe σ2 vs = wipe σ vs ∧ tt σ2 H2 fun b H3 =>
    if b = true then te σ2 H3 fun y H4 => Ad D y H4 Nx else Nx H3)
def AddsOk (P : Program) (w : World) (Ad : Adds) : Prop := ∀ (X : Cx) (pins : List (Addr × Obj)) (σ : St) (H : Hp) (s : Shared) (D : Addr) (y : V) (u : Value) (Nx : Hp → Prop) (Q : Value → Shared → Prop) (E : Value → Shared → Prop), X.prog = P → X.w = w → Inv X pins σ H s → RelV y u → Ad D y H Nx →
  (∀ v s' H', Inv X pins σ H' s' → Nx H' → Q v s') → wpAny (model P w) X.A (call (.builtin "set.add") [.ref D, u]) Q E s
section
variable {X : Cx}
theorem setc_core {pins : List (Addr × Obj)} {s : Shared} {σ : St} {H : Hp} {Q : VK} {elt tg iter : Expr} {ifs : List Expr} {scope : Scope} {own : List (PySem.Str × Nat)} {pos pos' : Pos} {wi : TI} {g : TG} {tt : TT} {te : TE} {ini : Addr → HO} {Ad : Adds}
    (hini : ∀ (H : Hp) (h : Heap), ObjOk X.prog X.w H (h.push { cls := .type "set", dict := none, data := .set #[] 0 (.fresh 0 0 (!X.w.params.followText "set-order")) }) h.objs.size (ini h.objs.size)) (had : AddsOk X.prog X.w Ad)
    (hc : X.calm = true) (hN : X.N.Nodup) (I : Inv X pins σ H s) (hi : PI X tg iter wi) (ok : BlkOk X.N X.env.scope scope own)
    (hg : ∀ (s : Shared) (H : Hp) (C : Addr) (cl : List (PySem.Str × Addr)) (fp : List Addr), PG (X.blk s H scope (compEnvC scope cl C X.env) fp) tg g) (ht : ∀ (s : Shared) (H : Hp) (C : Addr) (cl : List (PySem.Str × Addr)) (fp : List Addr), PTs (X.blk s H scope (compEnvC scope cl C X.env) fp) ifs tt)
    (he : ∀ (s : Shared) (H : Hp) (C : Addr) (cl : List (PySem.Str × Addr)) (fp : List Addr), PE (X.blk s H scope (compEnvC scope cl C X.env) fp) elt te) (hs : ∀ x, foldedSetIterable iter X.env x = pure x)
    (h : tSetC ini Ad wi g tt te (own.map (·.2)) σ H Q) :
    wpAny (model X.prog X.w) X.A (comprehension (.SetComp elt [⟨tg, iter, ifs, 0⟩] scope pos) scope X.env pos' (newSet (.type "set")) false (eval iter X.env)) (EP X pins σ Q) X.xe s := by
  have hfree : ∀ y ∈ scope.names, y.2 = .free → ∃ c, X.env.cells.lookup y.1 = some c := fun y hy e => (ok.free y hy e).elim (fun k => I.ok.has _ (.inl k)) fun k => I.ok.has _ (.inr k)
  refine wpAny_comprehension_free rfl hs (closure_ok hfree) ok.kind (fun y hy e => by rw [ok.uniq y hy, e]) (thn (hi.run pins s σ H _ I h) fun xv s1 hx => thn hx fun itv s2 h2 => ?_)
  obtain ⟨it, fp, tn, J, H2, e, I2, T, st2, f2, q⟩ := h2
  subst e
  refine newSet_ok (newEnv_comp ?_)
  have I3 := I2.laid (t' := s2.toks) (fun b o e => Heap.get?_push_of_some _ e) (Nat.le_refl _) (hini _ s2.heap)
  obtain ⟨W, ⟨m0, w0⟩, turn⟩ := q s2.heap.objs.size (I2.hok.fresh (Nat.le_refl _))
  have sz : ∀ b ∈ fp, b < s2.heap.objs.size := fun b hb => let ⟨o, e, _⟩ := T.obj _ _ st2 b hb; Heap.lt_size e
  have f3 : ∀ b ∈ fp, FpOk X pins (upd H2 s2.heap.objs.size (ini s2.heap.objs.size)) b ∧ b < s2.heap.objs.size + 1 := fun b hb =>
    ⟨⟨by rw [upd_ne (Nat.ne_of_lt (sz b hb))]; exact (f2 b hb).1, (f2 b hb).2⟩, Nat.lt_succ_of_lt (sz b hb)⟩
  have st3 := T.keep _ _ (s2.heap.push { cls := .type "set", dict := none, data := .set #[] 0 (.fresh 0 0 (!X.w.params.followText "set-order")) }) st2 fun b _ o e => Heap.get?_push_of_some _ e
  have z3 : (s2.heap.push { cls := .type "set", dict := none, data := .set #[] 0 (.fresh 0 0 (!X.w.params.followText "set-order")) }).objs.size = s2.heap.objs.size + 1 := Heap.size_push ..
  generalize hDD : s2.heap.objs.size = D at I3 w0 turn f3 z3 ⊢
  rw [← z3] at f3
  generalize hs3 : ({ s2 with heap := s2.heap.push { cls := .type "set", dict := none, data := .set #[] 0 (.fresh 0 0 (!X.w.params.followText "set-order")) } } : Shared) = s3 at I3
  have h3 : s2.heap.push { cls := .type "set", dict := none, data := .set #[] 0 (.fresh 0 0 (!X.w.params.followText "set-order")) } = s3.heap := by rw [← hs3]
  rw [h3] at f3 st3
  have I4 := block_start I3 ok hN f3
  have pg := hg s3 (upd H2 D (ini D)) s3.heap.objs.size (cellsFrom (s3.heap.objs.size + 1) scope.names (cloFrom X.env.cells scope.names [])) fp
  have pt := ht s3 (upd H2 D (ini D)) s3.heap.objs.size (cellsFrom (s3.heap.objs.size + 1) scope.names (cloFrom X.env.cells scope.names [])) fp
  have pe := he s3 (upd H2 D (ini D)) s3.heap.objs.size (cellsFrom (s3.heap.objs.size + 1) scope.names (cloFrom X.env.cells scope.names [])) fp
  have goal_at : codeAny (model X.prog X.w) X.A (.compStart (.SetComp elt [⟨tg, iter, ifs, 0⟩] scope pos) 0 (.ref it) (.ref D) (compEnvC scope (cellsFrom (s3.heap.objs.size + 1) scope.names (cloFrom X.env.cells scope.names [])) s3.heap.objs.size X.env)) (compPost (model X.prog X.w) X.A X.xe none (EP X pins σ Q) (.ref D) s3.heap.objs.size) { s3 with heap := pushCells (s3.heap.push { cls := .type "dict", data := .dict #[] }) scope.names } := by
    have nfp : ∀ b ∈ fp, (upd H2 D (ini D)) b = none := fun b hb => (f3 b hb).1.1
    generalize hce : compEnvC scope (cellsFrom (s3.heap.objs.size + 1) scope.names (cloFrom X.env.cells scope.names [])) s3.heap.objs.size X.env = ce at I4 pg pt pe ⊢
    have cL : ce.locals = s3.heap.objs.size := by subst hce; rfl
    generalize hH3 : upd H2 D (ini D) = H3 at I3 I4 pg pt pe w0 nfp f3
    generalize hs4 : ({ s3 with heap := pushCells (s3.heap.push { cls := .type "dict", data := .dict #[] }) scope.names } : Shared) = s4 at I4 ⊢
    have st4 : tn 0 s4.heap := T.keep _ _ _ st3 fun b _ o e => by rw [← hs4]; exact pushCells_keeps _ _ _ _ (Heap.get?_push_of_some _ e)
    have stat : ∀ {σ' : St} {H' : Hp} {s' : Shared}, Inv (X.blk s3 H3 scope ce fp) [] σ' H' s' → (∀ b ∈ fp, H' b = none) → ∀ b ∈ fp, FpOk (X.blk s3 H3 scope ce fp) [] H' b := fun {σ' H' s'} I' hn b hb =>
      ⟨hn b hb, (I'.ok.exf b hb).1, I'.ok.exfs b hb, .inl hb, fun x c e => (I'.ok.exf b hb).2 x c e, fun p hp => absurd (show p ∈ ([] : List (Addr × Obj)) ++ [] from hp) (by simp)⟩
    have loop : codeAny (model X.prog X.w) X.A (.compLoop (.SetComp elt [⟨tg, iter, ifs, 0⟩] scope pos) 0 (.ref it) (.ref D) ce) (compPost (model X.prog X.w) X.A X.xe none (EP X pins σ Q) (.ref D) s3.heap.objs.size) s4 := by
      refine compLoopS_any (fun n s' => ∃ i H', Inv (X.blk s3 H3 scope ce fp) [] (wipe σ (own.map (·.2))) H' s' ∧ tn i s'.heap ∧ (∀ b ∈ fp, H' b = none) ∧ W i n H') ?_ m0 ⟨0, H3, I4, st4, nfp, w0⟩
      rintro n s5 ⟨i, H5, I5, st5, n5, w5⟩
      rcases turn i n H5 w5 with ⟨stop, qq⟩ | ⟨go, Nx, hNx, step⟩
      · refine thnF (T.done (X.blk s3 H3 scope ce fp) rfl rfl rfl hc i [] s5 _ H5 (fun _ _ => False) I5 (stat I5 n5) st5 stop) fun r s6 ⟨hr, I6⟩ => ?_
        subst hr
        have I7 : Inv X pins σ H5 s6 := I3.call' (ch := fp) I6.os I6.base I6.hok I6.bare fun b hb => ⟨(f3 b hb).1.2.2.2.1, (f3 b hb).1.2.1, (f3 b hb).1.2.2.2.2.1, (f3 b hb).1.2.2.2.2.2⟩
        have nC : H5 s3.heap.objs.size = none := by
          have z : H5 ce.locals = none := I6.free
          rw [cL] at z
          exact z
        obtain ⟨m, hn, _⟩ := I6.loc
        have hn : s6.heap.Ns ce.locals m := hn
        rw [cL] at hn
        refine ⟨m, hn, fun h'' sb => ?_⟩
        obtain ⟨f0, f1, f2', f3', f4, f5⟩ := I3.fpOk (Nat.le_refl _) nC
        exact ⟨.ref D, H5, I7.turned (t' := s6.toks) (fun b o hb e => (sb.2 b hb).trans e) f0 f1 f3' f4 f5, rfl, qq⟩
      · refine thnF (T.item (X.blk s3 H3 scope ce fp) rfl rfl rfl hc i [] s5 _ H5 (fun _ _ => False) I5 (stat I5 n5) st5 go) fun r s6 ⟨u, hr, h6⟩ => ?_
        subst hr
        refine thnF h6 fun _ s7 ⟨x, H7, I7, r7, y7, st7, n7⟩ => ?_
        have I7' := I7.pinned (stat I7 n7) (T.obj _ _ st7)
        refine thnF (pg.run _ s7 _ H7 x u _ I7' r7 (step x H7 y7)) fun _ s8 ⟨σ8, H8, I8, hw8, q8⟩ => ?_
        refine thnF (pt.run _ s8 σ8 H8 _ I8 q8) fun b s9 ⟨H9, I9, q9⟩ => ?_
        have fin : ∀ {s' : Shared} {H' : Hp}, Inv (X.blk s3 H3 scope ce fp) ([] ++ pinsAt fp s7.heap) σ8 H' s' → Nx H' → ∃ m, m < n ∧ ∃ i H', Inv (X.blk s3 H3 scope ce fp) [] (wipe σ (own.map (·.2))) H' s' ∧ tn i s'.heap ∧ (∀ b ∈ fp, H' b = none) ∧ W i m H' := fun {s' H'} I' nx => by
          obtain ⟨m', hm, w'⟩ := hNx H' nx
          have pin' : ∀ b ∈ fp, ∀ o, s7.heap.get? b = some o → s'.heap.get? b = some o ∧ H' b = none := fun b hb o e =>
            let z := I'.pin (b, o) (List.mem_append_right _ (List.mem_append_right _ (mem_pinsAt hb e)))
            ⟨z.1, z.2.1⟩
          have hl : (wipe σ (own.map (·.2))).length = σ8.length := by rw [← hw8, wipe_length]
          refine ⟨m', hm, i + 1, H', (I'.unpinned (pins := [])).weak hl (fun j v e => ?_), T.keep _ _ _ st7 fun b hb o e => (pin' b hb o e).1, fun b hb => ?_, w'⟩
          · rw [← hw8] at e
            exact (wipe_some e).1
          · obtain ⟨o, e, _⟩ := T.obj _ _ st7 b hb
            exact (pin' b hb o e).2
        cases b with
        | false =>
          simp only [Bool.false_eq_true, if_false] at q9 ⊢
          exact fin I9 q9
        | true =>
          simp only [if_true] at q9 ⊢
          refine thnF (pe.run _ s9 σ8 H9 _ I9 q9) fun z s10 ⟨yv, H10, I10, r10, ad⟩ => ?_
          exact had (X.blk s3 H3 scope ce fp) _ _ _ _ _ _ _ _ _ _ rfl rfl I10 r10 ad fun _ s11 H11 I11 nx => fin I11 nx
    exact codeAny_compStart_set loop (T.self X.A 0 _ _ _ st4 loop)
  exact goal_at
theorem pe_setc {elt tg iter : Expr} {ifs : List Expr} {scope : Scope} {own : List (PySem.Str × Nat)} {pos : Pos} {wi : TI} {g : TG} {tt : TT} {te : TE} {ini : Addr → HO} {Ad : Adds}
    (hini : ∀ (H : Hp) (h : Heap), ObjOk X.prog X.w H (h.push { cls := .type "set", dict := none, data := .set #[] 0 (.fresh 0 0 (!X.w.params.followText "set-order")) }) h.objs.size (ini h.objs.size)) (had : AddsOk X.prog X.w Ad)
    (hc : X.calm = true) (hN : X.N.Nodup) (hi : PI X tg iter wi) (ok : BlkOk X.N X.env.scope scope own)
    (hg : ∀ (s : Shared) (H : Hp) (C : Addr) (cl : List (PySem.Str × Addr)) (fp : List Addr), PG (X.blk s H scope (compEnvC scope cl C X.env) fp) tg g) (ht : ∀ (s : Shared) (H : Hp) (C : Addr) (cl : List (PySem.Str × Addr)) (fp : List Addr), PTs (X.blk s H scope (compEnvC scope cl C X.env) fp) ifs tt)
    (he : ∀ (s : Shared) (H : Hp) (C : Addr) (cl : List (PySem.Str × Addr)) (fp : List Addr), PE (X.blk s H scope (compEnvC scope cl C X.env) fp) elt te) (hs : ∀ x, foldedSetIterable iter X.env x = pure x := by intro _; rfl) :
    PE X (.SetComp elt [⟨tg, iter, ifs, 0⟩] scope pos) (tSetC ini Ad wi g tt te (own.map (·.2))) :=
  ⟨fun pins s σ H Q I h => by rw [eval_SetComp]; exact setc_core hini had hc hN I hi ok hg ht he hs h⟩
end
/-- over a tuple that stays as it is -/
theorem setc_tup {K : PySem.W.Frag} {a : Addr} {xs : List V} {g : TG} {tt : TT} {te : TE} {vs : List Nat} {σ : St} {H1 : Hp} {D : Addr} {Qd : Hp → Prop} {ini : Addr → HO} {Ad : Adds} (Pv : Nat → Hp → Prop) (h0 : Pv 0 (upd H1 D (ini D))) (hl : ∀ i H, i ≤ xs.length → Pv i H → SqT K H a xs)
    (hs : ∀ i x H, xs[i]? = some x → Pv i H → g x (wipe σ vs) H fun σ2 H2 => wipe σ2 vs = wipe σ vs ∧ tt σ2 H2 fun b H3 => if b = true then te σ2 H3 fun y H4 => Ad D y H4 (Pv (i + 1)) else Pv (i + 1) H3) (hd : ∀ H, Pv xs.length H → Qd H) :
    ∃ W : Nat → Nat → Hp → Prop, (∃ m, W 0 m (upd H1 D (ini D))) ∧ ∀ i m H, W i m H →
      ((Itt K a).stop i H ∧ Qd H) ∨ ((Itt K a).go i H ∧ ∃ Nx : Hp → Prop, (∀ H', Nx H' → ∃ m', m' < m ∧ W (i + 1) m' H') ∧ ∀ x H', (Itt K a).yld i H x H' → g x (wipe σ vs) H' fun σ2 H2 => wipe σ2 vs = wipe σ vs ∧ tt σ2 H2 fun b H3 =>
        if b = true then te σ2 H3 fun y H4 => Ad D y H4 Nx else Nx H3) := by
  refine ⟨fun i m H => m + i = xs.length ∧ Pv i H, ⟨xs.length, rfl, h0⟩, ?_⟩
  rintro i m H ⟨hm, p⟩
  have q := hl i H (by omega) p
  by_cases hlt : i < xs.length
  · refine .inr ⟨⟨xs, xs[i], q, by simp [hlt]⟩, Pv (i + 1), fun H' p' => ⟨m - 1, by omega, by omega, p'⟩, fun x H' y => ?_⟩
    obtain ⟨e, y⟩ := y
    subst e
    exact hs i x _ (y xs q) p
  · obtain rfl : i = xs.length := by omega
    exact .inl ⟨⟨xs, q, Nat.le_refl _⟩, hd H p⟩
/-! ### of texts -/
def SetSO (P : Program) (w : World) (a : Addr) (S : Str → Bool) (n : Nat) : HO := .ext fun h => Gt.SetS P w h a S n
theorem setSO_new {w : World} {P : Program} {H : Hp} {h : Heap} {a : Addr} {S : Str → Bool} {n : Nat} (R : Gt.SetS P w h a S n) : ObjOk P w H h a (SetSO P w a S n) := by
  have ⟨o, _, _, _, ho, _⟩ := R
  exact ⟨R, ⟨o, ho⟩, fun h1 h2 p k => Gt.SetS.at p k⟩
def iniS (P : Program) (w : World) : Addr → HO := fun a => SetSO P w a (fun _ => false) 0
theorem iniS_ok {P : Program} {w : World} (H : Hp) (h : Heap) : ObjOk P w H (h.push { cls := .type "set", dict := none, data := .set #[] 0 (.fresh 0 0 (!w.params.followText "set-order")) }) h.objs.size (iniS P w h.objs.size) :=
  setSO_new (Gt.fresh_at w (Heap.get?_push_size _ rfl))
def addS (P : Program) (w : World) : Adds := fun D y H Nx => ∃ (c : Str) (S : Str → Bool) (n : Nat), y = .str c ∧ H D = some (SetSO P w D S n) ∧ n + 1 < scanBound ∧ Nx (upd H D (SetSO P w D (fun j => S j || decide (j = c)) (if S c = true then n else n + 1)))
theorem SetS.typ {P : Program} {w : World} {s : Shared} {a : Addr} {S : Str → Bool} {n : Nat} (R : Gt.SetS P w s.heap a S n) : s.TypeIs (.ref a) "set" := by
  obtain ⟨o, _, _, _, ho, hx, _⟩ := R
  exact ⟨o, ho, hx.1⟩
theorem addS_ok {P : Program} {w : World} : AddsOk P w (addS P w) := by
  intro X pins σ H s D y u Nx Q E hP hw I r ad q
  obtain ⟨c, S, n, rfl, hD, room, nx⟩ := ad
  obtain ⟨tk, rfl⟩ := r
  subst hP hw
  have R : Gt.SetS X.prog X.w s.heap D S n := (I.hok D _ hD).1
  refine wpAny_call_entry F.slot_set_add (SetS.typ R) F.entry_set_add ?_ (F.args_set_add_2 _ _)
  unfold Builtin.«set.add» Builtin.Frozenset.oneOther
  simp only [List.isEmpty_nil, bind_assoc]
  unfold Builtin.Frozenset.addrOf setAdd
  refine wpAny_bind (wpAny_pure ?_)
  try dsimp only
  refine wpAny_bind (wpAny_pure ?_)
  try dsimp only
  refine wpAny_bind (wpAny_holding (wpAny_bind ((PySem.strKind X.prog X.w).pyHash (k := c) (strKind_is _ _ _ _) ?_)))
  refine Gt.add_hashed (s := { s with toks := s.toks + 1 }) R room fun h' sb new => ?_
  have he : ∃ u, h'.get? D = some u := by
    have ⟨o, _, _, _, ho, _⟩ := new
    exact ⟨o, ho⟩
  show wpAny _ _ (ret Value.none) _ _ _
  exact wpAny_pure ⟨_, rfl, q _ _ _ (I.write (e := D) (t' := s.toks + 1) (by rw [hD]; trivial) (.inl rfl) (fun b u hb hu => (sb.2 b hb).trans hu) he (setSO_new new)) nx⟩
/-- sorted of such a set -/
def rSortSS (P : Program) (w : World) : List V → Hp → VK → Prop := fun vs H Q => ∃ (a : Addr) (S : Str → Bool) (n : Nat), vs = [.ref a] ∧ H a = some (SetSO P w a S n) ∧ n < 64 ∧ ∀ ys : List Str, sortedS ys = true → ys.Nodup → (∀ k, k ∈ ys ↔ S k = true) → New H (.lst (ys.map V.str)) Q
section
variable {X : Cx}
theorem cr_sortSS (hc : X.calm = true) : CallR X (.builtin "sorted") (rSortSS X.prog X.w) := by
  intro pins s σ H vs us Q I r h
  obtain ⟨a, S, n, rfl, ha, hn, q⟩ := h
  rw [Vals.ref1 r]
  have R : Gt.SetS X.prog X.w s.heap a S n := (I.hok a _ ha).1
  refine Gt.sorted_set R (I.ok.hd hc) hn fun s' p out c ys k2 g2 o2 hz hp hI hs hnd hmem => ?_
  have fr : H p = none := I.hok.fresh hz
  have hlen : (ys.map V.str).length ≤ sizeLine := by
    obtain ⟨o, es, ep, t, ho, hex, hd, g, nd, hm, hb, hf, hsz, _⟩ := R
    rw [List.length_map]
    have sub := nodup_sub_len ys (es.toList.map Gt.keyOf) hnd fun k hk => (hm k).mp ((hmem k).mp hk)
    rw [List.length_map] at sub
    have es1 : es.toList.length = es.size := Array.length_toList
    rw [sizeLine_eq]
    omega
  have J : Inv X pins σ (upd H p (.lst (ys.map V.str))) { s with heap := s'.heap, gens := s'.gens, drawn := s'.drawn, toks := s'.toks } :=
    I.call (ch := []) (Un.laid k2 hz fr) (I.hok.laid k2 hz ⟨hlen, out.toList, c, vals_of_strs hI, hp⟩) (by rw [g2]; exact I.bare) (fun _ z => nomatch z)
  have e : s' = { s with heap := s'.heap, gens := s'.gens, drawn := s'.drawn, toks := s'.toks } := by
    cases s'
    cases s
    cases o2
    rfl
  rw [e]
  exact ⟨.ref p, _, J, rfl, (q ys hs hnd hmem).go p fr⟩
end
end L2

set_option Elab.async false
set_option linter.all false
set_option maxRecDepth 100000
set_option maxHeartbeats 4000000
/-! an own class's len, str, == and !=; making one by a local name, or where it may raise -/
namespace L2
open PySem PySem.Spec PyProof.Rows
/-- the class at C has the def at f under the name -/
structure OwnD (K : PySem.W.Frag) (C : Addr) (nm : Str) (f : Addr) : Prop where
  at_ : PySem.W.findIn K (.ref C) nm = some (some (.ref f))
  fn : PySem.W.isFn K (.ref f) = true
section
variable {X : Cx} {CX : CXT} {n : Nat} {C f : Addr} {fd : FuncData} {ps : List Str} {sp : Sp} {E : XK}
theorem run_in {A : Around} {pins : List (Addr × Obj)} {σ : St} {H : Hp} {s : Shared} {Q : VK} {us : List Value} {vs : List V} (F : FnOk X.prog X.w X.K X.mg X.base CX n f fd ps sp) (hb : Binds X.K fd ps []) (hx : Passes CX X E) (sb : Sub X n A) (I : Inv X pins σ H s) (r : Vals vs us) (h : sp vs H Q E) :
    wpAny (model X.prog X.w) A (call (.ref f) us) (EP X pins σ Q) X.xe s := by
  have e0 : Env0 X.prog X.w X.K X.mg X.base A X.stack s H := by
    have e := I.env0
    exact ⟨by rw [sb.fr]; exact e.frames, e.mod, e.bs, e.bsz, e.funs, e.frf, e.hok, e.bare⟩
  have hl : us.length = ps.length := by rw [← r.length]; exact F.len _ _ _ _ h
  have b := hb s us I.kIn (by rw [List.append_nil]; exact hl)
  rw [List.append_nil] at b
  refine wpAny_call (codeAny_mono (F.run A X.stack s H ⟨us, []⟩ us vs Q E sb.room e0 b r h) fun o s' hq => ?_)
  cases o with
  | error e => exact hx pins σ H s e s' I hq
  | ok fl =>
    cases fl with
    | ret w => exact I.after hq
    | next => exact False.elim hq
    | brk => exact False.elim hq
    | cont => exact False.elim hq
def InsAt (C : Addr) (H : Hp) (a : Addr) : Prop := ∃ dx fs, H a = some (.ins C dx fs)
/-- len(x) -/
def rLenO (C : Addr) (sp : Sp) (E : XK) : List V → Hp → VK → Prop := fun vs H Q => ∃ a, vs = [.ref a] ∧ InsAt C H a ∧ sp [.ref a] H (fun v H' => ∃ n : Int, v = .int n ∧ 0 ≤ n ∧ n < 2 ^ 63 ∧ Q v H') E
theorem cr_lenO (O : OwnD X.K C "__len__" f) (F : FnOk X.prog X.w X.K X.mg X.base CX n f fd ps sp) (hb : Binds X.K fd ps []) (hx : Passes CX X E) (hr : Room (n + 1) X.A) : CallR X (.builtin "len") (rLenO C sp E) := by
  intro pins s σ H vs us Q I r h
  obtain ⟨a, rfl, ⟨dx, fs, ea⟩, q⟩ := h
  rw [Vals.ref1 r]
  obtain ⟨mA, J, _⟩ := ins_get I.hok ea
  obtain ⟨od, J, _⟩ := J.look
  obtain ⟨m, hF⟩ := I.fr
  refine PySem.W.len_K hF I.ok.mod.kin J O.at_ O.fn (thn (run_in (vs := [.ref a]) F hb hx ⟨hr.in1, rfl⟩ I (.cons rfl .nil) q) fun u s1 ⟨x, H1, I1, rx, k, ex, h0, h1, q1⟩ => ?_)
  subst ex
  obtain ⟨t, rfl⟩ := rx
  exact ⟨⟨h0, h1⟩, .int k, H1, I1.tok _, ⟨_, rfl⟩, q1⟩
/-- str(x) -/
def rStrO (C : Addr) (sp : Sp) (E : XK) : List V → Hp → VK → Prop := fun vs H Q => ∃ a, vs = [.ref a] ∧ InsAt C H a ∧ sp [.ref a] H (fun v H' => ∃ z : Str, v = .str z ∧ Q v H') E
theorem cr_strO (O : OwnD X.K C "__str__" f) (F : FnOk X.prog X.w X.K X.mg X.base CX n f fd ps sp) (hb : Binds X.K fd ps []) (hx : Passes CX X E) (hr : Room (n + 2) X.A) : CallR X (.type "str") (rStrO C sp E) := by
  intro pins s σ H vs us Q I r h
  obtain ⟨a, rfl, ⟨dx, fs, ea⟩, q⟩ := h
  rw [Vals.ref1 r]
  obtain ⟨mA, J, _⟩ := ins_get I.hok ea
  obtain ⟨od, J, _⟩ := J.look
  refine PySem.W.kso_call hr.in1.in1.units0 I.kIn J O.at_ O.fn (thn (run_in (vs := [.ref a]) F hb hx ⟨hr.in1.in1, rfl⟩ I (.cons rfl .nil) q) fun u s1 ⟨x, H1, I1, rx, z, ex, q1⟩ => ?_)
  subst ex
  obtain ⟨t, rfl⟩ := rx
  exact ⟨.str z, H1, I1, ⟨_, rfl⟩, q1⟩
/-- x == y and x != y, x of the class at C, y of whatever kind -/
def rEqO (K : PySem.W.Frag) (C : Addr) (sp : Sp) (E : XK) (neg : Bool) : R2 := fun x y H Q => ∃ a t, x = .ref a ∧ InsAt C H a ∧ TyX K H y t ∧ PySem.W.notFirst K C t = true ∧ sp [.ref a, y] H (fun v H' => ∃ b : Bool, v = .bl b ∧ Q (.bl (neg.xor b)) H') E
theorem op_eqO (O : OwnD X.K C "__eq__" f) (F : FnOk X.prog X.w X.K X.mg X.base CX n f fd ps sp) (hb : Binds X.K fd ps []) (hx : Passes CX X E) (hr : Room n X.A) : OpR X (compareOp .Eq) (rEqO X.K C sp E false) := by
  intro pins s σ H x y u v Q I rx ry h
  obtain ⟨a, t, rfl, ⟨dx, fs, ea⟩, ty, nf, q⟩ := h
  cases rx
  obtain ⟨mA, J, _⟩ := ins_get I.hok ea
  obtain ⟨od, J, _⟩ := J.look
  obtain ⟨m, hF⟩ := I.fr
  obtain ⟨P, kit, hp, _⟩ := kit_of I ry ty
  refine PySem.W.cmp_K (op := .Eq) hr.units0 hF I.ok.mod.kin J (kit.ty _ _ I.kIn hp) nf O.at_ O.fn (thn (run_in (vs := [.ref a, y]) F hb hx ⟨hr, rfl⟩ I (.cons rfl (.cons ry .nil)) q) fun w s1 ⟨z, H1, I1, rz, b, ez, q1⟩ => ?_)
  subst ez
  cases rz
  have e : (false ^^ b) = b := by cases b <;> rfl
  rw [e] at q1
  exact ⟨.bl b, H1, I1, rfl, q1⟩
theorem one_bind (self : Value) : bindSpecial (.builtin "object.__ne__") self = pure (.builtin "object.__ne__", [self]) :=
  (Slot.of (T := "object") (name := "__ne__") (owner := "object") (n := "__ne__") (by rw [typeLookup_type, builtinLookup_eq_fast]; kernel_rfl) (by decide +kernel) (by decide +kernel) (by decide +kernel)
    (.inl (by decide +kernel)) (by rw [isSubtype_type]; kernel_rfl)).bind self
theorem one_plain : plainId "object.__ne__" = true := by decide +kernel
end
section
open PySem.W
variable {prog : Program} {w : World} {A : Around} {E : Value → Shared → Prop} {s : Shared} {K : PySem.W.Frag} {x C f : Addr} {ox : Obj} {od : Option Obj}
/-- x.__ne__(b) by the class's own __eq__ -/
theorem one_call {b : Value} {Q : Value → Shared → Prop} (hu : A.in1.units < cLine) (Xk : K.In s.heap) (I : InstAt s.heap x ox C od) (ho : mroIn K C (.type "object") = some true) (hs : findIn K (.ref C) "__eq__" = some (some (.ref f))) (hf : isFn K (.ref f) = true)
    (h : wpAny (model prog w) A.in1 (call (.ref f) [.ref x, b]) (fun v s' => ∃ c : Bool, v = .bool c ∧ Q (.bool (!c)) s') E s) : wpAny (model prog w) A (call (.builtin "object.__ne__") [.ref x, b]) Q E s := by
  have t2 : Looks (model prog w) s.heap (isInstance (.ref x) (.type "object")) true := I.type.andThen (looks_mroIn Xk ho)
  refine wpAny_call (codeAny_call_builtin one_plain F.cmpEntry_ne (check_slot F.cmpKind_ne F.cmpSplit_ne t2 (F.cmpArgs_ne _ _) ?_))
  unfold Builtin.«object.__ne__»
  refine wpAny_bind (m := slotArgs "__ne__" 1 _) (wpAny_pure ?_)
  refine wpAny_bind (wpAny_cRoomFor hu ?_)
  refine wpAny_bind (m := callSpecialIfBound? (.ref x) (Str.ofString "__eq__") [b]) (ifBound_K Xk I hs hf (wpAny_mono h (fun r s' hr => ?_) fun _ _ e => e))
  obtain ⟨c, rfl, q⟩ := hr
  dsimp only
  refine wpAny_bind (wpAny_truthy_bool ?_)
  exact wpAny_pure q
theorem ifBound_ne {b : Value} {Q : Option Value → Shared → Prop} (Xk : K.In s.heap) (I : InstAt s.heap x ox C od) (hs : findIn K (.ref C) "__ne__" = some (some (.builtin "object.__ne__")))
    (h : wpAny (model prog w) A (call (.builtin "object.__ne__") [.ref x, b]) (fun v => Q (some v)) E s) : wpAny (model prog w) A (callSpecialIfBound? (.ref x) "__ne__" [b]) Q E s := by
  simp only [callSpecialIfBound?, bindSpecialIfBound?]
  refine wpAny_holding (wpAny_bind (wpAny_bind (wpAny_bind (I.type.here ((looks_findIn Xk hs).here ?_)))))
  refine wpAny_bind (wpAny_askSetting (wpAny_ite ?_))
  have fin : wpAny (model prog w) A (call (.builtin "object.__ne__") ([.ref x] ++ [b]) >>= fun v => pure (some v)) Q E s := wpAny_bind (wpAny_mono h (fun v s' h' => wpAny_pure h') fun _ _ h' => h')
  have bd : Looks (model prog w) s.heap (bindSpecial (.builtin "object.__ne__") (.ref x)) (.builtin "object.__ne__", [.ref x]) := Looks.of_pure (one_bind _)
  split
  · exact wpAny_bind (bd.here (wpAny_pure fin))
  · exact wpAny_tryCatch (wpAny_bind (bd.here (wpAny_pure fin)))
theorem ne_K {b tb : Value} {Q : Value → Shared → Prop} (hu : A.units + 8 < cLine) (Xk : K.In s.heap) (I : InstAt s.heap x ox C od) (hb : Looks (model prog w) s.heap (typeOf b) tb) (hn : notFirst K C tb = true) (ho : mroIn K C (.type "object") = some true)
    (hne : findIn K (.ref C) "__ne__" = some (some (.builtin "object.__ne__"))) (hs : findIn K (.ref C) "__eq__" = some (some (.ref f))) (hf : isFn K (.ref f) = true)
    (h : wpAny (model prog w) A.in1 (call (.ref f) [.ref x, b]) (fun v s' => ∃ c : Bool, v = .bool c ∧ Q (.bool (!c)) s') E s) : wpAny (model prog w) A (richCompare .NotEq (.ref x) b) Q E s := by
  have one : wpAny (model prog w) A (tryCompare (.ref x) "__ne__" b) (fun r s' => ∃ v, r = some v ∧ Q v s') E s := by
    unfold tryCompare
    refine wpAny_bind (ifBound_ne Xk I hne (one_call (by show A.units + 1 < cLine; omega) Xk I ho hs hf (wpAny_mono h (fun v s' hv => ?_) fun _ _ e => e)))
    obtain ⟨c, rfl, q⟩ := hv
    exact ⟨c, rfl, wpAny_pure ⟨_, rfl, q⟩⟩
  unfold richCompare
  simp only [oneThing_ref]
  refine wpAny_holding (wpAny_bind (wpAny_cRoomFor (by omega) ?_))
  refine wpAny_bind (I.type.here (wpAny_bind (hb.here ?_)))
  split
  · rename_i q
    have e : subIn K tb (.ref C) = some false := by
      rcases Bool.or_eq_true_iff.mp hn with e | e
      · rw [beq_iff_eq.mp e] at q; simp at q
      · exact beq_iff_eq.mp e
    refine wpAny_bind ((looks_subIn Xk e).here ?_)
    simp only [Bool.false_eq_true, if_false]
    refine wpAny_bind (wpAny_mono one (fun r s' z => ?_) fun _ _ e => e)
    obtain ⟨v, rfl, hq⟩ := z
    exact wpAny_pure hq
  · refine wpAny_bind (wpAny_pure ?_)
    simp only [Bool.false_eq_true, if_false]
    refine wpAny_bind (wpAny_mono one (fun r s' z => ?_) fun _ _ e => e)
    obtain ⟨v, rfl, hq⟩ := z
    exact wpAny_pure hq
end
section
variable {X : Cx} {CX : CXT} {n : Nat} {C f : Addr} {fd : FuncData} {ps : List Str} {sp : Sp} {E : XK}
theorem op_neO (O : OwnD X.K C "__eq__" f) (hne : PySem.W.findIn X.K (.ref C) "__ne__" = some (some (.builtin "object.__ne__"))) (ho : PySem.W.mroIn X.K C (.type "object") = some true) (F : FnOk X.prog X.w X.K X.mg X.base CX n f fd ps sp) (hb : Binds X.K fd ps []) (hx : Passes CX X E) (hr : Room (n + 1) X.A) : OpR X (compareOp .NotEq) (rEqO X.K C sp E true) := by
  intro pins s σ H x y u v Q I rx ry h
  obtain ⟨a, t, rfl, ⟨dx, fs, ea⟩, ty, nf, q⟩ := h
  cases rx
  obtain ⟨mA, J, _⟩ := ins_get I.hok ea
  obtain ⟨od, J, _⟩ := J.look
  obtain ⟨P, kit, hp, _⟩ := kit_of I ry ty
  refine ne_K (by have := hr.un; omega) I.kIn J (kit.ty _ _ I.kIn hp) nf ho hne O.at_ O.fn (thn (run_in (vs := [.ref a, y]) F hb hx ⟨hr.in1, rfl⟩ I (.cons rfl (.cons ry .nil)) q) fun w s1 ⟨z, H1, I1, rz, b, ez, q1⟩ => ?_)
  subst ez
  cases rz
  have e : (true ^^ b) = !b := by cases b <;> rfl
  rw [e] at q1
  exact ⟨b, rfl, .bl (!b), H1, I1, rfl, q1⟩
end
/-! ### making, where it may raise; by a local name -/
section
variable {X : Cx} {CX : CXT} {k i : Nat} {C f : Addr} {fd : FuncData} {ps : List Str} {sp : Sp} {E : St → XK} {x : Str} {p pos : Pos} {e : Expr} {es : List Expr} {t : TA}
theorem run_makeS {pins : List (Addr × Obj)} {σ : St} {H : Hp} {s : Shared} {Q : VK} {us : List Value} {vs : List V} (M : Mk X.K C f) (F : FnOk X.prog X.w X.K X.mg X.base CX k f fd ps sp) (hr : Room (k + 1) X.A) (hb : Binds X.K fd ps []) (hx : PassesAt CX X σ (E σ)) (I : Inv X pins σ H s) (r : Vals vs us)
    (h : ∀ x dx, H x = none → H dx = none → dx ≠ x → sp (.ref x :: vs) (upd (upd H dx (.own x)) x (.ins C dx [])) (fun v H2 => v = .non ∧ Q (.ref x) H2) (E σ)) : wpAny (model X.prog X.w) X.A (call (.ref C) us) (EP X pins σ Q) X.xe s := by
  have hq := h (s.heap.objs.size + 1) s.heap.objs.size (I.hok.fresh (Nat.le_succ _)) (I.hok.fresh (Nat.le_refl _)) (Nat.ne_of_lt (Nat.lt_succ_self _))
  have I2 := Inv.made (C := C) I
  have r2 : Vals (V.ref (s.heap.objs.size + 1) :: vs) (Value.ref (s.heap.objs.size + 1) :: us) := .cons rfl r
  have hl : (Value.ref (s.heap.objs.size + 1) :: us).length = ps.length := by rw [← r2.length]; exact F.len _ _ _ _ hq
  have b := hb { s with heap := _ } (Value.ref (s.heap.objs.size + 1) :: us) I2.kIn (by rw [List.append_nil]; exact hl)
  rw [List.append_nil] at b
  refine wpAny_call (make_map (f := f) I.kIn M.makes M.init (beq_iff_eq.mp M.fn) (codeAny_mono (F.run _ X.stack _ _ ⟨Value.ref (s.heap.objs.size + 1) :: us, []⟩ _ _ _ (E σ) (hr.make C us []) (I2.env0.make C us []) b r2 hq) fun o s' hq' => ?_))
  cases o with
  | error e => exact hx pins _ _ e s' I2 hq'
  | ok fl =>
    cases fl with
    | ret u =>
      obtain ⟨v, H', I3, rv, ev, q3⟩ := I2.after hq'
      subst ev
      exact ⟨rv, ⟨V.ref (s.heap.objs.size + 1), H', I3, rfl, q3⟩⟩
    | next => exact False.elim hq'
    | brk => exact False.elim hq'
    | cont => exact False.elim hq'
def MakeS (C : Addr) (sp : Sp) (E : XK) (vs : List V) (H : Hp) (Q : VK) : Prop := ∀ x dx, H x = none → H dx = none → dx ≠ x → sp (.ref x :: vs) (upd (upd H dx (.own x)) x (.ins C dx [])) (fun v H2 => v = .non ∧ Q (.ref x) H2) E
def tMakeS (C : Addr) (sp : Sp) (E : St → XK) (t : TA) : TE := fun σ H Q => t σ H fun vs H1 => MakeS C sp (E σ) vs H1 Q
theorem pe_makeS (M : Mk X.K C f) (F : FnOk X.prog X.w X.K X.mg X.base CX k f fd ps sp) (hr : Room (k + 1) X.A) (hg : Gl X x) (hm : X.mg x = some (.ref C)) (hb : Binds X.K fd ps []) (hx : ∀ σ, PassesAt CX X σ (E σ)) (ha : PA X (e :: es) t)
    (hdb : (x == ("__debug__" : Str)) = false := by decide) (he : starEach (e :: es) X.env = (false, eval e X.env) :: starEach es X.env := by rfl) (hpl : (backTo pos (starEach es X.env)).any (·.1) = false := by rfl) : PE X (.Call (.Name x p) (e :: es) [] pos) (tMakeS C sp E t) := by
  refine ⟨fun pins s σ H Q I h => ?_⟩
  refine wpAny_Call_Name_kw (ld_glob I hg hm ?_ hdb)
  exact PySem.W.callWith_K (h₀ := X.base) I.ok.mod.kin M.kp (thn (ha.run pos pins s σ H _ I h) fun us s1 ⟨vs, H1, I1, r, q⟩ => ⟨I1.kIn, run_makeS M F hr hb (hx σ) I1 r q⟩) he hpl
/-- the i-th slot holds the class -/
def tMakeL (i : Nat) (C : Addr) (sp : Sp) (E : St → XK) (t : TA) : TE := fun σ H Q => σ[i]? = some (some (.ref C)) ∧ tMakeS C sp E t σ H Q
theorem pe_makeL (M : Mk X.K C f) (F : FnOk X.prog X.w X.K X.mg X.base CX k f fd ps sp) (hr : Room (k + 1) X.A) (hN : X.N[i]? = some x) (hv : Vis X.env.scope x) (hb : Binds X.K fd ps []) (hx : ∀ σ, PassesAt CX X σ (E σ)) (ha : PA X (e :: es) t)
    (hdb : (x == ("__debug__" : Str)) = false := by decide) (hcd : (x == ("__classdict__" : Str)) = false := by decide) (he : starEach (e :: es) X.env = (false, eval e X.env) :: starEach es X.env := by rfl) (hpl : (backTo pos (starEach es X.env)).any (·.1) = false := by rfl) : PE X (.Call (.Name x p) (e :: es) [] pos) (tMakeL i C sp E t) := by
  refine ⟨fun pins s σ H Q I h => ?_⟩
  obtain ⟨hs, ht⟩ := h
  refine wpAny_Call_Name_kw (thn ((pe_var (pos := p) hN hv hdb hcd).run pins s σ H (fun v H1 => v = .ref C ∧ H1 = H) I ⟨.ref C, hs, rfl, rfl⟩) fun u s1 ⟨v, H1, I1, r1, q1⟩ => ?_)
  obtain ⟨rfl, rfl⟩ := q1
  cases r1
  exact PySem.W.callWith_K (h₀ := X.base) I.ok.mod.kin M.kp (thn (ha.run pos pins s1 σ _ _ I1 ht) fun us s2 ⟨vs, H2, I2, r, q⟩ => ⟨I2.kIn, run_makeS M F hr hb (hx σ) I2 r q⟩) he hpl
end
end L2

set_option Elab.async false
set_option linter.all false
set_option maxRecDepth 100000
set_option maxHeartbeats 4000000
/-! moves: triples of texts, as data, in order -/
namespace L2
open PySem PySem.Spec PyProof.Rows
abbrev Mv := Str × Str × Str
def wds (m : Mv) : List Str := [m.1, m.2.1, m.2.2]
def encM (m : Mv) : PyData := .tuple [.str m.1, .str m.2.1, .str m.2.2]
def ltS (a b : Str) : Bool := decide (a.cps.toList < b.cps.toList)
def mvLt (p q : Mv) : Bool := if p.1 = q.1 then (if p.2.1 = q.2.1 then (if p.2.2 = q.2.2 then false else ltS p.2.2 q.2.2) else ltS p.2.1 q.2.1) else ltS p.1 q.1
def mvLe (p q : Mv) : Bool := !mvLt q p
theorem eqv_str (x y : Str) : PyData.eqv (.str x) (.str y) = decide (x = y) := by
  unfold PyData.eqv
  rw [Bool.eq_iff_iff, beq_iff_eq, decide_eq_true_eq]
theorem alike_str (x y : Str) : PySem.W.alike (.str x) (.str y) = true := by
  unfold PySem.W.alike
  rfl
theorem dataLt_mv (p q : Mv) : PySem.W.dataLt (encM p) (encM q) = mvLt p q := by
  unfold encM mvLt
  rw [PySem.W.dataLt_tuple, PySem.W.dataLt_cons (alike_str _ _), PySem.W.dataLt_cons (alike_str _ _), PySem.W.dataLt_cons (alike_str _ _), eqv_str, eqv_str, eqv_str, PySem.W.dataLt_str, PySem.W.dataLt_str, PySem.W.dataLt_str]
  simp only [decide_eq_true_eq]
  have e : PyProof.Rows.lexLt PyProof.Rows.itemOrd (PySem.W.keyToksAll []) (PySem.W.keyToksAll []) = false := lex_irrefl _
  rw [e]
  rfl
theorem dataLe_mv : PySem.W.dataLe false encM = mvLe := by
  rw [PySem.W.dataLe_eq]
  funext a b
  show (!PySem.W.dataLt (encM b) (encM a)) = !mvLt b a
  rw [dataLt_mv]
theorem ltS_tri {a b : Str} (h1 : ltS a b = false) (h2 : ltS b a = false) : a = b :=
  leT_anti (List.not_lt.mp fun z => by
    have e : ltS b a = true := decide_eq_true z
    rw [h2] at e
    cases e) (List.not_lt.mp fun z => by
    have e : ltS a b = true := decide_eq_true z
    rw [h1] at e
    cases e)
theorem mvLe_total : PySem.W.TotalLe mvLe := by
  rw [← dataLe_mv]
  exact PySem.W.sortLe_total _ _ _
theorem mvLe_anti {p q : Mv} (h1 : mvLe p q = true) (h2 : mvLe q p = true) : p = q := by
  have e1 : mvLt q p = false := by
    unfold mvLe at h1
    simpa using h1
  have e2 : mvLt p q = false := by
    unfold mvLe at h2
    simpa using h2
  obtain ⟨a, b, c⟩ := p
  obtain ⟨x, y, z⟩ := q
  unfold mvLt at e1 e2
  simp only at e1 e2
  by_cases h : a = x
  · subst h
    rw [if_pos rfl] at e1 e2
    by_cases h : b = y
    · subst h
      rw [if_pos rfl] at e1 e2
      by_cases h : c = z
      · subst h
        rfl
      · rw [if_neg h] at e2
        rw [if_neg fun w => h w.symm] at e1
        exact absurd (ltS_tri e2 e1) h
    · rw [if_neg h] at e2
      rw [if_neg fun w => h w.symm] at e1
      exact absurd (ltS_tri e2 e1) h
  · rw [if_neg h] at e2
    rw [if_neg fun w => h w.symm] at e1
    exact absurd (ltS_tri e2 e1) h
def sortM (l : List Mv) : List Mv := l.mergeSort mvLe
theorem sortM_perm (l : List Mv) : (sortM l).Perm l := List.mergeSort_perm _ _
theorem sortM_pw (l : List Mv) : (sortM l).Pairwise fun a b => mvLe a b = true := PySem.W.sort_pairwise mvLe_total l
theorem sortM_of {l m : List Mv} (p : l.Perm m) (s : l.Pairwise fun a b => mvLe a b = true) : sortM m = l :=
  ((sortM_perm m).trans p.symm).eq_of_pairwise (fun a b _ _ h1 h2 => mvLe_anti h1 h2) (sortM_pw m) s
theorem sortM_eq {l m : List Mv} (p : l.Perm m) : sortM l = sortM m := (sortM_of ((sortM_perm l).trans p) (sortM_pw l)).symm
theorem sortM_idem (l : List Mv) : sortM (sortM l) = sortM l := sortM_eq (sortM_perm l)
theorem sortM_len (l : List Mv) : (sortM l).length = l.length := (sortM_perm l).length_eq
theorem sortM_mem {l : List Mv} {m : Mv} : m ∈ sortM l ↔ m ∈ l := (sortM_perm l).mem_iff
/-- x is a tuple of the move's three words -/
def MvR (K : PySem.W.Frag) (H : Hp) (x : V) (m : Mv) : Prop := ∃ a, x = .ref a ∧ SqT K H a ((wds m).map V.str) ∧ TyX K H x (.type "tuple")
theorem MvR.same {K : PySem.W.Frag} {H H' : Hp} {x : V} {m : Mv} (s : Same H H') (h : MvR K H x m) : MvR K H' x m := by
  obtain ⟨a, rfl, h1, h2⟩ := h
  exact ⟨a, rfl, gSeqT s h1, h2.same s⟩
theorem dpAll_strs {K : PySem.W.Frag} {H : Hp} : ∀ l : List Str, DpAll K H (l.map V.str) (l.map PyData.str)
  | [] => .nil
  | s :: r => .cons (.str s) (dpAll_strs r)
theorem MvR.dp {K : PySem.W.Frag} {H : Hp} {x : V} {m : Mv} (h : MvR K H x m) : Dp K H x (encM m) := by
  obtain ⟨a, rfl, h1, _⟩ := h
  exact .tup h1 (dpAll_strs (wds m))
theorem mvs_dp {K : PySem.W.Frag} {H : Hp} : ∀ {xs : List V} {ms : List Mv}, Paired (MvR K H) xs ms → DpAll K H xs (ms.map encM)
  | _, _, .nil => .nil
  | _, _, .cons h t => .cons h.dp (mvs_dp t)
theorem alike_mvs (ms : List Mv) : PySem.W.AllAlike (ms.map encM) := PySem.W.AllAlike.of fun b b' => by
  unfold encM
  simp [PySem.W.alike, PySem.W.alikeAll]
theorem sortable_mvs (ms : List Mv) : PySem.W.Sortable (ms.map encM) := PySem.W.Sortable.tuples fun b => ⟨_, _, rfl⟩
theorem depth_mv (m : Mv) : (encM m).depth ≤ 20 := by
  unfold encM
  simp [PyData.depth, PyData.depthAll]
theorem paired_mono {α : Type} {R S : V → α → Prop} (h : ∀ x a, R x a → S x a) : ∀ {xs : List V} {as : List α}, Paired R xs as → Paired S xs as
  | _, _, .nil => .nil
  | _, _, .cons q t => .cons (h _ _ q) (paired_mono h t)
theorem paired_at {α : Type} {R : V → α → Prop} : ∀ {xs : List V} {as : List α}, Paired R xs as → ∀ x ∈ xs, ∃ a ∈ as, R x a
  | _, _, .nil, x, hx => by cases hx
  | _, _, .cons q t, x, hx => by
    rcases List.mem_cons.mp hx with rfl | hx
    · exact ⟨_, List.mem_cons_self .., q⟩
    · obtain ⟨a, ha, r⟩ := paired_at t x hx
      exact ⟨a, List.mem_cons_of_mem _ ha, r⟩
abbrev OkMv (ms : List Mv) : Prop := ∀ m ∈ ms, ∀ s ∈ wds m, isW s = true
theorem strOk_w {s : Str} (h : isW s = true) : PyData.strOk s = true := List.all_eq_true.mp (OkS.of (ss := [s]) fun x hx => by rw [List.mem_singleton.mp hx]; exact h) s (List.mem_cons_self ..)
theorem can_mvs : ∀ ms : List Mv, OkMv ms → PyData.canLayAll0 (ms.map encM) = true
  | [], _ => by simp [PyData.canLayAll0]
  | m :: r, hw => by
    have h := can_mvs r fun x hx => hw x (List.mem_cons_of_mem _ hx)
    have h0 := hw m (List.mem_cons_self ..)
    have h1 := strOk_w (h0 m.1 (by simp [wds]))
    have h2 := strOk_w (h0 m.2.1 (by simp [wds]))
    have h3 := strOk_w (h0 m.2.2 (by simp [wds]))
    rw [List.map_cons]
    unfold encM
    unfold encM at h
    simp [PyData.canLayAll0, PyData.canLay0, h, h1, h2, h3]
theorem depth_mvs : ∀ ms : List Mv, PyData.depthAll (ms.map encM) ≤ 1
  | [] => by simp [PyData.depthAll]
  | m :: r => by
    have h := depth_mvs r
    rw [List.map_cons]
    unfold encM
    unfold encM at h
    simp [PyData.depthAll, PyData.depth, h]
theorem shaped_tmvs {ms : List Mv} (hw : OkMv ms) : SeqAt.shaped (.tuple (ms.map encM)) = true := by
  have h := depth_mvs ms
  unfold SeqAt.shaped
  simp [PyData.canLay0, can_mvs ms hw, PyData.depth]
  omega
theorem shaped_lmvs {ms : List Mv} (hw : OkMv ms) : SeqAt.shaped (.list (ms.map encM)) = true := by
  have h := depth_mvs ms
  unfold SeqAt.shaped
  simp [PyData.canLay0, can_mvs ms hw, PyData.depth]
  omega
theorem eqv_mv (m n : Mv) : PyData.eqv (encM m) (encM n) = decide (m = n) := by
  obtain ⟨a, b, c⟩ := m
  obtain ⟨x, y, z⟩ := n
  unfold encM
  simp only [PyData.eqv, PyData.eqvAll, Prod.mk.injEq, Bool.and_true]
  rw [Bool.eq_iff_iff]
  simp
theorem eqvAll_mvs : ∀ ms ns : List Mv, PyData.eqvAll (ms.map encM) (ns.map encM) = decide (ms = ns)
  | [], [] => by simp [PyData.eqvAll]
  | [], _ :: _ => by simp [PyData.eqvAll]
  | _ :: _, [] => by simp [PyData.eqvAll]
  | m :: r, n :: q => by
    rw [List.map_cons, List.map_cons, PyData.eqvAll, eqv_mv, eqvAll_mvs r q]
    simp [Bool.decide_and]
theorem eqv_tmvs (ms ns : List Mv) : PyData.eqv (.tuple (ms.map encM)) (.tuple (ns.map encM)) = decide (ms = ns) := by
  rw [PyData.eqv, eqvAll_mvs]
theorem eqv_lmvs (ms ns : List Mv) : PyData.eqv (.list (ms.map encM)) (.list (ns.map encM)) = decide (ms = ns) := by
  rw [PyData.eqv, eqvAll_mvs]
/-- sorted of moves -/
def rSortM (K : PySem.W.Frag) : List V → Hp → VK → Prop := fun vs H Q => ∃ (a : Addr) (xs : List V) (ms : List Mv), vs = [.ref a] ∧ (SqL K H a xs ∨ SqT K H a xs) ∧ Paired (MvR K H) xs ms ∧ ms.length ≤ 1000 ∧ ∀ ys, Paired (MvR K H) ys (sortM ms) → New H (.lst ys) Q
theorem cr_sortM {X : Cx} {k : Nat} (hr : Room k X.A) : CallR X (.builtin "sorted") (rSortM X.K) := fun pins s σ H vs us Q I r ⟨a, xs, ms, e, hq, hp, hl, q⟩ =>
  cr_sortD encM (MvR X.K) hr pins s σ H vs us Q I r ⟨a, xs, ms, e, hq, hp, fun _ _ h => h.dp, alike_mvs ms, sortable_mvs ms, fun b _ => depth_mv b, by omega, fun ys p => q ys (by rw [dataLe_mv] at p; exact p)⟩
end L2

set_option Elab.async false
set_option linter.all false
set_option maxRecDepth 100000
set_option maxHeartbeats 4000000
/-! the text of an action, read back -/
namespace L2
open PySem PySem.Spec PyProof.Rows
theorem tl_cs : TL.tl ", " = [44, 32] := by decide +kernel
theorem part_cases (z : Str) : (∃ a b : Str, 32 ∉ TL.tl a ∧ z = a ++ " " ++ b ∧ Txt.partition z " " = (a, (" " : Str), b)) ∨ (32 ∉ TL.tl z ∧ Txt.partition z " " = (z, Str.empty, Str.empty)) := by
  by_cases h : 32 ∈ TL.tl z
  · obtain ⟨as, bs, e, n⟩ := List.eq_append_cons_of_mem h
    have ez : z = (⟨as.toArray⟩ : Str) ++ " " ++ (⟨bs.toArray⟩ : Str) := TL.ext_tl (by
      rw [TL.tl_append, TL.tl_append, tl_sp]
      show TL.tl z = as ++ [32] ++ bs
      rw [e]
      simp)
    refine .inl ⟨⟨as.toArray⟩, ⟨bs.toArray⟩, n, ez, ?_⟩
    rw [ez]
    exact TL.partition_app tl_sp n
  · exact .inr ⟨h, TL.partition_none tl_sp h⟩
theorem part_len (z : Str) : (Txt.partition z " ").1.length ≤ z.length ∧ (Txt.partition z " ").2.2.length ≤ z.length := by
  rcases part_cases z with ⟨a, b, _, e, p⟩ | ⟨_, p⟩
  · rw [p]
    have l : z.length = a.length + (Str.ofString " ").length + b.length := by rw [e, Str.length_append, Str.length_append]
    constructor
    · show a.length ≤ _
      omega
    · show b.length ≤ _
      omega
  · rw [p]
    exact ⟨Nat.le_refl _, Nat.zero_le _⟩
theorem spl_some (S : List Nat) : ∀ l acc : List Nat, TL.spl S 0 acc l ≠ []
  | [], acc => by rw [TL.spl_nil]; simp
  | c :: r, acc => by
    cases hp : TL.pre S (c :: r) with
    | true =>
      rw [TL.spl_hit hp]
      simp
    | false =>
      rw [TL.spl_miss hp]
      exact spl_some S r _
theorem spl_back {S : List Nat} (hS : S ≠ []) : ∀ (n : Nat) (l acc : List Nat), l.length ≤ n → TL.joinL S (TL.spl S 0 acc l) = acc ++ l
  | _, [], acc, _ => by rw [TL.spl_nil, List.append_nil]; rfl
  | 0, c :: r, acc, h => by simp at h
  | n + 1, c :: r, acc, h => by
    have hr : r.length ≤ n := by simpa using h
    cases hp : TL.pre S (c :: r) with
    | false =>
      rw [TL.spl_miss hp, spl_back hS n r (acc ++ [c]) hr, List.append_assoc]
      rfl
    | true =>
      rw [TL.spl_hit hp, TL.spl_pass]
      have hl : (r.drop (S.length - 1)).length ≤ n := by rw [List.length_drop]; omega
      have ih := spl_back hS n (r.drop (S.length - 1)) [] hl
      have ne := spl_some S (r.drop (S.length - 1)) []
      have e : (c :: r) = S ++ r.drop (S.length - 1) := by
        have e1 : (c :: r).take S.length = S := beq_iff_eq.mp hp
        have e2 : (c :: r).drop S.length = r.drop (S.length - 1) := by
          cases hs : S.length with
          | zero => exact absurd (List.length_eq_zero_iff.mp hs) hS
          | succ m => simp
        conv => lhs; rw [← List.take_append_drop S.length (c :: r), e1, e2]
      cases hq : TL.spl S 0 [] (r.drop (S.length - 1)) with
      | nil => exact absurd hq ne
      | cons p q =>
        rw [hq, List.nil_append] at ih
        show acc ++ (S ++ TL.joinL S (p :: q)) = _
        rw [ih, ← e]
theorem split_back {x y : Str} (hy : TL.tl y ≠ []) (hk : y.cps.all (· < 256) = true) : Txt.join y (Txt.split x y) = x := by
  refine TL.ext_tl ?_
  rw [TL.join_eq, TL.tl_join, TL.split_spl x y hy (TL.kind_ok hk), spl_back hy _ _ _ (Nat.le_refl _), List.nil_append]
theorem split_piece {x y s : Str} (hy : TL.tl y ≠ []) (hk : y.cps.all (· < 256) = true) (h : s ∈ Txt.split x y) : s.length ≤ x.length := by
  have hm : TL.tl s ∈ (Txt.split x y).map TL.tl := List.mem_map.mpr ⟨s, h, rfl⟩
  rw [TL.split_spl x y hy (TL.kind_ok hk)] at hm
  have := spl_part_len _ _ _ _ _ hm
  rw [TL.len_tl, TL.len_tl]
  simpa using this
theorem sp_ne : TL.tl " " ≠ [] := by rw [tl_sp]; simp
theorem cs_ne : TL.tl ", " ≠ [] := by rw [tl_cs]; simp
theorem sp_asc : (Str.ofString " ").cps.all (· < 256) = true := by decide +kernel
theorem cs_asc : (Str.ofString ", ").cps.all (· < 256) = true := by decide +kernel
abbrev prs (r : Str) : List (List Str) := (Txt.split r ", ").map fun p => Txt.split p " "
def okQ (q : List Str) : Bool := decide (q.length = 3) && q.all isW
def okQs (qs : List (List Str)) : Bool := decide (1 ≤ qs.length ∧ qs.length ≤ 4) && qs.all okQ
def toMv (q : List Str) : Mv := (q.getD 0 "", q.getD 1 "", q.getD 2 "")
theorem okQ_of {q : List Str} (h : okQ q = true) : wds (toMv q) = q ∧ ∀ s ∈ q, isW s = true := by
  unfold okQ at h
  rw [Bool.and_eq_true, List.all_eq_true] at h
  obtain ⟨h1, h2⟩ := h
  have h1 := of_decide_eq_true h1
  refine ⟨?_, h2⟩
  match q, h1 with
  | [a, b, c], _ => rfl
/-- the text of moves -/
def wrM (ms : List Mv) : Str := Txt.join ", " (ms.map fun m => jn (wds m))
/-- the text of an action -/
def liA (c : Str) (ms : List Mv) : Str := c ++ " " ++ wrM ms
/-- what a text says of an action -/
def rdA (z : Str) : Option (Str × List Mv) :=
  if isW (Txt.partition z " ").1 && (okQs (prs (Txt.partition z " ").2.2) && decide ((prs (Txt.partition z " ").2.2).map toMv = sortM ((prs (Txt.partition z " ").2.2).map toMv))) then some ((Txt.partition z " ").1, (prs (Txt.partition z " ").2.2).map toMv) else none
theorem w_nosp {s : Str} (h : isW s = true) : 32 ∉ TL.tl s := fun hm => by
  have := isW_let h 32 hm
  omega
theorem jn_in {ss : List Str} (h : ∀ s ∈ ss, isW s = true) : ∀ c ∈ TL.tl (jn ss), c = 32 ∨ (97 ≤ c ∧ c ≤ 122) := by
  induction ss with
  | nil =>
    intro c hc
    have e : TL.tl (jn []) = [] := rfl
    rw [e] at hc
    cases hc
  | cons s r ih =>
    intro c hc
    have ih := ih fun x hx => h x (List.mem_cons_of_mem _ hx)
    cases r with
    | nil =>
      have e : jn [s] = s := TL.ext_tl (by
        unfold jn
        rw [TL.join_eq, TL.tl_join]
        rfl)
      rw [e] at hc
      exact .inr (isW_let (h s (List.mem_cons_self ..)) c hc)
    | cons t q =>
      have e := jn_app (xs := [s]) (ys := t :: q) (by simp) (by simp)
      have e1 : jn [s] = s := TL.ext_tl (by
        unfold jn
        rw [TL.join_eq, TL.tl_join]
        rfl)
      have e2 : s :: t :: q = [s] ++ (t :: q) := rfl
      rw [e2, e, e1, TL.tl_append, TL.tl_append, tl_sp] at hc
      simp only [List.mem_append, List.mem_singleton] at hc
      rcases hc with (hc | hc) | hc
      · exact .inr (isW_let (h s (List.mem_cons_self ..)) c hc)
      · exact .inl hc
      · exact ih c hc
theorem jn_nocomma {ss : List Str} (h : ∀ s ∈ ss, isW s = true) : 44 ∉ TL.tl (jn ss) := fun hm => by
  have := jn_in h 44 hm
  omega
/-- parts without a comma, joined, are these parts again -/
theorem prs_join {ps : List Str} (hne : ps ≠ []) (hc : ∀ p ∈ ps, 44 ∉ TL.tl p) : prs (Txt.join ", " ps) = ps.map fun p => Txt.split p " " := by
  unfold prs
  rw [TL.split_join tl_cs cs_asc hne hc]
theorem rdA_cut {c r : Str} (h : 32 ∉ TL.tl c) : rdA (c ++ " " ++ r) = if isW c && (okQs (prs r) && decide ((prs r).map toMv = sortM ((prs r).map toMv))) then some (c, (prs r).map toMv) else none := by
  unfold rdA
  rw [TL.partition_app tl_sp h]
theorem wds_split {m : Mv} (h : ∀ s ∈ wds m, isW s = true) : Txt.split (jn (wds m)) " " = wds m := split_jn (by simp [wds]) (.of h)
theorem prs_wr {ms : List Mv} (hne : ms ≠ []) (h : OkMv ms) : prs (wrM ms) = ms.map wds := by
  unfold wrM
  rw [prs_join (by simpa using hne) fun p hp => by
    obtain ⟨m, hm, rfl⟩ := List.mem_map.mp hp
    exact jn_nocomma (h m hm), List.map_map]
  exact List.map_congr_left fun m hm => wds_split (h m hm)
theorem toMv_wds (ms : List Mv) : (ms.map wds).map toMv = ms := by
  rw [List.map_map]
  have : (toMv ∘ wds) = id := by
    funext m
    rfl
  rw [this, List.map_id]
theorem okQs_wds {ms : List Mv} (hne : ms ≠ []) (hl : ms.length ≤ 4) (h : OkMv ms) : okQs (ms.map wds) = true := by
  unfold okQs
  rw [Bool.and_eq_true, List.all_eq_true]
  refine ⟨decide_eq_true ⟨?_, by rw [List.length_map]; exact hl⟩, fun q hq => ?_⟩
  · rw [List.length_map]
    cases ms with
    | nil => exact absurd rfl hne
    | cons _ _ => exact Nat.succ_le_succ (Nat.zero_le _)
  · obtain ⟨m, hm, rfl⟩ := List.mem_map.mp hq
    unfold okQ
    rw [Bool.and_eq_true, List.all_eq_true]
    exact ⟨decide_eq_true rfl, h m hm⟩
theorem rdA_li {c : Str} {ms : List Mv} (hc : isW c = true) (hne : ms ≠ []) (hl : ms.length ≤ 4) (h : OkMv ms) (hs : sortM ms = ms) : rdA (liA c ms) = some (c, ms) := by
  unfold liA
  rw [rdA_cut (w_nosp hc), prs_wr hne h, toMv_wds, hc, okQs_wds hne hl h, hs, decide_eq_true rfl]
  rfl
/-- only an action's own text says something of it -/
theorem rdA_some {z c : Str} {ms : List Mv} (h : rdA z = some (c, ms)) : isW c = true ∧ ms ≠ [] ∧ ms.length ≤ 4 ∧ OkMv ms ∧ sortM ms = ms ∧ z = liA c ms := by
  unfold rdA at h
  split at h
  · rename_i hh
    injection h with h
    injection h with h1 h2
    rw [Bool.and_eq_true, Bool.and_eq_true] at hh
    obtain ⟨k1, k2, k3⟩ := hh
    have k3 := of_decide_eq_true k3
    unfold okQs at k2
    rw [Bool.and_eq_true, List.all_eq_true] at k2
    obtain ⟨k2, k4⟩ := k2
    have k2 := of_decide_eq_true k2
    rcases part_cases z with ⟨a, b, ha, e, p⟩ | ⟨_, p⟩
    · rw [p] at h1 h2 k1 k2 k3 k4
      subst h1
      subst h2
      have hw : ((prs b).map toMv).map wds = prs b := by
        rw [List.map_map]
        conv => rhs; rw [← List.map_id (prs b)]
        exact List.map_congr_left fun q hq => (okQ_of (k4 q hq)).1
      refine ⟨k1, fun z => ?_, by rw [List.length_map]; exact k2.2, fun m hm s hs => ?_, k3.symm, ?_⟩
      · have h0 := k2.1
        have e0 : prs b = [] := List.map_eq_nil_iff.mp z
        rw [e0] at h0
        simp at h0
      · obtain ⟨q, hq, rfl⟩ := List.mem_map.mp hm
        have o := okQ_of (k4 q hq)
        rw [o.1] at hs
        exact o.2 s hs
      · unfold liA wrM
        have e2 : ((prs b).map toMv).map (fun m => jn (wds m)) = Txt.split b ", " := by
          have e3 : ((prs b).map toMv).map (fun m => jn (wds m)) = (((prs b).map toMv).map wds).map jn := (List.map_map (f := wds) (g := jn)).symm
          rw [e3, hw]
          unfold prs
          rw [List.map_map]
          conv => rhs; rw [← List.map_id (Txt.split b ", ")]
          exact List.map_congr_left fun x _ => split_back sp_ne sp_asc
        rw [e2, split_back cs_ne cs_asc]
        exact e
    · rw [p] at k2 k4
      have e : Txt.split Str.empty ", " = [Str.empty] := by decide +kernel
      have e1 : Txt.split Str.empty " " = [Str.empty] := by decide +kernel
      have := k4 [Str.empty] (by
        show [Str.empty] ∈ (Txt.split Str.empty ", ").map fun p => Txt.split p " "
        rw [e, List.map_cons, e1]
        exact List.mem_cons_self ..)
      have e2 : okQ [Str.empty] = false := by decide +kernel
      rw [e2] at this
      cases this
  · cases h
end L2

set_option Elab.async false
set_option linter.all false
set_option maxRecDepth 100000
set_option maxHeartbeats 4000000
/-! a row of items of which one replaces: an earlier item that holds a written text has made a mark -/
namespace L2
open PySem PySem.Spec PyProof.Rows CwR
section
variable {X : Cx} {e f : Expr} {es : List Expr} {te tf : TE} {t : TA} {pos p : Pos} {j : Nat} {y : Str}
theorem pat_of (h : PA X es t) : PAT X es t := fun pos pins s σ H Q _ I q => h.run pos pins s σ H Q I q
/-- an item e + 'y', and the rest behind it -/
theorem pa_mark {r : R2} (ho : OpR X (binaryOp .Add) r) (ha : PE X e te) (hr : PAT X es t) (hs : starEach (.BinOp e .Add (.Constant (.str y) j p) pos :: es) X.env = (false, eval (.BinOp e .Add (.Constant (.str y) j p) pos) X.env) :: starEach es X.env := by rfl) :
    PA X (.BinOp e .Add (.Constant (.str y) j p) pos :: es) (tCons (tOp r te (tC (.str y))) t) := by
  refine ⟨fun pos' pins s σ H Q I h => ?_⟩
  rw [hs]
  show wpAny _ _ (spliced ((false, eval (.BinOp e .Add (.Constant (.str y) j p) pos) X.env) :: backTo pos' (starEach es X.env))) _ _ s
  refine Calls.spliced_cons (wpAny_BinOp (thn (ha.run pins s σ H _ I h) fun v s1 ⟨x, H1, I1, r1, q1⟩ => Calls.Constant_str ?_))
  have I2 := I1.tok (s1.toks + 1)
  refine wpAny_mono (PySem.wpAny_toks_of (n := 1) (by show 1 ≤ s1.toks + 1; omega) (ho pins { s1 with toks := s1.toks + 1 } σ H1 x (.str y) v (.str y s1.toks) _ I2 r1 ⟨_, rfl⟩ q1)) (fun u s3 q => ?_) fun _ _ z => z.2
  obtain ⟨hk, z, H3, I3, r3, q3⟩ := q
  exact thn (hr pos' pins s3 σ H3 _ hk I3 q3) fun us s4 ⟨xs, H4, I4, r4, q4⟩ => ⟨z :: xs, H4, I4, .cons r3 r4, q4⟩
end
end L2

set_option Elab.async false
set_option linter.all false
set_option maxRecDepth 100000
set_option maxHeartbeats 4000000
/-! texts near the text of an action, of which none is one -/
namespace L2
open PySem PySem.Spec PyProof.Rows
def Ltr (a : Nat) : Prop := 97 ≤ a ∧ a ≤ 122
def EndsL (l : List Nat) : Prop := ∃ r a, l = r ++ [a] ∧ Ltr a
theorem EndsL.app {l : List Nat} (x : List Nat) (h : EndsL l) : EndsL (x ++ l) := by
  obtain ⟨r, a, rfl, h⟩ := h
  exact ⟨x ++ r, a, by rw [List.append_assoc], h⟩
theorem EndsL.ne {l : List Nat} {b : Nat} (h : EndsL (l ++ [b])) : Ltr b := by
  obtain ⟨r, a, e, h⟩ := h
  have := (List.append_inj' e rfl).2
  injection this with this
  subst this
  exact h
theorem ends_w {s : Str} (h : isW s = true) : EndsL (TL.tl s) := by
  have l := (isW_len h).1
  have hl := isW_let h
  rw [TL.len_tl] at l
  have ne : TL.tl s ≠ [] := fun z => by
    rw [z] at l
    simp at l
  exact ⟨(TL.tl s).dropLast, (TL.tl s).getLast ne, (List.dropLast_concat_getLast ne).symm, hl _ (List.getLast_mem ne)⟩
theorem ends_join (S : List Nat) : ∀ ps : List (List Nat), ps ≠ [] → (∀ p ∈ ps, EndsL p) → EndsL (TL.joinL S ps)
  | [], h, _ => absurd rfl h
  | [p], _, h => h p (List.mem_cons_self ..)
  | p :: q :: r, _, h => by
    show EndsL (p ++ (S ++ TL.joinL S (q :: r)))
    exact ((ends_join S (q :: r) (by simp) fun x hx => h x (List.mem_cons_of_mem _ hx)).app S).app p
theorem ends_jn {ss : List Str} (hne : ss ≠ []) (h : ∀ s ∈ ss, isW s = true) : EndsL (TL.tl (jn ss)) := by
  unfold jn
  rw [TL.join_eq, TL.tl_join]
  refine ends_join _ _ (by simpa using hne) fun p hp => ?_
  obtain ⟨s, hs, rfl⟩ := List.mem_map.mp hp
  exact ends_w (h s hs)
theorem ends_wr {ms : List Mv} (hne : ms ≠ []) (h : OkMv ms) : EndsL (TL.tl (wrM ms)) := by
  unfold wrM
  rw [TL.join_eq, TL.tl_join]
  refine ends_join _ _ (by simpa using hne) fun p hp => ?_
  obtain ⟨s, hs, rfl⟩ := List.mem_map.mp hp
  obtain ⟨m, hm, rfl⟩ := List.mem_map.mp hs
  exact ends_jn (by simp [wds]) (h m hm)
theorem ends_li {c : Str} {ms : List Mv} (hne : ms ≠ []) (h : OkMv ms) : EndsL (TL.tl (liA c ms)) := by
  unfold liA
  rw [TL.tl_append]
  exact (ends_wr hne h).app _
def HeadL (l : List Nat) : Prop := ∃ a r, l = a :: r ∧ Ltr a
theorem HeadL.app {l : List Nat} (x : List Nat) (h : HeadL l) : HeadL (l ++ x) := by
  obtain ⟨a, r, rfl, h⟩ := h
  exact ⟨a, r ++ x, rfl, h⟩
theorem head_w {s : Str} (h : isW s = true) : HeadL (TL.tl s) := by
  have l := (isW_len h).1
  have hl := isW_let h
  rw [TL.len_tl] at l
  cases e : TL.tl s with
  | nil =>
    rw [e] at l
    simp at l
  | cons a r => exact ⟨a, r, rfl, hl a (by rw [e]; exact List.mem_cons_self ..)⟩
theorem head_join (S : List Nat) : ∀ ps : List (List Nat), ps ≠ [] → (∀ p ∈ ps, HeadL p) → HeadL (TL.joinL S ps)
  | [], h, _ => absurd rfl h
  | [p], _, h => h p (List.mem_cons_self ..)
  | p :: q :: r, _, h => (h p (List.mem_cons_self ..)).app _
theorem head_wr {ms : List Mv} (hne : ms ≠ []) (h : OkMv ms) : HeadL (TL.tl (wrM ms)) := by
  unfold wrM
  rw [TL.join_eq, TL.tl_join]
  refine head_join _ _ (by simpa using hne) fun p hp => ?_
  obtain ⟨s, hs, rfl⟩ := List.mem_map.mp hp
  obtain ⟨m, hm, rfl⟩ := List.mem_map.mp hs
  unfold jn
  rw [TL.join_eq, TL.tl_join]
  refine head_join _ _ (by simp [wds]) fun p hp => ?_
  obtain ⟨s, hs, rfl⟩ := List.mem_map.mp hp
  exact head_w (h m hm s hs)
theorem none_of {z : Str} (h : ∀ c ms, isW c = true → ms ≠ [] → ms.length ≤ 4 → OkMv ms → sortM ms = ms → z = liA c ms → False) : rdA z = none := by
  cases e : rdA z with
  | none => rfl
  | some p =>
    obtain ⟨c, ms⟩ := p
    obtain ⟨h1, h2, h3, h4, h5, h6⟩ := rdA_some e
    exact (h c ms h1 h2 h3 h4 h5 h6).elim
/-- the head is no letter, or there is none -/
theorem none_head {z : Str} (h : ¬ HeadL (TL.tl z)) : rdA z = none := none_of fun c ms hc _ _ _ _ e => h (by
  rw [e]
  unfold liA
  rw [TL.tl_append, TL.tl_append]
  exact ((head_w hc).app _).app _)
/-- the end is no letter -/
theorem none_last {z x : Str} {b : Nat} (e : TL.tl x = [b]) (h : ¬ Ltr b) : rdA (z ++ x) = none := none_of fun c ms _ hne _ hw _ e2 => h (by
  have := ends_li (c := c) hne hw
  rw [← e2, TL.tl_append, e] at this
  exact this.ne)
theorem none_nosp {z : Str} (h : 32 ∉ TL.tl z) : rdA z = none := none_of fun c ms _ _ _ _ _ e => h (by
  rw [e]
  unfold liA
  rw [TL.tl_append, TL.tl_append, tl_sp]
  simp)
/-- behind the name and one blank -/
theorem cut_wr {c r : Str} (hc : isW c = true) {c' : Str} {ms : List Mv} (hc' : isW c' = true) (e : c ++ " " ++ r = liA c' ms) : r = wrM ms := by
  unfold liA at e
  have h1 := TL.partition_app tl_sp (b := r) (w_nosp hc)
  have h2 := TL.partition_app tl_sp (b := wrM ms) (w_nosp hc')
  rw [e, h2] at h1
  injection h1 with _ h1
  injection h1 with _ h1
  exact h1.symm
theorem none_cut {c r : Str} (hc : isW c = true) (h : ∀ ms, ms ≠ [] → ms.length ≤ 4 → OkMv ms → sortM ms = ms → r = wrM ms → False) : rdA (c ++ " " ++ r) = none :=
  none_of fun c' ms hc' h1 h2 h3 h4 e => h ms h1 h2 h3 h4 (cut_wr hc hc' e)
/-- parts without a comma of which one is no move -/
theorem none_parts {c : Str} (hc : isW c = true) {ps : List Str} (hne : ps ≠ []) (hp : ∀ p ∈ ps, 44 ∉ TL.tl p) (h : ∀ ms, ms ≠ [] → ms.length ≤ 4 → OkMv ms → sortM ms = ms → ps.map (fun p => Txt.split p " ") = ms.map wds → False) : rdA (c ++ " " ++ Txt.join ", " ps) = none :=
  none_cut hc fun ms h1 h2 h3 h4 e => h ms h1 h2 h3 h4 (by rw [← prs_join hne hp, e, prs_wr h1 h3])
theorem none_part {c : Str} (hc : isW c = true) {ps : List Str} (hp : ∀ p ∈ ps, 44 ∉ TL.tl p) {p : Str} (hm : p ∈ ps) (h : (Txt.split p " ").length ≠ 3) : rdA (c ++ " " ++ Txt.join ", " ps) = none :=
  none_parts hc (List.ne_nil_of_mem hm) hp fun ms _ _ _ _ e => by
    have : Txt.split p " " ∈ ms.map wds := by
      rw [← e]
      exact List.mem_map.mpr ⟨p, hm, rfl⟩
    obtain ⟨m, _, e2⟩ := List.mem_map.mp this
    exact h (by rw [← e2]; rfl)
end L2

set_option Elab.async false
set_option linter.all false
set_option maxRecDepth 100000
set_option maxHeartbeats 4000000
/-! each of the texts near the text of an action -/
namespace L2
open PySem PySem.Spec PyProof.Rows
section
variable {c : Str} {ns : List Mv}
abbrev ptsM (ns : List Mv) : List Str := ns.map fun m => jn (wds m)
theorem pts_nc (hw : OkMv ns) : ∀ p ∈ ptsM ns, 44 ∉ TL.tl p := fun p hp => by
  obtain ⟨m, hm, rfl⟩ := List.mem_map.mp hp
  exact jn_nocomma (hw m hm)
theorem tl_lit (s : String) : TL.tl (Str.ofString s) = s.toList.map Char.toNat := TL.tl_ofString s
theorem w1 (hc : isW c = true) : rdA c = none := none_nosp (w_nosp hc)
theorem w2 : rdA (c ++ " ") = none := none_last (b := 32) tl_sp (by unfold Ltr; omega)
theorem w3 {l : Str} : rdA (" " ++ l) = none := none_head fun ⟨a, r, e, h⟩ => by
  rw [TL.tl_append, tl_sp] at e
  injection e with e _
  subst e
  unfold Ltr at h
  omega
theorem w4 {l : Str} : rdA (l ++ " ") = none := none_last (b := 32) tl_sp (by unfold Ltr; omega)
theorem w5 {l : Str} : rdA (l ++ ",") = none := none_last (b := 44) (by decide +kernel) (by unfold Ltr; omega)
theorem w6 {l : Str} : rdA (l ++ ", ") = none := by
  have e : l ++ ", " = (l ++ ",") ++ " " := TL.ext_tl (by
    rw [TL.tl_append, TL.tl_append, TL.tl_append, tl_cs, tl_sp, show TL.tl "," = [44] by decide +kernel]
    simp)
  rw [e]
  exact w4
theorem w18 {l : Str} : rdA (l ++ "\n") = none := none_last (b := 10) (by decide +kernel) (by unfold Ltr; omega)
theorem dbl_none : ∀ l : List Nat, 32 ∉ l → StrLaws.dbl 32 l = l
  | [], _ => rfl
  | k :: r, h => by
    have h1 : ¬ k = 32 := fun z => h (by rw [z]; exact List.mem_cons_self ..)
    unfold StrLaws.dbl
    rw [if_neg h1, dbl_none r fun z => h (List.mem_cons_of_mem _ z)]
theorem w7 (hc : isW c = true) {r : Str} : rdA (Txt.replace (c ++ " " ++ r) " " "  ") = none := by
  have e : Txt.replace (c ++ " " ++ r) " " "  " = c ++ " " ++ (" " ++ ⟨(StrLaws.dbl 32 (TL.tl r)).toArray⟩) := TL.ext_tl (by
    have h := StrLaws.replace_double (c ++ " " ++ r) 32
    have e1 : (⟨#[32]⟩ : Str) = " " := by decide +kernel
    have e2 : (⟨#[32, 32]⟩ : Str) = "  " := by decide +kernel
    rw [e1, e2] at h
    have h : TL.tl (Txt.replace (c ++ " " ++ r) " " "  ") = StrLaws.dbl 32 (TL.tl (c ++ " " ++ r)) := h
    rw [h, TL.tl_append, TL.tl_append, StrLaws.dbl_append, StrLaws.dbl_append, dbl_none _ (w_nosp hc), tl_sp, TL.tl_append, TL.tl_append, TL.tl_append, tl_sp]
    show _ = TL.tl c ++ [32] ++ ([32] ++ StrLaws.dbl 32 (TL.tl r))
    have e3 : StrLaws.dbl 32 [32] = [32, 32] := by decide
    rw [e3]
    simp)
  rw [e]
  refine none_cut hc fun ms hne _ hw _ e2 => ?_
  have h := head_wr hne hw
  rw [← e2, TL.tl_append, tl_sp] at h
  obtain ⟨a, q, e3, h3⟩ := h
  injection e3 with e3 _
  subst e3
  unfold Ltr at h3
  omega
theorem join_cons (S p : Str) {q : List Str} (h : q ≠ []) : Txt.join S (p :: q) = p ++ S ++ Txt.join S q := by
  cases q with
  | nil => exact absurd rfl h
  | cons x r => exact TL.ext_tl (by
      rw [TL.tl_append, TL.tl_append, TL.join_eq, TL.join_eq, TL.tl_join, TL.tl_join, List.append_assoc]
      rfl)
theorem join_one (S p : Str) : Txt.join S [p] = p := TL.ext_tl (by
  rw [TL.join_eq, TL.tl_join]
  rfl)
theorem app_assoc (a b d : Str) : a ++ b ++ d = a ++ (b ++ d) := TL.ext_tl (by
  rw [TL.tl_append, TL.tl_append, TL.tl_append, TL.tl_append, List.append_assoc])
theorem join_head (S x p : Str) (q : List Str) : Txt.join S ((x ++ p) :: q) = x ++ Txt.join S (p :: q) := by
  cases q with
  | nil => rw [join_one, join_one]
  | cons y r =>
    rw [join_cons S _ (by simp), join_cons S p (by simp), app_assoc, app_assoc, app_assoc]
theorem join_last (S x p : Str) : ∀ q : List Str, Txt.join S (q ++ [p ++ x]) = Txt.join S (q ++ [p]) ++ x
  | [] => by
    rw [List.nil_append, List.nil_append, join_one, join_one]
  | y :: r => by
    rw [List.cons_append, List.cons_append, join_cons S y (by simp), join_cons S y (by simp), join_last S x p r, app_assoc, app_assoc, app_assoc]
theorem split_len4 {ss : List Str} (h : ∀ s ∈ ss, isW s = true) (hl : ss.length ≠ 3) (hne : ss ≠ []) : (Txt.split (jn ss) " ").length ≠ 3 := by
  rw [split_jn hne (.of h)]
  exact hl
theorem jn_cons (p : Str) {q : List Str} (h : q ≠ []) : jn (p :: q) = p ++ " " ++ jn q := join_cons " " p h
theorem w8 (hc : isW c = true) (hne : ns ≠ []) (hw : OkMv ns) : rdA ("action " ++ liA c ns) = none := by
  obtain ⟨m, r, rfl⟩ := List.exists_cons_of_ne_nil hne
  have e : ("action " : Str) ++ liA c (m :: r) = ("action" : Str) ++ " " ++ Txt.join ", " ((c ++ " " ++ jn (wds m)) :: ptsM r) := by
    have e0 : ("action " : Str) = ("action" : Str) ++ " " := by decide +kernel
    have e1 : Txt.join ", " ((c ++ " " ++ jn (wds m)) :: ptsM r) = (c ++ " ") ++ Txt.join ", " (jn (wds m) :: ptsM r) := join_head _ _ _ _
    rw [e1, e0]
    unfold liA wrM
    rw [List.map_cons]
  have hj : ∀ s ∈ c :: wds m, isW s = true := fun s hs => by
    rcases List.mem_cons.mp hs with rfl | hs
    · exact hc
    · exact hw m (List.mem_cons_self ..) s hs
  have e2 : c ++ " " ++ jn (wds m) = jn (c :: wds m) := (jn_cons c (by simp [wds])).symm
  rw [e, e2]
  refine none_part (by decide +kernel) (p := jn (c :: wds m)) (fun p hp => ?_) (List.mem_cons_self ..) (split_len4 hj (by simp [wds]) (by simp))
  rcases List.mem_cons.mp hp with rfl | hp
  · exact jn_nocomma hj
  · exact pts_nc (fun x hx => hw x (List.mem_cons_of_mem _ hx)) p hp
theorem w9 (hc : isW c = true) (hne : ns ≠ []) (hw : OkMv ns) : rdA (liA c ns ++ " s") = none := by
  obtain ⟨q, m, rfl⟩ : ∃ q m, ns = q ++ [m] := ⟨ns.dropLast, ns.getLast hne, (List.dropLast_concat_getLast hne).symm⟩
  have hm : ∀ s ∈ wds m, isW s = true := hw m (List.mem_append_right _ (List.mem_singleton.mpr rfl))
  have e : liA c (q ++ [m]) ++ " s" = c ++ " " ++ Txt.join ", " (ptsM q ++ [jn (wds m) ++ " s"]) := by
    rw [join_last]
    unfold liA wrM
    rw [List.map_append, app_assoc (c ++ " ")]
    rfl
  have hj : ∀ s ∈ wds m ++ [("s" : Str)], isW s = true := fun s hs => by
    rcases List.mem_append.mp hs with hs | hs
    · exact hm s hs
    · rw [List.mem_singleton.mp hs]
      decide +kernel
  have e2 : jn (wds m) ++ " s" = jn (wds m ++ [("s" : Str)]) := by
    rw [jn_app (by simp [wds]) (by simp)]
    have e3 : jn [("s" : Str)] = "s" := join_one _ _
    have e4 : (" s" : Str) = (" " : Str) ++ "s" := by decide +kernel
    rw [e3, e4, app_assoc]
  rw [e, e2]
  refine none_part hc (p := jn (wds m ++ [("s" : Str)])) (fun p hp => ?_) (List.mem_append_right _ (List.mem_singleton.mpr rfl)) (split_len4 hj (by simp [wds]) (by simp))
  rcases List.mem_append.mp hp with hp | hp
  · exact pts_nc (fun x hx => hw x (List.mem_append_left _ hx)) p hp
  · rw [List.mem_singleton.mp hp]
    exact jn_nocomma hj
theorem join_in (S : Str) (P : Nat → Prop) (hS : ∀ a ∈ TL.tl S, P a) : ∀ ps : List Str, (∀ p ∈ ps, ∀ a ∈ TL.tl p, P a) → ∀ a ∈ TL.tl (Txt.join S ps), P a
  | [], _, a, ha => by cases (show a ∈ ([] : List Nat) from ha)
  | [p], h, a, ha => by
    rw [join_one] at ha
    exact h p (List.mem_cons_self ..) a ha
  | p :: q :: r, h, a, ha => by
    rw [join_cons S p (by simp), TL.tl_append, TL.tl_append] at ha
    rcases List.mem_append.mp ha with ha | ha
    · rcases List.mem_append.mp ha with ha | ha
      · exact h p (List.mem_cons_self ..) a ha
      · exact hS a ha
    · exact join_in S P hS (q :: r) (fun x hx => h x (List.mem_cons_of_mem _ hx)) a ha
theorem li_ascii (hc : isW c = true) (hw : OkMv ns) : ∀ a ∈ TL.tl (liA c ns), a < 128 := fun a ha => by
  unfold liA wrM at ha
  rw [TL.tl_append, TL.tl_append, tl_sp] at ha
  rcases List.mem_append.mp ha with ha | ha
  · rcases List.mem_append.mp ha with ha | ha
    · have := isW_let hc a ha
      omega
    · have := List.mem_singleton.mp ha
      omega
  · refine join_in ", " (· < 128) (fun a ha => ?_) _ (fun p hp a ha => ?_) a ha
    · rw [tl_cs] at ha
      simp only [List.mem_cons, List.not_mem_nil, or_false] at ha
      omega
    · obtain ⟨m, hm, rfl⟩ := List.mem_map.mp hp
      have := jn_in (hw m hm) a ha
      omega
theorem w10 (hc : isW c = true) (hw : OkMv ns) : rdA (Txt.upper (liA c ns)) = none := by
  refine none_head fun ⟨a, r, e, h⟩ => ?_
  rw [PyProof.Rows.upper_ascii (x := liA c ns) (li_ascii hc hw)] at e
  have e1 : TL.tl (⟨(liA c ns).cps.map PyProof.Rows.up1⟩ : Str) = (TL.tl (liA c ns)).map PyProof.Rows.up1 := by
    show ((liA c ns).cps.map PyProof.Rows.up1).toList = _
    rw [Array.toList_map]
  rw [e1] at e
  have e2 : TL.tl (liA c ns) = TL.tl c ++ ([32] ++ TL.tl (wrM ns)) := by
    unfold liA
    rw [TL.tl_append, TL.tl_append, tl_sp, List.append_assoc]
  obtain ⟨b, q, e3, hb⟩ := head_w hc
  rw [e2, e3] at e
  injection e with e _
  subst e
  have hb : 97 ≤ b ∧ b ≤ 122 := hb
  unfold PyProof.Rows.up1 Ltr at h
  rw [if_pos hb] at h
  omega
theorem w16 {r : Str} (hc : isW c = true) : rdA (c ++ ", " ++ r) = none := by
  have e : c ++ ", " ++ r = (c ++ ",") ++ " " ++ r := TL.ext_tl (by
    rw [TL.tl_append, TL.tl_append, TL.tl_append, TL.tl_append, TL.tl_append, tl_cs, tl_sp, show TL.tl "," = [44] by decide +kernel]
    simp)
  have n : 32 ∉ TL.tl (c ++ ",") := fun hm => by
    rw [TL.tl_append, show TL.tl "," = [44] by decide +kernel] at hm
    rcases List.mem_append.mp hm with hm | hm
    · exact w_nosp hc hm
    · simp at hm
  rw [e, rdA_cut n]
  have hw : isW (c ++ ",") = false := by
    cases q : isW (c ++ ",") with
    | false => rfl
    | true =>
      have := isW_let q 44 (by rw [TL.tl_append, show TL.tl "," = [44] by decide +kernel]; simp)
      omega
  rw [hw]
  rfl
theorem w15 (hc : isW c = true) : rdA (c ++ " a b") = none := by
  have e : c ++ " a b" = c ++ " " ++ Txt.join ", " [("a b" : Str)] := by
    rw [join_one, app_assoc]
    congr 1
  rw [e]
  exact none_part hc (p := "a b") (fun p hp => by rw [List.mem_singleton.mp hp]; decide +kernel) (List.mem_singleton.mpr rfl) (by decide +kernel)
theorem w17 (hc : isW c = true) : rdA (c ++ " " ++ Txt.join ", " (List.replicate 5 ("zzz s s" : Str))) = none := by
  refine none_parts hc (by simp) (fun p hp => by rw [List.eq_of_mem_replicate hp]; decide +kernel) fun ms _ h4 _ _ e => ?_
  have := congrArg List.length e
  simp at this
  omega
/-! counts of signs -/
theorem cnt_join (S : List Nat) (x k : Nat) : ∀ ps : List (List Nat), ps ≠ [] → (∀ p ∈ ps, p.count x = k) → (TL.joinL S ps).count x + S.count x = ps.length * (k + S.count x)
  | [], h, _ => absurd rfl h
  | [p], _, h => by
    show p.count x + S.count x = 1 * (k + S.count x)
    rw [h p (List.mem_cons_self ..), Nat.one_mul]
  | p :: q :: r, _, h => by
    have ih := cnt_join S x k (q :: r) (by simp) fun y hy => h y (List.mem_cons_of_mem _ hy)
    show (p ++ (S ++ TL.joinL S (q :: r))).count x + S.count x = _
    have e : (p :: q :: r).length * (k + S.count x) = (q :: r).length * (k + S.count x) + (k + S.count x) := Nat.succ_mul _ _
    rw [List.count_append, List.count_append, h p (List.mem_cons_self ..), e]
    omega
theorem cnt_w {s : Str} (h : isW s = true) (x : Nat) (hx : ¬ Ltr x) : (TL.tl s).count x = 0 := List.count_eq_zero.mpr fun hm => hx (isW_let h x hm)
theorem cnt_jn {m : Mv} (h : ∀ s ∈ wds m, isW s = true) : (TL.tl (jn (wds m))).count 32 = 2 ∧ (TL.tl (jn (wds m))).count 44 = 0 := by
  have e : TL.tl (jn (wds m)) = TL.joinL [32] ((wds m).map TL.tl) := by
    unfold jn
    rw [TL.join_eq, TL.tl_join, tl_sp]
  have k : ∀ x, ¬ Ltr x → ∀ p ∈ (wds m).map TL.tl, p.count x = 0 := fun x hx p hp => by
    obtain ⟨s, hs, rfl⟩ := List.mem_map.mp hp
    exact cnt_w (h s hs) x hx
  rw [e]
  have h1 := cnt_join [32] 32 0 _ (by simp [wds]) (k 32 (by unfold Ltr; omega))
  have h2 := cnt_join [32] 44 0 _ (by simp [wds]) (k 44 (by unfold Ltr; omega))
  have l3 : ((wds m).map TL.tl).length = 3 := rfl
  rw [l3] at h1 h2
  simp at h1 h2
  exact ⟨by omega, h2⟩
theorem w11 (hc : isW c = true) (hne : ns ≠ []) (hw : OkMv ns) : rdA (c ++ " " ++ Txt.join "," (ptsM ns ++ [("a b c" : Str)])) = none := by
  refine none_cut hc fun ms hne2 _ hw2 _ e => ?_
  have l1 : 1 ≤ ns.length := by
    cases ns with
    | nil => exact absurd rfl hne
    | cons _ _ => exact Nat.succ_le_succ (Nat.zero_le _)
  have l2 : 1 ≤ ms.length := by
    cases ms with
    | nil => exact absurd rfl hne2
    | cons _ _ => exact Nat.succ_le_succ (Nat.zero_le _)
  have tc : TL.tl "," = [44] := by decide +kernel
  have eA : TL.tl (Txt.join "," (ptsM ns ++ [("a b c" : Str)])) = TL.joinL [44] ((ptsM ns ++ [("a b c" : Str)]).map TL.tl) := by rw [TL.join_eq, TL.tl_join, tc]
  have eB : TL.tl (wrM ms) = TL.joinL [44, 32] ((ptsM ms).map TL.tl) := by
    unfold wrM
    rw [TL.join_eq, TL.tl_join, tl_cs]
  have kB : ∀ (qs : List Mv), OkMv qs → ∀ p ∈ (ptsM qs).map TL.tl, p.count 32 = 2 ∧ p.count 44 = 0 := fun qs hq p hp => by
    obtain ⟨s, hs, rfl⟩ := List.mem_map.mp hp
    obtain ⟨m, hm, rfl⟩ := List.mem_map.mp hs
    exact cnt_jn (hq m hm)
  have kA : ∀ p ∈ (ptsM ns ++ [("a b c" : Str)]).map TL.tl, p.count 32 = 2 ∧ p.count 44 = 0 := fun p hp => by
    rw [List.map_append] at hp
    rcases List.mem_append.mp hp with hp | hp
    · exact kB ns hw p hp
    · have ep : p = TL.tl "a b c" := List.mem_singleton.mp hp
      rw [ep]
      decide +kernel
  have nA : (ptsM ns ++ [("a b c" : Str)]).map TL.tl ≠ [] := by simp
  have nB : (ptsM ms).map TL.tl ≠ [] := by simpa using hne2
  have a1 := cnt_join [44] 32 2 _ nA fun p hp => (kA p hp).1
  have a2 := cnt_join [44] 44 0 _ nA fun p hp => (kA p hp).2
  have b1 := cnt_join [44, 32] 32 2 _ nB fun p hp => (kB ms hw2 p hp).1
  have b2 := cnt_join [44, 32] 44 0 _ nB fun p hp => (kB ms hw2 p hp).2
  rw [← eA, e, eB] at a1 a2
  simp at a1 a2 b1 b2
  omega
/-! not in order -/
abbrev aaa : Mv := ("a", "a", "a")
abbrev baa : Mv := ("b", "a", "a")
theorem mv_least (m : Mv) (h : ∀ s ∈ wds m, isW s = true) : mvLe aaa m = true := by
  have key : ∀ s : Str, isW s = true → ltS s "a" = false := fun s hs => by
    unfold ltS
    refine decide_eq_false fun z => ?_
    obtain ⟨b, q, e, hb⟩ := head_w hs
    have e1 : s.cps.toList = b :: q := e
    have e2 : (Str.ofString "a").cps.toList = [97] := by decide +kernel
    rw [e1, e2] at z
    unfold Ltr at hb
    cases z with
    | rel h => omega
    | cons h => cases h
  unfold mvLe mvLt
  have k1 := key m.1 (h _ (by simp [wds]))
  have k2 := key m.2.1 (h _ (by simp [wds]))
  have k3 := key m.2.2 (h _ (by simp [wds]))
  split
  · split
    · split
      · rfl
      · rw [k3]
        rfl
    · rw [k2]
      rfl
  · rw [k1]
    rfl
theorem aaa_wds : wds aaa = [("a" : Str), "a", "a"] := rfl
theorem w14a (hc : isW c = true) (hne : ns ≠ []) (hw : OkMv ns) (h : (ptsM ns).getLast? ≠ some ("a a a" : Str)) : rdA (c ++ " " ++ Txt.join ", " (ptsM ns ++ [("a a a" : Str)])) = none := by
  have ea : ("a a a" : Str) = jn (wds aaa) := by decide +kernel
  have e0 : ptsM ns ++ [("a a a" : Str)] = ptsM (ns ++ [aaa]) := by
    rw [ea]
    unfold ptsM
    rw [List.map_append]
    rfl
  rw [e0]
  have hw' : OkMv (ns ++ [aaa]) := fun m hm s hs => by
    rcases List.mem_append.mp hm with hm | hm
    · exact hw m hm s hs
    · rw [List.mem_singleton.mp hm, aaa_wds] at hs
      simp only [List.mem_cons, List.not_mem_nil, or_false] at hs
      rcases hs with rfl | rfl | rfl <;> decide +kernel
  refine none_parts hc (by simp) (pts_nc hw') fun ms _ _ hw2 hs e => h ?_
  have e1 : (ptsM (ns ++ [aaa])).map (fun p => Txt.split p " ") = (ns ++ [aaa]).map wds := by
    unfold ptsM
    rw [List.map_map]
    exact List.map_congr_left fun m hm => wds_split (hw' m hm)
  rw [e1] at e
  have e2 : ns ++ [aaa] = ms := by
    have := congrArg (List.map toMv) e
    rw [toMv_wds, toMv_wds] at this
    exact this
  subst e2
  have pw := sortM_pw (ns ++ [aaa])
  rw [hs] at pw
  obtain ⟨q, m, rfl⟩ : ∃ q m, ns = q ++ [m] := ⟨ns.dropLast, ns.getLast hne, (List.dropLast_concat_getLast hne).symm⟩
  have le1 : mvLe m aaa = true := (List.pairwise_append.mp pw).2.2 m (List.mem_append_right _ (List.mem_singleton.mpr rfl)) _ (List.mem_singleton.mpr rfl)
  have le2 := mv_least m (hw m (List.mem_append_right _ (List.mem_singleton.mpr rfl)))
  have em := mvLe_anti le1 le2
  subst em
  unfold ptsM
  rw [List.map_append, List.map_cons, List.map_nil, List.getLast?_concat, ea]
theorem w14b (hc : isW c = true) (hw : OkMv ns) (h : (ptsM ns).getLast? = some ("a a a" : Str)) : rdA (c ++ " " ++ Txt.join ", " (("b a a" : Str) :: ptsM ns)) = none := by
  have ea : ("a a a" : Str) = jn (wds aaa) := by decide +kernel
  have eb : ("b a a" : Str) = jn (wds baa) := by decide +kernel
  have e0 : ("b a a" : Str) :: ptsM ns = ptsM (baa :: ns) := by rw [eb]; rfl
  rw [e0]
  have hw' : OkMv (baa :: ns) := fun m hm s hs => by
    rcases List.mem_cons.mp hm with rfl | hm
    · have e : wds baa = [("b" : Str), "a", "a"] := rfl
      rw [e] at hs
      simp only [List.mem_cons, List.not_mem_nil, or_false] at hs
      rcases hs with rfl | rfl | rfl <;> decide +kernel
    · exact hw m hm s hs
  refine none_parts hc (by simp) (pts_nc hw') fun ms _ _ hw2 hs e => ?_
  have e1 : (ptsM (baa :: ns)).map (fun p => Txt.split p " ") = (baa :: ns).map wds := by
    unfold ptsM
    rw [List.map_map]
    exact List.map_congr_left fun m hm => wds_split (hw' m hm)
  rw [e1] at e
  have e2 : baa :: ns = ms := by
    have := congrArg (List.map toMv) e
    rw [toMv_wds, toMv_wds] at this
    exact this
  subst e2
  have pw := sortM_pw (baa :: ns)
  rw [hs] at pw
  have hm := List.mem_of_getLast? h
  obtain ⟨m, hmm, em⟩ := List.mem_map.mp hm
  have ew : wds m = wds aaa := by
    rw [← wds_split (hw m hmm), em, ea, wds_split (m := aaa) (by
      intro s hs
      rw [aaa_wds] at hs
      simp only [List.mem_cons, List.not_mem_nil, or_false] at hs
      rcases hs with rfl | rfl | rfl <;> decide +kernel)]
  have em2 : m = aaa := by
    have := congrArg toMv ew
    exact this
  subst em2
  have le := (List.pairwise_cons.mp pw).1 _ hmm
  exact absurd le (by decide +kernel)
end
end L2

set_option Elab.async false
set_option linter.all false
set_option maxRecDepth 100000
set_option maxHeartbeats 4000000
/-! what a body with lambdas keeps: all but the tape and the tables of code objects -/
namespace L2
open PySem PySem.Spec PyProof.Rows LamX
structure Kl (T : List (Addr × Str)) (t : Addr) (H H' : Hp) : Prop where
  tp : Tp H' t
  tb : Tabs T H'
  kp : ∀ b o, b ≠ t → (∀ ps, o ≠ .tbl ps) → H b = some o → H' b = some o
theorem tabs_kt {T : List (Addr × Str)} {t : Addr} {H H' : Hp} (k : Kt t H H') (hT : Tp H t) (h : Tabs T H) : Tabs T H' := fun p hp => by
  obtain ⟨ps, e, ok, h3⟩ := h p hp
  obtain ⟨a, b, c, q⟩ := hT
  refine ⟨ps, k.kp _ _ (fun z => by rw [z, q] at e; cases e) e, ok, fun pos cv hc => ?_⟩
  obtain ⟨c', e1, e2⟩ := h3 pos cv hc
  refine ⟨c', e1, k.kp _ _ (fun z => ?_) e2⟩
  rw [z, q] at e2
  unfold CodeO at e2
  cases e2
theorem Kl.refl {T : List (Addr × Str)} {t : Addr} {H : Hp} (hT : Tp H t) (h : Tabs T H) : Kl T t H H := ⟨hT, h, fun _ _ _ _ e => e⟩
theorem Kl.of {T : List (Addr × Str)} {t : Addr} {H H' : Hp} (k : Kt t H H') (hT : Tp H t) (h : Tabs T H) : Kl T t H H' := ⟨k.tp, tabs_kt k hT h, fun b o n _ e => k.kp b o n e⟩
theorem Kl.trans {T : List (Addr × Str)} {t : Addr} {H H1 H2 : Hp} (a : Kl T t H H1) (b : Kl T t H1 H2) : Kl T t H H2 := ⟨b.tp, b.tb, fun c o n m e => b.kp c o n m (a.kp c o n m e)⟩
theorem Kl.then {T : List (Addr × Str)} {t : Addr} {H H1 H2 : Hp} (a : Kl T t H H1) (b : Kt t H1 H2) : Kl T t H H2 := a.trans (.of b a.tp a.tb)
theorem Kl.same {T : List (Addr × Str)} {t : Addr} {H H1 H2 : Hp} (a : Kl T t H H1) (s : Same H1 H2) : Kl T t H H2 := a.then (Kt.same a.tp s)
theorem Kl.lam {T : List (Addr × Str)} {t : Addr} {H H1 H2 : Hp} (a : Kl T t H H1) (e : ExtN H1 H2) (h : Tabs T H2) : Kl T t H H2 := by
  obtain ⟨x, y, z, q⟩ := a.tp
  exact ⟨⟨x, y, z, e _ _ q fun ps n => by cases n⟩, h, fun b o n m ho => e _ _ (a.kp b o n m ho) m⟩
section
variable {X : Cx}
/-- a def of one parameter that calls a lambda without parameters; other tables may be told beside -/
theorem pe_metT {T : List (Addr × Str)} {x a : Str} {st : Stmt} {g c P : Addr} {k : Nat} {fd : FuncData} {Ng : List Str} {TT : (XK → Hp → VK → Prop) → Hp → VK → Prop} {params : Arguments} {body : Expr} {scope : Scope} {t : XK → TE} {p lpos pos : Pos} (hg : Gl X x) (D : Df X.K X.mg x st [a] g fd) (Sg : FnScope Ng [a] (defScope st)) (hNg : Ng[0]? = some a) (hva : Vis (defScope st) a)
    (hG : ∀ cdg : Value, GivesTo X Ng x (defScope st) g cdg (defBody st) a (X.env.qual ++ "<lambda>") TT) (TB : LamX.TabB X.base X.mg c P) (hcode : X.env.code = .ref c) (hmT : (P, X.env.qual ++ "<lambda>") ∈ T) (hu : ∀ p ∈ T, p.1 = P → p.2 = X.env.qual ++ "<lambda>") (hr : Room (k + 2) X.A) (L : LamS X.env.scope scope) (hdef : defaultsOf params X.env = ([], []))
    (hbind : ∀ (q : Str) (cl : List (Str × Addr)) (pm cv ctv : Value), bindArgs (PySem.W.kla_fn "<lambda>" q params body scope cl pm cv ctv) ⟨[], []⟩ = pure [])
    (hbody : ∀ (A : Around) (outer : List Env) (s : Shared) (H : Hp) (E : XK) (f c' : Addr), Room k (A.deeper (lamEnv X scope s.heap.objs.size f c')) → PE (lamCx X A outer s H E scope f c') body (t E))
    (hdb : (x == ("__debug__" : Str)) = false := by decide) (hd : (a == ("__debug__" : Str)) = false := by decide) (hcd : (a == ("__classdict__" : Str)) = false := by decide) :
    PE X (.Call (.Name x p) [.Lambda params body scope lpos] [] pos) (tLam T TT t) := by
  have hb := D.b
  obtain ⟨oc, od, kV, doc, pm, an, cdv, ct, osl, rfl, lk, hcg⟩ := D.F.ex
  exact pe_lamcall hg D.g D.F.kp lk hcg hb Sg hNg hva (hG cdv) TB hcode hmT hu hr L hdef hbind hbody hdb hd hcd
end
section
variable {X : Cx} {CX : CXT} {n : Nat} {C f : Addr} {fd : FuncData} {ps : List Str} {sp : Sp} {E : XK} (K : PySem.W.Frag)
theorem op_eqOK (h : X.K = K) (O : OwnD X.K C "__eq__" f) (F : FnOk X.prog X.w X.K X.mg X.base CX n f fd ps sp) (hb : Binds X.K fd ps []) (hx : Passes CX X E) (hr : Room n X.A) : OpR X (compareOp .Eq) (rEqO K C sp E false) := by
  subst h
  exact op_eqO O F hb hx hr
theorem op_neOK (h : X.K = K) (O : OwnD X.K C "__eq__" f) (hne : PySem.W.findIn X.K (.ref C) "__ne__" = some (some (.builtin "object.__ne__"))) (ho : PySem.W.mroIn X.K C (.type "object") = some true) (F : FnOk X.prog X.w X.K X.mg X.base CX n f fd ps sp) (hb : Binds X.K fd ps []) (hx : Passes CX X E) (hr : Room (n + 1) X.A) : OpR X (compareOp .NotEq) (rEqO K C sp E true) := by
  subst h
  exact op_neO O hne ho F hb hx hr
end
end L2

set_option Elab.async false
set_option linter.all false
set_option maxRecDepth 100000
set_option maxHeartbeats 4000000
/-! the Hook that tells of defs at any address too (getters of properties, classmethods); what it tells of an own class -/
namespace L2
open PySem PySem.Spec PyProof.Rows
def hookM (n : Nat) (fa : List He.Fa) (fn : List He.DefD) (tf : List He.Defn) (ex : PySem.W.Frag → Bool) (fm : List He5.DefA) : PySem.W.Hook where
  α := He.AlX × List He5.FnW
  obs := fun s => (obsL n fa fn tf ex s.heap.get?, fm.map fun d => He5.fnA (frL n s.heap.get?) (d.at_ (frL n s.heap.get?)))
  val := fun w => (He.valX fn [] w, fm.map He5.DefA.val)
  says := fun w h => ∃ K : PySem.W.Frag, K.In h ∧ He.SaysX fa fn [] tf ex w h K ∧ fm.map (fun d => He5.fnA K (d.at_ K)) = fm.map He5.DefA.val
  of := fun _ _ e => ⟨_, He.frT_in, saysL_of (congrArg (fun z : He.AlX × List He5.FnW => z.1) e), congrArg (fun z : He.AlX × List He5.FnW => z.2) e⟩
  keeps := fun _ _ _ ⟨K, hK, c, m⟩ k => ⟨K, PySem.W.Frag.In.keeps hK k, ⟨c.t, c.more, c.hd, c.out, fun p hp => k _ _ (c.empty p hp)⟩, m⟩
def obsM (n : Nat) (fa : List He.Fa) (fn : List He.DefD) (tf : List He.Defn) (ex : PySem.W.Frag → Bool) (fm : List He5.DefA) (g : Addr → Option Obj) : He.AlX × List He5.FnW := (obsL n fa fn tf ex g, fm.map fun d => He5.fnA (frL n g) (d.at_ (frL n g)))
theorem obsM_eq {n : Nat} {fa : List He.Fa} {fn : List He.DefD} {tf : List He.Defn} {ex : PySem.W.Frag → Bool} {fm : List He5.DefA} {g : Addr → Option Obj} {s : Shared} (h : ∀ a, g a = s.heap.get? a) : obsM n fa fn tf ex fm g = (hookM n fa fn tf ex fm).obs s := by
  have e : g = s.heap.get? := funext h
  rw [e] <;> rfl
theorem defA_at {K : PySem.W.Frag} {fm : List He5.DefA} (m : fm.map (fun d => He5.fnA K (d.at_ K)) = fm.map He5.DefA.val) (i : Nat) {d : He5.DefA} (h : fm[i]? = some d := by rfl) (ok : d.ok K = true) : ∃ fd, FunD K d.name d.qual d.params d.body d.scope (d.dvs K) (d.kws K) (d.at_ K) fd := by
  have e2 : (fm.map fun d => He5.fnA K (d.at_ K))[i]? = (fm.map He5.DefA.val)[i]? := by rw [m]
  rw [List.getElem?_map, List.getElem?_map, h] at e2
  exact He5.DefA.funD (Option.some.inj e2) ok
section
variable {K : PySem.W.Frag} {C : Addr} {f : Str}
def propB (K : PySem.W.Frag) (C : Addr) (f : Str) : Bool := He.eqO (PySem.W.findIn K (.ref C) f) (some (some (.ref (He.ma K C f)))) && (He.eqO (PySem.W.specialIn K (.ref (He.ma K C f)) "__get__") (some (some (.builtin "property.__get__"))) && (decide (PySem.W.takesIn K (.ref (He.ma K C f)) = some true) && (match PySem.W.recIn K (He.ma K C f) "property" with
  | some (.ref _ :: _) => true
  | _ => false)))
theorem propB_ok (e : propB K C f = true) : PropOf K C f (He.ma K C f) (He5.wf K C "property" f) := by
  obtain ⟨e1, e⟩ := He.ba e
  obtain ⟨e2, e⟩ := He.ba e
  obtain ⟨e3, e4⟩ := He.ba e
  refine ⟨He.eqO_ok e1, He.eqO_ok e2, of_decide_eq_true e3, ?_⟩
  unfold He5.wf
  split at e4
  · rename_i f r e
    exact ⟨r, by rw [e]⟩
  · cases e4
def insB (K : PySem.W.Frag) (C : Addr) : Bool := He.eqO (PySem.W.findIn K (.ref C) "__class__") (some (some (.builtin "object.__class__"))) && (He.eqO (PySem.W.specialIn K (.builtin "object.__class__") "__get__") (some (some (.builtin "getset_descriptor.__get__"))) &&
  (decide (PySem.W.takesIn K (.builtin "object.__class__") = some true) && (decide (PySem.W.mroIn K C (.type "object") = some true) && decide (PySem.W.kitOne K (.ref C) (.ref C) = some true))))
theorem insB_ok (cl : Cls K C) (e : insB K C = true) : C8.InsC K C := by
  obtain ⟨e1, e⟩ := He.ba e
  obtain ⟨e2, e⟩ := He.ba e
  obtain ⟨e3, e⟩ := He.ba e
  obtain ⟨e4, e5⟩ := He.ba e
  exact ⟨cl, He.eqO_ok e1, He.eqO_ok e2, of_decide_eq_true e3, of_decide_eq_true e4, of_decide_eq_true e5⟩
def readB (K : PySem.W.Frag) (C : Addr) : Bool := PySem.W.readsIn K C (.type "type") && He.eqO (PySem.W.specialIn K (.ref C) "__getattribute__") (some (some (.builtin "type.__getattribute__")))
theorem readB_ok (e : readB K C = true) : ClX.CRead K C (.type "type") := by
  obtain ⟨e1, e2⟩ := He.ba e
  exact ⟨e1, He.eqO_ok e2⟩
def cmetB (K : PySem.W.Frag) (C : Addr) (m : Str) : Bool := He5.wrapB K C "classmethod" "classmethod.__get__" m && PySem.W.fnIn K (He5.wf K C "classmethod" m)
theorem cmetB_ok (e : cmetB K C f = true) : ClX.CMet K C (.type "type") f (He.ma K C f) (He5.wf K C "classmethod" f) := by
  obtain ⟨e1, e2⟩ := He.ba e
  exact He5.cmet_of e1 e2
def neB (K : PySem.W.Frag) (C : Addr) : Bool := He.eqO (PySem.W.findIn K (.ref C) "__ne__") (some (some (.builtin "object.__ne__")))
def nfB (K : PySem.W.Frag) (C : Addr) (Ts : List String) : Bool := Ts.all fun T => PySem.W.notFirst K C (.type T) && decide (PySem.W.kitOne K (.type T) (.ref C) = some false)
theorem nfB_ok {Ts : List String} (e : nfB K C Ts = true) : (∀ T ∈ Ts, PySem.W.notFirst K C (.type T) = true) ∧ ∀ T ∈ Ts, PySem.W.kitOne K (.type T) (.ref C) = some false :=
  ⟨fun T h => (He.ba (List.all_eq_true.mp e T h)).1, fun T h => of_decide_eq_true (He.ba (List.all_eq_true.mp e T h)).2⟩
theorem all2 {α : Type} {Pr : α → Prop} {a b : α} (h1 : Pr a) (h2 : Pr b) : ∀ x ∈ [a, b], Pr x := fun x hx => by
  rcases List.mem_cons.mp hx with rfl | hx
  · exact h1
  · rw [List.mem_singleton.mp hx]
    exact h2
theorem own_meth {m : Str} {g : Addr} (h : Meth K C m g) : OwnD K C m g := ⟨h.at_, h.fn⟩
end
end L2

set_option Elab.async false
set_option linter.all false
set_option maxRecDepth 100000
set_option maxHeartbeats 4000000
/-! dict(d), {**a, **b}, len of a set of texts, what a lock leaves as it was -/
namespace L2
open PySem PySem.Spec PyProof.Rows
theorem dictOf_nd {P : Program} {w : World} {h : Heap} {a : Addr} {vs : List (Key × Value)} (d : h.DictOf (mixKind P w) a vs) : (vs.map (·.1)).Nodup := by
  obtain ⟨_, _, _, _, _, _, _, _, n⟩ := d
  exact n
section
variable {X : Cx}
theorem call_dict_copy : CallR X (.type "dict") (fun xs H Q => ∃ (a : Addr) (kvs : List (Key × V)), xs = [.ref a] ∧ Rd H a (.dK kvs) ∧ ∀ p, H p = none → Q (.ref p) (upd H p (.dK kvs))) := by
  intro pins s σ H xs us Q I r q
  obtain ⟨a, kvs, ex, hq, q⟩ := q
  subst ex
  obtain ⟨u, eu, rx⟩ := vals1 r
  subst eu
  cases rx
  obtain ⟨hz, hsys, vs, kv, dd⟩ := dk_rd I.hok hq
  have nd := dictOf_nd dd
  have hlt : a < s.heap.objs.size := by
    obtain ⟨o, _, _, ho, _⟩ := dd
    exact Heap.lt_size ho
  refine callType_codes (Q₁ := fun obj s₁ => obj = .ref s.heap.objs.size ∧ s₁ = { s with heap := s.heap.push { cls := .type "dict", data := .dict #[] } }) PySem.F.kt_called_dict (PySem.F.kt_typeCall_dict_1 _) PySem.F.entry_dict_init (kt_code_dict_new _ ⟨rfl, rfl⟩) ?_
  rintro obj s₁ ⟨rfl, rfl⟩
  have hnew : (s.heap.push { cls := .type "dict", data := .dict #[] }).DictOf (mixKind X.prog X.w) s.heap.objs.size [] := Heap.DictOf.new s.heap
  have dd2 : (s.heap.push { cls := .type "dict", data := .dict #[] }).DictOf (mixKind X.prog X.w) a vs := dd.push _
  have hl : vs.length = kvs.length := (Paired.length kv).symm
  refine ⟨hnew.typeIs, PySem.F.args_dict_init_2 _ _, ?_⟩
  unfold Builtin.«dict.__init__»
  refine wpAny_bind ?_
  unfold Builtin.Dict.selfAndRest
  refine wpAny_bind (wpAny_notOrdered_dict hnew.typeIs ?_)
  show wpAny _ _ (pure (s.heap.objs.size, [Value.ref a])) _ _ _
  refine wpAny_pure ?_
  show wpAny _ _ (Builtin.Dict.updateFrom "dict.__init__" s.heap.objs.size (.ref a) [] .none) _ _ _
  unfold Builtin.Dict.updateFrom
  refine wpAny_bind (wpAny_typeOf dd2.typeIs ?_)
  rw [if_neg (by decide)]
  refine wpAny_bind ?_
  unfold Builtin.Dict.merge
  refine wpAny_bind ?_
  unfold Builtin.Dict.readDirectly
  refine wpAny_bind (wpAny_isInstance dd2.typeIs isSubtype_dict_dict ?_)
  simp only [Bool.not_true, Bool.false_eq_true, if_false]
  refine wpAny_bind (wpAny_specialOf dd2.typeIs PySem.F.slot_dict_iter.lookup (wpAny_pure ?_))
  simp only [beq_self_eq_true, if_true]
  refine wpAny_bind (wpAny_pure ?_)
  refine wpAny_mergeDict (hsz := by rw [List.length_nil, hl]; omega) (Nat.ne_of_gt hlt) hsys hnew dd2 fun h' hd' ho' hs' => ?_
  rw [merged_nil_of_nodup vs nd] at hd'
  show wpAny _ _ (Builtin.Dict.addKeywords s.heap.objs.size [] >>= _) _ _ _
  refine wpAny_bind (wpAny_pure (wpAny_pure ?_))
  have hm : (s.heap.objs.size == sysModules) = false := beq_eq_false_iff_ne.mpr (Nat.ne_of_gt I.big)
  have keep : ∀ b o, s.heap.get? b = some o → h'.get? b = some o := fun b o e => (hs'.2 b (Nat.ne_of_lt (Heap.lt_size e))).trans (Heap.get?_push_of_some _ e)
  exact ⟨rfl, .ref s.heap.objs.size, upd H s.heap.objs.size (.dK kvs), I.laid (t' := s.toks) keep (Nat.le_refl _) (dk_new hz hm kv hd'), rfl, q _ (I.hok.fresh (Nat.le_refl _))⟩
end
end L2

set_option Elab.async false
set_option linter.all false
set_option maxRecDepth 100000
set_option maxHeartbeats 4000000
/-! {**a, **b} -/
namespace PySem
section
variable {prog : Program} {w : World} {K : Type} [DecidableEq K] {knd : KeyKind prog w K} {A : Around} {E : Value → Shared → Prop} {s : Shared}
theorem wpAny_dictPut_pairs {d : Addr} {kvs : List (K × Value)} {k : K} {key v : Value} {Q : Unit → Shared → Prop} (hkey : knd.is k key = true) (hm : s.heap.DictOf knd d kvs)
    (hQ : ∀ h', h'.DictOf knd d (stored kvs k v) → Heap.SameBut d s.heap h' → Q () { s with heap := h' })
    (hsz : kvs.length ≤ sizeLine := by size_fits) :
    wpAny (model prog w) A (dictPut d (knd.hash k) key v) Q E s := by
  obtain ⟨o, es, ep, ho, hc, hd, hk, hp, hn⟩ := hm
  have hes : es.size ≤ sizeLine := by have e1 := hp.length; have e2 : es.toList.length = es.size := by simp
                                      omega
  unfold dictPut
  refine wpAny_bind (wpAny_dictFind_of hkey ho hd hk ?_)
  have hidx : (es.findIdx? fun e => knd.is k e.key) = kvs.findIdx? fun kv => decide (kv.1 = k) := by
    rw [← hp.findIdx k]; obtain ⟨l⟩ := es; simp
  cases hi : es.findIdx? fun e => knd.is k e.key with
  | some i =>
    refine wpAny_updateDict ho hd (hQ _ ⟨_, _, ep, Heap.get?_update_self _ ho (Obj.isFreed_of_dict (Obj.data_mapDict hd _)),
      hc.mapDict _, Obj.data_mapDict hd _, hk.modify _ _, ?_, ?_⟩ (Heap.SameBut.update ..))
    · rw [stored, if_pos (any_of_findIdx_some (hidx ▸ hi))]
      have hl : (es.toList.findIdx? fun e => knd.is k e.key) = some i := by rw [← hi]; obtain ⟨l⟩ := es; simp
      have := hp.modify hn hl v
      obtain ⟨l⟩ := es
      simpa using this
    · rw [stored, if_pos (any_of_findIdx_some (hidx ▸ hi)), keys_map_store]; exact hn
  | none =>
    have hnot : k ∉ kvs.map (·.1) := not_mem_of_findIdx_none (hidx ▸ hi)
    have hany : ¬ (kvs.any fun kv => decide (kv.1 = k)) = true := by
      rw [List.any_eq_true]; rintro ⟨kv, hkv, he⟩
      exact hnot (List.mem_map.mpr ⟨kv, hkv, of_decide_eq_true he⟩)
    refine wpAny_updateDictKeys (hz := hes) ho hd (hQ _ ⟨_, _, ep + 1, Heap.get?_update_self _ ho (Obj.isFreed_of_dict (Obj.data_mapDictKeys hd _)),
      hc.mapDictKeys _, Obj.data_mapDictKeys hd _, hk.push hkey _, ?_, ?_⟩ (Heap.SameBut.update ..))
    · rw [stored, if_neg hany]
      have := hp.append hkey (knd.hash k) v
      obtain ⟨l⟩ := es
      simpa using this
    · rw [stored, if_neg hany, List.map_append, List.nodup_append]
      refine ⟨hn, by simp, ?_⟩
      intro a ha b hb
      simp only [List.map_cons, List.map_nil, List.mem_singleton] at hb
      subst hb
      exact fun e => hnot (e ▸ ha)
theorem wpAny_mergeMapping {d o : Addr} {kvs more : List (K × Value)} {Q : Unit → Shared → Prop} (hdo : d ≠ o) (hoS : (o == sysModules) = false) (noref : ∀ k b, knd.is k (.ref b) = false)
    (hd : s.heap.DictOf knd d kvs) (ho : s.heap.DictOf knd o more)
    (hQ : ∀ h', h'.DictOf knd d (merged kvs more) → h'.DictOf knd o more → Heap.SameBut d s.heap h' → Q () { s with heap := h' })
    (hsz : kvs.length + more.length ≤ sizeLine) :
    wpAny (model prog w) A (mergeMapping d (.ref o) false) Q E s := by
  obtain ⟨od, esd, epd, hod, hcd, hdd, hkd, hpd, hnd⟩ := id hd
  obtain ⟨oo, eso, epo, hoo, hco, hdo', hko, hpo, hno⟩ := id ho
  have hlen : more.length = eso.size := by rw [← hpo.length]; simp
  unfold mergeMapping
  refine wpAny_bind (wpAny_isInstance ho.typeIs isSubtype_dict_dict ?_)
  dsimp only
  rw [if_pos rfl]
  refine wpAny_bind (wpAny_specialOf ho.typeIs F.slot_dict_iter.lookup (wpAny_bind (wpAny_pure ?_)))
  rw [show ((some (Value.builtin "dict.__iter__") == some (Value.builtin "dict.__iter__")) = true) from by simp]
  dsimp only
  rw [if_neg (by rw [hoS]; exact Bool.false_ne_true)]
  refine wpAny_bind (wpAny_dictEntries hod hdd ?_)
  have loop : wpAny (model prog w) A (do
      let __do_lift ← dictEntries o
      have size : Nat := __do_lift.size
      let epoch ← dictEpoch o
      forIn (List.range size) PUnit.unit fun i (_ : PUnit) => (do
          let l' ← dictEntries o
          match l'[i]? with
            | some e => do
              holding [e.key, e.val] (dictPut d e.hash e.key e.val)
              let ep' ← dictEpoch o
              if (ep' != epoch) = true then do
                  (unsupported "dict.changed-during-merge" : Sem PUnit)
                  pure (ForInStep.yield PUnit.unit)
                else pure (ForInStep.yield PUnit.unit)
            | _ => do
              (unsupported "dict.changed-during-merge" : Sem PUnit)
              pure (ForInStep.yield PUnit.unit) : Sem (ForInStep PUnit))
      pure ()) Q E s := by
    refine wpAny_bind (wpAny_dictEntries hoo hdo' ?_)
    dsimp only
    refine wpAny_bind (wpAny_dictEpoch hoo hdo' ?_)
    refine wpAny_bind ?_
    rw [List.range_eq_range']
    refine wpAny_forIn_list _
      (fun rest _ s' => ∃ h' i, s' = { s with heap := h' } ∧ rest = List.range' i (eso.size - i) ∧ i ≤ eso.size ∧ h'.DictOf knd d (merged kvs (more.take i)) ∧ h'.get? o = some oo ∧ Heap.SameBut d s.heap h')
      _ ?_ ?_ _ _ ⟨s.heap, 0, rfl, by simp, Nat.zero_le _, by simpa [merged] using hd, hoo, Heap.SameBut.refl _ _⟩
    · rintro x rest b s' ⟨h', i, rfl, hr, hi, hd', hoo', hs'⟩
      have hlt : i < eso.size := by
        rcases Nat.lt_or_ge i eso.size with h | h
        · exact h
        · rw [Nat.sub_eq_zero_of_le h] at hr; simp at hr
      obtain ⟨rfl, hrest⟩ : x = i ∧ rest = List.range' (i + 1) (eso.size - (i + 1)) := by
        have e : eso.size - i = (eso.size - (i + 1)) + 1 := by omega
        rw [e, List.range'_succ] at hr
        injection hr with h1 h2
        exact ⟨h1, h2⟩
      refine wpAny_bind (wpAny_dictEntries hoo' hdo' ?_)
      rw [Array.getElem?_eq_getElem hlt]
      obtain ⟨kv, hkv⟩ : ∃ kv, more[x]? = some kv := ⟨more[x]'(by rw [hlen]; exact hlt), List.getElem?_eq_getElem _⟩
      obtain ⟨k, v⟩ := kv
      obtain ⟨hkey, hval⟩ := hpo.get? (e := eso[x]) (by simp [hlt]) hkv
      obtain ⟨k', hkey', hhash⟩ := hko eso[x] (Array.getElem_mem hlt)
      obtain rfl : k' = k := knd.inj _ _ _ hkey' hkey
      show wpAny _ _ (holding [eso[x].key, eso[x].val] (dictPut d eso[x].hash eso[x].key eso[x].val) >>= _) _ _ _
      rw [hhash, hval]
      have hmx : (merged kvs (more.take x)).length ≤ sizeLine := by
        have e1 := merged_length_le kvs (more.take x)
        have e2 : (more.take x).length ≤ more.length := by rw [List.length_take]; omega
        omega
      refine wpAny_bind (wpAny_holding (wpAny_dictPut_pairs (hsz := hmx) hkey hd' fun h'' hd'' hs'' => ?_))
      have hoo'' : h''.get? o = some oo := (hs''.2 o (Ne.symm hdo)).trans hoo'
      refine wpAny_bind (wpAny_dictEpoch hoo'' hdo' ?_)
      rw [if_neg (by simp)]
      exact wpAny_pure ⟨h'', x + 1, rfl, hrest, hlt, by rw [merged_take_succ kvs more x (k', v) hkv]; exact hd'', hoo'', hs'.trans hs''⟩
    · rintro b s' ⟨h', i, rfl, hr, hi, hd', hoo', hs'⟩
      have hin : i = eso.size := by
        rcases Nat.lt_or_ge i eso.size with h | h
        · have e : eso.size - i = (eso.size - (i + 1)) + 1 := by omega
          rw [e, List.range'_succ] at hr; exact nomatch hr
        · exact Nat.le_antisymm hi h
      refine wpAny_pure (hQ h' ?_ ⟨oo, eso, epo, hoo', hco, hdo', hko, hpo, hno⟩ hs')
      rw [hin, ← hlen, List.take_length] at hd'; exact hd'
  simp only [Bool.false_eq_true, if_false]
  split
  · refine wpAny_bind (wpAny_dictEntries hoo hdo' ?_)
    refine wpAny_bind ?_
    rw [← Array.forIn_toList]
    refine wpAny_forIn_list _ (fun rest _ s' => s' = s ∧ ∀ e ∈ rest, e ∈ eso.toList) _ ?_ ?_ _ _ ⟨rfl, fun e h => h⟩
    · rintro e rest b s' ⟨rfl, hm⟩
      obtain ⟨k, hk, _⟩ := hko e (Array.mem_toList_iff.mp (hm e (List.mem_cons_self ..)))
      split
      · rename_i a ea
        rw [ea, noref] at hk
        cases hk
      · exact wpAny_pure ⟨rfl, fun x hx => hm x (List.mem_cons_of_mem _ hx)⟩
    · rintro b s' ⟨rfl, _⟩
      exact loop
  · exact loop
end
end PySem
namespace L2
open PySem PySem.Spec PyProof.Rows
theorem mix_noref {P : Program} {w : World} (k : Key) (b : Addr) : (mixKind P w).is k (.ref b) = false := by
  cases k <;> rfl
theorem dictDisplay_two (m1 m2 : Sem Value) : dictDisplay [(none, m1), (none, m2)] = (do
    let d ← alloc { cls := .type "dict", data := .dict #[] }
    let f := fun (m : Sem Value) => (do
      let v ← holding [.ref d] m
      (((holding [.ref d, v] (mergeMapping d v false)).onRaise fun x => do let _ ← holding [.ref d, v, x] (runValue (.builtin "proto.let_go" {}))).tryCatch fun e => do
        if ← isInstance e (.type "AttributeError") then
          rule "dict.display.not-a-mapping"; raiseError "TypeError" s!"'{← typeNameOf v}' object is not a mapping"
        throw e).onRaise fun x => do let _ ← holding [.ref d, x] (runValue (.builtin "proto.let_go" {})) : Sem Unit)
    f m1
    f m2
    pure (.ref d)) := by
  unfold dictDisplay
  simp only [List.forIn_cons, List.forIn_nil, bind_assoc, pure_bind, List.isEmpty_nil, if_true]
/-- {**a, **b} of two dicts with keys ints and texts -/
def tDMerge2 (ta tb : TE) : TE := fun σ H Q => ∀ p, H p = none → ta σ (upd H p (.dK [])) fun x H1 => ∃ (a : Addr) (ka : List (Key × V)), x = .ref a ∧ H1 p = some (.dK []) ∧ Rd H1 a (.dK ka) ∧ a ≠ p ∧
  tb σ (upd H1 p (.dK ka)) fun y H2 => ∃ (b : Addr) (kb : List (Key × V)), y = .ref b ∧ H2 p = some (.dK ka) ∧ Rd H2 b (.dK kb) ∧ b ≠ p ∧ ka.length + kb.length ≤ sizeLine ∧ Q (.ref p) (upd H2 p (.dK (mergeK ka kb)))
theorem merge_step {X : Cx} {pins : List (Addr × Obj)} {σ : St} {H : Hp} {s : Shared} {p a : Addr} {kp ka : List (Key × V)} {A : Around} {E : Value → Shared → Prop} {Q : Unit → Shared → Prop} (I : Inv X pins σ H s) (hp : H p = some (.dK kp)) (ha : Rd H a (.dK ka)) (hne : a ≠ p) (hsz : kp.length + ka.length ≤ sizeLine)
    (q : ∀ s', Inv X pins σ (upd H p (.dK (mergeK kp ka))) s' → Q () s') : wpAny (model X.prog X.w) A (mergeMapping p (.ref a) false) Q E s := by
  obtain ⟨z1, y1, vp, kvp, dp⟩ := dk_of I.hok hp
  obtain ⟨z2, y2, va, kva, da⟩ := dk_rd I.hok ha
  have l1 : vp.length = kp.length := (Paired.length kvp).symm
  have l2 : va.length = ka.length := (Paired.length kva).symm
  refine wpAny_mergeMapping (knd := mixKind X.prog X.w) hne.symm y2 mix_noref dp da (fun h' dd' _ hs => ?_) (by rw [l1, l2]; exact hsz)
  have he : ∃ u, h'.get? p = some u := let ⟨u, _, _, hu, _⟩ := dd'; ⟨u, hu⟩
  have hz : (mergeK kp ka).length ≤ sizeLine := Nat.le_trans (length_mergeK ka kp) hsz
  exact q _ (d_write (t' := s.toks) I (by rw [hp]; exact True.intro) hs he (dk_new hz y1 (KV.merge kva kvp) dd'))
theorem mergeK_nil {ka : List (Key × V)} : ∀ {kp : List (Key × V)}, ((kp ++ ka).map (·.1)).Nodup → mergeK kp ka = kp ++ ka := by
  induction ka with
  | nil =>
    intro kp _
    rw [List.append_nil]
    rfl
  | cons x r ih =>
    intro kp hn
    have hx : putK kp x.1 x.2 = kp ++ [x] := by
      unfold putK
      rw [if_neg]
      intro h
      obtain ⟨y, hy, e⟩ := List.any_eq_true.mp h
      rw [List.map_append, List.map_cons, List.nodup_append] at hn
      exact hn.2.2 y.1 (List.mem_map.mpr ⟨y, hy, rfl⟩) x.1 (List.mem_cons_self ..) (of_decide_eq_true e)
    show mergeK (putK kp x.1 x.2) r = _
    rw [hx, ih (by rw [List.append_assoc]; exact hn), List.append_assoc]
    rfl
theorem kv_keys : ∀ {ka : List (Key × V)} {vs : List (Key × Value)}, KV ka vs → ka.map (·.1) = vs.map (·.1)
  | _, _, .nil => rfl
  | _, _, .cons h t => by rw [List.map_cons, List.map_cons, h.1, kv_keys t]
theorem rd_nd {P : Program} {w : World} {H : Hp} {h : Heap} {a : Addr} {ka : List (Key × V)} (ok : HOk P w H h) (e : Rd H a (.dK ka)) : (ka.map (·.1)).Nodup := by
  obtain ⟨_, _, vs, kv, dd⟩ := dk_rd ok e
  rw [kv_keys kv]
  exact dictOf_nd dd
theorem pe_dmerge2 {X : Cx} {ea eb : Expr} {ta tb : TE} {pos : Pos} (ha : PE X ea ta) (hb : PE X eb tb) : PE X (.Dict [none, none] [ea, eb] pos) (tDMerge2 ta tb) := by
  refine ⟨fun pins s σ H Q I h => ?_⟩
  have hn := I.hok.fresh (Nat.le_refl s.heap.objs.size)
  have I1 := I.laid (a := s.heap.objs.size) (o := .dK []) (h' := s.heap.push { cls := .type "dict", data := .dict #[] }) (t' := s.toks) (fun _ _ q => Heap.get?_push_of_some _ q) (Nat.le_refl _) (dk_empty s.heap I.big)
  rw [arm_eval_Dict]
  refine wpAny_bind (wpAny_standAt ?_)
  show wpAny _ _ (dictDisplay [(none, (do let x ← eval ea X.env; standAt pos; pure x)), (none, (do let x ← eval eb X.env; standAt pos; pure x))]) _ _ _
  rw [dictDisplay_two]
  refine wpAny_bind (wpAny_alloc ?_)
  dsimp only
  refine wpAny_bind (wpAny_bind (wpAny_holding (wpAny_bind (thn (ha.run pins _ σ _ _ I1 (h _ hn)) fun u s2 ⟨x, H1, I2, rx, a, ka, ex, hp, hra, ne, q2⟩ => ?_))))
  subst ex
  obtain rfl : u = Value.ref a := rx
  refine wpAny_bind (wpAny_standAt (wpAny_pure ?_))
  have hza := (dk_rd I2.hok hra)
  refine wpAny_onRaise (wpAny_tryCatch (wpAny_onRaise (wpAny_holding (merge_step I2 hp hra ne (by rw [List.length_nil]; omega) fun s3 I3 => ?_))))
  have nk : (ka.map (·.1)).Nodup := by
    obtain ⟨_, _, vs, kv, dd⟩ := hza
    rw [kv_keys kv]
    exact dictOf_nd dd
  rw [mergeK_nil (kp := []) nk, List.nil_append] at I3
  refine wpAny_bind (wpAny_bind (wpAny_holding (wpAny_bind (thn (hb.run pins _ σ _ _ I3 q2) fun u s4 ⟨y, H2, I4, ry, b, kb, ey, hp2, hrb, ne2, hz, q3⟩ => ?_))))
  subst ey
  obtain rfl : u = Value.ref b := ry
  refine wpAny_bind (wpAny_standAt (wpAny_pure ?_))
  refine wpAny_onRaise (wpAny_tryCatch (wpAny_onRaise (wpAny_holding (merge_step I4 hp2 hrb ne2 hz fun s5 I5 => ?_))))
  exact wpAny_pure ⟨.ref s.heap.objs.size, _, I5, rfl, q3⟩
end L2

set_option Elab.async false
set_option linter.all false
set_option maxRecDepth 100000
set_option maxHeartbeats 4000000
/-! len of a set of texts; what stays while a dict is locked or written -/
namespace L2
open PySem PySem.Spec PyProof.Rows
section
variable {X : Cx}
def rLenSS (P : Program) (w : World) : List V → Hp → VK → Prop := fun vs H Q => ∃ (a : Addr) (S : Str → Bool) (n : Nat), vs = [.ref a] ∧ H a = some (SetSO P w a S n) ∧ n ≤ 1000 ∧ Q (.int (n : Nat)) H
theorem cr_lenSS (hc : X.calm = true) : CallR X (.builtin "len") (rLenSS X.prog X.w) := by
  intro pins s σ H vs us Q I r h
  obtain ⟨a, S, n, rfl, ha, hn, q⟩ := h
  rw [Vals.ref1 r]
  have R : Gt.SetS X.prog X.w s.heap a S n := (I.hok a _ ha).1
  obtain ⟨o, es, ep, t, ho, hex, hd, g, nd, hm, hb, hf, hsz, _⟩ := R
  have sb : (1001 : Nat) < scanBound := by unfold scanBound; decide
  refine call_len_set ho hex hd hf (by omega) ⟨.int (n : Nat), H, I.tok _, ⟨_, by rw [hsz]⟩, q⟩
end
/-- all but dicts stays -/
def ExtD (H H' : Hp) : Prop := ∀ b o, H b = some o → (∀ kvs, o ≠ .dK kvs) → H' b = some o
theorem ExtD.refl (H : Hp) : ExtD H H := fun _ _ h _ => h
theorem ExtD.trans {H H1 H2 : Hp} (a : ExtD H H1) (b : ExtD H1 H2) : ExtD H H2 := fun c o h n => b c o (a c o h n) n
theorem ExtD.of {H H' : Hp} (s : Same H H') : ExtD H H' := fun b o h _ => s b o h
theorem ExtD.lock {H : Hp} {d : Addr} {kvs : List (Key × V)} {u : HO} (e : H d = some (.dK kvs)) : ExtD H (upd H d u) := fun b o h n => by
  rw [upd_ne fun z => ?_]
  · exact h
  · rw [z, e] at h
    exact n _ (Option.some.inj h).symm
theorem sqT_extD {K : PySem.W.Frag} {H H' : Hp} {p : Addr} {xs : List V} (e : ExtD H H') (h : SqT K H p xs) : SqT K H' p xs := by
  rcases h with (h | ⟨w, h⟩) | h
  · exact .inl (.inl (e _ _ h fun _ z => by cases z))
  · exact .inl (.inr ⟨w, e _ _ h fun _ z => by cases z⟩)
  · exact .inr h
theorem sqL_extD {K : PySem.W.Frag} {H H' : Hp} {p : Addr} {xs : List V} (e : ExtD H H') (h : SqL K H p xs) : SqL K H' p xs := by
  rcases h with (h | ⟨w, h⟩) | h
  · exact .inl (.inl (e _ _ h fun _ z => by cases z))
  · exact .inl (.inr ⟨w, e _ _ h fun _ z => by cases z⟩)
  · exact .inr h
theorem tyT_extD {K : PySem.W.Frag} {H H' : Hp} {x : V} (e : ExtD H H') (h : TyX K H x (.type "tuple")) : TyX K H' x (.type "tuple") := by
  generalize ht : Value.type "tuple" = w at h
  cases h with
  | base b =>
    cases b with
    | tup q =>
      rw [← ht]
      exact .base (.tup (e _ _ q fun _ z => by cases z))
    | _ => first | exact absurd ht (by decide) | (injection ht with q; exact absurd q (by decide)) | cases ht
  | kTuple q c =>
    rw [← ht]
    exact .kTuple q c
  | fTuple q =>
    rw [← ht]
    exact .fTuple (e _ _ q fun _ z => by cases z)
  | _ => first | exact absurd ht (by decide) | (injection ht with q; exact absurd q (by decide)) | cases ht
theorem mvR_extD {K : PySem.W.Frag} {H H' : Hp} {x : V} {m : Mv} (e : ExtD H H') (h : MvR K H x m) : MvR K H' x m := by
  obtain ⟨b, rfl, h1, h2⟩ := h
  exact ⟨b, rfl, sqT_extD e h1, tyT_extD e h2⟩
/-- unlocked: what was before the lock stands -/
theorem same_unlock {H H' : Hp} {d : Addr} {u l : HO} (e : H d = some u) (s : Same (upd H d l) H') : Same H (upd H' d u) := fun b o h => by
  by_cases z : b = d
  · subst z
    rw [e] at h
    rw [upd_same, Option.some.inj h]
  · rw [upd_ne z]
    exact s _ _ (by rw [upd_ne z]; exact h)
theorem same_lock {H : Hp} {d b : Addr} {l o : HO} (h : H b = some o) (n : b ≠ d) : (upd H d l) b = some o := by
  rw [upd_ne n]
  exact h
theorem walk_itemsK {d : Addr} {o : Obj} {kvs : List (Key × V)} : Walk (Iti d o kvs) kvs.length (fun H => H d = some (.frz o (.dK kvs))) (fun i H v H' => ∃ (T : Addr) (kv : Key × V), kvs[i]? = some kv ∧ v = .ref T ∧ H T = none ∧ H' = upd H T (.tup [kV kv.1, kv.2])) :=
  walk_items.mono (fun _ h => h) fun i H x H' hi _ hy => by
    obtain ⟨T, x1, y1, rfl, hT, rfl, e1, e2⟩ := hy
    have ek : kvs[i]? = some kvs[i] := List.getElem?_eq_getElem hi
    have f1 : kvs[i]?.map (fun kv => kV kv.1) = some x1 := e1
    have f2 : kvs[i]?.map Prod.snd = some y1 := e2
    rw [ek, Option.map_some] at f1 f2
    exact ⟨T, kvs[i], ek, rfl, hT, by rw [Option.some.inj f1, Option.some.inj f2]⟩
end L2

set_option Elab.async false
set_option linter.all false
set_option maxRecDepth 100000
set_option maxHeartbeats 4000000
/-! dict comprehensions over any walk; dicts keyed by names, put in order -/
namespace L2
open PySem PySem.Spec PyProof.Rows
theorem dc_it {J : It} {n : Nat} {G : Hp → Prop} {Y : Nat → Hp → V → Hp → Prop} (w : Walk J n G Y) {g : TG} {tt : TT} {tk tv : TE} {vs : List Nat} {σ : St} {H1 : Hp} {D : Addr} {Qd : Hp → Prop} (Pv : Nat → Hp → Prop) (h0 : Pv 0 (upd H1 D (.dK []))) (hG : ∀ i H, i ≤ n → Pv i H → G H)
    (hs : ∀ i x H H', i < n → Pv i H → Y i H x H' → g x (wipe σ vs) H' fun σ2 H2 => wipe σ2 vs = wipe σ vs ∧ tt σ2 H2 fun b H3 =>
      if b = true then tk σ2 H3 fun y H4 => tv σ2 H4 fun z H5 => ∃ kvs k, y = kV k ∧ H5 D = some (.dK kvs) ∧ kvs.length < sizeLine ∧ Pv (i + 1) (upd H5 D (.dK (putK kvs k z))) else Pv (i + 1) H3) (hd : ∀ H, Pv n H → Qd H) :
    ∃ W : Nat → Nat → Hp → Prop, (∃ m, W 0 m (upd H1 D (.dK []))) ∧ ∀ i m H, W i m H →
      (J.stop i H ∧ Qd H) ∨ (J.go i H ∧ ∃ Nx : Hp → Prop, (∀ H', Nx H' → ∃ m', m' < m ∧ W (i + 1) m' H') ∧ ∀ x H', J.yld i H x H' → g x (wipe σ vs) H' fun σ2 H2 => wipe σ2 vs = wipe σ vs ∧ tt σ2 H2 fun b H3 =>
        if b = true then tk σ2 H3 fun y H4 => tv σ2 H4 fun z H5 => ∃ kvs k, y = kV k ∧ H5 D = some (.dK kvs) ∧ kvs.length < sizeLine ∧ Nx (upd H5 D (.dK (putK kvs k z))) else Nx H3) := by
  refine ⟨fun i m H => m = n - i ∧ i ≤ n ∧ Pv i H, ⟨n, by simp, Nat.zero_le _, h0⟩, ?_⟩
  rintro i m H ⟨rfl, hi, p⟩
  have q := hG i H hi p
  by_cases hlt : i < n
  · refine .inr ⟨w.goes i H hlt q, Pv (i + 1), fun H' p' => ⟨n - (i + 1), by omega, rfl, hlt, p'⟩, fun x H' y => hs i x H H' hlt p (w.yields i H x H' hlt q y)⟩
  · have e : i = n := by omega
    subst e
    exact .inl ⟨w.stops H q, hd H p⟩
theorem putK_add {kp : List (Key × V)} {k : Key} {v : V} (h : k ∉ kp.map (·.1)) : putK kp k v = kp ++ [(k, v)] := by
  unfold putK
  rw [if_neg]
  intro hh
  obtain ⟨y, hy, e⟩ := List.any_eq_true.mp hh
  exact h (List.mem_map.mpr ⟨y, hy, of_decide_eq_true e⟩)
theorem perm_lift {α β : Type} {f : α → β} : ∀ {ys zs : List β}, ys.Perm zs → ∀ {os : List α}, os.map f = zs → ∃ os' : List α, os'.Perm os ∧ os'.map f = ys := by
  intro ys zs p
  induction p with
  | nil =>
    intro os h
    exact ⟨os, .refl _, h⟩
  | cons x _ ih =>
    intro os h
    cases os with
    | nil => cases h
    | cons o r =>
      obtain ⟨h1, h2⟩ := List.cons.inj h
      obtain ⟨r', p', e'⟩ := ih h2
      exact ⟨o :: r', .cons _ p', by rw [List.map_cons, h1, e']⟩
  | swap x y l =>
    intro os h
    cases os with
    | nil => cases h
    | cons o r =>
      obtain ⟨h1, h2⟩ := List.cons.inj h
      cases r with
      | nil => cases h2
      | cons o2 r =>
        obtain ⟨h3, h4⟩ := List.cons.inj h2
        exact ⟨o2 :: o :: r, .swap _ _ _, by rw [List.map_cons, List.map_cons, h1, h3, h4]⟩
  | trans _ _ ih1 ih2 =>
    intro os h
    obtain ⟨a, p1, e1⟩ := ih2 h
    obtain ⟨b, p2, e2⟩ := ih1 e1
    exact ⟨b, p2.trans p1, e2⟩
/-- a dict's entry, by the name of what stands there -/
def KR {α : Type} (R : V → α → Prop) (nm : α → Str) (kv : Key × V) (o : α) : Prop := kv.1 = Sum.inr (nm o) ∧ R kv.2 o
section
variable {α : Type} {R : V → α → Prop} {nm : α → Str}
theorem kr_val {x : Str} : ∀ {kvs : List (Key × V)} {os : List α}, Paired (KR R nm) kvs os → (∃ v o, o ∈ os ∧ nm o = x ∧ valV kvs (Sum.inr x) = some v ∧ R v o) ∨ (x ∉ os.map nm ∧ valV kvs (Sum.inr x) = none)
  | _, _, .nil => .inr ⟨by simp, rfl⟩
  | _, _, .cons (a := kv) (b := o) (l₁ := kvs) (l₂ := os) h t => by
    obtain ⟨h1, h2⟩ := h
    by_cases e : nm o = x
    · refine .inl ⟨kv.2, o, List.mem_cons_self .., e, ?_, h2⟩
      unfold valV
      rw [List.find?_cons, decide_eq_true (by rw [h1, e])]
      rfl
    · have ev : valV (kv :: kvs) (Sum.inr x) = valV kvs (Sum.inr x) := by
        unfold valV
        rw [List.find?_cons, decide_eq_false (by rw [h1]; exact fun z => e (Sum.inr.inj z))]
      rcases kr_val (x := x) t with ⟨v, o', m, e1, e2, e3⟩ | ⟨n, e2⟩
      · exact .inl ⟨v, o', List.mem_cons_of_mem _ m, e1, by rw [ev]; exact e2, e3⟩
      · refine .inr ⟨fun hm => ?_, by rw [ev]; exact e2⟩
        rcases List.mem_cons.mp hm with z | z
        · exact e z.symm
        · exact n z
theorem kr_in {x : Str} {kvs : List (Key × V)} {os : List α} (hP : Paired (KR R nm) kvs os) : (valV kvs (Sum.inr x)).isSome = decide (x ∈ os.map nm) := by
  rcases kr_val (x := x) hP with ⟨v, o, m, e1, e2, _⟩ | ⟨n, e2⟩
  · rw [e2, decide_eq_true (List.mem_map.mpr ⟨o, m, e1⟩)]
    rfl
  · rw [e2, decide_eq_false n]
    rfl
theorem nm_one {os : List α} (nd : (os.map nm).Nodup) {a b : α} (ha : a ∈ os) (hb : b ∈ os) (e : nm a = nm b) : a = b := by
  induction os with
  | nil => cases ha
  | cons o r ih =>
    rw [List.map_cons, List.nodup_cons] at nd
    rcases List.mem_cons.mp ha with h1 | h1
    · rcases List.mem_cons.mp hb with h2 | h2
      · rw [h1, h2]
      · exact absurd (List.mem_map.mpr ⟨b, h2, by rw [← e, h1]⟩) nd.1
    · rcases List.mem_cons.mp hb with h2 | h2
      · exact absurd (List.mem_map.mpr ⟨a, h1, by rw [e, h2]⟩) nd.1
      · exact ih nd.2 h1 h2
theorem kr_at {kvs : List (Key × V)} {os : List α} (hP : Paired (KR R nm) kvs os) (nd : (os.map nm).Nodup) {o : α} (ho : o ∈ os) : ∃ v, valV kvs (Sum.inr (nm o)) = some v ∧ R v o := by
  rcases kr_val (x := nm o) hP with ⟨v, o', m, e1, e2, e3⟩ | ⟨n, _⟩
  · rw [nm_one nd m ho e1] at e3
    exact ⟨v, e2, e3⟩
  · exact absurd (List.mem_map.mpr ⟨o, ho, rfl⟩) n
theorem kr_keys : ∀ {kvs : List (Key × V)} {os : List α}, Paired (KR R nm) kvs os → kvs.map (·.1) = (os.map nm).map Sum.inr
  | _, _, .nil => rfl
  | _, _, .cons h t => by rw [List.map_cons, List.map_cons, List.map_cons, h.1, kr_keys t]
/-- the entries in another order -/
abbrev ascK (kvs : List (Key × V)) (ys : List Str) : List (Key × V) := ys.map fun y => (Sum.inr y, (valV kvs (Sum.inr y)).getD .non)
theorem kr_asc {kvs : List (Key × V)} {os : List α} {ys : List Str} (hP : Paired (KR R nm) kvs os) (nd : (os.map nm).Nodup) (p : ys.Perm (os.map nm)) : ∃ os' : List α, os'.Perm os ∧ os'.map nm = ys ∧ Paired (KR R nm) (ascK kvs ys) os' := by
  obtain ⟨os', p', e'⟩ := perm_lift p rfl
  refine ⟨os', p', e', ?_⟩
  have go : ∀ l : List α, (∀ o ∈ l, o ∈ os) → Paired (KR R nm) (ascK kvs (l.map nm)) l := fun l => by
    induction l with
    | nil => exact fun _ => .nil
    | cons o r ih =>
      intro hm
      obtain ⟨v, hv, hr⟩ := kr_at hP nd (hm o (List.mem_cons_self ..))
      refine .cons ⟨rfl, ?_⟩ (ih fun x hx => hm x (List.mem_cons_of_mem _ hx))
      show R ((valV kvs (Sum.inr (nm o))).getD .non) o
      rw [hv]
      exact hr
  rw [← e']
  exact go os' fun o ho => p'.mem_iff.mp ho
end
end L2

set_option Elab.async false
set_option linter.all false
set_option maxRecDepth 100000
set_option maxHeartbeats 4000000
/-! f"{x}" of an own object -/
namespace L2
open PySem PySem.Spec PyProof.Rows
section
variable {X : Cx} {CX : CXT} {n : Nat} {C f : Addr} {fd : FuncData} {ps : List Str} {sp : Sp} {E : XK}
def tFmtO (C : Addr) (sp : Sp) (E : XK) (te : TE) : TE := fun σ H Q => te σ H fun x H1 => ∃ a, x = .ref a ∧ InsAt C H1 a ∧ sp [.ref a] H1 (fun v H' => ∃ z : Str, v = .str z ∧ Q v H') E
theorem pe_fmtO {e : Expr} {te : TE} {pos : Pos} (he : PE X e te) (O : OwnD X.K C "__str__" f) (hfm : PySem.W.findIn X.K (.ref C) "__format__" = some (some (.builtin "object.__format__"))) (hm : PySem.W.mroIn X.K C (.type "object") = some true)
    (F : FnOk X.prog X.w X.K X.mg X.base CX n f fd ps sp) (hb : Binds X.K fd ps []) (hx : Passes CX X E) (hr : Room (n + 1) X.A) : PE X (.FormattedValue e (-1) none pos) (tFmtO C sp E te) := by
  refine ⟨fun pins s σ H Q I h => ?_⟩
  refine wpAny_FormattedValue_plain (thn (he.run pins s σ H _ I h) fun v s1 hv => ?_)
  obtain ⟨x, H1, I1, r1, a, rfl, ⟨dx, fs, ea⟩, q⟩ := hv
  obtain rfl : v = Value.ref a := r1
  obtain ⟨mA, J, _⟩ := ins_get I1.hok ea
  obtain ⟨od, J, _⟩ := J.look
  refine PySem.W.kfo_fieldS hr.in1.units0 I1.kIn J hfm hm O.at_ O.fn (thn (run_in (vs := [.ref a]) F hb hx ⟨hr.in1, rfl⟩ (I1.tok _) (.cons rfl .nil) q) fun u s2 ⟨y, H2, I2, ry, z, ey, q2⟩ => ?_)
  subst ey
  obtain ⟨t, rfl⟩ := ry
  exact ⟨.str z, H2, I2, ⟨_, rfl⟩, q2⟩
end
section
variable {X : Cx}
theorem pa_starK {e : Expr} {es : List Expr} {te : TE} {t : TA} {p : Pos} (K : PySem.W.Frag) (h : X.K = K) (he : PE X e te) (hr : PA X es t) (hs : starEach (.Starred e p :: es) X.env = (true, eval e X.env) :: starEach es X.env := by rfl) : PA X (.Starred e p :: es) (StX.tStar K te t) := by
  subst h
  exact StX.pa_star he hr hs
end
end L2

set_option Elab.async false
set_option linter.all false
set_option maxRecDepth 100000
set_option maxHeartbeats 4000000
/-! tuple(d), tuple(d.values()); x in an own object, not in; own[x] -/
namespace L2
open PySem PySem.Spec PyProof.Rows
section
variable {prog : Program} {w : World} {A : Around} {E : Value → Shared → Prop} {s : Shared} {r d : Addr} {n : Nat} {P : Nat → Value → Prop} {OK : Heap → Prop}
theorem code_tuple_new_dict {Q₁ : Value → Shared → Prop} (K : PySem.W.KdlSrc prog w "dict" r d n P OK) (hh : A.handled = none) (hok : OK s.heap) (hn : n ≤ sizeLine)
    (h : ∀ (h' : Heap) (tk : Nat) (acc : Array Value), (∀ b o, s.heap.get? b = some o → h'.get? b = some o) → ItemsOf P acc n →
      Q₁ (.ref h'.objs.size) { s with heap := h'.push { cls := .type "tuple", data := .seq acc }, toks := tk }) :
    codeAny (model prog w) A (.call (.builtin "tuple.__new__") ⟨[.type "tuple", .ref r], []⟩) (wants Q₁ E) s := by
  refine codeAny_of_tree ?_
  show wpAny _ A.in1 (do checkBuiltinCall "tuple.__new__" ⟨[.type "tuple", .ref r], []⟩; again (.builtin "tuple.__new__" ⟨[.type "tuple", .ref r], []⟩)) _ _ s
  refine wpAny_bind (wpAny_of_eq (F.newCall_tuple_1 _) (wpAny_pure ⟨plainId_quiet F.plain_tuple_new _, codeAny_builtin F.entry_tuple_new ?_⟩))
  rw [Around.under_plainId F.plain_tuple_new _]
  have hsub := sub_tuple_self
  have hinit := init_tuple_lookup
  have hmh := madeHere_tuple
  have hTI : s.TypeIs (.ref r) "dict" := K.type s hok
  have hh1 : A.in1.handled = none := hh
  wp_walk using wpAny_typeOf hTI, PySem.W.kdu_collect (A := A.in1) K hh1 hok hn
  intro h' tk acc hk hacc
  show wpAny _ _ (Builtin.Tuple.tupleExact acc.toList.toArray >>= fun v => ret v) _ _ _
  unfold Builtin.Tuple.tupleExact
  refine wpAny_bind (wpAny_newObj_type ?_ (by show acc.toList.toArray.size ≤ sizeLine; simp only [Array.toArray_toList]; rw [hacc.1]; exact hn))
  refine wpAny_pure ?_
  have e : acc.toList.toArray = acc := by simp
  rw [e]
  exact h h' tk acc hk hacc
theorem code_tuple_new_vals {Q₁ : Value → Shared → Prop} (K : PySem.W.KdlSrc prog w "dict_values" r d n P OK) (hh : A.handled = none) (hok : OK s.heap) (hn : n ≤ sizeLine)
    (h : ∀ (h' : Heap) (tk : Nat) (acc : Array Value), (∀ b o, s.heap.get? b = some o → h'.get? b = some o) → ItemsOf P acc n →
      Q₁ (.ref h'.objs.size) { s with heap := h'.push { cls := .type "tuple", data := .seq acc }, toks := tk }) :
    codeAny (model prog w) A (.call (.builtin "tuple.__new__") ⟨[.type "tuple", .ref r], []⟩) (wants Q₁ E) s := by
  refine codeAny_of_tree ?_
  show wpAny _ A.in1 (do checkBuiltinCall "tuple.__new__" ⟨[.type "tuple", .ref r], []⟩; again (.builtin "tuple.__new__" ⟨[.type "tuple", .ref r], []⟩)) _ _ s
  refine wpAny_bind (wpAny_of_eq (F.newCall_tuple_1 _) (wpAny_pure ⟨plainId_quiet F.plain_tuple_new _, codeAny_builtin F.entry_tuple_new ?_⟩))
  rw [Around.under_plainId F.plain_tuple_new _]
  have hsub := sub_tuple_self
  have hinit := init_tuple_lookup
  have hmh := madeHere_tuple
  have hTI : s.TypeIs (.ref r) "dict_values" := K.type s hok
  have hh1 : A.in1.handled = none := hh
  wp_walk using wpAny_typeOf hTI, PySem.W.kdu_collect (A := A.in1) K hh1 hok hn
  intro h' tk acc hk hacc
  show wpAny _ _ (Builtin.Tuple.tupleExact acc.toList.toArray >>= fun v => ret v) _ _ _
  unfold Builtin.Tuple.tupleExact
  refine wpAny_bind (wpAny_newObj_type ?_ (by show acc.toList.toArray.size ≤ sizeLine; simp only [Array.toArray_toList]; rw [hacc.1]; exact hn))
  refine wpAny_pure ?_
  have e : acc.toList.toArray = acc := by simp
  rw [e]
  exact h h' tk acc hk hacc
theorem call_tuple_src {Q : Value → Shared → Prop} (hc : ∀ Q₁ : Value → Shared → Prop, (∀ (h' : Heap) (tk : Nat) (acc : Array Value), (∀ b o, s.heap.get? b = some o → h'.get? b = some o) → ItemsOf P acc n →
      Q₁ (.ref h'.objs.size) { s with heap := h'.push { cls := .type "tuple", data := .seq acc }, toks := tk }) → codeAny (model prog w) A.in1 (.call (.builtin "tuple.__new__") ⟨[.type "tuple", .ref r], []⟩) (wants Q₁ E) s)
    (hQ : ∀ (h' : Heap) (tk : Nat) (acc : Array Value), (∀ b o, s.heap.get? b = some o → h'.get? b = some o) → ItemsOf P acc n →
      Q (.ref h'.objs.size) { s with heap := h'.push { cls := .type "tuple", data := .seq acc }, toks := tk }) :
    wpAny (model prog w) A (call (.type "tuple") [.ref r]) Q E s := by
  refine callType_codes (Q₁ := fun obj s₁ => s₁.TypeIs obj "tuple" ∧ Q obj s₁) F.called_tuple (F.typeCall_tuple_1 _) F.entry_object_init
    (hc _ fun h' tk acc hk hacc => ⟨⟨_, Heap.get?_push_size _ rfl, rfl⟩, hQ h' tk acc hk hacc⟩) fun obj s₁ h₁ => ?_
  exact ⟨h₁.1, F.args_object_init_2 obj _, object_init_meets F.called_tuple.init.lookup F.called_tuple.made (by decide) prog w A.in1 _ s₁ ⟨h₁.1, rfl, h₁.2⟩⟩
end
section
variable {X : Cx}
/-- tuple(d): its keys -/
theorem call_tupD (hcalm : X.calm = true) : CallR X (.type "tuple") (fun xs H Q => ∃ (a : Addr) (kvs : List (Key × V)), xs = [.ref a] ∧ Rd H a (.dK kvs) ∧ New H (.tup (kvs.map fun kv => kV kv.1)) Q) := by
  intro pins s σ H xs us Q I r q
  obtain ⟨a, kvs, ex, hd, q⟩ := q
  subst ex
  obtain ⟨u, eu, rx⟩ := vals1 r
  subst eu
  cases rx
  obtain ⟨z, lo, vs, rel, dd⟩ := dk_rd I.hok hd
  obtain ⟨ep, hat⟩ := dd.dictAt
  have ek : (kvs.map fun kv => kV kv.1) = vs.map fun p => kV p.1 := by
    have e := congrArg (List.map kV) rel.keys
    rw [List.map_map, List.map_map] at e
    exact e
  have hz : vs.length ≤ sizeLine := by rw [← rel.length]; exact z
  refine call_tuple_src (fun Q₁ h => code_tuple_new_dict (PySem.W.kdl_dict (knd := mixKind X.prog X.w) (kvs := vs) (ep := ep) lo) (I.ok.hd hcalm) hat hz h) fun h' tk acc hk hacc => ?_
  have hv : Vals (vs.map fun p => kV p.1) acc.toList := keys_at (by rw [Array.length_toList]; exact hacc.1) fun j v e => hacc.2 j v (by rw [← Array.getElem?_toList]; exact e)
  have I1 : Inv X pins σ H { s with heap := h', toks := tk } := I.kept (t' := tk) hk
  refine ⟨.ref h'.objs.size, upd H h'.objs.size (.tup (kvs.map fun kv => kV kv.1)), I1.laid (t' := tk) (fun b o e => Heap.get?_push_of_some _ e) (Nat.le_refl _)
    (show ObjOk X.prog X.w _ _ _ (.tup (kvs.map fun kv => kV kv.1)) from ⟨by rw [List.length_map]; exact z, acc.toList, by rw [ek]; exact hv, ?_⟩), rfl, q.go _ (I1.hok.fresh (Nat.le_refl _))⟩
  rw [Array.toArray_toList]
  exact IsTup.new _ _
/-- tuple(d.values()) -/
def tTupVals (td : TE) : TE := fun σ H Q => td σ H fun x H1 => ∃ a kvs, x = V.ref a ∧ H1 a = some (.dK kvs) ∧ New H1 (.tup (kvs.map Prod.snd)) Q
variable {o : Expr} {p pos apos mpos : Pos} {td : TE}
theorem pe_tupVals (hc : X.calm = true) (hg : Gl X "tuple") (hm : X.mg "tuple" = none) (hd : PE X o td) (hbase : attributeBase o "values" X.env (eval o X.env) = eval o X.env := by rfl) (hline : (apos.endLine == mpos.line) = true := by rfl)
    (hse : starEach [Expr.Call (.Attribute o "values" apos) [] [] mpos] X.env = (false, eval (Expr.Call (.Attribute o "values" apos) [] [] mpos) X.env) :: starEach [] X.env := by rfl) :
    PE X (.Call (.Name "tuple" p) [.Call (.Attribute o "values" apos) [] [] mpos] [] pos) (tTupVals td) := by
  refine ⟨fun pins s σ H Q I h => ?_⟩
  refine Call_ (ld_blt I hg hm boot_tuple (PyProof.Rows.callWith_type1 (args_cons (wpAny_Call_method0_late hbase hline (thn (hd.run pins s σ H _ I h) fun v s1 ⟨x, H1, I1, r1, a, kvs, ex, ha, q⟩ => ?_)) hse)))
  subst ex
  obtain rfl : v = Value.ref a := r1
  obtain ⟨hz, hsys, vs, rel, dof⟩ := dk_of I1.hok ha
  obtain ⟨ep, dat⟩ := dof.dictAt
  have dat' := dat
  obtain ⟨ob, es, ho, ex, hdat, hko, hpr, hnd⟩ := dat'
  refine ⟨"dict", "dict.values", F.plainAttrs_dict, F.slot_dict_values, F.type_dict_values, ⟨ob, ho, ex.1⟩, fun b e => ?_, Calls.callWith_builtin rfl (PySem.evalArgs_none ?_)⟩
  · cases e
    exact ⟨ob, ho, ex.2.1⟩
  refine call_meetsIn F.slot_dict_values ⟨ob, ho, ex.1⟩ F.entry_dict_values (F.args_dict_values_1 _) (meets_dict_values (mixKind X.prog X.w) a hsys) ⟨⟨vs, dof⟩, ?_⟩
  have k1 : ∀ b u, s1.heap.get? b = some u → (s1.heap.push { cls := .type "dict_values", data := .fields #[.ref a] }).get? b = some u := fun b u e => Heap.get?_push_of_some _ e
  have dat1 : (s1.heap.push { cls := .type "dict_values", data := .fields #[.ref a] }).DictAt (mixKind X.prog X.w) a vs ep := dat.keep k1
  have hlv : vs.length ≤ sizeLine := by
    have := KV.length rel
    omega
  have I2 : Inv X pins σ H1 { s1 with heap := s1.heap.push { cls := .type "dict_values", data := .fields #[.ref a] } } := I1.kept (t' := s1.toks) k1
  refine args_nil ?_
  refine call_tuple_src (fun Q₁ h => code_tuple_new_vals (PySem.W.kdl_values (knd := mixKind X.prog X.w) (r := s1.heap.objs.size) (d := a) (kvs := vs) (ep := ep)) (I2.ok.hd hc) ⟨⟨_, Heap.get?_push_size _ rfl, rfl, rfl⟩, dat1⟩ hlv h) fun h' tk acc hk hacc => ?_
  have lacc : acc.toList.length = vs.length := by rw [Array.length_toList]; exact hacc.1
  have hv : Vals (kvs.map Prod.snd) acc.toList := vals_of_at (by rw [List.length_map, lacc]; exact KV.length rel) fun j x u e1 e2 => by
    obtain ⟨k, hk⟩ := hacc.2 j u (by rw [← Array.getElem?_toList]; exact e2)
    obtain ⟨y, h1, h2⟩ := KV.at' rel hk
    rw [List.getElem?_map, h1] at e1
    cases Option.some.inj e1
    exact h2
  have I3 : Inv X pins σ H1 { s1 with heap := h', toks := tk } := I2.kept (t' := tk) hk
  refine ⟨.ref h'.objs.size, upd H1 h'.objs.size (.tup (kvs.map Prod.snd)), I3.laid (t' := tk) (fun b o e => Heap.get?_push_of_some _ e) (Nat.le_refl _)
    (show ObjOk X.prog X.w _ _ _ (.tup (kvs.map Prod.snd)) from ⟨by rw [List.length_map]; exact hz, acc.toList, hv, ?_⟩), rfl, q.go _ (I3.hok.fresh (Nat.le_refl _))⟩
  rw [Array.toArray_toList]
  exact IsTup.new _ _
/-- x in y, y of the class at C -/
def rInO (C : Addr) (sp : Sp) (E : XK) (neg : Bool) : R2 := fun x y H Q => ∃ a, y = .ref a ∧ InsAt C H a ∧ sp [.ref a, x] H (fun v H' => ∃ b : Bool, v = .bl b ∧ Q (.bl (neg.xor b)) H') E
variable {CX : CXT} {m : Nat} {C f : Addr} {fd : FuncData} {ps : List Str} {sp : Sp} {E : XK}
theorem op_inO (O : OwnD X.K C "__contains__" f) (F : FnOk X.prog X.w X.K X.mg X.base CX m f fd ps sp) (hb : Binds X.K fd ps []) (hx : Passes CX X E) (hr : Room m X.A) : OpR X (compareOp .In) (rInO C sp E false) := by
  intro pins s σ H x y u v Q I rx ry h
  obtain ⟨a, rfl, ⟨dx, fs, ea⟩, q⟩ := h
  cases ry
  obtain ⟨mA, J, _⟩ := ins_get I.hok ea
  obtain ⟨od, J, _⟩ := J.look
  obtain ⟨mf, hF⟩ := I.fr
  refine PySem.W.in_K hF I.ok.mod.kin J O.at_ O.fn (thn (run_in (vs := [.ref a, x]) F hb hx ⟨hr, rfl⟩ I (.cons rfl (.cons rx .nil)) q) fun w s1 ⟨z, H1, I1, rz, b, ez, q1⟩ => ?_)
  subst ez
  cases rz
  have e : (false ^^ b) = b := by cases b <;> rfl
  rw [e] at q1
  exact wpAny_pure ⟨.bl b, H1, I1, rfl, q1⟩
theorem op_notInO (O : OwnD X.K C "__contains__" f) (F : FnOk X.prog X.w X.K X.mg X.base CX m f fd ps sp) (hb : Binds X.K fd ps []) (hx : Passes CX X E) (hr : Room m X.A) : OpR X (compareOp .NotIn) (rInO C sp E true) := by
  intro pins s σ H x y u v Q I rx ry h
  obtain ⟨a, rfl, ⟨dx, fs, ea⟩, q⟩ := h
  cases ry
  obtain ⟨mA, J, _⟩ := ins_get I.hok ea
  obtain ⟨od, J, _⟩ := J.look
  obtain ⟨mf, hF⟩ := I.fr
  refine PySem.W.notIn_K hF I.ok.mod.kin J O.at_ O.fn (thn (run_in (vs := [.ref a, x]) F hb hx ⟨hr, rfl⟩ I (.cons rfl (.cons rx .nil)) q) fun w s1 ⟨z, H1, I1, rz, b, ez, q1⟩ => ?_)
  subst ez
  cases rz
  have e : (true ^^ b) = !b := by cases b <;> rfl
  rw [e] at q1
  exact wpAny_pure ⟨.bl (!b), H1, I1, rfl, q1⟩
theorem op_inOK (K : PySem.W.Frag) (h : X.K = K) (O : OwnD K C "__contains__" f) (F : FnOk X.prog X.w K X.mg X.base CX m f fd ps sp) (hb : Binds K fd ps []) (hx : Passes CX X E) (hr : Room m X.A) : OpR X (compareOp .In) (rInO C sp E false) := by
  subst h
  exact op_inO O F hb hx hr
theorem op_notInOK (K : PySem.W.Frag) (h : X.K = K) (O : OwnD K C "__contains__" f) (F : FnOk X.prog X.w K X.mg X.base CX m f fd ps sp) (hb : Binds K fd ps []) (hx : Passes CX X E) (hr : Room m X.A) : OpR X (compareOp .NotIn) (rInO C sp E true) := by
  subst h
  exact op_notInO O F hb hx hr
theorem run_inS {A : Around} {pins : List (Addr × Obj)} {σ : St} {H : Hp} {s : Shared} {Q : VK} {us : List Value} {vs : List V} (F : FnOk X.prog X.w X.K X.mg X.base CX m f fd ps sp) (hb : Binds X.K fd ps []) (hx : PassesAt CX X σ E) (sb : Sub X m A) (I : Inv X pins σ H s) (r : Vals vs us) (h : sp vs H Q E) :
    wpAny (model X.prog X.w) A (call (.ref f) us) (EP X pins σ Q) X.xe s := by
  have e0 : Env0 X.prog X.w X.K X.mg X.base A X.stack s H := by
    have e := I.env0
    exact ⟨by rw [sb.fr]; exact e.frames, e.mod, e.bs, e.bsz, e.funs, e.frf, e.hok, e.bare⟩
  have hl : us.length = ps.length := by rw [← r.length]; exact F.len _ _ _ _ h
  have b := hb s us I.kIn (by rw [List.append_nil]; exact hl)
  rw [List.append_nil] at b
  refine wpAny_call (codeAny_mono (F.run A X.stack s H ⟨us, []⟩ us vs Q E sb.room e0 b r h) fun o s' hq => ?_)
  cases o with
  | error e => exact hx pins H s e s' I hq
  | ok fl =>
    cases fl with
    | ret w => exact I.after hq
    | next => exact False.elim hq
    | brk => exact False.elim hq
    | cont => exact False.elim hq
/-- own[x] -/
def tGetO (C : Addr) (sp : Sp) (E : St → XK) (ta tb : TE) : TE := fun σ H Q => ta σ H fun x H1 => tb σ H1 fun y H2 => ∃ a, x = .ref a ∧ InsAt C H2 a ∧ sp [.ref a, y] H2 Q (E σ)
theorem pe_getO {a b : Expr} {ta tb : TE} {pos : Pos} {E : St → XK} (K : PySem.W.Frag) (hK : X.K = K) (ha : PE X a ta) (hb : PE X b tb) (O : OwnD K C "__getitem__" f) (hfn : PySem.W.fnIn K f = true) (F : FnOk X.prog X.w K X.mg X.base CX m f fd ps sp) (hbi : Binds K fd ps []) (hx : ∀ σ, PassesAt CX X σ (E σ)) (hr : Room (m + 1) X.A)
    (hsl : ∀ (x : Addr) (i : Value), subscripted b true (.ref x) i = runValue (.builtin "lifetime.subscript" ⟨[.ref x, i], []⟩) := by exact fun _ _ => rfl) : PE X (.Subscript a b pos) (tGetO C sp E ta tb) := by
  subst hK
  refine ⟨fun pins s σ H Q I h => ?_⟩
  refine Subscript_ (binT ha hb I h fun v u s2 x y H2 I2 rx ry q => ?_)
  obtain ⟨p, rfl, ⟨dx, fs, ea⟩, q⟩ := q
  cases rx
  obtain ⟨mA, J, _⟩ := ins_get I2.hok ea
  obtain ⟨od, J, _⟩ := J.look
  obtain ⟨mf, hF⟩ := I2.fr
  exact PySem.W.sub_K hF I2.ok.mod.kin J O.at_ hfn O.fn (run_inS (vs := [.ref p, y]) F hbi (hx σ) ⟨hr.in1, rfl⟩ I2 (.cons rfl (.cons ry .nil)) q) (hsl _ _)
end
end L2

set_option Elab.async false
set_option linter.all false
set_option maxRecDepth 100000
set_option maxHeartbeats 4000000
/-! a dict compared with the empty one -/
namespace L2
open PySem PySem.Spec PyProof.Rows
section
variable {X : Cx}
def rEqDE (neg : Bool) : R2 := fun x y H Q => ∃ a b ks, x = .ref a ∧ y = .ref b ∧ H a = some (.dK ks) ∧ H b = some (.dK []) ∧ Q (.bl (neg.xor (decide (ks = [])))) H
theorem op_eqDE {k : Nat} (hr : Room k X.A) : OpR X (compareOp .Eq) (rEqDE false) := by
  intro pins s σ H x y v u Q I rx ry h
  obtain ⟨a, b, ks, rfl, rfl, ea, eb, q⟩ := h
  obtain rfl : v = Value.ref a := rx
  obtain rfl : u = Value.ref b := ry
  obtain ⟨_, ya, va, ra, da⟩ := (show ObjOk X.prog X.w H s.heap a (.dK ks) from I.hok a _ ea)
  obtain ⟨_, yb, vb, rb, db⟩ := (show ObjOk X.prog X.w H s.heap b (.dK []) from I.hok b _ eb)
  have l1 := ra.length
  have l2 : vb.length = 0 := rb.length.symm
  refine PySem.W.keq_eq (knd := mixKind X.prog X.w) (r := true) ya yb da db hr.units0 (fun hl => ?_) (fin_bl I q ?_)
  · have : ks = [] := List.length_eq_zero_iff.mp (by omega)
    subst this
    exact hits_all rb ra fun p hp => by cases hp
  · cases ks with
    | nil =>
      have e : va.length = 0 := by rw [← l1]; rfl
      rw [e, l2]
      rfl
    | cons p r =>
      have e : (va.length == vb.length) = false := beq_eq_false_iff_ne.mpr (by rw [← l1, l2]; exact Nat.succ_ne_zero _)
      rw [e]
      rfl
theorem op_neDE {k : Nat} (hr : Room k X.A) : OpR X (compareOp .NotEq) (rEqDE true) := by
  intro pins s σ H x y v u Q I rx ry h
  obtain ⟨a, b, ks, rfl, rfl, ea, eb, q⟩ := h
  obtain rfl : v = Value.ref a := rx
  obtain rfl : u = Value.ref b := ry
  obtain ⟨_, ya, va, ra, da⟩ := (show ObjOk X.prog X.w H s.heap a (.dK ks) from I.hok a _ ea)
  obtain ⟨_, yb, vb, rb, db⟩ := (show ObjOk X.prog X.w H s.heap b (.dK []) from I.hok b _ eb)
  have l1 := ra.length
  have l2 : vb.length = 0 := rb.length.symm
  refine PySem.W.keq_ne (knd := mixKind X.prog X.w) (r := true) ya yb da db hr.units0 (fun hl => ?_) (fin_bl I q ?_)
  · have : ks = [] := List.length_eq_zero_iff.mp (by omega)
    subst this
    exact hits_all rb ra fun p hp => by cases hp
  · cases ks with
    | nil =>
      have e : va.length = 0 := by rw [← l1]; rfl
      rw [e, l2]
      rfl
    | cons p r =>
      have e : (va.length == vb.length) = false := beq_eq_false_iff_ne.mpr (by rw [← l1, l2]; exact Nat.succ_ne_zero _)
      rw [e]
      rfl
/-- an expression of several ways, its ways out brought together -/
theorem pe_clo {e : Expr} {te : TE} (h : PE X e te) : PE X e (fun σ H Q => ∃ R : VK, te σ H R ∧ ∀ v H', R v H' → Q v H') := ⟨fun pins s σ H Q I z => by
  obtain ⟨R, r, m⟩ := z
  exact thn (h.run pins s σ H R I r) fun v s1 ⟨x, H1, I1, r1, q1⟩ => ⟨x, H1, I1, r1, m _ _ q1⟩⟩
end
end L2

set_option Elab.async false
set_option linter.all false
set_option maxRecDepth 100000
set_option maxHeartbeats 4000000
/-! enumerate of a tuple -/
namespace L2
open PySem PySem.Spec PyProof.Rows
theorem enew_tup (t : Addr) (items : Array Value) : Meets (Builtin.«enumerate.__new__» ⟨[.type "enumerate", .ref t], []⟩) (fun _ R s => s.heap.IsTuple t items ∧
    R (.ok (.ret (.ref (s.heap.push { cls := .type "tuple_iterator", data := .fields #[.ref t, .int 0 0] }).objs.size)))
      { s with heap := (s.heap.push { cls := .type "tuple_iterator", data := .fields #[.ref t, .int 0 0] }).push { cls := .type "enumerate", data := .fields #[.none, .bool false, .ref s.heap.objs.size, rawInt 0, .none, .none] } }) :=
  .of_wp fun prog w A R s h => by
    obtain ⟨hp, g, d, tk, os⟩ := s
    obtain ⟨h1, h⟩ := h
    have hsub := sub_enumerate
    have it : ∀ {A' : Around} {E : Value → Shared → Prop} {Q : Value → Shared → Prop}, Q (.ref hp.objs.size) ⟨hp.push { cls := .type "tuple_iterator", data := .fields #[.ref t, .int 0 0] }, g, d, tk, os⟩ → wpAny (model prog w) A' (pyIter (.ref t)) Q E ⟨hp, g, d, tk, os⟩ :=
      fun q => (PySem.begins_tuple t items).iter prog w _ _ ⟨hp, g, d, tk, os⟩ _ h1 q
    wp_walk using it
    refine wpAny_stack_any fun st => wpAny_pure ?_
    split
    · rename_i c _ _ _ _ _
      cases c == Value.type "enumerate" <;> (wp_walk using it; exact ⟨_, rfl, h⟩)
    · wp_walk using it
      exact ⟨_, rfl, h⟩
theorem enum_tup {prog : Program} {w : World} {A : Around} {E : Value → Shared → Prop} {s : Shared} {t : Addr} {items : Array Value} {Q : Value → Shared → Prop} (ht : s.heap.IsTuple t items)
    (h : ∀ h', IsEnum h' (s.heap.objs.size + 1) s.heap.objs.size 0 .none → h'.IsTupleIter s.heap.objs.size t 0 → (∀ b o, s.heap.get? b = some o → h'.get? b = some o) → Q (.ref (s.heap.objs.size + 1)) { s with heap := h' }) :
    wpAny (model prog w) A (call (.type "enumerate") [.ref t]) Q E s := by
  refine callType_new F.called_enumerate (by decide) (F.typeCall_enumerate_1 _) (F.newCall_enumerate_1 _) (fun obj => F.args_object_init_2 obj _) F.entry_enumerate_new (enew_tup t items) ⟨ht, ?_⟩
  have hz : (s.heap.push { cls := .type "tuple_iterator", data := .fields #[.ref t, .int 0 0] }).objs.size = s.heap.objs.size + 1 := Heap.size_push ..
  have he := Heap.get?_push_size (s.heap.push { cls := .type "tuple_iterator", data := .fields #[.ref t, .int 0 0] }) (o := { cls := .type "enumerate", data := .fields #[.none, .bool false, .ref s.heap.objs.size, rawInt 0, .none, .none] }) rfl
  show _ ∧ _
  rw [hz] at he ⊢
  exact ⟨⟨_, he, rfl⟩, h _ he ⟨_, Heap.get?_push_of_some _ (Heap.get?_push_size _ rfl), rfl, rfl⟩ fun b o x => Heap.get?_push_of_some _ (Heap.get?_push_of_some _ x)⟩
/-- the tuple at a, each item in a new pair -/
def IteT (K : PySem.W.Frag) (a : Addr) : It :=
  ⟨fun i H => ∃ (xs : List V) (x : V), SqT K H a xs ∧ xs[i]? = some x, fun i H v H' => ∃ T x, v = .ref T ∧ H T = none ∧ H' = upd H T (.tup [.int (i : Nat), x]) ∧ ∀ xs, SqT K H a xs → xs[i]? = some x, fun i H => ∃ xs : List V, SqT K H a xs ∧ xs.length = i⟩
theorem turn_enumT {P : Program} {w : World} {K : PySem.W.Frag} {elts : List Expr} {kk : Nat} {tpos : Pos} (a e it : Addr) :
    Turn P w K (.Tuple elts kk tpos) (IteT K a) [e, it] e (fun i h => (∃ old, IsEnum h e it ((i : Nat) : Int) old) ∧ h.IsTupleIter it a i ∧ e ≠ it) where
  mem := List.mem_cons_self ..
  obj := fun i h st b hb => by
    obtain ⟨⟨old, he⟩, ⟨o, ho, hc, hd⟩, _⟩ := st
    rcases List.mem_cons.mp hb with z | z
    · rw [z]
      exact ⟨_, he, fun v q => nomatch q⟩
    · rw [List.mem_singleton.mp z]
      exact ⟨o, ho, fun v q => by rw [hd] at q; cases q⟩
  keep := fun i h h' st k => by
    obtain ⟨⟨old, he⟩, hi, hne⟩ := st
    exact ⟨⟨old, k e (by simp) _ he⟩, hi.at fun o q => k it (by simp) o q, hne⟩
  item := by
    intro X hP hw hK hc i pins s σ H E I hf st hg
    subst hP hw hK
    obtain ⟨⟨old, he⟩, hit, hne⟩ := st
    obtain ⟨xs, x, hq, hx⟩ := hg
    obtain ⟨its, rv, p, hz⟩ := I.tuple hq
    obtain ⟨u, hu, ru⟩ := rv.get hx
    have hT : s.heap.IsTuple a its.toArray := p
    have hai : a ≠ it := fun z => by
      obtain ⟨o, e1, c1, _⟩ := hit
      obtain ⟨o2, e2, c2, _⟩ := hT
      rw [z, e1] at e2
      rw [← Option.some.inj e2, c1] at c2
      exact absurd c2 (by decide)
    have hae : a ≠ e := fun z => by
      obtain ⟨o2, e2, c2, _⟩ := hT
      rw [z, he] at e2
      rw [← Option.some.inj e2] at c2
      have c2 : Value.type "enumerate" = Value.type "tuple" := c2
      exact absurd c2 (by decide)
    have hef : e ∉ [it, a] := by
      simp only [List.mem_cons, List.not_mem_nil, or_false, not_or]
      exact ⟨hne, hae.symm⟩
    have hel : e < s.heap.objs.size := Heap.lt_size he
    have hil : it < s.heap.objs.size := by
      obtain ⟨_, q, _⟩ := hit
      exact Heap.lt_size q
    have hlt : i < its.toArray.size := by
      have := (List.getElem?_eq_some_iff.mp hu).1
      rw [List.size_toArray]
      exact this
    have Dr := PySem.Draws.tuple (prog := X.prog) (w := X.w) (A := X.A.in1) (I.ok.hd hc) it a hai its.toArray
    refine wpAny_pyNext_enum_itemD Dr he ⟨hit, hT⟩ hlt hne hef fun y h' tk hy ho hst' hT2 hsz hk => ?_
    refine ⟨_, rfl, wpAny_letOwnedTupleGo_enum (s := { s with heap := h', toks := tk + 1 }) ho fun h2 he2 sb => ?_⟩
    have hT3 : h2.get? s.heap.objs.size = some { cls := .type "tuple", data := .seq #[.int i tk, y] } := (sb.2 _ (Nat.ne_of_gt hel)).trans hT2
    have hy' : RelV x y := by
      have e1 : its[i]? = some y := by simpa using hy
      rw [hu] at e1
      rw [← Option.some.inj e1]
      exact ru
    have new : ObjOk X.prog X.w (upd H s.heap.objs.size (.tup [.int (i : Nat), x])) h2 s.heap.objs.size (.tup [.int (i : Nat), x]) :=
      ⟨by show 2 ≤ sizeLine; decide, [.int i tk, y], .cons ⟨_, rfl⟩ (.cons hy' .nil), ⟨_, hT3, rfl, _, rfl⟩⟩
    have I1 : Inv X pins σ (upd H s.heap.objs.size (.tup [.int (i : Nat), x])) { s with heap := h2, toks := tk + 1 } :=
      I.turnedNew (ch := [e, it]) (fun b ob hb q => (sb.2 b (fun z => hb (by simp [z]))).trans (hk b ob (fun z => hb (by simp [z])) (fun z => hb (by simp [z])) q)) hf (Nat.le_refl _) new
    have e1 : ((i + 1 : Nat) : Int) = (i : Int) + 1 := by omega
    refine ⟨.ref s.heap.objs.size, _, I1, rfl, ⟨_, x, rfl, I.hok.fresh (Nat.le_refl _), rfl, fun ys hy => by rw [I.tuple_inj hy hq]; exact hx⟩, ⟨⟨y, by rw [e1]; exact he2⟩, hst'.1.at fun o q => (sb.2 it (Ne.symm hne)).trans q, hne⟩, fun b hb => ?_⟩
    have hb' : b < s.heap.objs.size := by
      rcases List.mem_cons.mp hb with z | z
      · rw [z]
        exact hel
      · rw [List.mem_singleton.mp z]
        exact hil
    rw [upd_ne (Nat.ne_of_lt hb')]
    exact (hf b hb).1
  done := by
    intro X hP hw hK hc i pins s σ H E I hf st hg
    subst hP hw hK
    obtain ⟨⟨old, he⟩, hit, hne⟩ := st
    obtain ⟨xs, hq, hx⟩ := hg
    obtain ⟨its, rv, p, hz⟩ := I.tuple hq
    have hT : s.heap.IsTuple a its.toArray := p
    obtain ⟨f0, f1, f2, f3, f4, f5⟩ := hf it (by simp)
    have hai : a ≠ it := fun z => by
      obtain ⟨o, e1, c1, _⟩ := hit
      obtain ⟨o2, e2, c2, _⟩ := hT
      rw [z, e1] at e2
      rw [← Option.some.inj e2, c1] at c2
      exact absurd c2 (by decide)
    have hl := rv.length
    have Dr := PySem.Draws.tuple (prog := X.prog) (w := X.w) (A := X.A.in1) (I.ok.hd hc) it a hai its.toArray
    have en : i = its.toArray.size := by
      rw [List.size_toArray]
      omega
    have st2 : s.heap.IsTupleIter it a its.toArray.size ∧ s.heap.IsTuple a its.toArray := ⟨en ▸ hit, hT⟩
    exact wpAny_pyNext_enum_endD Dr he st2 fun h' eb => ⟨rfl, I.turned (t' := s.toks) (fun b o hb q => eb b o hb q) f0 f1 f3 f4 f5⟩
  self := fun A i s Q E st h => let ⟨⟨_, he⟩, _⟩ := st; wpAny_pyIter_enum he h
def iEnumT (K : PySem.W.Frag) (ta : TA) : TI := fun σ H R => ta σ H fun vs H1 => ∃ a xs, vs = [.ref a] ∧ SqT K H1 a xs ∧ R (IteT K a) H1
theorem pi_enumT {X : Cx} {e : Expr} {ta : TA} {p pos tpos : Pos} {elts : List Expr} {kk : Nat} (hg : Gl X "enumerate") (hm : X.mg "enumerate" = none) (ha : PA X [e] ta) (hs : starEach [e] X.env = [(false, eval e X.env)] := by rfl) :
    PI X (.Tuple elts kk tpos) (.Call (.Name "enumerate" p) [e] [] pos) (iEnumT X.K ta) := by
  refine ⟨fun pins s σ H R I h => ?_⟩
  refine Call_ (ld_blt I hg hm boot_enumerate (PyProof.Rows.callWith_type1 (thn (ha.run pos pins s σ H _ I h) fun us s1 ⟨vs, H1, I1, r1, q1⟩ => ?_) hs rfl))
  obtain ⟨a, xs, rfl, hq, q⟩ := q1
  obtain ⟨u, rfl, rx⟩ := vals1 r1
  cases rx
  obtain ⟨its, rv, p', hz⟩ := I1.tuple hq
  refine enum_tup (show s1.heap.IsTuple a its.toArray from p') fun h' he hit hk => wpAny_pyIter_enum he ?_
  have I2 : Inv X pins σ H1 { s1 with heap := h' } := I1.kept (t' := s1.toks) hk
  refine ⟨s1.heap.objs.size + 1, [s1.heap.objs.size + 1, s1.heap.objs.size], _, _, H1, rfl, I2, turn_enumT a (s1.heap.objs.size + 1) s1.heap.objs.size, ⟨⟨.none, he⟩, hit, Nat.succ_ne_self _⟩, fun b hb => ?_, q⟩
  have hle : s1.heap.objs.size ≤ b := by
    rcases List.mem_cons.mp hb with z | z
    · rw [z]
      exact Nat.le_add_right _ _
    · rw [List.mem_singleton.mp z]
      exact Nat.le_refl _
  exact I1.fpOk hle (I1.hok.fresh hle)
theorem walk_enumT {K : PySem.W.Frag} {a : Addr} {xs : List V} : Walk (IteT K a) xs.length (fun H => SqT K H a xs) (fun i H v H' => ∃ T x, v = .ref T ∧ H T = none ∧ H' = upd H T (.tup [.int (i : Nat), x]) ∧ xs[i]? = some x) := by
  refine ⟨fun i _ hi q => ⟨xs, xs[i], q, by simp [hi]⟩, fun _ q => ⟨xs, q, rfl⟩, fun i H v H' _ q y => ?_⟩
  obtain ⟨T, x, h1, h2, h3, h4⟩ := y
  exact ⟨T, x, h1, h2, h3, h4 xs q⟩
end L2

set_option Elab.async false
set_option linter.all false
set_option maxRecDepth 100000
set_option maxHeartbeats 4000000
/-! a classmethod called without arguments -/
namespace L2
open PySem PySem.Spec PyProof.Rows ClX
section
variable {X : Cx} {CX : CXT} {k : Nat} {C p g : Addr} {mc : Value} {sp : Sp} {E : XK} {o : Expr} {m : Str} {pos apos : Pos} {ta : TE} {pl : Sem Bool}
theorem pe_cmeth0 (he : PE X o ta) (r : CRead X.K C mc) (c : CMet X.K C mc m p g) (F : FnR X.prog X.w X.K X.mg X.base CX k g sp) (hr : Room k X.A) (hx : Passes CX X E)
    (ht : eval (.Call (.Attribute o m apos) [] [] pos) X.env = (do
      let ov ← eval o X.env
      standAt apos.atName
      let (f, first) ← holding [ov] (getMethod ov m pl)
      callWith pos f first (backTo pos (starEach [] X.env)) (backToKw pos (keywordEach [] X.env))) := by rfl) :
    PE X (.Call (.Attribute o m apos) [] [] pos) (tCMeth C sp E ta tNil) := by
  refine ⟨fun pins s σ H Q I h => ?_⟩
  refine PySem.W.methodCall_KW (pl := pl) (thn (he.run pins s σ H _ I h) fun u s1 ⟨x, H1, I1, rx, ex, q⟩ => ?_) ht
  subst ex
  obtain rfl : u = Value.ref C := rx
  refine getmethcm_ok I1 r c fun s2 I2 => ?_
  exact PySem.W.callWith_M0 ⟨pin_at I2, I2.kIn⟩ c.fi (run_cm F hr hx I2 .nil q)
end
end L2

set_option Elab.async false
set_option linter.all false
set_option maxRecDepth 100000
set_option maxHeartbeats 8000000
namespace Gk
open PySem PySem.Spec PyProof.Rows L2
def topS (i : Nat) : Stmt := PySem.Challenge.pw_groupclocks_k07_whole_systems_and_their.main.body.getD i (.Pass ⟨0, 0, 0, 0⟩)
abbrev s_tape : Stmt := topS 40
theorem sc_tape : FnScope ["script", "spot", "cell", "great", "begin"] ["script", "spot"] (defScope s_tape) := ⟨rfl, rfl, rfl, by decide +kernel, rfl, by decide +kernel, by decide +kernel⟩
abbrev s_roll : Stmt := topS 41
theorem sc_roll : FnScope ["tape", "total", "found", "one", "two"] ["tape", "total"] (defScope s_roll) := ⟨rfl, rfl, rfl, by decide +kernel, rfl, by decide +kernel, by decide +kernel⟩
abbrev s_pick : Stmt := topS 42
theorem sc_pick : FnScope ["tape", "items"] ["tape", "items"] (defScope s_pick) := ⟨rfl, rfl, rfl, by decide +kernel, rfl, by decide +kernel, by decide +kernel⟩
abbrev s_few : Stmt := topS 43
theorem sc_few : FnScope ["tape", "items", "many", "left", "found"] ["tape", "items", "many"] (defScope s_few) := ⟨rfl, rfl, rfl, by decide +kernel, rfl, by decide +kernel, by decide +kernel⟩
section
variable {P : Program} {w : World} {K : PySem.W.Frag} {mg : Str → Option Value} {base : Heap}
theorem ok_tape {f : Addr} {fd : FuncData} (B : Blt mg) (D : Df K mg "_law_tape" s_tape ["script", "spot"] f fd) : FnOk P w K mg base CX0 1 f fd ["script", "spot"] (spTape K) := by
  refine D.F.ok sc_tape (fun vs H Q E h => ?_) (fun cdv A outer s H vs Q E hr h => ?_)
  · obtain ⟨a, ns, n, rfl, _⟩ := h
    rfl
  · obtain ⟨a, ns, n, rfl, hS, h0, q⟩ := h
    refine ⟨_, (pss_cons (ps_set (i := 2) sc_tape.nd rfl (Or.inl rfl) (pe_ifExp (pt_cmpR op_lt (pv 1) (pe_callB call_len_seq (by rfl) B.len_ (by decide +kernel) (pa_cons (pv 0) pa_nil)) (nomark _)) (pe_ix ix_list (pv 0) (pv 1) (fun _ _ => rfl)) (pe_op op_add (pe_op op_mul pe_int (pv 1)) pe_int)))
    (pss_cons (ps_set (i := 3) sc_tape.nd rfl (Or.inl rfl) (pe_op op_modN (pe_callTy call_int1 (by rfl) B.int_ (by decide +kernel) (pa_cons (pe_callB call_abs (by rfl) B.abs_ (by decide +kernel) (pa_cons (pv 2) pa_nil)) pa_nil)) (pe_op op_powW (pe_op op_powW pe_int pe_int) pe_int)))
    (pss_cons (ps_set (i := 4) sc_tape.nd rfl (Or.inl rfl) (pe_op op_add (pe_op op_add (pe_op op_add (pe_op op_mul (pv 3) pe_int) (pe_op op_mul pe_int (pv 1))) (pe_op op_mul pe_int (pe_callTy call_int1 (by rfl) B.int_ (by decide +kernel) (pa_cons (pe_cmpR op_lt (pv 2) pe_int (nomark _)) pa_nil)))) pe_int))
    (pss_one (ps_ret (pe_lst (pa_cons (pe_callB (call_max2 rfl) (by rfl) B.max_ (by decide +kernel) (pa_cons pe_int (pa_cons (pe_op op_sub (pv 3) (pe_op op_powW pe_int pe_int)) pa_nil))) (pa_cons (pe_op op_modN (pe_callTy call_int1 (by rfl) B.int_ (by decide +kernel) (pa_cons (pv 4) pa_nil)) pe_int) (pa_cons pe_int pa_nil))))))))), ?_⟩
    refine ⟨_, rfl, _, rfl, a, _, rfl, .inl hS, _, _, rfl, rfl, _, rfl, ?_⟩
    obtain ⟨c, hc⟩ : ∃ c : Int, c = if n < ns.length then ns.getD n.toNat 0 else 83 * n + 17 := ⟨_, rfl⟩
    refine meetI H (.int c) (fun hlt Q q => ?_) (fun hge Q q => ?_) ?_
    · have hlt' : n < ns.length := by
        have := of_decide_eq_true hlt
        rw [List.length_map] at this
        exact this
      have hj : n.toNat < ns.length := by omega
      refine ⟨_, rfl, _, rfl, a, _, n, .int c, rfl, rfl, hS, ?_, q⟩
      refine at_of (j := n.toNat) (by omega) ?_
      rw [List.getElem?_map, List.getElem?_eq_getElem hj, hc, if_pos hlt', List.getD_eq_getElem?_getD, List.getElem?_eq_getElem hj]
      rfl
    · have hge' : ¬ n < ns.length := fun z => hge (decide_eq_true (by rw [List.length_map]; exact z))
      rw [if_neg hge'] at hc
      refine ⟨_, rfl, _, _, rfl, rfl, .inl (by constructor <;> decide), _, _, rfl, rfl, ?_⟩
      rw [hc] at q
      exact q
    · refine ⟨_, rfl, _, rfl, .inl ⟨_, rfl, _, _, rfl, rfl, c57, _, _, rfl, rfl, c570, _, _, rfl, rfl, p570, ?_⟩⟩
      generalize (if c < 0 then -c else c).fmod ((10 ^ Int.toNat 57) ^ Int.toNat 10) = gr
      refine ⟨_, rfl, _, _, rfl, rfl, cmR, _, rfl, _, _, rfl, rfl, cmL, _, _, rfl, rfl, _, rfl, _, _, rfl, rfl, .inr ⟨_, rfl, _, _, rfl, rfl, cmL, _, _, rfl, rfl, _, _, rfl, rfl, ?_⟩⟩
      refine ⟨_, rfl, _, _, rfl, rfl, c18, _, _, rfl, rfl, _, _, rfl, _, rfl, .inl ⟨_, rfl, _, _, rfl, rfl, (show (_ : Int) ≠ 0 from by decide), by show 3 ≤ sizeLine; decide, fun t ht => q t _ _ _ ht⟩⟩
theorem ok_roll {f : Addr} {fd : FuncData} (B : Blt mg) (D : Df K mg "_law_roll" s_roll ["tape", "total"] f fd) : FnOk P w K mg base CX0 1 f fd ["tape", "total"] spRoll := by
  refine D.F.ok sc_roll (fun vs H Q E h => ?_) (fun cdv A outer s H vs Q E hr h => ?_)
  · obtain ⟨t, n, rfl, _⟩ := h
    rfl
  · obtain ⟨t, n, rfl, hT, h0, hn, q⟩ := h
    obtain ⟨a, b, c, e⟩ := hT
    have hT : Tp H t := ⟨a, b, c, e⟩
    have hS : SqL K H t [.int a, .int b, .int c] := .inl (.inl e)
    have hn0 : n ≠ 0 := by omega
    refine ⟨_, (pss_cons (ps_if (pt_cmpR op_gt (pe_ix ix_list (pv 0) pe_int (fun _ _ => rfl)) pe_int (nomark _))
    (pss_cons (ps_set (i := 2) sc_roll.nd rfl (Or.inl rfl) (pe_op op_modN (pe_callTy call_int1 (by rfl) B.int_ (by decide +kernel) (pa_cons (pe_ix ix_list (pv 0) pe_int (fun _ _ => rfl)) pa_nil)) (pv 1)))
    (pss_cons (ps_asg (pe_op op_fdivN (pe_ix ix_list (pv 0) pe_int (fun _ _ => rfl)) (pv 1)) (pg_sub (pv 0) pe_int set_list))
    (pss_one (ps_ret (pv 2))))) pss_nil)
    (pss_cons (ps_asg (pe_op op_add (pe_ix ix_list (pv 0) pe_int (fun _ _ => rfl)) pe_int) (pg_sub (pv 0) pe_int set_list))
    (pss_cons (ps_set (i := 3) sc_roll.nd rfl (Or.inl rfl) (pe_op op_modN (pe_callTy call_int1 (by rfl) B.int_ (by decide +kernel) (pa_cons (pe_op op_add (pe_ix ix_list (pv 0) pe_int (fun _ _ => rfl)) (pe_op op_mul pe_int (pe_ix ix_list (pv 0) pe_int (fun _ _ => rfl)))) pa_nil)) pe_int))
    (pss_cons (ps_set (i := 4) sc_roll.nd rfl (Or.inl rfl) (pe_op op_add (pe_op op_mul (pe_op op_modN (pe_callTy call_int1 (by rfl) B.int_ (by decide +kernel) (pa_cons (pe_op op_mul (pv 3) (pv 3)) pa_nil)) pe_int) (pv 3)) (pe_op op_mul pe_int (pe_ix ix_list (pv 0) pe_int (fun _ _ => rfl)))))
    (pss_one (ps_ret (pe_op op_modN (pe_callTy call_int1 (by rfl) B.int_ (by decide +kernel) (pa_cons (pe_op op_fdivN (pe_op op_modN (pe_callTy call_int1 (by rfl) B.int_ (by decide +kernel) (pa_cons (pe_op op_add (pv 4) (pe_ix ix_list (pv 0) pe_int (fun _ _ => rfl))) pa_nil)) pe_int) pe_int) pa_nil)) (pv 1)))))))), ?_⟩
    refine ⟨_, rfl, t, _, 0, _, rfl, rfl, hS, atI_nat (j := 0) rfl, _, _, rfl, rfl, _, rfl, ite2 (fun hp => ?_) (fun hp => ?_)⟩
    · refine ⟨_, rfl, t, _, 0, _, rfl, rfl, hS, atI_nat (j := 0) rfl, .inl ⟨_, rfl, _, rfl, _, _, rfl, rfl, hn0, ?_⟩⟩
      refine ⟨_, rfl, t, _, 0, _, rfl, rfl, hS, atI_nat (j := 0) rfl, _, rfl, _, _, rfl, rfl, ⟨hn0, by omega⟩, _, rfl, t, _, 0, 0, rfl, rfl, e, rfl, ?_⟩
      exact ⟨_, rfl, q _ _ (fmod_rng h0).1 (fmod_rng h0).2 (Kt.wr hT)⟩
    · refine ⟨_, rfl, t, _, 2, _, rfl, rfl, hS, atI_nat (j := 2) rfl, _, _, rfl, rfl, _, rfl, t, _, 2, 2, rfl, rfl, e, rfl, ?_⟩
      have e1 : (upd H t (.lst [.int a, .int b, .int (c + 1)])) t = some (.lst [.int a, .int b, .int (c + 1)]) := upd_same
      have hS1 : SqL K (upd H t (.lst [.int a, .int b, .int (c + 1)])) t [.int a, .int b, .int (c + 1)] := .inl (.inl e1)
      refine ⟨_, rfl, t, _, 1, _, rfl, rfl, hS1, atI_nat (j := 1) rfl, _, rfl, t, _, 2, _, rfl, rfl, hS1, atI_nat (j := 2) rfl, _, _, rfl, rfl, cmL, _, _, rfl, rfl, .inl ⟨_, rfl, _, _, rfl, rfl, (show (_ : Int) ≠ 0 from by decide), ?_⟩⟩
      obtain ⟨u, hu, hu2⟩ : ∃ u : Int, u = (b + 900107 * (c + 1)).fmod 2305843009213693951 ∧ (-(2 ^ 64) < u ∧ u < 2 ^ 64) := ⟨_, rfl, by
        have := fmod_rng (a := b + 900107 * (c + 1)) (n := 2305843009213693951) (by decide)
        omega⟩
      dsimp only
      rw [← hu]
      refine ⟨_, rfl, _, rfl, _, _, rfl, rfl, .inl hu2, .inl ⟨_, rfl, _, _, rfl, rfl, (show (_ : Int) ≠ 0 from by decide), _, rfl, _, _, rfl, rfl, .inr hu2, _, rfl, t, _, 2, _, rfl, rfl, hS1, atI_nat (j := 2) rfl, _, _, rfl, rfl, cmL, _, _, rfl, rfl, ?_⟩⟩
      refine ⟨_, rfl, _, rfl, t, _, 1, _, rfl, rfl, hS1, atI_nat (j := 1) rfl, _, _, rfl, rfl, .inl ⟨_, rfl, _, _, rfl, rfl, (show (_ : Int) ≠ 0 from by decide), _, _, rfl, rfl, ⟨by decide, by decide⟩, .inl ⟨_, rfl, _, rfl, _, _, rfl, rfl, hn0, ?_⟩⟩⟩
      exact q _ _ (fmod_rng h0).1 (fmod_rng h0).2 (Kt.wr hT)
end
end Gk

set_option Elab.async false
set_option linter.all false
set_option maxRecDepth 100000
set_option maxHeartbeats 8000000
namespace Gk
open PySem PySem.Spec PyProof.Rows L2
section
variable {P : Program} {w : World} {K : PySem.W.Frag} {mg : Str → Option Value} {base : Heap}
theorem ok_pick {f fR : Addr} {fd fdR : FuncData} (B : Blt mg) (D_roll : Df K mg "_law_roll" s_roll ["tape", "total"] fR fdR) (D : Df K mg "_law_pick" s_pick ["tape", "items"] f fd) : FnOk P w K mg base CX0 2 f fd ["tape", "items"] (spPick K) := by
  have G_roll : FnOk P w K mg base CX0 1 fR fdR ["tape", "total"] spRoll := ok_roll B D_roll
  refine D.F.ok sc_pick (fun vs H Q E h => ?_) (fun cdv A outer s H vs Q E hr h => ?_)
  · obtain ⟨t, x, xs, rfl, _⟩ := h
    rfl
  · obtain ⟨t, x, xs, rfl, hT, hI, h0, hl, q⟩ := h
    refine ⟨_, (pss_one (ps_ret (pe_ix ix_seq (pv 1) (pe_call G_roll (hr.mono (by decide)) (by rfl) D_roll.g D_roll.F.kp D_roll.b .nil pass0 (pa_cons (pv 0) (pa_cons (pe_callB call_len (by rfl) B.len_ (by decide +kernel) (pa_cons (pv 1) pa_nil)) pa_nil))) (fun _ _ => rfl)))), ?_⟩
    refine ⟨_, rfl, _, rfl, _, rfl, x, xs.length, rfl, hI.len hl, t, _, rfl, hT, by omega, by omega, fun r H' r0 r1 k => ?_⟩
    obtain ⟨y, hy, hm⟩ := at_int (xs := xs) r0 r1
    exact (hI.kt hT k).ix hl hy (q y H' hm k)
theorem ok_few {f fR : Addr} {fd fdR : FuncData} (B : Blt mg) (D_roll : Df K mg "_law_roll" s_roll ["tape", "total"] fR fdR) (D : Df K mg "_law_few" s_few ["tape", "items", "many"] f fd) : FnOk P w K mg base CX0 2 f fd ["tape", "items", "many"] (spFew K) := by
  have G_roll : FnOk P w K mg base CX0 1 fR fdR ["tape", "total"] spRoll := ok_roll B D_roll
  refine D.F.ok sc_few (fun vs H Q E h => ?_) (fun cdv A outer s H vs Q E hr h => ?_)
  · obtain ⟨t, a, ss, many, rfl, _⟩ := h
    rfl
  · obtain ⟨t, a, ss, many, rfl, hT, hat, hS, hok, hlen, hm0, q⟩ := h
    refine ⟨_, (pss_cons (ps_par (i := 3) (j := 4) (by rfl) sc_few.nd rfl rfl (by decide) rfl rfl (pa_cons (pe_callTy call_list_of (by rfl) B.list_ (by decide +kernel) (pa_cons (pv 1) pa_nil)) (pa_cons (pe_lst pa_nil) pa_nil)) (by rfl))
    (pss_cons (ps_while PassesOwn.never (PW.pt (pw_and (pt_cmpR (op_neD hr.units) (pv 3) (pe_lst pa_nil) (nomark _)) (pw_and1 (pt_cmpR op_lt (pe_callB call_len_seq (by rfl) B.len_ (by decide +kernel) (pa_cons (pv 4) pa_nil)) (pv 2) (nomark _)))))
    (pss_one (ps_expr (pe_bm PySem.F.plainAttrs_list PySem.F.slot_list_append PySem.F.type_list_append mt_append (pv 4) (pa_cons (pe_bm PySem.F.plainAttrs_list PySem.F.slot_list_pop PySem.F.type_list_pop mt_popAt (pv 3) (pa_cons (pe_call G_roll (hr.mono (by decide)) (by rfl) D_roll.g D_roll.F.kp D_roll.b .nil pass0 (pa_cons (pv 0) (pa_cons (pe_callB call_len_seq (by rfl) B.len_ (by decide +kernel) (pa_cons (pv 3) pa_nil)) pa_nil))) pa_nil)) pa_nil)))))
    (pss_one (ps_ret (pv 4))))), ?_⟩
    refine ⟨_, rfl, a, _, rfl, .inl hS, fun l hl => ⟨Nat.zero_le _, fun e he => ⟨_, _, rfl, ?_⟩⟩⟩
    have nlt : l ≠ t := Kt.ne hT hl
    have nel : e ≠ l := fun z => by
      rw [z, upd_same] at he
      cases he
    have hen : H e = none := by
      rw [upd_ne nel] at he
      exact he
    have net : e ≠ t := Kt.ne hT hen
    refine ⟨fun m σ H3 => ∃ left found : List Str, m = left.length ∧ σ = [some (.ref t), some (.ref a), some (.int many), some (.ref l), some (.ref e)] ∧ H3 l = some (.lst (left.map V.str)) ∧ H3 e = some (.lst (found.map V.str)) ∧
      (found ++ left).Perm ss ∧ found.length ≤ many.toNat ∧ Kt t H H3, ⟨ss.length, ss, [], rfl, rfl, ?_, ?_, List.Perm.refl _, Nat.zero_le _, ?_⟩, fun m σ H3 hW => ?_⟩
    · rw [upd_ne nel.symm, upd_same]
    · rw [upd_same]
      rfl
    · exact ((Kt.new hT hl).mut hen net)
    · obtain ⟨left, found, rfl, rfl, el, ef, pm, hf, kt⟩ := hW
      have hle : left.length + found.length = ss.length := by
        have := pm.length_eq
        rw [List.length_append] at this
        omega
      have fin : ∀ H4, H4 e = some (.lst (found.map V.str)) → Kt t H H4 → found.length = min many.toNat ss.length → Q (.ref e) H4 := fun H4 e4 k4 hm => q e found left H4 pm hm hen e4 k4
      refine ⟨_, rfl, Nat.zero_le _, fun z hz => neLS (ts := []) ?_ ?_ (SqL.of (by rw [upd_ne (ne_of_none el hz)]; exact el)) (SqL.of upd_same) ⟨_, rfl, ?_⟩⟩
      · exact hok.sub fun x hx => pm.subset (List.mem_append_right _ hx)
      · rfl
      · by_cases hn : left = []
        · subst hn
          refine ⟨_, rfl, fin _ ?_ (kt.trans (Kt.new kt.tp hz)) ?_⟩
          · rw [upd_ne (ne_of_none ef hz)]
            exact ef
          · have hle' : found.length = ss.length := by simpa using hle
            omega
        · have hb : (!decide (left = [])) = true := by simp [hn]
          rw [hb]
          have kz : Kt t H3 (upd H3 z (.lst [])) := Kt.new kt.tp hz
          have ez : (upd H3 z (.lst [])) e = some (.lst (found.map V.str)) := by
            rw [upd_ne (ne_of_none ef hz)]
            exact ef
          have lz : (upd H3 z (.lst [])) l = some (.lst (left.map V.str)) := by
            rw [upd_ne (ne_of_none el hz)]
            exact el
          generalize upd H3 z (.lst []) = H4 at kz ez lz
          have k4 : Kt t H H4 := kt.trans kz
          refine ⟨_, rfl, e, _, rfl, .inl (SqL.of ez), _, rfl, _, _, rfl, rfl, _, rfl, ite2 (fun hlt => ?_) (fun hge => ?_)⟩
          · have hlt' : found.length < many.toNat := by
              have := of_decide_eq_true hlt
              rw [List.length_map] at this
              omega
            have hpos : 0 < left.length := List.length_pos_iff.mpr hn
            refine ⟨_, fun _ _ h => h, ?_⟩
            refine ⟨_, rfl, .inl ⟨rfl, _, SqL.of ez⟩, _, rfl, .inl ⟨rfl, _, SqL.of lz⟩, _, rfl, _, rfl, l, _, rfl, .inl (SqL.of lz), t, _, rfl, k4.tp, ?_, ?_, fun r H5 r0 r1 k5 => ?_⟩
            · rw [List.length_map]
              omega
            · rw [List.length_map]
              omega
            · rw [List.length_map] at r1
              have l5 := k5.strs k4.tp lz
              have e5 := k5.strs k4.tp ez
              have hk : r.toNat < left.length := by omega
              refine ⟨l, _, r, r.toNat, .str left[r.toNat], rfl, rfl, l5, by omega, by omega, seqIx r0 (by rw [List.length_map]; exact r1), by rw [List.getElem?_map, List.getElem?_eq_getElem hk]; rfl, ?_⟩
              refine ⟨e, _, _, rfl, rfl, by rw [upd_ne nel]; exact e5, ?_, ?_⟩
              · rw [List.length_map]
                exact small1000 (by omega)
              · have hx : left[r.toNat]? = some left[r.toNat] := List.getElem?_eq_getElem hk
                refine ⟨left.length - 1, by omega, left.eraseIdx r.toNat, found ++ [left[r.toNat]], ?_, rfl, ?_, ?_, perm_pick pm hx, ?_, ?_⟩
                · have := erase_len hk
                  omega
                · rw [upd_ne nel.symm, upd_same, map_erase]
                · rw [upd_same, List.map_append]
                  rfl
                · rw [List.length_append]
                  show found.length + 1 ≤ many.toNat
                  omega
                · exact (((k4.trans k5).mut hl nlt).mut hen net)
          · have hge' : ¬ found.length < many.toNat := fun z => hge (decide_eq_true (by rw [List.length_map]; omega))
            refine ⟨_, rfl, fin _ ez k4 (by omega)⟩
end
end Gk

set_option Elab.async false
set_option linter.all false
set_option maxRecDepth 100000
set_option maxHeartbeats 8000000
namespace Gk
open PySem PySem.Spec PyProof.Rows L2
abbrev s_is_name : Stmt := topS 14
theorem sc_is_name : FnScope ["value", "letter"] ["value"] (defScope s_is_name) := ⟨rfl, rfl, rfl, by decide +kernel, rfl, by decide +kernel, by decide +kernel⟩
abbrev s_is_names : Stmt := topS 15
theorem sc_is_names : FnScope ["value", "name"] ["value"] (defScope s_is_names) := ⟨rfl, rfl, rfl, by decide +kernel, rfl, by decide +kernel, by decide +kernel⟩
section
variable {P : Program} {w : World} {K : PySem.W.Frag} {mg : Str → Option Value} {base : Heap}
theorem ok_is_name {f : Addr} {fd : FuncData} {tl : Tok} (B : Blt mg) (C_MAX_LETTERS : mg "MAX_LETTERS" = some (.int 8 tl)) (D : Df K mg "is_name" s_is_name ["value"] f fd) : FnOk P w K mg base CX0 1 f fd ["value"] (spIsName K) := by
  refine D.F.ok sc_is_name (fun vs H Q E h => ?_) (fun cdv A outer s H vs Q E hr h => ?_)
  · obtain ⟨x, b, rfl, _⟩ := h
    rfl
  · obtain ⟨x, b, rfl, hN, q⟩ := h
    refine ⟨_, (pss_cons (ps_if (PW.pt (pw_or (pt_not (pt_val (pe_callB call_isi (by rfl) B.isinstance_ (by decide +kernel) (pa_cons (pv 0) (pa_cons (pe_bltn (v := .ty "str") rfl B.str_ (by decide +kernel) rfl) pa_nil))) (by intro _; rfl))) (pw_or1 (pt_not (pt_chain op_le op_le pe_int (pe_callB call_len_str (by rfl) B.len_ (by decide +kernel) (pa_cons (pv 0) pa_nil)) (pe_glob (v := .int 8) rfl C_MAX_LETTERS ⟨_, rfl⟩))))))
    (pss_one (ps_ret pe_bl)) pss_nil)
    (pss_one (ps_ret (pe_callB (cr_all rfl) (by rfl) B.all_ (by decide +kernel) (pa_cons (pe_lc (own := [("letter", 1)]) (g := gName 1) (tt := tYes) (by rfl) sc_is_name.nd (pi_str (pv 0)) (blkOk_by (N := ["value", "letter"]) (sc := defScope s_is_name) (by decide +kernel)) (fun _ _ _ _ _ => (pg_name (i := 1) sc_is_name.nd rfl (Or.inl rfl))) (fun _ _ _ _ _ => pts_nil) (fun _ _ _ _ _ => (pe_chain op_le_str op_le_str pe_str (pv 1) pe_str))) pa_nil))))), ?_⟩
    rcases hN with ⟨z, rfl, hz, rfl⟩ | ⟨rfl, t, ht, hk⟩
    · refine ⟨_, rfl, .str z, .ty "str", _, _, true, rfl, .ty "str", .base (.str z), kit_ty (by decide +kernel), _, rfl, ?_⟩
      refine ⟨_, rfl, z, rfl, Nat.le_trans hz (by decide), _, _, rfl, rfl, _, rfl, ?_⟩
      have no : ¬ (1 ≤ z.length ∧ z.length ≤ 8) → isW z = false := fun n => by
        cases e : isW z with
        | false => rfl
        | true => exact absurd (isW_len e) n
      refine ite2 (fun h1 => ⟨_, _, rfl, rfl, _, rfl, ite2 (fun h2 => ?_) (fun h2 => ?_)⟩) (fun h1 => ⟨_, rfl, ?_⟩)
      · have h2' : ¬ z.length ≤ 8 := fun n => by
          have e : (!decide ((z.length : Int) ≤ 8)) = true := h2
          rw [decide_eq_true (by omega)] at e
          cases e
        have w := q H (Same.refl H)
        rw [no fun n => h2' n.2] at w
        exact w
      · have l1 : 1 ≤ z.length := by
          have := of_decide_eq_true h1
          omega
        have l2 : z.length ≤ 8 := by
          by_cases n : (z.length : Int) ≤ 8
          · omega
          · exact absurd (by
              show (!decide ((z.length : Int) ≤ 8)) = true
              rw [decide_eq_false n]
              rfl) h2
        refine ⟨_, rfl, z, rfl, fun D hD => ?_⟩
        refine lc_it (J := Its z) walk_str (fun j H5 => Same H H5 ∧ H5 D = some (.lst ((((TL.tl z).take j).map fun c => decide (97 ≤ c) && decide (c ≤ 122)).map V.bl))) ⟨gSame_new hD, upd_same⟩ (fun _ _ _ _ => trivial) (fun j y H5 H5' hj hP hy => ?_) (fun H5 hP => ?_)
        · obtain ⟨s5, d5⟩ := hP
          obtain ⟨rfl, c, hc, rfl⟩ := hy
          have hcl : (TL.tl z)[j]? = some c := by
            show z.cps.toList[j]? = some c
            rw [Array.getElem?_toList]
            exact hc
          have fin : ∀ b : Bool, b = (decide (97 ≤ c) && decide (c ≤ 122)) → ∃ acc, H5' D = some (.lst acc) ∧ acc.length < sizeLine ∧ Same H (upd H5' D (.lst (acc ++ [.bl b]))) ∧ (upd H5' D (.lst (acc ++ [.bl b]))) D = some (.lst ((((TL.tl z).take (j + 1)).map fun c => decide (97 ≤ c) && decide (c ≤ 122)).map V.bl)) := by
            intro b hb
            refine ⟨_, d5, ?_, gSame_mut s5 hD, ?_⟩
            · have := TL.len_tl z
              rw [List.length_map, List.length_map, List.length_take]
              exact small1000 (by omega)
            · rw [upd_same, List.take_add_one, hcl, List.map_append, List.map_append, hb]
              rfl
          refine ⟨rfl, _, rfl, _, _, rfl, rfl, _, rfl, ite2 (fun g1 => ⟨_, _, rfl, rfl, fin _ ?_⟩) (fun g1 => fin _ ?_)⟩
          · have g1' : ¬ c < 97 := by
              have e : (!decide (([c] : List Nat) < [97])) = true := g1
              rw [lt_abc] at e
              simpa using e
            show (!decide (([122] : List Nat) < [c])) = _
            rw [lt_abc]
            by_cases u : 122 < c
            · simp [u, show ¬ c ≤ 122 by omega]
            · simp [u, show c ≤ 122 by omega, show 97 ≤ c by omega]
          · have g1' : c < 97 := by
              by_cases u : c < 97
              · exact u
              · refine absurd ?_ g1
                show (!decide (([c] : List Nat) < [97])) = true
                rw [lt_abc, decide_eq_false u]
                rfl
            simp [show ¬ 97 ≤ c by omega]
        · obtain ⟨s5, d5⟩ := hP
          have e : (TL.tl z).take z.cps.size = TL.tl z := List.take_of_length_le (by
            show z.cps.toList.length ≤ z.cps.size
            rw [Array.length_toList]
            exact Nat.le_refl _)
          rw [e] at d5
          refine ⟨D, _, rfl, SqL.of d5, ?_⟩
          have w := q H5 s5
          have e2 : isW z = ((TL.tl z).map fun c => decide (97 ≤ c) && decide (c ≤ 122)).all id := by
            unfold isW
            rw [decide_eq_true l1, decide_eq_true l2, List.all_map]
            rfl
          rw [e2] at w
          exact w
      · have h1' : ¬ 1 ≤ z.length := fun n => h1 (decide_eq_true (by omega))
        have w := q H (Same.refl H)
        rw [no fun n => h1' n.1] at w
        exact w
    · refine ⟨_, rfl, x, .ty "str", t, _, false, rfl, .ty "str", ht, hk, _, rfl, ?_⟩
      exact q H (Same.refl H)
theorem ok_is_names {f fN : Addr} {fd fdN : FuncData} {tl : Tok} (B : Blt mg) (C_MAX_NAMES : mg "MAX_NAMES" = some (.int 16 tl)) (D_is_name : Df K mg "is_name" s_is_name ["value"] fN fdN) (G_is_name : FnOk P w K mg base CX0 1 fN fdN ["value"] (spIsName K))
    (D : Df K mg "is_names" s_is_names ["value"] f fd) : FnOk P w K mg base CX0 2 f fd ["value"] (spIsNames K) := by
  refine D.F.ok sc_is_names (fun vs H Q E h => ?_) (fun cdv A outer s H vs Q E hr h => ?_)
  · obtain ⟨x, b, rfl, _⟩ := h
    rfl
  · obtain ⟨x, b, rfl, hN, q⟩ := h
    refine ⟨_, (pss_cons (ps_if (PW.pt (pw_or (pt_not (pt_val (pe_callB call_isi (by rfl) B.isinstance_ (by decide +kernel) (pa_cons (pv 0) (pa_cons (pe_bltn (v := .ty "tuple") rfl B.tuple_ (by decide +kernel) rfl) pa_nil))) (by intro _; rfl))) (pw_or1 (pt_cmpR op_gt (pe_callB call_len_seq (by rfl) B.len_ (by decide +kernel) (pa_cons (pv 0) pa_nil)) (pe_glob (v := .int 16) rfl C_MAX_NAMES ⟨_, rfl⟩) (nomark _)))))
    (pss_one (ps_ret pe_bl)) pss_nil)
    (pss_one (ps_ret (pe_and (pe_callB (cr_all rfl) (by rfl) B.all_ (by decide +kernel) (pa_cons (pe_lc (own := [("name", 1)]) (g := gName 1) (tt := tYes) (by rfl) sc_is_names.nd (pi_tup (pv 0)) (blkOk_by (N := ["value", "name"]) (sc := defScope s_is_names) (by decide +kernel)) (fun _ _ _ _ _ => (pg_name (i := 1) sc_is_names.nd rfl (Or.inl rfl))) (fun _ _ _ _ _ => pts_nil) (fun _ _ _ _ _ => (pe_call G_is_name (hr.mono (by decide)) (by rfl) D_is_name.g D_is_name.F.kp D_is_name.b .nil pass0 (pa_cons (pv 1) pa_nil)))) pa_nil)) (pe_one (pe_cmpR op_eq (pe_lenSetA (by rfl) (by rfl) B.len_ (by rfl) B.set_ (pv 0)) (pe_callB call_len_seq (by rfl) B.len_ (by decide +kernel) (pa_cons (pv 0) pa_nil)) (nomark _))))))), ?_⟩
    rcases hN with ⟨a, xs, bs, rfl, hS, hT, hP, rfl⟩ | ⟨rfl, t, ht, hk⟩
    · refine ⟨_, rfl, .ref a, .ty "tuple", _, _, true, rfl, .ty "tuple", hT, kit_ty (by decide +kernel), _, rfl, ?_⟩
      refine ⟨_, rfl, a, xs, rfl, .inr hS, _, _, rfl, rfl, _, rfl, ite2 (fun h1 => ?_) (fun h1 => ?_)⟩
      · have h1' : ¬ xs.length ≤ 16 := by
          have := of_decide_eq_true h1
          omega
        have w := q H (Same.refl H)
        rw [decide_eq_false h1'] at w
        exact w
      · have l1 : xs.length ≤ 16 := by
          by_cases n : (16 : Int) < xs.length
          · exact absurd (decide_eq_true n) h1
          · omega
        rw [decide_eq_true l1, Bool.true_and] at q
        refine ⟨_, rfl, a, rfl, ⟨xs, hS⟩, fun D hD => ?_⟩
        refine lc_tup (K := K) (a := a) (xs := xs) (fun j H5 => Same H H5 ∧ H5 D = some (.lst ((bs.take j).map V.bl))) ⟨gSame_new hD, upd_same⟩ (fun j H5 _ h5 => gSeqT h5.1 hS) (fun j x H5 hx h5 => ?_) (fun H5 h5 => ?_)
        · obtain ⟨s5, d5⟩ := h5
          obtain ⟨b, hb, hn⟩ := paired_get hP hx
          refine ⟨rfl, _, rfl, x, b, rfl, hn.same s5, fun H6 s6 => ⟨_, s6 _ _ d5, ?_, gSame_mut (s5.trans s6) hD, ?_⟩⟩
          · rw [List.length_map, List.length_take]
            have := hP.length
            exact small1000 (by omega)
          · rw [upd_same, List.take_add_one, hb, List.map_append]
            rfl
        · obtain ⟨s5, d5⟩ := h5
          have e : bs.take xs.length = bs := List.take_of_length_le (Nat.le_of_eq hP.length.symm)
          rw [e] at d5
          refine ⟨D, bs, rfl, SqL.of d5, _, rfl, ?_⟩
          cases hall : bs.all id with
          | false =>
            rw [hall] at q
            exact q H5 s5
          | true =>
            obtain ⟨ss, rfl, hw⟩ := nms_strs hP hall
            rw [hall] at q
            refine ⟨_, rfl, a, ss, rfl, .inr (gSeqT s5 hS), ?_, _, rfl, a, _, rfl, .inr (gSeqT s5 hS), rfl, ?_⟩
            · rw [List.length_map] at l1
              omega
            · have w := q H5 s5
              rw [decide_eq_decide.mpr (nd_strs ss), ← Gs.dst_all ss] at w
              have e2 : decide (V.int (Gs.dst ss ss.length) = V.int ((ss.map V.str).length : Int)) = decide (Gs.dst ss ss.length = ss.length) := by
                rw [List.length_map]
                refine decide_eq_decide.mpr ⟨fun z => ?_, fun z => by rw [z]⟩
                have := V.int.inj z
                omega
              rw [e2]
              exact w
    · refine ⟨_, rfl, x, .ty "tuple", t, _, false, rfl, .ty "tuple", ht, hk, _, rfl, ?_⟩
      exact q H (Same.refl H)
end
end Gk

set_option Elab.async false
set_option linter.all false
set_option maxRecDepth 100000
set_option maxHeartbeats 8000000
namespace Gk
open PySem PySem.Spec PyProof.Rows L2
abbrev s_ParseError___init : Stmt := inClass (topS 9) 0
theorem sc_ParseError___init : FnScope ["self", "line"] ["self", "line"] (defScope s_ParseError___init) := ⟨rfl, rfl, rfl, by decide +kernel, rfl, by decide +kernel, by decide +kernel⟩
def spWrite (K : PySem.W.Frag) (C : Addr) : Sp := fun vs H Q E => ∃ x : V, vs = [x] ∧
  ((∃ (a : Addr) (ss : List Str), x = .ref a ∧ SqT K H a (ss.map V.str) ∧ TyX K H x (.type "tuple") ∧ okNames ss = true ∧ ∀ H', Same H H' → Q (.str (wr ss)) H') ∨ (NmsV K H x false ∧ ∀ H', Same H H' → E (.ref C) none H'))
def spRead (K : PySem.W.Frag) (C : Addr) : Sp := fun vs H Q E => ∃ (x : V), vs = [x] ∧
  ((∃ z : Str, x = .str z ∧ z.length ≤ 90000 ∧ (okNames (rd z) = true → ∀ p H', H p = none → Same H H' → H' p = some (.tup ((rd z).map V.str)) → Q (.ref p) H') ∧ (okNames (rd z) = false → ∀ d H', H d = none → Same H H' → H' d = some (.xd [("line", .non)]) → E (.ref C) (some d) H')) ∨
    (∃ t, TyX K H x t ∧ PySem.W.kitOne K t (.type "str") = some false ∧ ∀ d H', H d = none → Same H H' → H' d = some (.xd [("line", .non)]) → E (.ref C) (some d) H'))
section
variable {P : Program} {w : World} {K : PySem.W.Frag} {mg : Str → Option Value} {base : Heap}
theorem ok_ParseError {C CB f : Addr} {fd : FuncData} (T : IniT K mg "ParseError" "line" s_ParseError___init C f fd) (TB : CIn K mg "ClockError" CB) : FnOk P w K mg base CX0 1 f fd ["self", "line"] (spIni C "line") := by
  refine T.F.ok sc_ParseError___init (fun vs H Q E h => ?_) (fun cdv A outer s H vs Q E hr h => ?_)
  · obtain ⟨a, v, rfl, _⟩ := h
    rfl
  · obtain ⟨a, v, rfl, ha, hv, q⟩ := h
    refine ⟨_, pss_cons (ps_expr (pe_cinit TB (by rfl) (pa_cons (pv 0) (pa_cons (pe_joined (.cons pe_str (.cons (pe_fmtA (pv 1)) .nil))) pa_nil)))) (pss_one (ps_ost (pv 0) (pv 1))), ?_⟩
    have e1 : ((Str.ofString "cannot be read: ") : Str).length = 16 := by decide +kernel
    have e0 : (Str.empty ++ Str.ofString "cannot be read: ") = Str.ofString "cannot be read: " := by decide +kernel
    have rest : ∀ y : Str, y.length ≤ 1000 → ((Str.empty ++ Str.ofString "cannot be read: ") ++ y).length ≤ sizeLine := fun y hy => by
      rw [e0, Str.length_append, e1, sizeLine_eq]
      omega
    have fin : tOst K "line" (tVar 0) (tVar 1) { nx := fun _ H' => Q .non H', rt := Q } (L2.start ["self", "line"] [.ref a, v]) H := ⟨_, rfl, _, rfl, a, C, rfl, T.o, T.no, .inl ⟨ha, fun dx hd ne => q dx hd ne⟩⟩
    have one : ∀ u : Str, tVeI K (fun _ H Q => Q [.ref a, .str u] H) (L2.start ["self", "line"] [.ref a, v]) H fun _ H1 => tOst K "line" (tVar 0) (tVar 1) { nx := fun _ H' => Q .non H', rt := Q } (L2.start ["self", "line"] [.ref a, v]) H1 := fun u =>
      ⟨a, C, _, rfl, by show 1 ≤ 1000; decide, T.o, ha, fin⟩
    rcases hv with rfl | ⟨i, rfl, i0, i1⟩
    · exact ⟨_, rfl, _, rfl, by decide +kernel, _, rfl, .inl ⟨rfl, _, rfl, rest _ (by decide +kernel), one _⟩⟩
    · have hl : (Str.ofString (toString i)).length ≤ 9 := PyProof.Rows.toString_length_le (k := 9) i0 (by decide) i1
      refine ⟨_, rfl, _, rfl, by decide +kernel, _, rfl, .inr (.inr ⟨i, rfl, ?_, _, rfl, rest _ ?_, one _⟩)⟩
      · have := PySem.Flt.log2_lt_of (n := i.natAbs) (by decide : 0 < 30) (by
          have e : (10 : Int) ^ 9 = 1000000000 := by decide
          have e2 : (2 : Nat) ^ 30 = 1073741824 := by decide
          omega)
        omega
      · exact Nat.le_trans hl (by decide : 9 ≤ 1000)
theorem rd_len (z : Str) : (rd z).length ≤ z.length + 2 := by
  unfold rd
  split
  · exact Nat.zero_le _
  · exact PyProof.Rows.split_le z " "
theorem rd_part (z s : Str) (h : s ∈ rd z) : s.length ≤ z.length := by
  unfold rd at h
  split at h
  · cases h
  · have hm : TL.tl s ∈ (Txt.split z " ").map TL.tl := List.mem_map.mpr ⟨s, h, rfl⟩
    rw [TL.split_spl z " " (by decide +kernel) (TL.kind_ok (by decide +kernel))] at hm
    have := spl_part_len _ _ _ _ _ hm
    rw [TL.len_tl, TL.len_tl]
    simpa using this
end
end Gk

set_option Elab.async false
set_option linter.all false
set_option maxRecDepth 100000
set_option maxHeartbeats 8000000
namespace Gk
open PySem PySem.Spec PyProof.Rows L2
abbrev s_are_all_names : Stmt := topS 26
theorem sc_are_all_names : FnScope ["words", "word"] ["words"] (defScope s_are_all_names) := ⟨rfl, rfl, rfl, by decide +kernel, rfl, by decide +kernel, by decide +kernel⟩
abbrev s_are_moves : Stmt := topS 25
theorem sc_are_moves : FnScope ["value", "move"] ["value"] (defScope s_are_moves) := ⟨rfl, rfl, rfl, by decide +kernel, rfl, by decide +kernel, by decide +kernel⟩
abbrev s_write_moves : Stmt := topS 34
theorem sc_write_moves : FnScope ["moves", "move"] ["moves"] (defScope s_write_moves) := ⟨rfl, rfl, rfl, by decide +kernel, rfl, by decide +kernel, by decide +kernel⟩
def spAllN (K : PySem.W.Frag) : Sp := fun vs H Q _ => ∃ (a : Addr) (xs : List V) (bs : List Bool), vs = [.ref a] ∧ SqT K H a xs ∧ xs.length ≤ 900 ∧ Paired (NmV K H) xs bs ∧ ∀ H', Same H H' → Q (.bl (bs.all id)) H'
/-- a move, or none, as b says -/
def MvV (K : PySem.W.Frag) (H : Hp) (x : V) (b : Bool) : Prop :=
  (∃ (a : Addr) (xs : List V) (bs : List Bool), x = .ref a ∧ SqT K H a xs ∧ TyX K H x (.type "tuple") ∧ Paired (NmV K H) xs bs ∧ b = (decide (xs.length = 3) && bs.all id)) ∨
    (b = false ∧ ∃ t, TyX K H x t ∧ PySem.W.kitOne K t (.type "tuple") = some false)
/-- moves, or none, as b says -/
def MvsV (K : PySem.W.Frag) (H : Hp) (x : V) (b : Bool) : Prop :=
  (∃ (a : Addr) (xs : List V) (bs : List Bool), x = .ref a ∧ SqT K H a xs ∧ TyX K H x (.type "tuple") ∧ Paired (MvV K H) xs bs ∧ b = (decide (1 ≤ xs.length ∧ xs.length ≤ 4) && bs.all id)) ∨
    (b = false ∧ ∃ t, TyX K H x t ∧ PySem.W.kitOne K t (.type "tuple") = some false)
theorem paired_same {K : PySem.W.Frag} {H H' : Hp} {R : Hp → V → Bool → Prop} (hR : ∀ x b, R H x b → R H' x b) : ∀ {xs : List V} {bs : List Bool}, Paired (R H) xs bs → Paired (R H') xs bs
  | _, _, .nil => .nil
  | _, _, .cons h t => .cons (hR _ _ h) (paired_same (K := K) (H := H) (R := R) hR t)
theorem MvV.same {K : PySem.W.Frag} {H H' : Hp} {x : V} {b : Bool} (s : Same H H') (h : MvV K H x b) : MvV K H' x b := by
  rcases h with ⟨a, xs, bs, rfl, h1, h2, h3, h4⟩ | ⟨e, t, ht, hk⟩
  · exact .inl ⟨a, xs, bs, rfl, gSeqT s h1, h2.same s, paired_same (K := K) (H := H) (R := NmV K) (fun x b h => h.same s) h3, h4⟩
  · exact .inr ⟨e, t, ht.same s, hk⟩
theorem MvsV.same {K : PySem.W.Frag} {H H' : Hp} {x : V} {b : Bool} (s : Same H H') (h : MvsV K H x b) : MvsV K H' x b := by
  rcases h with ⟨a, xs, bs, rfl, h1, h2, h3, h4⟩ | ⟨e, t, ht, hk⟩
  · exact .inl ⟨a, xs, bs, rfl, gSeqT s h1, h2.same s, paired_same (K := K) (H := H) (R := MvV K) (fun x b h => h.same s) h3, h4⟩
  · exact .inr ⟨e, t, ht.same s, hk⟩
def spMvs (K : PySem.W.Frag) : Sp := fun vs H Q _ => ∃ (x : V) (b : Bool), vs = [x] ∧ MvsV K H x b ∧ ∀ H', Same H H' → Q (.bl b) H'
section
variable {P : Program} {w : World} {K : PySem.W.Frag} {mg : Str → Option Value} {base : Heap}
theorem ok_are_all_names {f fN : Addr} {fd fdN : FuncData} (B : Blt mg) (D_is_name : Df K mg "is_name" s_is_name ["value"] fN fdN) (G_is_name : FnOk P w K mg base CX0 1 fN fdN ["value"] (spIsName K))
    (D : Df K mg "_are_all_names" s_are_all_names ["words"] f fd) : FnOk P w K mg base CX0 2 f fd ["words"] (spAllN K) := by
  refine D.F.ok sc_are_all_names (fun vs H Q E h => ?_) (fun cdv A outer s H vs Q E hr h => ?_)
  · obtain ⟨a, xs, bs, rfl, _⟩ := h
    rfl
  · obtain ⟨a, xs, bs, rfl, hS, hl, hP, q⟩ := h
    refine ⟨_, (pss_one (ps_ret (pe_callB (cr_all rfl) (by rfl) B.all_ (by decide +kernel) (pa_cons (pe_lc (own := [("word", 1)]) (g := gName 1) (tt := tYes) (by rfl) sc_are_all_names.nd (pi_tup (pv 0)) (blkOk_by (N := ["words", "word"]) (sc := defScope s_are_all_names) (by decide +kernel)) (fun _ _ _ _ _ => (pg_name (i := 1) sc_are_all_names.nd rfl (Or.inl rfl))) (fun _ _ _ _ _ => pts_nil) (fun _ _ _ _ _ => (pe_call G_is_name (hr.mono (by decide)) (by rfl) D_is_name.g D_is_name.F.kp D_is_name.b .nil pass0 (pa_cons (pv 1) pa_nil)))) pa_nil)))), ?_⟩
    refine ⟨_, rfl, a, rfl, ⟨xs, hS⟩, fun D hD => ?_⟩
    refine lc_tup (K := K) (a := a) (xs := xs) (fun j H5 => Same H H5 ∧ H5 D = some (.lst ((bs.take j).map V.bl))) ⟨gSame_new hD, upd_same⟩ (fun j H5 _ h5 => gSeqT h5.1 hS) (fun j x H5 hx h5 => ?_) (fun H5 h5 => ?_)
    · obtain ⟨s5, d5⟩ := h5
      obtain ⟨b, hb, hn⟩ := paired_get hP hx
      refine ⟨rfl, _, rfl, x, b, rfl, hn.same s5, fun H6 s6 => ⟨_, s6 _ _ d5, ?_, gSame_mut (s5.trans s6) hD, ?_⟩⟩
      · rw [List.length_map, List.length_take]
        have := hP.length
        exact small1000 (by omega)
      · rw [upd_same, List.take_add_one, hb, List.map_append]
        rfl
    · obtain ⟨s5, d5⟩ := h5
      have e : bs.take xs.length = bs := List.take_of_length_le (Nat.le_of_eq hP.length.symm)
      rw [e] at d5
      exact ⟨D, bs, rfl, SqL.of d5, q H5 s5⟩
theorem ok_are_moves {f fN : Addr} {fd fdN : FuncData} {tl : Tok} (B : Blt mg) (C_MAX_MOVES : mg "MAX_MOVES" = some (.int 4 tl)) (D_are_all_names : Df K mg "_are_all_names" s_are_all_names ["words"] fN fdN) (G_are_all_names : FnOk P w K mg base CX0 2 fN fdN ["words"] (spAllN K))
    (D : Df K mg "_are_moves" s_are_moves ["value"] f fd) : FnOk P w K mg base CX0 3 f fd ["value"] (spMvs K) := by
  refine D.F.ok sc_are_moves (fun vs H Q E h => ?_) (fun cdv A outer s H vs Q E hr h => ?_)
  · obtain ⟨x, b, rfl, _⟩ := h
    rfl
  · obtain ⟨x, b, rfl, hN, q⟩ := h
    refine ⟨_, (pss_cons (ps_if (PW.pt (pw_or (pt_not (pt_val (pe_callB call_isi (by rfl) B.isinstance_ (by decide +kernel) (pa_cons (pv 0) (pa_cons (pe_bltn (v := .ty "tuple") rfl B.tuple_ (by decide +kernel) rfl) pa_nil))) (by intro _; rfl))) (pw_or1 (pt_not (pt_chain op_le op_le pe_int (pe_callB call_len_seq (by rfl) B.len_ (by decide +kernel) (pa_cons (pv 0) pa_nil)) (pe_glob (v := .int 4) rfl C_MAX_MOVES ⟨_, rfl⟩))))))
    (pss_one (ps_ret pe_bl)) pss_nil)
    (pss_one (ps_ret (pe_callB (cr_all rfl) (by rfl) B.all_ (by decide +kernel) (pa_cons (pe_lc (own := [("move", 1)]) (g := gName 1) (tt := tYes) (by rfl) sc_are_moves.nd (pi_tup (pv 0)) (blkOk_by (N := ["value", "move"]) (sc := defScope s_are_moves) (by decide +kernel)) (fun _ _ _ _ _ => (pg_name (i := 1) sc_are_moves.nd rfl (Or.inl rfl))) (fun _ _ _ _ _ => pts_nil) (fun _ _ _ _ _ => (pe_and (pe_callB (call_isiK' K rfl) (by rfl) B.isinstance_ (by decide +kernel) (pa_cons (pv 1) (pa_cons (pe_bltn (v := .ty "tuple") rfl B.tuple_ (by decide +kernel) rfl) pa_nil))) (pe_and (pe_cmpR op_eq (pe_callB (call_len_seqK K rfl) (by rfl) B.len_ (by decide +kernel) (pa_cons (pv 1) pa_nil)) pe_int (nomark _)) (pe_one (pe_call G_are_all_names (hr.mono (by decide)) (by rfl) D_are_all_names.g D_are_all_names.F.kp D_are_all_names.b .nil pass0 (pa_cons (pv 1) pa_nil))))))) pa_nil))))), ?_⟩
    rcases hN with ⟨a, xs, bs, rfl, hS, hT, hP, rfl⟩ | ⟨rfl, t, ht, hk⟩
    · refine ⟨_, rfl, .ref a, .ty "tuple", _, _, true, rfl, .ty "tuple", hT, kit_ty (by decide +kernel), _, rfl, ?_⟩
      refine ⟨_, rfl, a, xs, rfl, .inr hS, _, _, rfl, rfl, _, rfl, ?_⟩
      have no : ¬ (1 ≤ xs.length ∧ xs.length ≤ 4) → Q (.bl false) H := fun n => by
        have w := q H (Same.refl H)
        rw [decide_eq_false n, Bool.false_and] at w
        exact w
      refine ite2 (fun h1 => ⟨_, _, rfl, rfl, _, rfl, ite2 (fun h2 => ?_) (fun h2 => ?_)⟩) (fun h1 => ⟨_, rfl, ?_⟩)
      · exact no fun n => by
          have e : (!decide ((xs.length : Int) ≤ 4)) = true := h2
          rw [decide_eq_true (by omega)] at e
          cases e
      · have l1 : 1 ≤ xs.length := by
          have := of_decide_eq_true h1
          omega
        have l2 : xs.length ≤ 4 := by
          by_cases n : (xs.length : Int) ≤ 4
          · omega
          · exact absurd (by
              show (!decide ((xs.length : Int) ≤ 4)) = true
              rw [decide_eq_false n]
              rfl) h2
        rw [decide_eq_true (⟨l1, l2⟩ : 1 ≤ xs.length ∧ xs.length ≤ 4), Bool.true_and] at q
        refine ⟨_, rfl, a, rfl, ⟨xs, hS⟩, fun D hD => ?_⟩
        refine lc_tup (K := K) (a := a) (xs := xs) (fun j H5 => Same H H5 ∧ H5 D = some (.lst ((bs.take j).map V.bl))) ⟨gSame_new hD, upd_same⟩ (fun j H5 _ h5 => gSeqT h5.1 hS) (fun j x H5 hx h5 => ?_) (fun H5 h5 => ?_)
        · obtain ⟨s5, d5⟩ := h5
          obtain ⟨b, hb, hn⟩ := paired_get hP hx
          have fin : ∀ (b2 : Bool) (H6 : Hp), Same H5 H6 → b2 = b → ∃ acc, H6 D = some (.lst acc) ∧ acc.length < sizeLine ∧ Same H (upd H6 D (.lst (acc ++ [.bl b2]))) ∧ (upd H6 D (.lst (acc ++ [.bl b2]))) D = some (.lst ((bs.take (j + 1)).map V.bl)) := by
            rintro b2 H6 s6 rfl
            refine ⟨_, s6 _ _ d5, ?_, gSame_mut (s5.trans s6) hD, ?_⟩
            · rw [List.length_map, List.length_take]
              have := hP.length
              exact small1000 (by omega)
            · rw [upd_same, List.take_add_one, hb, List.map_append]
              rfl
          rcases hn.same s5 with ⟨ma, ms, mb, rfl, mS, mT, mP, me⟩ | ⟨rfl, t, ht, hk⟩
          · refine ⟨rfl, _, rfl, .ref ma, .ty "tuple", _, _, true, rfl, .ty "tuple", mT, kit_ty (by decide +kernel), _, rfl, ?_⟩
            refine ⟨_, rfl, ma, ms, rfl, .inr mS, rfl, _, rfl, ite2 (fun h3 => ?_) (fun h3 => ?_)⟩
            · have h3' : ms.length = 3 := by
                have := V.int.inj (of_decide_eq_true h3)
                omega
              rw [decide_eq_true h3', Bool.true_and] at me
              exact ⟨_, rfl, ma, ms, mb, rfl, mS, by omega, mP, fun H6 s6 => fin _ H6 s6 me.symm⟩
            · have h3' : ¬ ms.length = 3 := fun z => h3 (decide_eq_true (by rw [z]; rfl))
              rw [decide_eq_false h3', Bool.false_and] at me
              exact fin _ H5 (Same.refl H5) me.symm
          · exact ⟨rfl, _, rfl, x, .ty "tuple", t, _, false, rfl, .ty "tuple", ht, hk, _, rfl, fin _ H5 (Same.refl H5) rfl⟩
        · obtain ⟨s5, d5⟩ := h5
          have e : bs.take xs.length = bs := List.take_of_length_le (Nat.le_of_eq hP.length.symm)
          rw [e] at d5
          exact ⟨D, bs, rfl, SqL.of d5, q H5 s5⟩
      · exact no fun n => h1 (decide_eq_true (by omega))
    · refine ⟨_, rfl, x, .ty "tuple", t, _, false, rfl, .ty "tuple", ht, hk, _, rfl, ?_⟩
      exact q H (Same.refl H)
end
end Gk

set_option Elab.async false
set_option linter.all false
set_option maxRecDepth 100000
set_option maxHeartbeats 8000000
namespace Gk
open PySem PySem.Spec PyProof.Rows L2
abbrev s_Action___init : Stmt := inClass (topS 23) 0
theorem sc_Action___init : FnScope ["self", "called", "moves"] ["self", "called", "moves"] (defScope s_Action___init) := ⟨rfl, rfl, rfl, by decide +kernel, rfl, by decide +kernel, by decide +kernel⟩
abbrev s_Action_from_line : Stmt := inClass (topS 23) 1
theorem sc_Action_from_line : FnScope ["cls", "line"] ["cls", "line"] (defScope s_Action_from_line) := ⟨rfl, rfl, rfl, by decide +kernel, rfl, by decide +kernel, by decide +kernel⟩
abbrev s_Action_called : Stmt := inClass (topS 23) 2
theorem sc_Action_called : FnScope ["self"] ["self"] (defScope s_Action_called) := ⟨rfl, rfl, rfl, by decide +kernel, rfl, by decide +kernel, by decide +kernel⟩
abbrev s_Action_moves : Stmt := inClass (topS 23) 3
theorem sc_Action_moves : FnScope ["self"] ["self"] (defScope s_Action_moves) := ⟨rfl, rfl, rfl, by decide +kernel, rfl, by decide +kernel, by decide +kernel⟩
abbrev s_Action_owners : Stmt := inClass (topS 23) 4
theorem sc_Action_owners : FnScope ["self", "move"] ["self"] (defScope s_Action_owners) := ⟨rfl, rfl, rfl, by decide +kernel, rfl, by decide +kernel, by decide +kernel⟩
abbrev s_Action___len : Stmt := inClass (topS 23) 5
theorem sc_Action___len : FnScope ["self"] ["self"] (defScope s_Action___len) := ⟨rfl, rfl, rfl, by decide +kernel, rfl, by decide +kernel, by decide +kernel⟩
abbrev s_Action___eq : Stmt := inClass (topS 23) 6
theorem sc_Action___eq : FnScope ["self", "other"] ["self", "other"] (defScope s_Action___eq) := ⟨rfl, rfl, rfl, by decide +kernel, rfl, by decide +kernel, by decide +kernel⟩
abbrev s_Action___str : Stmt := inClass (topS 23) 7
theorem sc_Action___str : FnScope ["self"] ["self"] (defScope s_Action___str) := ⟨rfl, rfl, rfl, by decide +kernel, rfl, by decide +kernel, by decide +kernel⟩
/-- what the class keeps of its own -/
structure ActC (K : PySem.W.Frag) (C : Addr) : Prop where
  cl : Cls K C
  n1 : NoAttr K C "_called"
  n2 : NoAttr K C "_moves"
/-- an action, as it stands -/
def ActV (K : PySem.W.Frag) (H : Hp) (C a : Addr) (c : Str) (ms : List Mv) : Prop := ∃ (dx p : Addr) (ys : List V), H a = some (.ins C dx [("_called", .str c), ("_moves", .ref p)]) ∧ SqT K H p ys ∧ TyX K H (.ref p) (.type "tuple") ∧ Paired (MvR K H) ys ms ∧ ms.length ≤ 4 ∧ (∀ m ∈ ms, ∀ s ∈ wds m, isW s = true) ∧ isW c = true
theorem ActV.same {K : PySem.W.Frag} {H H' : Hp} {C a : Addr} {c : Str} {ms : List Mv} (s : Same H H') (h : ActV K H C a c ms) : ActV K H' C a c ms := by
  obtain ⟨dx, p, ys, h1, h2, h3, h4, h5, h6⟩ := h
  exact ⟨dx, p, ys, s _ _ h1, gSeqT s h2, h3.same s, paired_mono (fun x a h => h.same s) h4, h5, h6⟩
/-- all but what stands at a is kept -/
def But (a : Addr) (H H' : Hp) : Prop := ∀ b o, b ≠ a → H b = some o → H' b = some o
theorem But.sqT {K : PySem.W.Frag} {H H' : Hp} {a C dx p : Addr} {fs : List (Str × V)} {xs : List V} (k : But a H H') (ha : H a = some (.ins C dx fs)) (h : SqT K H p xs) : SqT K H' p xs := by
  rcases h with (h | ⟨o, h⟩) | h
  · exact .inl (.inl (k _ _ (fun z => by subst z; rw [ha] at h; cases h) h))
  · exact .inl (.inr ⟨o, k _ _ (fun z => by subst z; rw [ha] at h; cases h) h⟩)
  · exact .inr h
theorem But.ty {K : PySem.W.Frag} {H H' : Hp} {a C dx : Addr} {fs : List (Str × V)} {x : V} (k : But a H H') (ha : H a = some (.ins C dx fs)) (h : TyX K H x (.type "tuple")) : TyX K H' x (.type "tuple") := by
  generalize ht : Value.type "tuple" = t at h
  cases h with
  | base b =>
    cases b with
    | tup e =>
      rw [← ht]
      exact .base (.tup (k _ _ (fun z => by subst z; rw [ha] at e; cases e) e))
    | _ => first | exact absurd ht (by decide) | (injection ht with q; exact absurd q (by decide)) | cases ht
  | kTuple e c =>
    rw [← ht]
    exact .kTuple e c
  | fTuple e =>
    rw [← ht]
    exact .fTuple (k _ _ (fun z => by subst z; rw [ha] at e; cases e) e)
  | _ => first | exact absurd ht (by decide) | (injection ht with q; exact absurd q (by decide)) | cases ht
theorem But.mvR {K : PySem.W.Frag} {H H' : Hp} {a C dx : Addr} {fs : List (Str × V)} {x : V} {m : Mv} (k : But a H H') (ha : H a = some (.ins C dx fs)) (h : MvR K H x m) : MvR K H' x m := by
  obtain ⟨b, rfl, h1, h2⟩ := h
  exact ⟨b, rfl, k.sqT ha h1, k.ty ha h2⟩
theorem mvR_mvV {K : PySem.W.Frag} {H : Hp} : ∀ {xs : List V} {ms : List Mv}, Paired (MvR K H) xs ms → OkMv ms → Paired (MvV K H) xs (ms.map fun _ => true)
  | _, _, .nil, _ => .nil
  | _, _, .cons (b := m) h t, hw => by
    obtain ⟨a, rfl, h1, h2⟩ := h
    have h0 := hw m (List.mem_cons_self ..)
    refine .cons (.inl ⟨a, _, (wds m).map isW, rfl, h1, h2, pair_strs fun s hs => Nat.le_trans (isW_len (h0 s hs)).2 (by decide), ?_⟩) (mvR_mvV t fun x hx => hw x (List.mem_cons_of_mem _ hx))
    have e : ((wds m).map isW).all id = true := List.all_eq_true.mpr fun b hb => by
      obtain ⟨s, hs, rfl⟩ := List.mem_map.mp hb
      exact h0 s hs
    rw [e]
    rfl
theorem MvsV.yes {K : PySem.W.Frag} {H : Hp} {p : Addr} {xs : List V} {ms : List Mv} (h1 : SqT K H p xs) (h2 : TyX K H (.ref p) (.type "tuple")) (h3 : Paired (MvR K H) xs ms) (l1 : 1 ≤ ms.length) (l4 : ms.length ≤ 4) (hw : OkMv ms) : MvsV K H (.ref p) true := by
  refine .inl ⟨p, xs, _, rfl, h1, h2, mvR_mvV h3 hw, ?_⟩
  have e : (ms.map fun _ => true).all id = true := List.all_eq_true.mpr fun b hb => by
    obtain ⟨s, hs, rfl⟩ := List.mem_map.mp hb
    rfl
  rw [e, h3.length, decide_eq_true (⟨l1, l4⟩ : 1 ≤ ms.length ∧ ms.length ≤ 4)]
  rfl
def spAct (K : PySem.W.Frag) (C CN CA : Addr) : Sp := fun vs H Q E => ∃ (a dx : Addr) (x y : V), vs = [.ref a, x, y] ∧ H a = some (.ins C dx []) ∧
  ((NmV K H x false ∧ ∀ H', Same H H' → E (.ref CN) none H') ∨ (∃ c, x = .str c ∧ isW c = true ∧
    ((MvsV K H y false ∧ ∀ H', Same H H' → E (.ref CA) none H') ∨
      (∃ (p : Addr) (xs : List V) (ms : List Mv), y = .ref p ∧ SqT K H p xs ∧ TyX K H y (.type "tuple") ∧ Paired (MvR K H) xs ms ∧ 1 ≤ ms.length ∧ ms.length ≤ 4 ∧ OkMv ms ∧ ∀ H', But a H H' → ActV K H' C a c (sortM ms) → Q .non H'))))
section
variable {P : Program} {w : World} {K : PySem.W.Frag} {mg : Str → Option Value} {base : Heap}
theorem ok_Action___init {C CN CA f fN fM : Addr} {fd fdN fdM : FuncData} (B : Blt mg) (T_InvalidName : OwnT K mg "InvalidName" CN) (T_InvalidAction : OwnT K mg "InvalidAction" CA) (AC : ActC K C) (F : Fun K "__init__" "Action.__init__" s_Action___init f fd)
    (D_is_name : Df K mg "is_name" s_is_name ["value"] fN fdN) (G_is_name : FnOk P w K mg base CX0 1 fN fdN ["value"] (spIsName K)) (D_are_moves : Df K mg "_are_moves" s_are_moves ["value"] fM fdM) (G_are_moves : FnOk P w K mg base CX0 3 fM fdM ["value"] (spMvs K)) :
    FnOk P w K mg base (L2.CX P w) 4 f fd ["self", "called", "moves"] (spAct K C CN CA) := by
  refine F.okX sc_Action___init (fun vs H Q E h => ?_) (fun cdv A outer s H vs Q E hr h => ?_)
  · obtain ⟨a, dx, x, y, rfl, _⟩ := h
    rfl
  · obtain ⟨a, dx, x, y, rfl, ha, h⟩ := h
    refine ⟨_, (pss_cons (ps_if (pt_not (pt_val (pe_call G_is_name (hr.mono (by decide)) (by rfl) D_is_name.g D_is_name.F.kp D_is_name.b .nil pass0 (pa_cons (pv 1) pa_nil)) (by intro _; rfl)))
    (pss_one (ps_raise rfl (takes_of rfl rfl rfl rfl) (pmk_own PySem.F.excBase_ValueError T_InvalidName.x T_InvalidName.g T_InvalidName.k (raises_own T_InvalidName.b T_InvalidName.t) (by exact rfl)))) pss_nil)
    (pss_cons (ps_if (pt_not (pt_val (pe_call G_are_moves (hr.mono (by decide)) (by rfl) D_are_moves.g D_are_moves.F.kp D_are_moves.b .nil pass0 (pa_cons (pv 2) pa_nil)) (by intro _; rfl)))
    (pss_one (ps_raise rfl (takes_of rfl rfl rfl rfl) (pmk_own PySem.F.excBase_ValueError T_InvalidAction.x T_InvalidAction.g T_InvalidAction.k (raises_own T_InvalidAction.b T_InvalidAction.t) (by exact rfl)))) pss_nil)
    (pss_cons (ps_fld (pv 0) (pv 1) rfl)
    (pss_one (ps_fld (pv 0) (pe_callTy call_tupN (by rfl) B.tuple_ (by decide +kernel) (pa_cons (pe_callB (cr_sortM hr) (by rfl) B.sorted_ (by decide +kernel) (pa_cons (pv 2) pa_nil)) pa_nil)) rfl))))), ?_⟩
    rcases h with ⟨hx, q⟩ | ⟨c, rfl, hc, h⟩
    · exact ⟨_, rfl, x, false, rfl, hx, fun H1 s1 => ⟨false, rfl, q H1 s1⟩⟩
    · refine ⟨_, rfl, .str c, true, rfl, .inl ⟨c, rfl, Nat.le_trans (isW_len hc).2 (by decide), hc.symm⟩, fun H1 s1 => ⟨true, rfl, ?_⟩⟩
      rcases h with ⟨hy, q⟩ | ⟨p, xs, ms, rfl, h1, h2, pm, l1, l4, hw, q⟩
      · exact ⟨_, rfl, y, false, rfl, hy.same s1, fun H2 s2 => ⟨false, rfl, q H2 (s1.trans s2)⟩⟩
      · refine ⟨_, rfl, .ref p, true, rfl, (MvsV.yes h1 h2 pm l1 l4 hw).same s1, fun H2 s2 => ⟨true, rfl, ?_⟩⟩
        have s12 := s1.trans s2
        have a2 := s12 _ _ ha
        have h1 := gSeqT s12 h1
        have pm := paired_mono (fun _ _ h => MvR.same s12 h) pm
        have k1 : But a H2 (upd H2 a (.ins C dx (putF "_called" (.str c) []))) := fun b o n e => by rw [upd_ne n]; exact e
        refine ⟨_, rfl, _, rfl, a, C, dx, [], rfl, a2, AC.cl, AC.n1, by decide, ?_⟩
        refine ⟨_, rfl, p, xs, ms, rfl, .inr (k1.sqT a2 h1), paired_mono (fun _ _ h => k1.mvR a2 h) pm, by omega, fun ys py D H3 nD eD s3 => ?_⟩
        refine ⟨D, ys, rfl, SqL.of eD, fun D2 H4 nD2 eD2 s4 => ?_⟩
        have a4 : H4 a = some (.ins C dx (putF "_called" (.str c) [])) := s4 _ _ (s3 _ _ upd_same)
        refine ⟨_, rfl, a, C, dx, _, rfl, a4, AC.cl, AC.n2, by show 1 < 1000; decide, ?_⟩
        have k2 : But a H4 (upd H4 a (.ins C dx (putF "_moves" (.ref D2) (putF "_called" (.str c) [])))) := fun b o n e => by rw [upd_ne n]; exact e
        have nD2 : D2 ≠ a := fun z => by
          rw [z, a4] at eD2
          cases eD2
        exact q _ (fun b o n e => k2 b o n (s4 _ _ (s3 _ _ (k1 b o n (s12 _ _ e))))) ⟨dx, D2, ys, upd_same, k2.sqT a4 (.inl (.inl eD2)), k2.ty a4 (.base (.tup eD2)), paired_mono (fun _ _ h => k2.mvR a4 ((h.same s3).same s4)) py, by rw [sortM_len]; omega, fun m hm => hw m (sortM_mem.mp hm), hc⟩
/-- what is told of an action's parts -/
def spGet (K : PySem.W.Frag) (C : Addr) (G : Str → List Mv → Addr → List V → Hp → VK → Prop) : Sp := fun vs H Q _ => ∃ (a p : Addr) (c : Str) (ms : List Mv) (ys : List V) (dx : Addr), vs = [.ref a] ∧ H a = some (.ins C dx [("_called", .str c), ("_moves", .ref p)]) ∧ SqT K H p ys ∧ TyX K H (.ref p) (.type "tuple") ∧ Paired (MvR K H) ys ms ∧ ms.length ≤ 4 ∧ (∀ m ∈ ms, ∀ s ∈ wds m, isW s = true) ∧ isW c = true ∧ G c ms p ys H Q
def gCalled : Str → List Mv → Addr → List V → Hp → VK → Prop := fun c _ _ _ H Q => Q (.str c) H
def gMoves : Str → List Mv → Addr → List V → Hp → VK → Prop := fun _ _ p _ H Q => Q (.ref p) H
def gLen : Str → List Mv → Addr → List V → Hp → VK → Prop := fun _ ms _ _ H Q => Q (.int (ms.length : Nat)) H
def gOwners : Str → List Mv → Addr → List V → Hp → VK → Prop := fun _ ms _ _ H Q => ∀ (os : List Str) (r : Addr) (H' : Hp), sortedS os = true → os.Nodup → (∀ k, k ∈ os ↔ k ∈ ms.map fun m => m.1) → Same H H' → H' r = some (.tup (os.map V.str)) → Q (.ref r) H'
theorem ok_Action_called {C f : Addr} {fd : FuncData} (B : Blt mg) (AC : ActC K C) (F : Fun K "called" "Action.called" s_Action_called f fd) : FnOk P w K mg base CX0 1 f fd ["self"] (spGet K C gCalled) := by
  refine F.ok sc_Action_called (fun vs H Q E h => ?_) (fun cdv A outer s H vs Q E hr h => ?_)
  · obtain ⟨a, p, c, ms, ys, dx, rfl, _⟩ := h
    rfl
  · obtain ⟨a, p, c, ms, ys, dx, rfl, ha, hs, ht, hp, hl, hw, hc, q⟩ := h
    exact ⟨_, (pss_one (ps_ret (pe_fld (pv 0) rfl))), _, rfl, a, C, dx, _, _, rfl, ha, AC.cl, AC.n1, rfl, q⟩
theorem ok_Action_moves {C f : Addr} {fd : FuncData} (B : Blt mg) (AC : ActC K C) (F : Fun K "moves" "Action.moves" s_Action_moves f fd) : FnOk P w K mg base CX0 1 f fd ["self"] (spGet K C gMoves) := by
  refine F.ok sc_Action_moves (fun vs H Q E h => ?_) (fun cdv A outer s H vs Q E hr h => ?_)
  · obtain ⟨a, p, c, ms, ys, dx, rfl, _⟩ := h
    rfl
  · obtain ⟨a, p, c, ms, ys, dx, rfl, ha, hs, ht, hp, hl, hw, hc, q⟩ := h
    exact ⟨_, (pss_one (ps_ret (pe_fld (pv 0) rfl))), _, rfl, a, C, dx, _, _, rfl, ha, AC.cl, AC.n2, rfl, q⟩
theorem ok_Action___len {C f : Addr} {fd : FuncData} (B : Blt mg) (AC : ActC K C) (F : Fun K "__len__" "Action.__len__" s_Action___len f fd) : FnOk P w K mg base CX0 1 f fd ["self"] (spGet K C gLen) := by
  refine F.ok sc_Action___len (fun vs H Q E h => ?_) (fun cdv A outer s H vs Q E hr h => ?_)
  · obtain ⟨a, p, c, ms, ys, dx, rfl, _⟩ := h
    rfl
  · obtain ⟨a, p, c, ms, ys, dx, rfl, ha, hs, ht, hp, hl, hw, hc, q⟩ := h
    refine ⟨_, (pss_one (ps_ret (pe_callB call_len_seq (by rfl) B.len_ (by decide +kernel) (pa_cons (pe_fld (pv 0) rfl) pa_nil)))), _, rfl, a, C, dx, _, _, rfl, ha, AC.cl, AC.n2, rfl, p, ys, rfl, .inr hs, ?_⟩
    rw [hp.length]
    exact q
theorem ok_Action_owners {C f : Addr} {fd : FuncData} (B : Blt mg) (AC : ActC K C) (F : Fun K "owners" "Action.owners" s_Action_owners f fd) : FnOk P w K mg base CX0 1 f fd ["self"] (spGet K C gOwners) := by
  refine F.ok sc_Action_owners (fun vs H Q E h => ?_) (fun cdv A outer s H vs Q E hr h => ?_)
  · obtain ⟨a, p, c, ms, ys, dx, rfl, _⟩ := h
    rfl
  · obtain ⟨a, p, c, ms, ys, dx, rfl, ha, hs, ht, hp, hl, hw, hc, q⟩ := h
    refine ⟨_, (pss_one (ps_ret (pe_callTy call_tupN (by rfl) B.tuple_ (by decide +kernel) (pa_cons (pe_callB (cr_sortSS rfl) (by rfl) B.sorted_ (by decide +kernel) (pa_cons (pe_setc (own := [("move", 1)]) (g := gName 1) (tt := tYes) iniS_ok addS_ok (by rfl) sc_Action_owners.nd (pi_tup (pe_fld (pv 0) rfl)) (blkOk_by (N := ["self", "move"]) (sc := defScope s_Action_owners) (by decide +kernel)) (fun _ _ _ _ _ => (pg_name (i := 1) sc_Action_owners.nd rfl (Or.inl rfl))) (fun _ _ _ _ _ => pts_nil) (fun _ _ _ _ _ => (pe_ix (ix_tupK K rfl) (pv 1) pe_int (fun _ _ => rfl)))) pa_nil)) pa_nil)))), ?_⟩
    refine ⟨_, rfl, a, C, dx, _, _, rfl, ha, AC.cl, AC.n2, rfl, p, rfl, ⟨ys, hs⟩, fun D hD => ?_⟩
    refine setc_tup (K := K) (a := p) (xs := ys) (fun i H5 => Same H H5 ∧ ∃ S n, H5 D = some (SetSO P w D S n) ∧ n ≤ i ∧ ∀ k, S k = true ↔ k ∈ (ms.take i).map fun m => m.1) ⟨gSame_new hD, _, 0, upd_same, Nat.le_refl _, fun k => by simp⟩ (fun i H5 _ h5 => gSeqT h5.1 hs) (fun i x H5 hx h5 => ?_) (fun H5 h5 => ?_)
    · obtain ⟨s5, S, n, d5, hn, hS⟩ := h5
      obtain ⟨m, hm, b, rfl, m1, m2⟩ := paired_get hp hx
      have hi : i < ms.length := (List.getElem?_eq_some_iff.mp hm).1
      refine ⟨rfl, _, rfl, b, _, 0, .str m.1, rfl, rfl, gSeqT s5 m1, rfl, _, S, n, rfl, d5, ?_, gSame_mut s5 hD, _, _, upd_same, ?_, fun k => ?_⟩
      · unfold scanBound
        omega
      · split <;> omega
      · rw [List.take_add_one, hm, List.map_append, Bool.or_eq_true, hS k, List.mem_append, decide_eq_true_eq]
        simp
    · obtain ⟨s5, S, n, d5, hn, hS⟩ := h5
      have e : ms.take ys.length = ms := List.take_of_length_le (Nat.le_of_eq hp.length.symm)
      rw [e] at hS
      have hyl := hp.length
      refine ⟨D, S, n, rfl, d5, by omega, fun os so nd hos p1 H6 n6 e6 s6 => ⟨p1, _, rfl, SqL.of e6, fun r H7 n7 e7 s7 => ?_⟩⟩
      exact q os r H7 so nd (fun k => (hos k).trans (hS k)) (s5.trans (s6.trans s7)) e7
theorem wds_len {m : Mv} (h : ∀ s ∈ wds m, isW s = true) : (jn (wds m)).length ≤ 27 := jn_len (wds m) fun s hs => (isW_len (h s hs)).2
theorem sum_le4 : ∀ (l : List Str) (k : Nat), (∀ s ∈ l, s.length ≤ k) → (l.map (·.length)).sum ≤ l.length * k
  | [], _, _ => by simp
  | s :: r, k, h => by
    have h1 := h s (List.mem_cons_self ..)
    have h2 := sum_le4 r k fun x hx => h x (List.mem_cons_of_mem _ hx)
    have e : (r.length + 1) * k = r.length * k + k := Nat.succ_mul _ _
    rw [List.map_cons, List.sum_cons, List.length_cons, e]
    omega
def spWr (K : PySem.W.Frag) : Sp := fun vs H Q _ => ∃ (p : Addr) (ys : List V) (ms : List Mv), vs = [.ref p] ∧ SqT K H p ys ∧ Paired (MvR K H) ys ms ∧ ms.length ≤ 4 ∧ (∀ m ∈ ms, ∀ s ∈ wds m, isW s = true) ∧ ∀ H', Same H H' → Q (.str (wrM ms)) H'
theorem ok_write_moves {f : Addr} {fd : FuncData} (B : Blt mg) (D : Df K mg "_write_moves" s_write_moves ["moves"] f fd) : FnOk P w K mg base CX0 1 f fd ["moves"] (spWr K) := by
  refine D.F.ok sc_write_moves (fun vs H Q E h => ?_) (fun cdv A outer s H vs Q E hr h => ?_)
  · obtain ⟨p, ys, ms, rfl, _⟩ := h
    rfl
  · obtain ⟨p, ys, ms, rfl, hs, hp, hl, hw, q⟩ := h
    refine ⟨_, (pss_one (ps_ret (pe_join pe_str (pe_lc (own := [("move", 1)]) (g := gName 1) (tt := tYes) (by rfl) sc_write_moves.nd (pi_tup (pv 0)) (blkOk_by (N := ["moves", "move"]) (sc := defScope s_write_moves) (by decide +kernel)) (fun _ _ _ _ _ => (pg_name (i := 1) sc_write_moves.nd rfl (Or.inl rfl))) (fun _ _ _ _ _ => pts_nil) (fun _ _ _ _ _ => (pe_joinK K rfl pe_str (pv 1))))))), ?_⟩
    have l1 : (Str.ofString " ").length = 1 := by decide +kernel
    have l2 : (Str.ofString ", ").length = 2 := by decide +kernel
    refine ⟨⟨_, rfl⟩, _, rfl, p, rfl, ⟨ys, hs⟩, fun D hD => ?_⟩
    refine lc_tup (K := K) (a := p) (xs := ys) (fun j H5 => Same H H5 ∧ H5 D = some (.lst (((ms.take j).map fun m => jn (wds m)).map V.str))) ⟨gSame_new hD, upd_same⟩ (fun j H5 _ h5 => gSeqT h5.1 hs) (fun j x H5 hx h5 => ?_) (fun H5 h5 => ?_)
    · obtain ⟨s5, d5⟩ := h5
      obtain ⟨m, hm, b, rfl, m1, m2⟩ := paired_get hp hx
      have hmm : m ∈ ms := List.mem_of_getElem? hm
      refine ⟨rfl, ⟨_, rfl⟩, _, rfl, _, b, wds m, rfl, rfl, .inr (gSeqT s5 m1), ?_, _, d5, ?_, gSame_mut s5 hD, ?_⟩
      · have h1 := sum_le4 (wds m) 8 fun s hs => (isW_len (hw m hmm s hs)).2
        have h3 : (wds m).length = 3 := rfl
        rw [l1, h3]
        rw [h3] at h1
        omega
      · rw [List.length_map, List.length_map, List.length_take]
        exact small1000 (by omega)
      · rw [upd_same, List.take_add_one, hm, List.map_append, List.map_append]
        rfl
    · obtain ⟨s5, d5⟩ := h5
      have e : ms.take ys.length = ms := List.take_of_length_le (Nat.le_of_eq hp.length.symm)
      rw [e] at d5
      refine ⟨_, D, ms.map fun m => jn (wds m), rfl, rfl, .inl (SqL.of d5), ?_, q H5 s5⟩
      have h1 := sum_le4 (ms.map fun m => jn (wds m)) 27 fun s hs => by
        obtain ⟨m, hm, rfl⟩ := List.mem_map.mp hs
        exact wds_len (hw m hm)
      rw [List.length_map] at h1
      rw [l2, List.length_map]
      omega
theorem join_len (S : Str) : ∀ (ss : List Str) (k : Nat), (∀ s ∈ ss, s.length ≤ k) → (Txt.join S ss).length ≤ ss.length * (k + S.length)
  | [], _, _ => Nat.zero_le _
  | [s], k, h => by
    have h1 := h s (List.mem_cons_self ..)
    have e : Txt.join S [s] = s := TL.ext_tl (by
      rw [TL.join_eq, TL.tl_join]
      rfl)
    rw [e]
    show s.length ≤ 1 * (k + S.length)
    omega
  | s :: t :: r, k, h => by
    have h1 := h s (List.mem_cons_self ..)
    have ih := join_len S (t :: r) k fun x hx => h x (List.mem_cons_of_mem _ hx)
    have e : Txt.join S (s :: t :: r) = s ++ S ++ Txt.join S (t :: r) := TL.ext_tl (by
      rw [TL.tl_append, TL.tl_append, TL.join_eq, TL.join_eq, TL.tl_join, TL.tl_join, List.append_assoc]
      rfl)
    have e2 : (s :: t :: r).length * (k + S.length) = (t :: r).length * (k + S.length) + (k + S.length) := Nat.succ_mul _ _
    rw [e, Str.length_append, Str.length_append, e2]
    omega
theorem wrM_len {ms : List Mv} (hl : ms.length ≤ 4) (hw : ∀ m ∈ ms, ∀ s ∈ wds m, isW s = true) : (wrM ms).length ≤ 200 := by
  have h := join_len ", " (ms.map fun m => jn (wds m)) 27 fun s hs => by
    obtain ⟨m, hm, rfl⟩ := List.mem_map.mp hs
    exact wds_len (hw m hm)
  have l2 : (Str.ofString ", ").length = 2 := by decide +kernel
  rw [List.length_map, l2] at h
  unfold wrM
  omega
def gStr : Str → List Mv → Addr → List V → Hp → VK → Prop := fun c ms _ _ H Q => ∀ H', Same H H' → Q (.str (liA c ms)) H'
theorem ok_Action___str {C f fW : Addr} {fd fdW : FuncData} (B : Blt mg) (AC : ActC K C) (D_write_moves : Df K mg "_write_moves" s_write_moves ["moves"] fW fdW) (G_write_moves : FnOk P w K mg base CX0 1 fW fdW ["moves"] (spWr K)) (F : Fun K "__str__" "Action.__str__" s_Action___str f fd) : FnOk P w K mg base CX0 2 f fd ["self"] (spGet K C gStr) := by
  refine F.ok sc_Action___str (fun vs H Q E h => ?_) (fun cdv A outer s H vs Q E hr h => ?_)
  · obtain ⟨a, p, c, ms, ys, dx, rfl, _⟩ := h
    rfl
  · obtain ⟨a, p, c, ms, ys, dx, rfl, ha, hs, ht, hp, hl, hw, hc, q⟩ := h
    refine ⟨_, (pss_one (ps_ret (pe_joined (.cons (pe_fmt (pe_fld (pv 0) rfl)) (.cons pe_str (.cons (pe_fmt (pe_call G_write_moves (hr.mono (by decide)) (by rfl) D_write_moves.g D_write_moves.F.kp D_write_moves.b .nil pass0 (pa_cons (pe_fld (pv 0) rfl) pa_nil))) .nil)))))), ?_⟩
    have l1 : (Str.ofString " ").length = 1 := by decide +kernel
    have e0 : Str.empty ++ c = c := TL.ext_tl (by rw [TL.tl_append]; rfl)
    have lc := (isW_len hc).2
    have lw := wrM_len hl hw
    have z : ∀ n : Nat, n ≤ 1000 → n ≤ sizeLine := fun n hn => by rw [sizeLine_eq]; omega
    refine ⟨_, rfl, a, C, dx, _, _, rfl, ha, AC.cl, AC.n1, rfl, .inl ⟨c, rfl, z _ (by omega), c, rfl, ?_, _, rfl, ?_, _, rfl, a, C, dx, _, _, rfl, ha, AC.cl, AC.n2, rfl, p, ys, ms, rfl, hs, hp, hl, hw, fun H' s' => .inl ⟨_, rfl, z _ (by omega), _, rfl, ?_, ?_⟩⟩⟩
    · rw [e0]
      exact z _ (by omega)
    · rw [e0, Str.length_append, l1]
      exact z _ (by omega)
    · rw [e0, Str.length_append, Str.length_append, l1]
      exact z _ (by omega)
    · rw [e0]
      exact q H' s'
def spEqA (K : PySem.W.Frag) (C : Addr) : Sp := fun vs H Q _ => ∃ (a : Addr) (y : V) (c : Str) (ms : List Mv), vs = [.ref a, y] ∧ ActV K H C a c ms ∧
  ((∃ (b : Addr) (c' : Str) (ms' : List Mv), y = .ref b ∧ ActV K H C b c' ms' ∧ Q (.bl (decide (c = c') && decide (ms = ms'))) H) ∨ (∃ t, TyX K H y t ∧ PySem.W.kitOne K t (.ref C) = some false ∧ Q (.bl false) H))
theorem ok_Action___eq {C_Action f : Addr} {fd : FuncData} (B : Blt mg) (g_Action : mg "Action" = some (.ref C_Action)) (AC : ActC K C_Action) (IC : C8.InsC K C_Action) (F : Fun K "__eq__" "Action.__eq__" s_Action___eq f fd) : FnOk P w K mg base CX0 1 f fd ["self", "other"] (spEqA K C_Action) := by
  refine F.ok sc_Action___eq (fun vs H Q E h => ?_) (fun cdv A outer s H vs Q E hr h => ?_)
  · obtain ⟨a, y, c, ms, rfl, _⟩ := h
    rfl
  · obtain ⟨a, y, c, ms, rfl, ⟨dx, p, ys, ha, hs, ht, hp, hl, hw, hc⟩, q⟩ := h
    refine ⟨_, (pss_one (ps_ret (pe_and (pe_callB call_isi (by rfl) B.isinstance_ (by decide +kernel) (pa_cons (pv 1) (pa_cons (pe_glob (v := .ref C_Action) rfl g_Action rfl) pa_nil))) (pe_and (pe_cmpR op_eq (pe_fld (pv 0) rfl) (pe_fld (pv 1) rfl) (nomark _)) (pe_one (pe_cmpR (op_eqD hr.units) (pe_fld (pv 0) rfl) (pe_fld (pv 1) rfl) (nomark _))))))), ?_⟩
    rcases q with ⟨b, c', ms', rfl, ⟨dx', p', ys', ha', hs', ht', hp', hl', hw', hc'⟩, q⟩ | ⟨t, ty, hk, q⟩
    · refine ⟨_, rfl, .ref b, .ref C_Action, _, .ref C_Action, true, rfl, .own _, .base (.ins ha' IC.cl IC.ha IC.hn IC.htk IC.hm), IC.me, _, rfl, ?_⟩
      refine ⟨_, rfl, a, C_Action, dx, _, _, rfl, ha, AC.cl, AC.n1, rfl, _, rfl, b, C_Action, dx', _, _, rfl, ha', AC.cl, AC.n1, rfl, rfl, _, rfl, ?_⟩
      have e1 : decide (V.str c = V.str c') = decide (c = c') := decide_eq_decide.mpr ⟨fun z => V.str.inj z, fun z => by rw [z]⟩
      refine ite2 (fun h1 => ?_) (fun h1 => ?_)
      · rw [e1] at h1
        rw [h1, Bool.true_and] at q
        refine ⟨_, rfl, a, C_Action, dx, _, _, rfl, ha, AC.cl, AC.n2, rfl, _, rfl, b, C_Action, dx', _, _, rfl, ha', AC.cl, AC.n2, rfl, .tuple (ms.map encM), .tuple (ms'.map encM), .tup hs (mvs_dp hp), .tup hs' (mvs_dp hp'), ?_, ?_, ?_⟩
        · exact shaped_tmvs hw
        · exact shaped_tmvs hw'
        · rw [eqv_tmvs]
          exact q
      · rw [e1, Bool.not_eq_true] at h1
        rw [h1, Bool.false_and] at q
        exact q
    · exact ⟨_, rfl, y, .ref C_Action, t, .ref C_Action, false, rfl, .own _, ty, hk, _, rfl, q⟩
end
end Gk

set_option Elab.async false
set_option linter.all false
set_option maxRecDepth 100000
set_option maxHeartbeats 8000000
namespace Gk
open PySem PySem.Spec PyProof.Rows L2
abbrev s_read_action : Stmt := topS 37
theorem sc_read_action : FnScope ["line", "called", "_", "rest", "moves", "part"] ["line"] (defScope s_read_action) := ⟨rfl, rfl, rfl, by decide +kernel, rfl, by decide +kernel, by decide +kernel⟩
def spRdA (K : PySem.W.Frag) : Sp := fun vs H Q _ => ∃ x : V, vs = [x] ∧
  ((∃ z : Str, x = .str z ∧ z.length ≤ 90000 ∧ (rdA z = none → ∀ H', Same H H' → Q .non H') ∧
      (∀ c ms, rdA z = some (c, ms) → ∀ (p p2 : Addr) (H' : Hp) (ys : List V), Same H H' → H' p = some (.tup [.str c, .ref p2]) → SqT K H' p2 ys → TyX K H' (.ref p2) (.type "tuple") → Paired (MvR K H') ys ms → OkMv ms → ms.length ≤ 4 → isW c = true → Q (.ref p) H')) ∨
    (∃ t, TyX K H x t ∧ PySem.W.kitOne K t (.type "str") = some false ∧ ∀ H', Same H H' → Q .non H'))
abbrev Tq (K : PySem.W.Frag) (D : Addr) (H : Hp) (y : V) (q : List Str) : Prop := ∃ a, y = .ref a ∧ a ≠ D ∧ H a = some (.tup (q.map V.str))
theorem Tq.but {K : PySem.W.Frag} {D : Addr} {H H' : Hp} {y : V} {q : List Str} (k : But D H H') (h : Tq K D H y q) : Tq K D H' y q := by
  obtain ⟨a, rfl, n, e⟩ := h
  exact ⟨a, rfl, n, k _ _ n e⟩
theorem paired_snoc {α : Type} {R : V → α → Prop} {y : V} {b : α} (h : R y b) : ∀ {xs : List V} {as : List α}, Paired R xs as → Paired R (xs ++ [y]) (as ++ [b])
  | _, _, .nil => .cons h .nil
  | _, _, .cons q t => .cons q (paired_snoc h t)
theorem tq_mv {K : PySem.W.Frag} {D : Addr} {H : Hp} : ∀ {ys : List V} {qs : List (List Str)}, Paired (Tq K D H) ys qs → (∀ q ∈ qs, ∀ s ∈ q, s.length ≤ 100000) → Paired (MvV K H) ys (qs.map okQ)
  | _, _, .nil, _ => .nil
  | _, _, .cons (b := q) h t, hl => by
    obtain ⟨a, rfl, _, e⟩ := h
    refine .cons (.inl ⟨a, q.map V.str, q.map isW, rfl, .inl (.inl e), .base (.tup e), pair_strs (hl q (List.mem_cons_self ..)), ?_⟩) (tq_mv t fun q hq => hl q (List.mem_cons_of_mem _ hq))
    unfold okQ
    rw [List.length_map, List.all_map]
    rfl
theorem tq_mvR {K : PySem.W.Frag} {D : Addr} {H : Hp} : ∀ {ys : List V} {qs : List (List Str)}, Paired (Tq K D H) ys qs → qs.all okQ = true → Paired (MvR K H) ys (qs.map toMv)
  | _, _, .nil, _ => .nil
  | _, _, .cons (b := q) h t, e => by
    rw [List.all_cons, Bool.and_eq_true] at e
    obtain ⟨a, rfl, _, ea⟩ := h
    refine .cons ⟨a, rfl, ?_, .base (.tup ea)⟩ (tq_mvR t e.2)
    rw [(okQ_of e.1).1]
    exact .inl (.inl ea)
section
variable {P : Program} {w : World} {K : PySem.W.Frag} {mg : Str → Option Value} {base : Heap}
theorem ok_read_action {f fN fM : Addr} {fd fdN fdM : FuncData} (B : Blt mg) (D_is_name : Df K mg "is_name" s_is_name ["value"] fN fdN) (G_is_name : FnOk P w K mg base CX0 1 fN fdN ["value"] (spIsName K)) (D_are_moves : Df K mg "_are_moves" s_are_moves ["value"] fM fdM) (G_are_moves : FnOk P w K mg base CX0 3 fM fdM ["value"] (spMvs K))
    (D : Df K mg "_read_action" s_read_action ["line"] f fd) : FnOk P w K mg base CX0 4 f fd ["line"] (spRdA K) := by
  refine D.F.ok sc_read_action (fun vs H Q E h => ?_) (fun cdv A outer s H vs Q E hr h => ?_)
  · obtain ⟨x, rfl, _⟩ := h
    rfl
  · obtain ⟨x, rfl, h⟩ := h
    refine ⟨_, (pss_cons (ps_if (pt_not (pt_val (pe_callB call_isi (by rfl) B.isinstance_ (by decide +kernel) (pa_cons (pv 0) (pa_cons (pe_bltn (v := .ty "str") rfl B.str_ (by decide +kernel) rfl) pa_nil))) (by intro _; rfl)))
    (pss_one (ps_ret pe_non)) pss_nil)
    (pss_cons (ps_asg (pe_partition (pv 0) pe_str) (pg_tup (by rfl) (pgs_cons (pg_name (i := 1) sc_read_action.nd rfl (Or.inl rfl)) (pgs_cons (pg_name (i := 2) sc_read_action.nd rfl (Or.inl rfl)) (pgs_cons (pg_name (i := 3) sc_read_action.nd rfl (Or.inl rfl)) pgs_nil)))))
    (pss_cons (ps_set (i := 4) sc_read_action.nd rfl (Or.inl rfl) (pe_callTy call_tupN (by rfl) B.tuple_ (by decide +kernel) (pa_cons (pe_lc (own := [("part", 5)]) (g := gName 5) (tt := tYes) (by rfl) sc_read_action.nd (pi_list (pe_split (pv 3) pe_str)) (blkOk_by (N := ["line", "called", "_", "rest", "moves", "part"]) (sc := defScope s_read_action) (by decide +kernel)) (fun _ _ _ _ _ => (pg_name (i := 5) sc_read_action.nd rfl (Or.inl rfl))) (fun _ _ _ _ _ => pts_nil) (fun _ _ _ _ _ => (pe_callTy (call_tupNK K rfl) (by rfl) B.tuple_ (by decide +kernel) (pa_cons (pe_split (pv 5) pe_str) pa_nil)))) pa_nil)))
    (pss_cons (ps_if (PW.pt (pw_or (pt_not (pt_val (pe_call G_is_name (hr.mono (by decide)) (by rfl) D_is_name.g D_is_name.F.kp D_is_name.b .nil pass0 (pa_cons (pv 1) pa_nil)) (by intro _; rfl))) (pw_or (pt_not (pt_val (pe_call G_are_moves (hr.mono (by decide)) (by rfl) D_are_moves.g D_are_moves.F.kp D_are_moves.b .nil pass0 (pa_cons (pv 4) pa_nil)) (by intro _; rfl))) (pw_or1 (pt_cmpR (op_neD hr.units) (pe_callTy call_lstN (by rfl) B.list_ (by decide +kernel) (pa_cons (pv 4) pa_nil)) (pe_callB (cr_sortM hr) (by rfl) B.sorted_ (by decide +kernel) (pa_cons (pv 4) pa_nil)) (nomark _))))))
    (pss_one (ps_ret pe_non)) pss_nil)
    (pss_one (ps_ret (pe_tupN (pa_cons (pv 1) (pa_cons (pv 4) pa_nil))))))))), ?_⟩
    rcases h with ⟨z, rfl, hz, q1, q2⟩ | ⟨t, ty, hk, q⟩
    · refine ⟨_, rfl, .str z, .ty "str", _, _, true, rfl, .ty "str", .base (.str z), kit_ty (by decide +kernel), _, rfl, ?_⟩
      have l1 : (Str.ofString " ").length = 1 := by decide +kernel
      have l2 : (Str.ofString ", ").length = 2 := by decide +kernel
      obtain ⟨lc, lr⟩ := part_len z
      have sl : ∀ n : Nat, n ≤ 100000 → n ≤ sizeLine := fun n hn => by rw [sizeLine_eq]; omega
      refine ⟨_, rfl, ⟨_, rfl⟩, z, _, rfl, rfl, by rw [l1]; rfl, sl _ (by omega), fun p1 n1 => ⟨p1, _, rfl, SqT.of upd_same, rfl, _, _, rfl, _, _, rfl, _, _, rfl, rfl, ?_⟩⟩
      refine ⟨_, rfl, ⟨_, rfl⟩, (Txt.partition z " ").2.2, _, rfl, rfl, by rw [l2]; rfl, sl _ (by omega), fun p2 n2 => ⟨p2, rfl, ⟨_, SqL.of upd_same⟩, fun D hD => ?_⟩⟩
      have sA : Same H (upd H p1 (.tup [.str (Txt.partition z " ").1, .str (Txt.partition z " ").2.1, .str (Txt.partition z " ").2.2])) := gSame_new n1
      generalize upd H p1 (.tup [.str (Txt.partition z " ").1, .str (Txt.partition z " ").2.1, .str (Txt.partition z " ").2.2]) = HA at *
      generalize hc : (Txt.partition z " ").1 = c at *
      generalize hr' : (Txt.partition z " ").2.2 = r at *
      have sB : Same HA (upd HA p2 (.lst ((Txt.split r ", ").map V.str))) := gSame_new n2
      have eB : upd HA p2 (.lst ((Txt.split r ", ").map V.str)) p2 = some (.lst ((Txt.split r ", ").map V.str)) := upd_same
      generalize upd HA p2 (.lst ((Txt.split r ", ").map V.str)) = HB at *
      refine lc_list (K := K) (a := p2) (xs := (Txt.split r ", ").map V.str) (fun i H5 => Same HB H5 ∧ ∃ ys, H5 D = some (.lst ys) ∧ Paired (Tq K D H5) ys ((prs r).take i)) ⟨gSame_new hD, [], upd_same, .nil⟩ (fun i H5 _ h5 => SqL.of (h5.1 _ _ eB)) (fun i x H5 hx h5 => ?_) (fun H5 h5 => ?_)
      · obtain ⟨s5, ys, d5, py⟩ := h5
        obtain ⟨pt, hpt, rfl⟩ := List.getElem?_map .. ▸ hx |> fun h => Option.map_eq_some_iff.mp h
        have hpl : pt.length ≤ r.length := split_piece cs_ne cs_asc (List.mem_of_getElem? hpt)
        refine ⟨rfl, _, rfl, ⟨_, rfl⟩, pt, _, rfl, rfl, by rw [l1]; rfl, sl _ (by omega), fun p3 n3 => ⟨p3, _, rfl, SqL.of upd_same, fun p4 H6 n4 e4 s4 => ⟨ys, ?_, ?_, ?_, ?_⟩⟩⟩
        · exact s4 _ _ (gSame_new n3 _ _ d5)
        · have h1 := py.length
          have h2 := PyProof.Rows.split_le r ", "
          rw [h1, List.length_take, sizeLine_eq]
          have h3 : (prs r).length = (Txt.split r ", ").length := List.length_map ..
          omega
        · exact gSame_mut (s5.trans ((gSame_new n3).trans s4)) hD
        · have s56 : Same H5 H6 := (gSame_new n3).trans s4
          have kk : But D H5 (upd H6 D (.lst (ys ++ [.ref p4]))) := fun b o n e => by rw [upd_ne n]; exact s56 _ _ e
          refine ⟨_, upd_same, ?_⟩
          have e : (prs r).take (i + 1) = (prs r).take i ++ [Txt.split pt " "] := by
            rw [List.take_add_one]
            have : (prs r)[i]? = some (Txt.split pt " ") := by
              rw [List.getElem?_map, hpt]
              rfl
            rw [this]
            rfl
          rw [e]
          have n4D : p4 ≠ D := fun z => by
            rw [z, s56 _ _ d5] at e4
            cases e4
          exact paired_snoc ⟨p4, rfl, n4D, by rw [upd_ne n4D]; exact e4⟩ (paired_mono (fun _ _ h => h.but kk) py)
      · obtain ⟨s5, ys, d5, py⟩ := h5
        have e : (prs r).take ((Txt.split r ", ").map V.str).length = prs r := List.take_of_length_le (by rw [List.length_map, List.length_map]; exact Nat.le_refl _)
        rw [e] at py
        refine ⟨D, ys, rfl, SqL.of d5, fun p6 H6 n6 e6 s6 => ?_⟩
        have s06 : Same H H6 := sA.trans (sB.trans (s5.trans s6))
        refine ⟨_, rfl, .str c, isW c, rfl, NmV.of (by omega), fun H7 s7 => ⟨isW c, rfl, ?_⟩⟩
        have py7 : Paired (Tq K D H7) ys (prs r) := paired_mono (fun _ _ ⟨a, h1, h2, h3⟩ => ⟨a, h1, h2, s7 _ _ (s6 _ _ h3)⟩) py
        have rd : rdA z = if isW c && (okQs (prs r) && decide ((prs r).map toMv = sortM ((prs r).map toMv))) then some (c, (prs r).map toMv) else none := by
          unfold rdA
          rw [hc, hr']
        cases hcw : isW c with
        | false =>
          rw [hcw] at rd
          exact q1 rd H7 (s06.trans s7)
        | true =>
          refine ⟨_, rfl, .ref p6, okQs (prs r), rfl, .inl ⟨p6, ys, (prs r).map okQ, rfl, .inl (.inl (s7 _ _ e6)), .base (.tup (s7 _ _ e6)), tq_mv py7 (fun q hq s hs => ?_), ?_⟩, fun H8 s8 => ⟨_, rfl, ?_⟩⟩
          · obtain ⟨p, hp, rfl⟩ := List.mem_map.mp hq
            have h1 := split_piece cs_ne cs_asc hp
            have h2 := split_piece sp_ne sp_asc hs
            omega
          · have g : ∀ qs : List (List Str), qs.all okQ = (qs.map okQ).all id := fun qs => by
              rw [List.all_map]
              rfl
            unfold okQs
            rw [py7.length, g]
          · cases hq : okQs (prs r) with
            | false =>
              rw [hcw, hq] at rd
              exact q1 rd H8 (s06.trans (s7.trans s8))
            | true =>
              have s8' : Same H5 H8 := s6.trans (s7.trans s8)
              have e68 : H8 p6 = some (.tup ys) := s8 _ _ (s7 _ _ e6)
              have hq2 := hq
              unfold okQs at hq2
              rw [Bool.and_eq_true] at hq2
              have hl4 := of_decide_eq_true hq2.1
              have pR : Paired (MvR K H8) ys ((prs r).map toMv) := paired_mono (fun _ _ h => h.same s8) (tq_mvR py7 hq2.2)
              have hok : OkMv ((prs r).map toMv) := fun m hm s hs => by
                obtain ⟨q, hqm, rfl⟩ := List.mem_map.mp hm
                have o := okQ_of (List.all_eq_true.mp hq2.2 q hqm)
                rw [o.1] at hs
                exact o.2 s hs
              have hml : ((prs r).map toMv).length = (prs r).length := List.length_map ..
              generalize hms : (prs r).map toMv = ms at *
              refine ⟨_, rfl, p6, ys, rfl, .inr (.inl (.inl e68)), fun p9 H9 n9 e9 s9 => ⟨_, rfl, p6, ys, ms, rfl, .inr (.inl (.inl (s9 _ _ e68))), paired_mono (fun _ _ h => h.same s9) pR, by omega, fun zs pz p10 H10 n10 e10 s10 => ?_⟩⟩
              have pR10 : Paired (MvR K H10) ys ms := paired_mono (fun _ _ h => h.same (s9.trans s10)) pR
              refine ⟨.list (ms.map encM), .list ((sortM ms).map encM), .lst (SqL.of (s10 _ _ e9)) (mvs_dp pR10), .lst (SqL.of e10) (mvs_dp (paired_mono (fun _ _ h => h.same s10) pz)), shaped_lmvs hok, shaped_lmvs fun m hm => hok m (sortM_mem.mp hm), _, rfl, ?_⟩
              rw [eqv_lmvs]
              have s010 : Same H H10 := s06.trans (s7.trans (s8.trans (s9.trans s10)))
              cases hs : decide (ms = sortM ms) with
              | false =>
                rw [hcw, hq, hs] at rd
                exact q1 rd H10 s010
              | true =>
                rw [hcw, hq, hs] at rd
                refine ⟨_, rfl, _, rfl, sl 2 (by decide), fun p11 H11 n11 e11 s11 => ?_⟩
                exact q2 c ms rd p11 p6 H11 ys (s010.trans s11) e11 (.inl (.inl (s11 _ _ (s10 _ _ (s9 _ _ e68))))) (.base (.tup (s11 _ _ (s10 _ _ (s9 _ _ e68))))) (paired_mono (fun _ _ h => h.same s11) pR10) hok (by omega) hcw
    · exact ⟨_, rfl, x, .ty "str", t, _, false, rfl, .ty "str", ty, hk, _, rfl, q H (Same.refl H)⟩
end
end Gk

set_option Elab.async false
set_option linter.all false
set_option maxRecDepth 100000
set_option maxHeartbeats 8000000
namespace Gk
open PySem PySem.Spec PyProof.Rows L2
abbrev s_are_states : Stmt := topS 27
theorem sc_are_states : FnScope ["value"] ["value"] (defScope s_are_states) := ⟨rfl, rfl, rfl, by decide +kernel, rfl, by decide +kernel, by decide +kernel⟩
abbrev s_are_owners : Stmt := topS 28
theorem sc_are_owners : FnScope ["value", "limit", "name", "states"] ["value", "limit"] (defScope s_are_owners) := ⟨rfl, rfl, rfl, by decide +kernel, rfl, by decide +kernel, by decide +kernel⟩
abbrev Own := Str × List Str
/-- states that can be -/
structure OkSt (ss : List Str) : Prop where
  l1 : 1 ≤ ss.length
  l6 : ss.length ≤ 6
  nd : ss.Nodup
  w : ∀ s ∈ ss, isW s = true
/-- a tuple of texts -/
def StR (K : PySem.W.Frag) (H : Hp) (v : V) (ss : List Str) : Prop := ∃ p, v = .ref p ∧ SqT K H p (ss.map V.str) ∧ TyX K H v (.type "tuple")
theorem StR.same {K : PySem.W.Frag} {H H' : Hp} {v : V} {ss : List Str} (s : Same H H') (h : StR K H v ss) : StR K H' v ss := by
  obtain ⟨p, rfl, h1, h2⟩ := h
  exact ⟨p, rfl, gSeqT s h1, h2.same s⟩
theorem strR_extD {K : PySem.W.Frag} {H H' : Hp} {v : V} {ss : List Str} (e : ExtD H H') (h : StR K H v ss) : StR K H' v ss := by
  obtain ⟨p, rfl, h1, h2⟩ := h
  exact ⟨p, rfl, sqT_extD e h1, tyT_extD e h2⟩
def OwR (K : PySem.W.Frag) (H : Hp) (kv : Key × V) (o : Own) : Prop := kv.1 = Sum.inr o.1 ∧ StR K H kv.2 o.2
def spStates (K : PySem.W.Frag) : Sp := fun vs H Q _ => ∃ (x : V) (ss : List Str), vs = [x] ∧ StR K H x ss ∧ OkSt ss ∧ ∀ H', Same H H' → Q (.bl true) H'
def spOwners (K : PySem.W.Frag) : Sp := fun vs H Q _ => ∃ (d : Addr) (n : Int) (kvs : List (Key × V)) (os : List Own), vs = [.ref d, .int n] ∧ H d = some (.dK kvs) ∧ Paired (OwR K H) kvs os ∧ (os.length : Int) ≤ n ∧ os.length ≤ 100 ∧ (∀ o ∈ os, isW o.1 = true ∧ OkSt o.2) ∧ ∀ H', Same H H' → Q (.bl true) H'
section
variable {P : Program} {w : World} {K : PySem.W.Frag} {mg : Str → Option Value} {base : Heap}
theorem ok_are_states {f fN : Addr} {fd fdN : FuncData} {tl : Tok} (B : Blt mg) (C_MAX_STATES : mg "MAX_STATES" = some (.int 6 tl)) (D_is_names : Df K mg "is_names" s_is_names ["value"] fN fdN) (G_is_names : FnOk P w K mg base CX0 2 fN fdN ["value"] (spIsNames K))
    (D : Df K mg "_are_states" s_are_states ["value"] f fd) : FnOk P w K mg base CX0 3 f fd ["value"] (spStates K) := by
  refine D.F.ok sc_are_states (fun vs H Q E h => ?_) (fun cdv A outer s H vs Q E hr h => ?_)
  · obtain ⟨x, ss, rfl, _⟩ := h
    rfl
  · obtain ⟨x, ss, rfl, hS, ok, q⟩ := h
    refine ⟨_, (pss_one (ps_ret (pe_and (pe_call G_is_names (hr.mono (by decide)) (by rfl) D_is_names.g D_is_names.F.kp D_is_names.b .nil pass0 (pa_cons (pv 0) pa_nil)) (pe_one (pe_chain op_le op_le pe_int (pe_callB call_len_seq (by rfl) B.len_ (by decide +kernel) (pa_cons (pv 0) pa_nil)) (pe_glob (v := .int 6) rfl C_MAX_STATES ⟨_, rfl⟩)))))), ?_⟩
    obtain ⟨p, rfl, h1, h2⟩ := hS
    have hok : okNames ss = true := okNames_mk (by have := ok.l6; omega) ok.w ok.nd
    refine ⟨_, rfl, .ref p, okNames ss, rfl, .strsB h1 h2 (fun s hs => Nat.le_trans (isW_len (ok.w s hs)).2 (by decide)), fun H1 s1 => ⟨_, rfl, ?_⟩⟩
    rw [hok]
    have l1 := ok.l1
    have l6 := ok.l6
    refine ⟨_, rfl, p, _, rfl, .inr (gSeqT s1 h1), _, _, rfl, rfl, _, rfl, ?_⟩
    rw [List.length_map]
    refine ite2 (fun _ => ⟨_, _, rfl, rfl, ?_⟩) (fun no => ?_)
    · have e : decide ((ss.length : Int) ≤ 6) = true := decide_eq_true (by omega)
      show Q (.bl (decide ((ss.length : Int) ≤ 6))) H1
      rw [e]
      exact q H1 s1
    · exact absurd (decide_eq_true (by omega)) no
theorem ok_are_owners {f fN fS : Addr} {fd fdN fdS : FuncData} (B : Blt mg) (D_is_name : Df K mg "is_name" s_is_name ["value"] fN fdN) (G_is_name : FnOk P w K mg base CX0 1 fN fdN ["value"] (spIsName K)) (D_are_states : Df K mg "_are_states" s_are_states ["value"] fS fdS) (G_are_states : FnOk P w K mg base CX0 3 fS fdS ["value"] (spStates K))
    (D : Df K mg "_are_owners" s_are_owners ["value", "limit"] f fd) : FnOk P w K mg base CX0 4 f fd ["value", "limit"] (spOwners K) := by
  refine D.F.ok sc_are_owners (fun vs H Q E h => ?_) (fun cdv A outer s H vs Q E hr h => ?_)
  · obtain ⟨d, n, kvs, os, rfl, _⟩ := h
    rfl
  · obtain ⟨d, n, kvs, os, rfl, hD, hP, hl, hl2, ok, q⟩ := h
    refine ⟨_, (pss_cons (ps_if (PW.pt (pw_or (pt_not (pt_val (pe_callB call_isi (by rfl) B.isinstance_ (by decide +kernel) (pa_cons (pv 0) (pa_cons (pe_bltn (v := .ty "dict") rfl B.dict_ (by decide +kernel) rfl) pa_nil))) (by intro _; rfl))) (pw_or1 (pt_cmpR op_gt (pe_callB call_lenD (by rfl) B.len_ (by decide +kernel) (pa_cons (pv 0) pa_nil)) (pv 1) (nomark _)))))
    (pss_one (ps_ret pe_bl)) pss_nil)
    (pss_one (ps_ret (pe_callB (cr_all rfl) (by rfl) B.all_ (by decide +kernel) (pa_cons (pe_lock (pe_lc (own := [("name", 2), ("states", 3)]) (g := gTup K 2 (gCons (gName 2) (gCons (gName 3) gNil))) (tt := tYes) (by rfl) sc_are_owners.nd (pi_items (pv 0)) (blkOk_by (N := ["value", "limit", "name", "states"]) (sc := defScope s_are_owners) (by decide +kernel)) (fun _ _ _ _ _ => (pg_tup (by rfl) (pgs_cons (pg_name (i := 2) sc_are_owners.nd rfl (Or.inl rfl)) (pgs_cons (pg_name (i := 3) sc_are_owners.nd rfl (Or.inl rfl)) pgs_nil)))) (fun _ _ _ _ _ => pts_nil) (fun _ _ _ _ _ => (pe_and (pe_call G_is_name (hr.mono (by decide)) (by rfl) D_is_name.g D_is_name.F.kp D_is_name.b .nil pass0 (pa_cons (pv 2) pa_nil)) (pe_one (pe_call G_are_states (hr.mono (by decide)) (by rfl) D_are_states.g D_are_states.F.kp D_are_states.b .nil pass0 (pa_cons (pv 3) pa_nil))))))) pa_nil))))), ?_⟩
    have hlk := hP.length
    refine ⟨_, rfl, .ref d, .ty "dict", _, _, true, rfl, .ty "dict", .base (.dK hD), kit_ty (by decide +kernel), _, rfl, ?_⟩
    refine ⟨_, rfl, d, kvs, rfl, hD, _, rfl, _, _, rfl, rfl, _, rfl, ite2 (fun h1 => ?_) (fun h1 => ?_)⟩
    · have := of_decide_eq_true h1
      omega
    refine ⟨d, _, hD, trivial, fun od => ⟨_, rfl, d, od, kvs, rfl, upd_same, fun D hDn => ?_⟩⟩
    have hLx : ExtD H (upd H d (.frz od (.dK kvs))) := ExtD.lock hD
    have hLd : (upd H d (.frz od (.dK kvs))) d = some (.frz od (.dK kvs)) := upd_same
    have hun : ∀ H', Same (upd H d (.frz od (.dK kvs))) H' → Same H (upd H' d (.dK kvs)) := fun H' s' => same_unlock hD s'
    generalize upd H d (.frz od (.dK kvs)) = HL at hLx hLd hun hDn
    refine lc_it (n := kvs.length) walk_itemsK (fun i H5 => Same HL H5 ∧ H5 D = some (.lst ((List.replicate i true).map V.bl))) ⟨gSame_new hDn, upd_same⟩ (fun i H5 _ h5 => h5.1 _ _ hLd) (fun i x H5 H' hi h5 hy => ?_) (fun H5 h5 => ?_)
    · obtain ⟨s5, d5⟩ := h5
      obtain ⟨T, kv, hkv, rfl, hT, rfl⟩ := hy
      obtain ⟨o, ho, r1, r2⟩ := paired_get hP hkv
      have s6 : Same HL (upd H5 T (.tup [kV kv.1, kv.2])) := s5.trans (gSame_new hT)
      have d6 : (upd H5 T (.tup [kV kv.1, kv.2])) D = some (.lst ((List.replicate i true).map V.bl)) := gSame_new hT _ _ d5
      have t6 : (upd H5 T (.tup [kV kv.1, kv.2])) T = some (.tup [kV kv.1, kv.2]) := upd_same
      generalize upd H5 T (.tup [kV kv.1, kv.2]) = H6 at s6 d6 t6
      obtain ⟨wo, oo⟩ := ok o (List.mem_of_getElem? ho)
      rw [r1] at t6
      refine ⟨T, _, rfl, SqT.of t6, rfl, _, _, rfl, _, _, rfl, rfl, rfl, ?_⟩
      have r3 : StR K H6 kv.2 o.2 := strR_extD (hLx.trans (ExtD.of s6)) r2
      refine ⟨_, rfl, .str o.1, true, rfl, .inl ⟨o.1, rfl, Nat.le_trans (isW_len wo).2 (by decide), wo.symm⟩, fun H7 s7 => ⟨_, rfl, ?_⟩⟩
      refine ⟨_, rfl, kv.2, o.2, rfl, r3.same s7, oo, fun H8 s8 => ?_⟩
      have s78 := s7.trans s8
      refine ⟨_, s78 _ _ d6, ?_, gSame_mut (s6.trans s78) hDn, ?_⟩
      · rw [List.length_map, List.length_replicate]
        exact small1000 (by omega)
      · rw [upd_same, List.replicate_succ', List.map_append]
        rfl
    · obtain ⟨s5, d5⟩ := h5
      refine ⟨s5 _ _ hLd, ?_⟩
      refine ⟨D, List.replicate kvs.length true, rfl, ?_, ?_⟩
      · refine SqL.of ?_
        rw [upd_ne fun z => by rw [z, hLd] at hDn; cases hDn]
        exact d5
      · have e : (List.replicate kvs.length true).all id = true := List.all_eq_true.mpr fun b hb => List.eq_of_mem_replicate hb
        rw [e]
        exact q _ (hun _ s5)
end
end Gk

set_option Elab.async false
set_option linter.all false
set_option maxRecDepth 100000
set_option maxHeartbeats 8000000
namespace Gk
open PySem PySem.Spec PyProof.Rows L2
abbrev s_are_actions : Stmt := topS 29
theorem sc_are_actions : FnScope ["value", "action"] ["value"] (defScope s_are_actions) := ⟨rfl, rfl, rfl, by decide +kernel, rfl, by decide +kernel, by decide +kernel⟩
abbrev s_does_fit : Stmt := topS 31
theorem sc_does_fit : FnScope ["action", "agents", "pools", "alone", "shared", "states", "move", "owner", "source", "goal"] ["action", "agents", "pools"] (defScope s_does_fit) := ⟨rfl, rfl, rfl, by decide +kernel, rfl, by decide +kernel, by decide +kernel⟩
abbrev s_is_system : Stmt := topS 30
theorem sc_is_system : FnScope ["agents", "pools", "actions", "name", "action"] ["agents", "pools", "actions"] (defScope s_is_system) := ⟨rfl, rfl, rfl, by decide +kernel, rfl, by decide +kernel, by decide +kernel⟩
/-- what the text's top has left of the class Action -/
structure ActK (K : PySem.W.Frag) (mg : Str → Option Value) (C fI fC pC fM pM fL fE fS : Addr) (dI dC dM dL dE dS : FuncData) : Prop where
  g : mg "Action" = some (.ref C)
  AC : ActC K C
  IC : C8.InsC K C
  M : Mk K C fI
  BI : Binds K dI ["self", "called", "moves"] []
  P_called : PropOf K C "called" pC fC
  B_called : Binds K dC ["self"] []
  P_moves : PropOf K C "moves" pM fM
  B_moves : Binds K dM ["self"] []
  OL : OwnD K C "__len__" fL
  BL : Binds K dL ["self"] []
  OE : OwnD K C "__eq__" fE
  BE : Binds K dE ["self", "other"] []
  OS : OwnD K C "__str__" fS
  BS : Binds K dS ["self"] []
  FM : PySem.W.findIn K (.ref C) "__format__" = some (some (.builtin "object.__format__"))
abbrev Act := Str × List Mv
def AcR (K : PySem.W.Frag) (H : Hp) (C : Addr) (v : V) (x : Act) : Prop := ∃ a, v = .ref a ∧ ActV K H C a x.1 x.2
theorem AcR.same {K : PySem.W.Frag} {H H' : Hp} {C : Addr} {v : V} {x : Act} (s : Same H H') (h : AcR K H C v x) : AcR K H' C v x := by
  obtain ⟨a, rfl, h⟩ := h
  exact ⟨a, rfl, h.same s⟩
theorem actV_extD {K : PySem.W.Frag} {H H' : Hp} {C a : Addr} {c : Str} {ms : List Mv} (e : ExtD H H') (h : ActV K H C a c ms) : ActV K H' C a c ms := by
  obtain ⟨dx, p, ys, h1, h2, h3, h4, h5⟩ := h
  exact ⟨dx, p, ys, e _ _ h1 (fun _ z => by cases z), sqT_extD e h2, tyT_extD e h3, paired_mono (fun _ _ h => mvR_extD e h) h4, h5⟩
theorem AcR.extD {K : PySem.W.Frag} {H H' : Hp} {C : Addr} {v : V} {x : Act} (e : ExtD H H') (h : AcR K H C v x) : AcR K H' C v x := by
  obtain ⟨a, rfl, h⟩ := h
  exact ⟨a, rfl, actV_extD e h⟩
theorem ActV.ins {K : PySem.W.Frag} {H : Hp} {C a : Addr} {c : Str} {ms : List Mv} (v : ActV K H C a c ms) : InsAt C H a := by
  obtain ⟨dx, p, ys, h1, _⟩ := v
  exact ⟨dx, _, h1⟩
theorem ActV.sp {K : PySem.W.Frag} {H : Hp} {C a : Addr} {c : Str} {ms : List Mv} {Q : VK} {E : XK} {G : Str → List Mv → Addr → List V → Hp → VK → Prop} (v : ActV K H C a c ms) (q : ∀ p ys, SqT K H p ys → TyX K H (.ref p) (.type "tuple") → Paired (MvR K H) ys ms → G c ms p ys H Q) : spGet K C G [.ref a] H Q E := by
  obtain ⟨dx, p, ys, h1, h2, h3, h4, h5, h6, h7⟩ := v
  exact ⟨a, p, c, ms, ys, dx, rfl, h1, h2, h3, h4, h5, h6, h7, q p ys h2 h3 h4⟩
theorem ActV.prop {K : PySem.W.Frag} {H : Hp} {C a : Addr} {c : Str} {ms : List Mv} {Q : VK} {E : XK} {G : Str → List Mv → Addr → List V → Hp → VK → Prop} (v : ActV K H C a c ms) (q : ∀ p ys, SqT K H p ys → TyX K H (.ref p) (.type "tuple") → Paired (MvR K H) ys ms → G c ms p ys H Q) : ∃ a' dx fs, V.ref a = .ref a' ∧ H a' = some (.ins C dx fs) ∧ spGet K C G (.ref a' :: []) H Q E := by
  obtain ⟨dx, fs, e⟩ := v.ins
  exact ⟨a, dx, fs, rfl, e, v.sp q⟩
theorem act_ty {K : PySem.W.Frag} {H : Hp} {C a : Addr} {c : Str} {ms : List Mv} (IC : C8.InsC K C) (v : ActV K H C a c ms) : TyX K H (.ref a) (.ref C) := by
  obtain ⟨dx, fs, e⟩ := v.ins
  exact .base (.ins e IC.cl IC.ha IC.hn IC.htk IC.hm)
theorem valV_own {K : PySem.W.Frag} {H : Hp} {x : Str} : ∀ {kvs : List (Key × V)} {os : List Own}, Paired (OwR K H) kvs os → (∃ v o, o ∈ os ∧ o.1 = x ∧ valV kvs (Sum.inr x) = some v ∧ StR K H v o.2) ∨ (x ∉ os.map (·.1) ∧ valV kvs (Sum.inr x) = none)
  | _, _, .nil => .inr ⟨by simp, rfl⟩
  | _, _, .cons (a := kv) (b := o) (l₁ := kvs) (l₂ := os) h t => by
    obtain ⟨h1, h2⟩ := h
    by_cases e : o.1 = x
    · refine .inl ⟨kv.2, o, List.mem_cons_self .., e, ?_, h2⟩
      unfold valV
      rw [List.find?_cons, decide_eq_true (by rw [h1, e])]
      rfl
    · have ev : valV (kv :: kvs) (Sum.inr x) = valV kvs (Sum.inr x) := by
        unfold valV
        rw [List.find?_cons, decide_eq_false (by rw [h1]; exact fun z => e (Sum.inr.inj z))]
      rcases valV_own (x := x) t with ⟨v, o', m, e1, e2, e3⟩ | ⟨n, e2⟩
      · exact .inl ⟨v, o', List.mem_cons_of_mem _ m, e1, by rw [ev]; exact e2, e3⟩
      · refine .inr ⟨fun hm => ?_, by rw [ev]; exact e2⟩
        rcases List.mem_cons.mp hm with z | z
        · exact e z.symm
        · exact n z
theorem valV_in {K : PySem.W.Frag} {H : Hp} {x : Str} {kvs : List (Key × V)} {os : List Own} (hP : Paired (OwR K H) kvs os) : (valV kvs (Sum.inr x)).isSome = decide (x ∈ os.map (·.1)) := by
  rcases valV_own (x := x) hP with ⟨v, o, m, e1, e2, _⟩ | ⟨n, e2⟩
  · rw [e2, decide_eq_true (List.mem_map.mpr ⟨o, m, e1⟩)]
    rfl
  · rw [e2, decide_eq_false n]
    rfl
theorem own_one {os : List Own} (nd : (os.map (·.1)).Nodup) {a b : Own} (ha : a ∈ os) (hb : b ∈ os) (e : a.1 = b.1) : a = b := by
  induction os with
  | nil => cases ha
  | cons o r ih =>
    rw [List.map_cons, List.nodup_cons] at nd
    rcases List.mem_cons.mp ha with h1 | h1
    · rcases List.mem_cons.mp hb with h2 | h2
      · rw [h1, h2]
      · exact absurd (List.mem_map.mpr ⟨b, h2, by rw [← e, h1]⟩) nd.1
    · rcases List.mem_cons.mp hb with h2 | h2
      · exact absurd (List.mem_map.mpr ⟨a, h1, by rw [e, h2]⟩) nd.1
      · exact ih nd.2 h1 h2
theorem valV_at {K : PySem.W.Frag} {H : Hp} {kvs : List (Key × V)} {os : List Own} (hP : Paired (OwR K H) kvs os) (nd : (os.map (·.1)).Nodup) {o : Own} (ho : o ∈ os) : ∃ v, valV kvs (Sum.inr o.1) = some v ∧ StR K H v o.2 := by
  rcases valV_own (x := o.1) hP with ⟨v, o', m, e1, e2, e3⟩ | ⟨n, _⟩
  · rw [own_one nd m ho e1] at e3
    exact ⟨v, e2, e3⟩
  · exact absurd (List.mem_map.mpr ⟨o, ho, rfl⟩) n
/-- the parts of a system that can be -/
structure OkSys (ag pl : List Own) (as : List Act) : Prop where
  la : ag.length ≤ 5
  lp : pl.length ≤ 3
  l1 : 1 ≤ as.length
  l16 : as.length ≤ 16
  oa : ∀ o ∈ ag, isW o.1 = true ∧ OkSt o.2
  op : ∀ o ∈ pl, isW o.1 = true ∧ OkSt o.2
  nda : (ag.map (·.1)).Nodup
  ndp : (pl.map (·.1)).Nodup
  ndx : (as.map (·.1)).Nodup
  dis : ∀ n ∈ ag.map (·.1), n ∉ pl.map (·.1)
/-- an action fits its owners -/
structure Fit (ag pl : List Own) (ms : List Mv) : Prop where
  own : ∀ m ∈ ms, ∃ o ∈ ag ++ pl, o.1 = m.1 ∧ m.2.1 ∈ o.2 ∧ m.2.2 ∈ o.2
  alone : ((ms.map (·.1)).filter fun n => decide (n ∈ ag.map (·.1))).Nodup
  shared : ((ms.map (·.1)).filter fun n => decide (n ∈ pl.map (·.1))).length ≤ 3
def spFit (K : PySem.W.Frag) (C : Addr) : Sp := fun vs H Q _ => ∃ (a da dp : Addr) (c : Str) (ms : List Mv) (ka kp : List (Key × V)) (ag pl : List Own), vs = [.ref a, .ref da, .ref dp] ∧ ActV K H C a c ms ∧ H da = some (.dK ka) ∧ H dp = some (.dK kp) ∧ Paired (OwR K H) ka ag ∧ Paired (OwR K H) kp pl ∧
  (ag.map (·.1)).Nodup ∧ (pl.map (·.1)).Nodup ∧ (∀ n ∈ ag.map (·.1), n ∉ pl.map (·.1)) ∧ ag.length ≤ 5 ∧ pl.length ≤ 3 ∧ Fit ag pl ms ∧ ∀ H', Same H H' → Q (.bl true) H'
def spActions (K : PySem.W.Frag) (C : Addr) : Sp := fun vs H Q _ => ∃ (p : Addr) (xs : List V) (as : List Act), vs = [.ref p] ∧ SqT K H p xs ∧ TyX K H (.ref p) (.type "tuple") ∧ Paired (AcR K H C) xs as ∧ 1 ≤ as.length ∧ as.length ≤ 16 ∧ (as.map (·.1)).Nodup ∧ ∀ H', Same H H' → Q (.bl true) H'
section
variable {P : Program} {w : World} {K : PySem.W.Frag} {mg : Str → Option Value} {base : Heap}
theorem ok_are_actions {C_Action fI fC pC fM pM fL fE fS f : Addr} {dI dC dM dL dE dS fd : FuncData} {tl : Tok} (B : Blt mg) (TA : ActK K mg C_Action fI fC pC fM pM fL fE fS dI dC dM dL dE dS) (C_MAX_ACTIONS : mg "MAX_ACTIONS" = some (.int 16 tl))
    (G_called : FnOk P w K mg base CX0 1 fC dC ["self"] (spGet K C_Action gCalled))
    (D : Df K mg "_are_actions" s_are_actions ["value"] f fd) : FnOk P w K mg base CX0 3 f fd ["value"] (spActions K C_Action) := by
  have g_Action := TA.g
  refine D.F.ok sc_are_actions (fun vs H Q E h => ?_) (fun cdv A outer s H vs Q E hr h => ?_)
  · obtain ⟨p, xs, as, rfl, _⟩ := h
    rfl
  · obtain ⟨p, xs, as, rfl, hS, hT, hP, l1, l16, nd, q⟩ := h
    refine ⟨_, (pss_cons (ps_if (PW.pt (pw_or (pt_not (pt_val (pe_callB call_isi (by rfl) B.isinstance_ (by decide +kernel) (pa_cons (pv 0) (pa_cons (pe_bltn (v := .ty "tuple") rfl B.tuple_ (by decide +kernel) rfl) pa_nil))) (by intro _; rfl))) (pw_or1 (pt_not (pt_chain op_le op_le pe_int (pe_callB call_len_seq (by rfl) B.len_ (by decide +kernel) (pa_cons (pv 0) pa_nil)) (pe_glob (v := .int 16) rfl C_MAX_ACTIONS ⟨_, rfl⟩))))))
    (pss_one (ps_ret pe_bl)) pss_nil)
    (pss_cons (ps_if (pt_not (pt_val (pe_callB (cr_all rfl) (by rfl) B.all_ (by decide +kernel) (pa_cons (pe_lc (own := [("action", 1)]) (g := gName 1) (tt := tYes) (by rfl) sc_are_actions.nd (pi_tup (pv 0)) (blkOk_by (N := ["value", "action"]) (sc := defScope s_are_actions) (by decide +kernel)) (fun _ _ _ _ _ => (pg_name (i := 1) sc_are_actions.nd rfl (Or.inl rfl))) (fun _ _ _ _ _ => pts_nil) (fun _ _ _ _ _ => (pe_callB (call_isiK' K rfl) (by rfl) B.isinstance_ (by decide +kernel) (pa_cons (pv 1) (pa_cons (pe_glob (v := .ref C_Action) rfl g_Action rfl) pa_nil))))) pa_nil)) (by intro _; rfl)))
    (pss_one (ps_ret pe_bl)) pss_nil)
    (pss_one (ps_ret (pe_cmpR op_eq (pe_callB (cr_lenSS rfl) (by rfl) B.len_ (by decide +kernel) (pa_cons (pe_setc (own := [("action", 1)]) (g := gName 1) (tt := tYes) iniS_ok addS_ok (by rfl) sc_are_actions.nd (pi_tup (pv 0)) (blkOk_by (N := ["value", "action"]) (sc := defScope s_are_actions) (by decide +kernel)) (fun _ _ _ _ _ => (pg_name (i := 1) sc_are_actions.nd rfl (Or.inl rfl))) (fun _ _ _ _ _ => pts_nil) (fun _ _ _ _ _ => (pe_prop (pv 1) TA.AC.cl TA.P_called G_called (hr.mono (by decide)) TA.B_called .nil pass0 rfl))) pa_nil)) (pe_callB call_len_seq (by rfl) B.len_ (by decide +kernel) (pa_cons (pv 0) pa_nil)) (nomark _)))))), ?_⟩
    have hlx := hP.length
    refine ⟨_, rfl, .ref p, .ty "tuple", _, _, true, rfl, .ty "tuple", hT, kit_ty (by decide +kernel), _, rfl, ?_⟩
    have e1 : decide ((1 : Int) ≤ (xs.length : Nat)) = true := decide_eq_true (by omega)
    have e2 : decide (((xs.length : Nat) : Int) ≤ 16) = true := decide_eq_true (by omega)
    refine ⟨_, rfl, p, xs, rfl, .inr hS, _, _, rfl, rfl, _, rfl, ite2 (fun _ => ⟨_, _, rfl, rfl, _, rfl, ite2 (fun h2 => ?_) (fun h2 => ?_)⟩) (fun h1 => absurd e1 h1)⟩
    · have h2' : (!decide (((xs.length : Nat) : Int) ≤ 16)) = true := h2
      rw [e2] at h2'
      cases h2'
    -- all are actions
    refine ⟨_, rfl, p, rfl, ⟨xs, hS⟩, fun D hD => ?_⟩
    refine lc_tup (K := K) (a := p) (xs := xs) (fun j H5 => Same H H5 ∧ H5 D = some (.lst ((List.replicate j true).map V.bl))) ⟨gSame_new hD, upd_same⟩ (fun j H5 _ h5 => gSeqT h5.1 hS) (fun j x H5 hx h5 => ?_) (fun H5 h5 => ?_)
    · obtain ⟨s5, d5⟩ := h5
      obtain ⟨ac, hac, a, rfl, va⟩ := paired_get hP hx
      have hj : j < xs.length := (List.getElem?_eq_some_iff.mp hx).1
      refine ⟨rfl, _, rfl, .ref a, .ref C_Action, _, .ref C_Action, true, rfl, .own _, act_ty TA.IC (va.same s5), TA.IC.me, _, d5, ?_, gSame_mut s5 hD, ?_⟩
      · rw [List.length_map, List.length_replicate]
        exact small1000 (by omega)
      · rw [upd_same, List.replicate_succ', List.map_append]
        rfl
    · obtain ⟨s5, d5⟩ := h5
      refine ⟨D, List.replicate xs.length true, rfl, SqL.of d5, ?_⟩
      have e : (List.replicate xs.length true).all id = true := List.all_eq_true.mpr fun b hb => List.eq_of_mem_replicate hb
      rw [e]
      have hS5 := gSeqT s5 hS
      refine ⟨_, rfl, _, rfl, p, rfl, ⟨xs, hS5⟩, fun D2 hD2 => ?_⟩
      refine setc_tup (K := K) (a := p) (xs := xs) (fun i H6 => Same H5 H6 ∧ ∃ S, H6 D2 = some (SetSO P w D2 S i) ∧ ∀ k, S k = true ↔ k ∈ (as.take i).map fun m => m.1) ⟨gSame_new hD2, _, upd_same, fun k => by simp⟩ (fun i H6 _ h6 => gSeqT h6.1 hS5) (fun i x H6 hx h6 => ?_) (fun H6 h6 => ?_)
      · obtain ⟨s6, S, d6, hm⟩ := h6
        obtain ⟨ac, hac, a, rfl, va⟩ := paired_get hP hx
        have hi : i < as.length := (List.getElem?_eq_some_iff.mp hac).1
        refine ⟨rfl, _, rfl, ((va.same s5).same s6).prop fun _ _ _ _ _ => ?_⟩
        refine ⟨_, S, i, rfl, d6, ?_, gSame_mut s6 hD2, (fun j => S j || decide (j = ac.1)), ?_, fun k => ?_⟩
        · unfold scanBound
          omega
        · have hc : S ac.1 = false := by
            cases q : S ac.1 with
            | false => rfl
            | true =>
              have h1 := (hm ac.1).mp q
              have h2 := nd
              rw [← List.take_append_drop i as, List.map_append, List.nodup_append] at h2
              have h3 : ac ∈ as.drop i := by
                rw [List.drop_eq_getElem_cons hi]
                have e : as[i] = ac := by
                  rw [List.getElem?_eq_getElem hi] at hac
                  exact Option.some.inj hac
                rw [e]
                exact List.mem_cons_self ..
              exact absurd rfl (h2.2.2 _ h1 _ (List.mem_map.mpr ⟨ac, h3, rfl⟩))
          rw [upd_same, hc]
          rfl
        · rw [List.take_add_one, hac, List.map_append, Bool.or_eq_true, hm k, List.mem_append, decide_eq_true_eq]
          simp
      · obtain ⟨s6, S, d6, hm⟩ := h6
        refine ⟨D2, S, xs.length, rfl, d6, by omega, _, rfl, p, xs, rfl, .inr (gSeqT s6 hS5), ?_⟩
        refine ⟨rfl, ?_⟩
        rw [decide_eq_true rfl]
        exact q _ (s5.trans s6)
theorem own_keys {K : PySem.W.Frag} {H : Hp} : ∀ {kvs : List (Key × V)} {os : List Own}, Paired (OwR K H) kvs os → kvs.map (·.1) = os.map fun o => Sum.inr o.1
  | _, _, .nil => rfl
  | _, _, .cons h t => by rw [List.map_cons, List.map_cons, h.1, own_keys t]
theorem own_nodup {K : PySem.W.Frag} {H : Hp} {ka kp : List (Key × V)} {ag pl : List Own} (pA : Paired (OwR K H) ka ag) (pP : Paired (OwR K H) kp pl) (nda : (ag.map (·.1)).Nodup) (ndp : (pl.map (·.1)).Nodup) (dis : ∀ n ∈ ag.map (·.1), n ∉ pl.map (·.1)) : ((ka ++ kp).map (·.1)).Nodup := by
  have inj : Function.Injective (Sum.inr : Str → Key) := fun a b h => Sum.inr.inj h
  have e : (ka ++ kp).map (·.1) = ((ag ++ pl).map (·.1)).map (Sum.inr : Str → Key) := by
    rw [List.map_append, own_keys pA, own_keys pP, List.map_append, List.map_append, List.map_map, List.map_map]
    rfl
  rw [e]
  refine List.Pairwise.map (R := fun a b : Str => a ≠ b) (S := fun a b : Key => a ≠ b) _ (fun a b h z => h (Sum.inr.inj z)) ?_
  show ((ag ++ pl).map (·.1)).Nodup
  rw [List.map_append, List.nodup_append]
  exact ⟨nda, ndp, fun a ha b hb e => dis a ha (e ▸ hb)⟩
theorem paired_app {α β : Type} {R : α → β → Prop} : ∀ {xs ys : List α} {as bs : List β}, Paired R xs as → Paired R ys bs → Paired R (xs ++ ys) (as ++ bs)
  | _, _, _, _, .nil, h => h
  | _, _, _, _, .cons h t, h2 => .cons h (paired_app t h2)
theorem fit_len {A B : List Str} : ∀ {ns : List Str}, (∀ n ∈ ns, (n ∈ A ∧ n ∉ B) ∨ (n ∉ A ∧ n ∈ B)) → (ns.filter fun n => decide (n ∈ A)).length + (ns.filter fun n => decide (n ∈ B)).length = ns.length
  | [], _ => rfl
  | n :: ns, h => by
    have ih := fit_len (ns := ns) fun x hx => h x (List.mem_cons_of_mem _ hx)
    rcases h n (List.mem_cons_self ..) with ⟨h1, h2⟩ | ⟨h1, h2⟩
    · rw [List.filter_cons, List.filter_cons, decide_eq_true h1, decide_eq_false h2, if_pos rfl, if_neg Bool.false_ne_true, List.length_cons, List.length_cons]
      omega
    · rw [List.filter_cons, List.filter_cons, decide_eq_false h1, decide_eq_true h2, if_pos rfl, if_neg Bool.false_ne_true, List.length_cons, List.length_cons]
      omega
theorem mvF_len {ag : List Own} {ms : List Mv} {j n : Nat} : (((ms.take j).map (·.1)).filter fun n => decide (n ∈ ag.map (·.1))).length ≤ ms.length :=
  Nat.le_trans (List.length_filter_le ..) (by rw [List.length_map, List.length_take]; omega)
theorem ok_does_fit {C_Action fI fC pC fM pM fL fE fS f : Addr} {dI dC dM dL dE dS fd : FuncData} {tl : Tok} (B : Blt mg) (TA : ActK K mg C_Action fI fC pC fM pM fL fE fS dI dC dM dL dE dS) (C_MAX_SHARED : mg "MAX_SHARED" = some (.int 3 tl))
    (G_moves : FnOk P w K mg base CX0 1 fM dM ["self"] (spGet K C_Action gMoves)) (G_len : FnOk P w K mg base CX0 1 fL dL ["self"] (spGet K C_Action gLen))
    (D : Df K mg "_does_fit" s_does_fit ["action", "agents", "pools"] f fd) : FnOk P w K mg base CX0 3 f fd ["action", "agents", "pools"] (spFit K C_Action) := by
  refine D.F.ok sc_does_fit (fun vs H Q E h => ?_) (fun cdv A outer s H vs Q E hr h => ?_)
  · obtain ⟨a, da, dp, c, ms, ka, kp, ag, pl, rfl, _⟩ := h
    rfl
  · obtain ⟨a, da, dp, c, ms, ka, kp, ag, pl, rfl, va, hA, hPl, qA, qP, nda, ndp, dis, la, lp, fit, q⟩ := h
    refine ⟨_, (pss_cons (ps_setLc (i := 3) (own := [("move", 6)]) (g := gName 6)  (by rfl) sc_does_fit.nd rfl rfl (sw_true rfl rfl rfl (by decide +kernel)) (pi_tup (pe_prop (pv 0) TA.AC.cl TA.P_moves G_moves (hr.mono (by decide)) TA.B_moves .nil pass0 rfl)) (blkOk_by (N := ["action", "agents", "pools", "alone", "shared", "states", "move", "owner", "source", "goal"]) (sc := defScope s_does_fit) (by decide +kernel)) (fun _ _ _ _ _ => (pg_name (i := 6) sc_does_fit.nd rfl (Or.inl rfl))) (fun _ _ _ _ _ => pts_one (pt_cmp (pc_din (hu_of hr) (pe_ix (ix_tupK K rfl) (pv 6) pe_int (fun _ _ => rfl)) (pv 1)))) (fun _ _ _ _ _ => (pe_ix (ix_tupK K rfl) (pv 6) pe_int (fun _ _ => rfl))))
    (pss_cons (ps_setLc (i := 4) (own := [("move", 6)]) (g := gName 6)  (by rfl) sc_does_fit.nd rfl rfl (sw_true rfl rfl rfl (by decide +kernel)) (pi_tup (pe_prop (pv 0) TA.AC.cl TA.P_moves G_moves (hr.mono (by decide)) TA.B_moves .nil pass0 rfl)) (blkOk_by (N := ["action", "agents", "pools", "alone", "shared", "states", "move", "owner", "source", "goal"]) (sc := defScope s_does_fit) (by decide +kernel)) (fun _ _ _ _ _ => (pg_name (i := 6) sc_does_fit.nd rfl (Or.inl rfl))) (fun _ _ _ _ _ => pts_one (pt_cmp (pc_din (hu_of hr) (pe_ix (ix_tupK K rfl) (pv 6) pe_int (fun _ _ => rfl)) (pv 2)))) (fun _ _ _ _ _ => (pe_ix (ix_tupK K rfl) (pv 6) pe_int (fun _ _ => rfl))))
    (pss_cons (ps_if (PW.pt (pw_or (pt_cmpR op_lt (pe_op op_add (pe_callB call_len_seq (by rfl) B.len_ (by decide +kernel) (pa_cons (pv 3) pa_nil)) (pe_callB call_len_seq (by rfl) B.len_ (by decide +kernel) (pa_cons (pv 4) pa_nil))) (pe_callB (cr_lenO TA.OL G_len TA.BL pass0 (hr.mono (by decide))) (by rfl) B.len_ (by decide +kernel) (pa_cons (pv 0) pa_nil)) (nomark _)) (pw_or (pt_cmpR op_lt (pe_lenSetA (by rfl) (by rfl) B.len_ (by rfl) B.set_ (pv 3)) (pe_callB call_len_seq (by rfl) B.len_ (by decide +kernel) (pa_cons (pv 3) pa_nil)) (nomark _)) (pw_or1 (pt_cmpR op_gt (pe_callB call_len_seq (by rfl) B.len_ (by decide +kernel) (pa_cons (pv 4) pa_nil)) (pe_glob (v := .int 3) rfl C_MAX_SHARED ⟨_, rfl⟩) (nomark _))))))
    (pss_one (ps_ret pe_bl)) pss_nil)
    (pss_cons (ps_set (i := 5) sc_does_fit.nd rfl (Or.inr rfl) (pe_dmerge2 (pv 1) (pv 2)))
    (pss_one (ps_ret (pe_callB (cr_all rfl) (by rfl) B.all_ (by decide +kernel) (pa_cons (pe_lc (own := [("owner", 7), ("source", 8), ("goal", 9)]) (g := gTup K 3 (gCons (gName 7) (gCons (gName 8) (gCons (gName 9) gNil)))) (tt := tYes) (by rfl) sc_does_fit.nd (pi_tup (pe_prop (pv 0) TA.AC.cl TA.P_moves G_moves (hr.mono (by decide)) TA.B_moves .nil pass0 rfl)) (blkOk_by (N := ["action", "agents", "pools", "alone", "shared", "states", "move", "owner", "source", "goal"]) (sc := defScope s_does_fit) (by decide +kernel)) (fun _ _ _ _ _ => (pg_tup (by rfl) (pgs_cons (pg_name (i := 7) sc_does_fit.nd rfl (Or.inl rfl)) (pgs_cons (pg_name (i := 8) sc_does_fit.nd rfl (Or.inl rfl)) (pgs_cons (pg_name (i := 9) sc_does_fit.nd rfl (Or.inl rfl)) pgs_nil))))) (fun _ _ _ _ _ => pts_nil) (fun _ _ _ _ _ => (pe_and (pe_cmpR (op_in_seqK K rfl) (pv 8) (pe_dget (hu_of hr) (pv 5) (pv 7) (fun _ _ => rfl)) (by rfl)) (pe_one (pe_cmpR (op_in_seqK K rfl) (pv 9) (pe_dget (hu_of hr) (pv 5) (pv 7) (fun _ _ => rfl)) (by rfl)))))) pa_nil)))))))), ?_⟩
    have hml : ms.length ≤ 4 := by
      obtain ⟨_, _, _, _, _, _, _, h5, _⟩ := va
      exact h5
    -- alone
    refine ⟨_, rfl, va.prop fun pA ysA hA1 hA2 hA3 => ⟨pA, rfl, ⟨ysA, hA1⟩, fun DA hDA => ?_⟩⟩
    have hlyA := hA3.length
    refine lc_tup (K := K) (a := pA) (xs := ysA) (fun j H5 => Same H H5 ∧ H5 DA = some (.lst ((((ms.take j).map (·.1)).filter fun n => decide (n ∈ ag.map (·.1))).map V.str))) ⟨gSame_new hDA, upd_same⟩ (fun j H5 _ h5 => gSeqT h5.1 hA1) (fun j x H5 hx h5 => ?_) (fun H1 h5 => ?_)
    · obtain ⟨s5, d5⟩ := h5
      obtain ⟨m, hm, b, rfl, m1, m2⟩ := paired_get hA3 hx
      have ml := mvF_len (n := ms.length) (ms := ms) (j := j) (ag := ag)
      have ez : ∀ c : Bool, c = decide (m.1 ∈ ag.map (·.1)) → (((ms.take (j + 1)).map (·.1)).filter fun n => decide (n ∈ ag.map (·.1))) = (((ms.take j).map (·.1)).filter fun n => decide (n ∈ ag.map (·.1))) ++ (if c = true then [m.1] else []) := fun c hc => by
        rw [List.take_add_one, hm, List.map_append, List.filter_append]
        show _ ++ List.filter _ [m.1] = _
        rw [List.filter_cons, ← hc, List.filter_nil]
      refine ⟨rfl, _, rfl, b, _, 0, .str m.1, rfl, rfl, gSeqT s5 m1, rfl, _, rfl, da, _, rfl, DGet.k (k := Sum.inr m.1) (s5 _ _ hA), _, rfl, ?_⟩
      rw [valV_in qA]
      refine ite2 (fun hc => ?_) (fun hc => ?_)
      · refine ⟨_, rfl, b, _, 0, .str m.1, rfl, rfl, gSeqT s5 m1, rfl, _, d5, ?_, gSame_mut s5 hDA, ?_⟩
        · rw [List.length_map]
          exact small1000 (by omega)
        · rw [upd_same, ez true hc.symm, if_pos rfl, List.map_append]
          rfl
      · rw [Bool.not_eq_true] at hc
        refine ⟨s5, ?_⟩
        rw [ez false hc.symm, if_neg Bool.false_ne_true, List.append_nil]
        exact d5
    obtain ⟨s1, e1⟩ := h5
    rw [hlyA, List.take_length] at e1
    have v1 := va.same s1
    have hP1 := s1 _ _ hPl
    -- shared
    refine ⟨_, rfl, v1.prop fun pB ysB hB1 hB2 hB3 => ⟨pB, rfl, ⟨ysB, hB1⟩, fun DB hDB => ?_⟩⟩
    have hlyB := hB3.length
    refine lc_tup (K := K) (a := pB) (xs := ysB) (fun j H5 => Same H1 H5 ∧ H5 DB = some (.lst ((((ms.take j).map (·.1)).filter fun n => decide (n ∈ pl.map (·.1))).map V.str))) ⟨gSame_new hDB, upd_same⟩ (fun j H5 _ h5 => gSeqT h5.1 hB1) (fun j x H5 hx h5 => ?_) (fun H2 h5 => ?_)
    · obtain ⟨s5, d5⟩ := h5
      obtain ⟨m, hm, b, rfl, m1, m2⟩ := paired_get hB3 hx
      have ml := mvF_len (n := ms.length) (ms := ms) (j := j) (ag := pl)
      have ez : ∀ c : Bool, c = decide (m.1 ∈ pl.map (·.1)) → (((ms.take (j + 1)).map (·.1)).filter fun n => decide (n ∈ pl.map (·.1))) = (((ms.take j).map (·.1)).filter fun n => decide (n ∈ pl.map (·.1))) ++ (if c = true then [m.1] else []) := fun c hc => by
        rw [List.take_add_one, hm, List.map_append, List.filter_append]
        show _ ++ List.filter _ [m.1] = _
        rw [List.filter_cons, ← hc, List.filter_nil]
      refine ⟨rfl, _, rfl, b, _, 0, .str m.1, rfl, rfl, gSeqT s5 m1, rfl, _, rfl, dp, _, rfl, DGet.k (k := Sum.inr m.1) (s5 _ _ hP1), _, rfl, ?_⟩
      rw [valV_in qP]
      refine ite2 (fun hc => ?_) (fun hc => ?_)
      · refine ⟨_, rfl, b, _, 0, .str m.1, rfl, rfl, gSeqT s5 m1, rfl, _, d5, ?_, gSame_mut s5 hDB, ?_⟩
        · rw [List.length_map]
          exact small1000 (by omega)
        · rw [upd_same, ez true hc.symm, if_pos rfl, List.map_append]
          rfl
      · rw [Bool.not_eq_true] at hc
        refine ⟨s5, ?_⟩
        rw [ez false hc.symm, if_neg Bool.false_ne_true, List.append_nil]
        exact d5
    obtain ⟨s2, e2⟩ := h5
    rw [hlyB, List.take_length] at e2
    have e1 := s2 _ _ e1
    have v2 := v1.same s2
    have hA2 := s2 _ _ (s1 _ _ hA)
    have hP2 := s2 _ _ hP1
    have fl := fit_len (A := ag.map (·.1)) (B := pl.map (·.1)) (ns := ms.map (·.1)) fun n hn => by
      obtain ⟨m, hm, rfl⟩ := List.mem_map.mp hn
      obtain ⟨o, ho, e, _⟩ := fit.own m hm
      rcases List.mem_append.mp ho with ho | ho
      · have h1 : m.1 ∈ ag.map (·.1) := List.mem_map.mpr ⟨o, ho, e⟩
        exact .inl ⟨h1, dis _ h1⟩
      · have h1 : m.1 ∈ pl.map (·.1) := List.mem_map.mpr ⟨o, ho, e⟩
        exact .inr ⟨fun h2 => dis _ h2 h1, h1⟩
    have fn := fit.alone
    have fs := fit.shared
    rw [List.length_map] at fl
    generalize ((ms.map (·.1)).filter fun n => decide (n ∈ ag.map (·.1))) = al at e1 fl fn
    generalize ((ms.map (·.1)).filter fun n => decide (n ∈ pl.map (·.1))) = sh at e2 fl fs
    refine ⟨_, rfl, DA, _, rfl, .inl (SqL.of e1), _, rfl, DB, _, rfl, .inl (SqL.of e2), _, _, rfl, rfl, _, rfl, a, rfl, v2.ins, v2.sp fun _ _ _ _ _ => ⟨_, rfl, by omega, by omega, _, _, rfl, rfl, _, rfl, ite2 (fun h1 => ?_) (fun h1 => ?_)⟩⟩
    · have h1' := of_decide_eq_true h1
      rw [List.length_map, List.length_map] at h1'
      omega
    have ed : Gs.dst al al.length = al.length := (Gs.dst_nd al.length (Nat.le_refl _)).mpr (by rw [List.take_length]; exact fn)
    refine ⟨_, rfl, DA, al, rfl, .inl (SqL.of e1), by omega, _, rfl, DA, _, rfl, .inl (SqL.of e1), _, _, rfl, rfl, _, rfl, ite2 (fun h2 => ?_) (fun h2 => ?_)⟩
    · have h2' := of_decide_eq_true h2
      rw [List.length_map, ed] at h2'
      omega
    refine ⟨_, rfl, DB, _, rfl, .inl (SqL.of e2), _, _, rfl, rfl, _, rfl, ite2 (fun h3 => ?_) (fun h3 => ?_)⟩
    · have h3' := of_decide_eq_true h3
      rw [List.length_map] at h3'
      omega
    refine fun pM hM => ⟨_, rfl, da, ka, rfl, upd_same, .inl ((gSame_new hM) _ _ hA2), ne_of_none hA2 hM, _, rfl, dp, kp, rfl, upd_same, .inl ?_, ne_of_none hP2 hM, ?_, ?_⟩
    · rw [upd_ne (ne_of_none hP2 hM), upd_ne (ne_of_none hP2 hM)]
      exact hP2
    · have := qA.length
      have := qP.length
      rw [sizeLine_eq]
      omega
    have hnd : ((ka ++ kp).map (·.1)).Nodup := own_nodup qA qP nda ndp dis
    rw [mergeK_nil hnd, upd_upd, upd_upd]
    have s3 : Same H2 (upd H2 pM (.dK (ka ++ kp))) := gSame_new hM
    have eM : (upd H2 pM (.dK (ka ++ kp))) pM = some (.dK (ka ++ kp)) := upd_same
    generalize upd H2 pM (.dK (ka ++ kp)) = H3 at s3 eM
    have v3 := v2.same s3
    have qM : Paired (OwR K H) (ka ++ kp) (ag ++ pl) := paired_app qA qP
    have ndM : ((ag ++ pl).map (·.1)).Nodup := by
      rw [List.map_append, List.nodup_append]
      exact ⟨nda, ndp, fun a ha b hb e => dis a ha (e ▸ hb)⟩
    refine ⟨_, rfl, v3.prop fun pC ysC hC1 hC2 hC3 => ⟨pC, rfl, ⟨ysC, hC1⟩, fun DC hDC => ?_⟩⟩
    have hlyC := hC3.length
    refine lc_tup (K := K) (a := pC) (xs := ysC) (fun j H5 => Same H3 H5 ∧ H5 DC = some (.lst ((List.replicate j true).map V.bl))) ⟨gSame_new hDC, upd_same⟩ (fun j H5 _ h5 => gSeqT h5.1 hC1) (fun j x H5 hx h5 => ?_) (fun H5 h5 => ?_)
    · obtain ⟨s5, d5⟩ := h5
      obtain ⟨m, hm, b, rfl, m1, m2⟩ := paired_get hC3 hx
      have hj : j < ms.length := (List.getElem?_eq_some_iff.mp hm).1
      obtain ⟨o, ho, e0, i1, i2⟩ := fit.own m (List.mem_of_getElem? hm)
      obtain ⟨v, hv, r1⟩ := valV_at qM ndM ho
      have r5 := r1.same (((s1.trans s2).trans s3).trans s5)
      obtain ⟨pv, rfl, t1, t2⟩ := r5
      rw [e0] at hv
      have dg : DGet H5 pM (.str m.1) (some (.ref pv)) := by
        rw [← hv]
        exact DGet.k (k := Sum.inr m.1) (s5 _ _ eM)
      refine ⟨b, _, rfl, gSeqT s5 m1, rfl, _, _, rfl, _, _, rfl, _, _, rfl, rfl, rfl, ?_⟩
      have fl : (o.2.map V.str).all flatV = true := by
        rw [List.all_map]
        exact List.all_eq_true.mpr fun s _ => rfl
      refine ⟨_, rfl, _, rfl, _, rfl, pM, _, rfl, dg, pv, _, rfl, .inr t1, rfl, fl, ?_⟩
      rw [if_neg Bool.false_ne_true, inV_strs, decide_eq_true i1]
      refine ⟨_, rfl, ?_⟩
      refine ⟨_, rfl, _, rfl, _, rfl, pM, _, rfl, dg, pv, _, rfl, .inr t1, rfl, fl, ?_⟩
      rw [if_neg Bool.false_ne_true, inV_strs, decide_eq_true i2]
      refine ⟨_, d5, ?_, gSame_mut s5 hDC, ?_⟩
      · rw [List.length_map, List.length_replicate]
        exact small1000 (by omega)
      · rw [upd_same, List.replicate_succ', List.map_append]
        rfl
    · obtain ⟨s5, d5⟩ := h5
      refine ⟨DC, List.replicate ysC.length true, rfl, SqL.of d5, ?_⟩
      have e : (List.replicate ysC.length true).all id = true := List.all_eq_true.mpr fun b hb => List.eq_of_mem_replicate hb
      rw [e]
      exact q _ (((s1.trans s2).trans s3).trans s5)
end
end Gk

set_option Elab.async false
set_option linter.all false
set_option maxRecDepth 100000
set_option maxHeartbeats 8000000
namespace Gk
open PySem PySem.Spec PyProof.Rows L2
abbrev s_ascending : Stmt := topS 32
theorem sc_ascending : FnScope ["table", "name"] ["table"] (defScope s_ascending) := ⟨rfl, rfl, rfl, by decide +kernel, rfl, by decide +kernel, by decide +kernel⟩
theorem pr_mono {α β : Type} {R S : α → β → Prop} (h : ∀ x a, R x a → S x a) : ∀ {xs : List α} {as : List β}, Paired R xs as → Paired S xs as
  | _, _, .nil => .nil
  | _, _, .cons r t => .cons (h _ _ r) (pr_mono h t)
theorem OwR.same {K : PySem.W.Frag} {H H' : Hp} {kv : Key × V} {o : Own} (s : Same H H') (h : OwR K H kv o) : OwR K H' kv o := ⟨h.1, h.2.same s⟩
theorem OwR.extD {K : PySem.W.Frag} {H H' : Hp} {kv : Key × V} {o : Own} (s : ExtD H H') (h : OwR K H kv o) : OwR K H' kv o := ⟨h.1, strR_extD s h.2⟩
/-- what stands for a system's parts -/
structure Parts (K : PySem.W.Frag) (H : Hp) (C da dp pa : Addr) (ka kp : List (Key × V)) (xs : List V) (ag pl : List Own) (as : List Act) : Prop where
  ha : H da = some (.dK ka)
  hp : H dp = some (.dK kp)
  hs : SqT K H pa xs
  ht : TyX K H (.ref pa) (.type "tuple")
  pa : Paired (OwR K H) ka ag
  pp : Paired (OwR K H) kp pl
  ps : Paired (AcR K H C) xs as
  ne : da ≠ dp
def spSystem (K : PySem.W.Frag) (C : Addr) : Sp := fun vs H Q _ => ∃ (da dp pa : Addr) (ka kp : List (Key × V)) (xs : List V) (ag pl : List Own) (as : List Act), vs = [.ref da, .ref dp, .ref pa] ∧ Parts K H C da dp pa ka kp xs ag pl as ∧ OkSys ag pl as ∧ (∀ x ∈ as, Fit ag pl x.2) ∧ ∀ H', Same H H' → Q (.bl true) H'
def spAsc (K : PySem.W.Frag) : Sp := fun vs H Q _ => ∃ (d : Addr) (kvs : List (Key × V)) (ks : List Str), vs = [.ref d] ∧ H d = some (.dK kvs) ∧ kvs.map (·.1) = ks.map Sum.inr ∧ ks.Nodup ∧ ks.length < 64 ∧ ∀ (p : Addr) (H' : Hp) (ys : List Str), ys.Perm ks → sortedS ys = true → H p = none → Same H H' → H' p = some (.dK (ascK kvs ys)) → Q (.ref p) H'
section
variable {P : Program} {w : World} {K : PySem.W.Frag} {mg : Str → Option Value} {base : Heap}
theorem valV_key {kvs : List (Key × V)} {k : Key} (h : k ∈ kvs.map (·.1)) : ∃ v, valV kvs k = some v := by
  cases e : valV kvs k with
  | some v => exact ⟨v, rfl⟩
  | none =>
    unfold valV at e
    rw [Option.map_eq_none_iff, List.find?_eq_none] at e
    obtain ⟨kv, hk, rfl⟩ := List.mem_map.mp h
    exact absurd (decide_eq_true rfl) (e kv hk)
theorem ok_is_system {C_Action f f1 f2 f3 : Addr} {fd d1 d2 d3 : FuncData} {t1 t2 : Tok} (B : Blt mg) (m_any : mg "any" = none) (C_MAX_AGENTS : mg "MAX_AGENTS" = some (.int 5 t1)) (C_MAX_POOLS : mg "MAX_POOLS" = some (.int 3 t2))
    (D_are_owners : Df K mg "_are_owners" s_are_owners ["value", "limit"] f1 d1) (G_are_owners : FnOk P w K mg base CX0 4 f1 d1 ["value", "limit"] (spOwners K))
    (D_are_actions : Df K mg "_are_actions" s_are_actions ["value"] f2 d2) (G_are_actions : FnOk P w K mg base CX0 3 f2 d2 ["value"] (spActions K C_Action))
    (D_does_fit : Df K mg "_does_fit" s_does_fit ["action", "agents", "pools"] f3 d3) (G_does_fit : FnOk P w K mg base CX0 3 f3 d3 ["action", "agents", "pools"] (spFit K C_Action))
    (D : Df K mg "_is_system" s_is_system ["agents", "pools", "actions"] f fd) : FnOk P w K mg base CX0 5 f fd ["agents", "pools", "actions"] (spSystem K C_Action) := by
  refine D.F.ok sc_is_system (fun vs H Q E h => ?_) (fun cdv A outer s H vs Q E hr h => ?_)
  · obtain ⟨da, dp, pa, ka, kp, xs, ag, pl, as, rfl, _⟩ := h
    rfl
  · obtain ⟨da, dp, pa, ka, kp, xs, ag, pl, as, rfl, pt, ok, fit, q⟩ := h
    refine ⟨_, (pss_cons (ps_if (PW.pt (pw_or (pt_not (pt_val (pe_call G_are_owners (hr.mono (by decide)) (by rfl) D_are_owners.g D_are_owners.F.kp D_are_owners.b .nil pass0 (pa_cons (pv 0) (pa_cons (pe_glob (v := .int 5) rfl C_MAX_AGENTS ⟨_, rfl⟩) pa_nil))) (by intro _; rfl))) (pw_or (pt_not (pt_val (pe_call G_are_owners (hr.mono (by decide)) (by rfl) D_are_owners.g D_are_owners.F.kp D_are_owners.b .nil pass0 (pa_cons (pv 1) (pa_cons (pe_glob (v := .int 3) rfl C_MAX_POOLS ⟨_, rfl⟩) pa_nil))) (by intro _; rfl))) (pw_or1 (pt_not (pt_val (pe_call G_are_actions (hr.mono (by decide)) (by rfl) D_are_actions.g D_are_actions.F.kp D_are_actions.b .nil pass0 (pa_cons (pv 2) pa_nil)) (by intro _; rfl)))))))
    (pss_one (ps_ret pe_bl)) pss_nil)
    (pss_cons (ps_if (pt_val (pe_callB (cr_any rfl) (by rfl) m_any (by decide +kernel) (pa_cons (pe_lock (pe_lc (own := [("name", 3)]) (g := gName 3) (tt := tYes) (by rfl) sc_is_system.nd (pi_keys (pv 0)) (blkOk_by (N := ["agents", "pools", "actions", "name", "action"]) (sc := defScope s_is_system) (by decide +kernel)) (fun _ _ _ _ _ => (pg_name (i := 3) sc_is_system.nd rfl (Or.inl rfl))) (fun _ _ _ _ _ => pts_nil) (fun _ _ _ _ _ => (pe_cmp (pc_din (hu_of hr) (pv 3) (pv 1)))))) pa_nil)) (by intro _; rfl))
    (pss_one (ps_ret pe_bl)) pss_nil)
    (pss_one (ps_ret (pe_callB (cr_all rfl) (by rfl) B.all_ (by decide +kernel) (pa_cons (pe_lc (own := [("action", 4)]) (g := gName 4) (tt := tYes) (by rfl) sc_is_system.nd (pi_tup (pv 2)) (blkOk_by (N := ["agents", "pools", "actions", "name", "action"]) (sc := defScope s_is_system) (by decide +kernel)) (fun _ _ _ _ _ => (pg_name (i := 4) sc_is_system.nd rfl (Or.inl rfl))) (fun _ _ _ _ _ => pts_nil) (fun _ _ _ _ _ => (pe_call G_does_fit (hr.mono (by decide)) (by rfl) D_does_fit.g D_does_fit.F.kp D_does_fit.b .nil pass0 (pa_cons (pv 4) (pa_cons (pv 0) (pa_cons (pv 1) pa_nil)))))) pa_nil)))))), ?_⟩
    have la := pt.pa.length
    have lp := pt.pp.length
    have lx := pt.ps.length
    have o1 := ok.la
    have o2 := ok.lp
    have o3 := ok.l16
    refine ⟨_, rfl, da, 5, ka, ag, rfl, pt.ha, pt.pa, by omega, by omega, ok.oa, fun H1 s1 => ⟨_, rfl, ?_⟩⟩
    refine ⟨_, rfl, dp, 3, kp, pl, rfl, s1 _ _ pt.hp, pr_mono (fun _ _ h => OwR.same s1 h) pt.pp, by omega, by omega, ok.op, fun H2 s2 => ⟨_, rfl, ?_⟩⟩
    have s12 := s1.trans s2
    refine ⟨_, rfl, pa, xs, as, rfl, gSeqT s12 pt.hs, pt.ht.same s12, paired_mono (fun _ _ h => AcR.same s12 h) pt.ps, ok.l1, ok.l16, ok.ndx, fun H3 s3 => ⟨_, rfl, ?_⟩⟩
    have s13 := s12.trans s3
    have hA3 := s13 _ _ pt.ha
    have hP3 := s13 _ _ pt.hp
    refine ⟨da, _, hA3, trivial, fun od => ⟨_, rfl, da, od, rfl, .inl ⟨ka, upd_same, fun D hDn => ?_⟩⟩⟩
    have hLd : (upd H3 da (.frz od (.dK ka))) da = some (.frz od (.dK ka)) := upd_same
    have hLp : (upd H3 da (.frz od (.dK ka))) dp = some (.dK kp) := by
      rw [upd_ne pt.ne.symm]
      exact hP3
    have hun : ∀ H', Same (upd H3 da (.frz od (.dK ka))) H' → Same H3 (upd H' da (.dK ka)) := fun H' s' => same_unlock hA3 s'
    generalize upd H3 da (.frz od (.dK ka)) = HL at hLd hLp hun hDn
    refine lc_it (n := ka.length) walk_keys (fun i H5 => Same HL H5 ∧ H5 D = some (.lst ((List.replicate i false).map V.bl))) ⟨gSame_new hDn, upd_same⟩ (fun i H5 _ h5 => h5.1 _ _ hLd) (fun i x H5 H' hi h5 hy => ?_) (fun H5 h5 => ?_)
    · obtain ⟨s5, d5⟩ := h5
      obtain ⟨rfl, k, v, hkv, rfl⟩ := hy
      obtain ⟨o, ho, r1, r2⟩ := paired_get pt.pa hkv
      have r1 : k = Sum.inr o.1 := r1
      subst r1
      have en : (valV kp (Sum.inr o.1)).isSome = false := by
        rw [valV_in pt.pp]
        exact decide_eq_false (ok.dis _ (List.mem_map.mpr ⟨o, List.mem_of_getElem? ho, rfl⟩))
      refine ⟨rfl, _, rfl, _, rfl, dp, _, rfl, DGet.k (k := Sum.inr o.1) (s5 _ _ hLp), ?_⟩
      rw [en]
      refine ⟨_, d5, ?_, gSame_mut s5 hDn, ?_⟩
      · rw [List.length_map, List.length_replicate]
        exact small1000 (by omega)
      · rw [upd_same, List.replicate_succ', List.map_append]
        rfl
    · obtain ⟨s5, d5⟩ := h5
      have s4 := hun _ s5
      have d4 : (upd H5 da (.dK ka)) D = some (.lst ((List.replicate ka.length false).map V.bl)) := by
        rw [upd_ne fun z => by rw [z, hLd] at hDn; cases hDn]
        exact d5
      refine ⟨s5 _ _ hLd, D, List.replicate ka.length false, rfl, SqL.of d4, ?_⟩
      generalize upd H5 da (.dK ka) = H4 at s4 d4
      have e : (List.replicate ka.length false).any id = false := List.any_eq_false.mpr fun b hb => by
        rw [List.eq_of_mem_replicate hb]
        exact Bool.false_ne_true
      rw [e]
      refine ⟨_, rfl, ?_⟩
      have s14 := s13.trans s4
      have hs4 := gSeqT s14 pt.hs
      refine ⟨_, rfl, pa, rfl, ⟨xs, hs4⟩, fun D2 hD2 => ?_⟩
      refine lc_tup (K := K) (a := pa) (xs := xs) (fun j H6 => Same H4 H6 ∧ H6 D2 = some (.lst ((List.replicate j true).map V.bl))) ⟨gSame_new hD2, upd_same⟩ (fun j H6 _ h6 => gSeqT h6.1 hs4) (fun j x H6 hx h6 => ?_) (fun H6 h6 => ?_)
      · obtain ⟨s6, d6⟩ := h6
        obtain ⟨ac, hac, a, rfl, va⟩ := paired_get pt.ps hx
        have s16 := s14.trans s6
        have hj : j < xs.length := (List.getElem?_eq_some_iff.mp hx).1
        refine ⟨rfl, _, rfl, _, rfl, _, rfl, a, da, dp, ac.1, ac.2, ka, kp, ag, pl, rfl, va.same s16, s16 _ _ pt.ha, s16 _ _ pt.hp, pr_mono (fun _ _ h => OwR.same s16 h) pt.pa, pr_mono (fun _ _ h => OwR.same s16 h) pt.pp, ok.nda, ok.ndp, ok.dis, ok.la, ok.lp, fit _ (List.mem_of_getElem? hac), fun H7 s7 => ?_⟩
        refine ⟨_, s7 _ _ d6, ?_, gSame_mut (s6.trans s7) hD2, ?_⟩
        · rw [List.length_map, List.length_replicate]
          exact small1000 (by omega)
        · rw [upd_same, List.replicate_succ', List.map_append]
          rfl
      · obtain ⟨s6, d6⟩ := h6
        refine ⟨D2, List.replicate xs.length true, rfl, SqL.of d6, ?_⟩
        have e2 : (List.replicate xs.length true).all id = true := List.all_eq_true.mpr fun b hb => List.eq_of_mem_replicate hb
        rw [e2]
        exact q _ (s14.trans s6)
theorem ok_ascending {f : Addr} {fd : FuncData} (B : Blt mg) (D : Df K mg "_ascending" s_ascending ["table"] f fd) : FnOk P w K mg base CX0 1 f fd ["table"] (spAsc K) := by
  refine D.F.ok sc_ascending (fun vs H Q E h => ?_) (fun cdv A outer s H vs Q E hr h => ?_)
  · obtain ⟨d, kvs, ks, rfl, _⟩ := h
    rfl
  · obtain ⟨d, kvs, ks, rfl, hD, hk, nd, hl, q⟩ := h
    refine ⟨_, (pss_one (ps_ret (pe_dc (own := [("name", 1)]) (g := gName 1) (tt := tYes) (by rfl) sc_ascending.nd (pi_list (pe_callB (call_sortedD rfl) (by rfl) B.sorted_ (by decide +kernel) (pa_cons (pv 0) pa_nil))) (blkOk_by (N := ["table", "name"]) (sc := defScope s_ascending) (by decide +kernel)) (fun _ _ _ _ _ => (pg_name (i := 1) sc_ascending.nd rfl (Or.inl rfl))) (fun _ _ _ _ _ => pts_nil) (fun _ _ _ _ _ => (pv 1)) (fun _ _ _ _ _ => (pe_dget (hu_of hr) (pv 0) (pv 1) (fun _ _ => rfl)))))), ?_⟩
    refine ⟨_, rfl, d, kvs, ks, rfl, .inl hD, hk, hl, fun ys l py so nl => ?_⟩
    have s1 : Same H (upd H l (.lst (ys.map V.str))) := gSame_new nl
    have e1 : (upd H l (.lst (ys.map V.str))) l = some (.lst (ys.map V.str)) := upd_same
    generalize upd H l (.lst (ys.map V.str)) = H1 at s1 e1
    have ndy : ys.Nodup := py.nodup_iff.mpr nd
    have lyk := py.length_eq
    refine ⟨l, rfl, ⟨_, SqL.of e1⟩, fun D hDn => ?_⟩
    refine dc_it (n := (ys.map V.str).length) walk_list (fun i H5 => Same H1 H5 ∧ H5 D = some (.dK (ascK kvs (ys.take i)))) ⟨gSame_new hDn, upd_same⟩ (fun i H5 _ h5 => SqL.of (h5.1 _ _ e1)) (fun i x H5 H' hi h5 hy => ?_) (fun H5 h5 => ?_)
    · obtain ⟨s5, d5⟩ := h5
      obtain ⟨rfl, hx⟩ := hy
      rw [List.length_map] at hi
      rw [List.getElem?_map, List.getElem?_eq_getElem hi, Option.map_some] at hx
      obtain rfl := Option.some.inj hx
      have hmem : ys[i] ∈ ks := py.mem_iff.mp (List.getElem_mem hi)
      have hv : ∃ v, valV kvs (Sum.inr ys[i]) = some v := valV_key (by rw [hk]; exact List.mem_map.mpr ⟨_, hmem, rfl⟩)
      obtain ⟨v, hv⟩ := hv
      have dg : DGet H' d (.str ys[i]) (some v) := by
        rw [← hv]
        exact DGet.k (k := Sum.inr ys[i]) (s5 _ _ (s1 _ _ hD))
      refine ⟨rfl, _, rfl, _, rfl, _, rfl, d, v, rfl, dg, _, Sum.inr ys[i], rfl, d5, ?_, gSame_mut s5 hDn, ?_⟩
      · rw [List.length_map, List.length_take]
        exact small1000 (by omega)
      · rw [upd_same, putK_add]
        · rw [List.take_add_one, List.getElem?_eq_getElem hi]
          unfold ascK
          rw [List.map_append]
          show _ = some (HO.dK (_ ++ [(Sum.inr ys[i], (valV kvs (Sum.inr ys[i])).getD .non)]))
          rw [hv]
          rfl
        · unfold ascK
          rw [List.map_map]
          intro hm
          obtain ⟨y, hy, e⟩ := List.mem_map.mp hm
          have e : y = ys[i] := Sum.inr.inj e
          have h2 := ndy
          rw [← List.take_append_drop i ys, List.nodup_append] at h2
          have h3 : ys[i] ∈ ys.drop i := by
            rw [List.drop_eq_getElem_cons hi]
            exact List.mem_cons_self ..
          exact h2.2.2 _ hy _ h3 e
    · obtain ⟨s5, d5⟩ := h5
      rw [List.length_map, List.take_length] at d5
      exact q D H5 ys py so (by
        cases z : H D with
        | none => rfl
        | some o =>
          rw [s1 _ _ z] at hDn
          cases hDn) (s1.trans s5) d5
end
end Gk

set_option Elab.async false
set_option linter.all false
set_option maxRecDepth 100000
set_option maxHeartbeats 8000000
namespace Gk
open PySem PySem.Spec PyProof.Rows L2
abbrev s_write_lines : Stmt := topS 33
theorem sc_write_lines : FnScope ["agents", "pools", "actions", "lone", "shared", "name", "states", "action"] ["agents", "pools", "actions"] (defScope s_write_lines) := ⟨rfl, rfl, rfl, by decide +kernel, rfl, by decide +kernel, by decide +kernel⟩
/-- the line of an owner, of an action -/
def owL (w : Str) (o : Own) : Str := Txt.join " " (w :: o.1 :: o.2)
def acL (x : Act) : Str := Str.ofString "action " ++ liA x.1 x.2
def linesOf (ag pl : List Own) (as : List Act) : List Str := ag.map (owL "agent") ++ pl.map (owL "pool") ++ as.map acL
abbrev KrA (K : PySem.W.Frag) (H : Hp) (C : Addr) : Key × V → Act → Prop := KR (AcR K H C) fun x => x.1
def spLines (K : PySem.W.Frag) (C : Addr) : Sp := fun vs H Q _ => ∃ (da dp dx : Addr) (ka kp kx : List (Key × V)) (ag pl : List Own) (as : List Act), vs = [.ref da, .ref dp, .ref dx] ∧ H da = some (.dK ka) ∧ H dp = some (.dK kp) ∧ H dx = some (.dK kx) ∧ Paired (OwR K H) ka ag ∧ Paired (OwR K H) kp pl ∧ Paired (KrA K H C) kx as ∧
  ag.length ≤ 5 ∧ pl.length ≤ 3 ∧ as.length ≤ 16 ∧ (∀ o ∈ ag, isW o.1 = true ∧ OkSt o.2) ∧ (∀ o ∈ pl, isW o.1 = true ∧ OkSt o.2) ∧ ∀ p H', Same H H' → H' p = some (.tup ((linesOf ag pl as).map V.str)) → Q (.ref p) H'
theorem li_len {c : Str} {ms : List Mv} (hc : isW c = true) (hl : ms.length ≤ 4) (hw : OkMv ms) : (liA c ms).length ≤ 1000 := by
  have e1 : (Str.ofString " ").length = 1 := by decide +kernel
  have h1 := (isW_len hc).2
  have h2 := wrM_len hl hw
  unfold liA
  rw [Str.length_append, Str.length_append, e1]
  omega
theorem own_sum {w : Str} {o : Own} (hw : w.length ≤ 20) (h1 : o.1.length ≤ 8) (ok : OkSt o.2) : (((w :: o.1 :: o.2).map (·.length)).sum + (w :: o.1 :: o.2).length * (Str.ofString " ").length) ≤ 16777216 := by
  have e1 : (Str.ofString " ").length = 1 := by decide +kernel
  have h2 := sum_le4 o.2 8 fun s hs => (isW_len (ok.w s hs)).2
  have l6 := ok.l6
  rw [e1, List.map_cons, List.map_cons, List.sum_cons, List.sum_cons, List.length_cons, List.length_cons]
  omega
section
variable {P : Program} {w : World} {K : PySem.W.Frag} {mg : Str → Option Value} {base : Heap}
theorem ok_write_lines {C_Action fI fC pC fM pM fL fE fS f : Addr} {dI dC dM dL dE dS fd : FuncData} (B : Blt mg) (TA : ActK K mg C_Action fI fC pC fM pM fL fE fS dI dC dM dL dE dS)
    (G_str : FnOk P w K mg base CX0 2 fS dS ["self"] (spGet K C_Action gStr))
    (D : Df K mg "_write_lines" s_write_lines ["agents", "pools", "actions"] f fd) : FnOk P w K mg base CX0 4 f fd ["agents", "pools", "actions"] (spLines K C_Action) := by
  refine D.F.ok sc_write_lines (fun vs H Q E h => ?_) (fun cdv A outer s H vs Q E hr h => ?_)
  · obtain ⟨da, dp, dx, ka, kp, kx, ag, pl, as, rfl, _⟩ := h
    rfl
  · obtain ⟨da, dp, dx, ka, kp, kx, ag, pl, as, rfl, hA, hPl, hX, qA, qP, qX, la, lp, lx, oa, op, q⟩ := h
    refine ⟨_, (pss_cons (ps_lock (ps_setLc (i := 3) (own := [("name", 5), ("states", 6)]) (g := gTup K 2 (gCons (gName 5) (gCons (gName 6) gNil))) (tt := tYes) (by rfl) sc_write_lines.nd rfl rfl (sw_true rfl rfl rfl (by decide +kernel)) (pi_items (pv 0)) (blkOk_by (N := ["agents", "pools", "actions", "lone", "shared", "name", "states", "action"]) (sc := defScope s_write_lines) (by decide +kernel)) (fun _ _ _ _ _ => (pg_tup (by rfl) (pgs_cons (pg_name (i := 5) sc_write_lines.nd rfl (Or.inl rfl)) (pgs_cons (pg_name (i := 6) sc_write_lines.nd rfl (Or.inl rfl)) pgs_nil)))) (fun _ _ _ _ _ => pts_nil) (fun _ _ _ _ _ => (pe_joinK K rfl pe_str (pe_lstN (pa_cons pe_str (pa_cons (pv 5) (pa_starK K rfl (pv 6) pa_nil))))))))
    (pss_cons (ps_lock (ps_setLc (i := 4) (own := [("name", 5), ("states", 6)]) (g := gTup K 2 (gCons (gName 5) (gCons (gName 6) gNil))) (tt := tYes) (by rfl) sc_write_lines.nd rfl rfl (sw_true rfl rfl rfl (by decide +kernel)) (pi_items (pv 1)) (blkOk_by (N := ["agents", "pools", "actions", "lone", "shared", "name", "states", "action"]) (sc := defScope s_write_lines) (by decide +kernel)) (fun _ _ _ _ _ => (pg_tup (by rfl) (pgs_cons (pg_name (i := 5) sc_write_lines.nd rfl (Or.inl rfl)) (pgs_cons (pg_name (i := 6) sc_write_lines.nd rfl (Or.inl rfl)) pgs_nil)))) (fun _ _ _ _ _ => pts_nil) (fun _ _ _ _ _ => (pe_joinK K rfl pe_str (pe_lstN (pa_cons pe_str (pa_cons (pv 5) (pa_starK K rfl (pv 6) pa_nil))))))))
    (pss_one (ps_ret (pe_callTy call_tupN (by rfl) B.tuple_ (by decide +kernel) (pa_cons (pe_lstN (pa_starK K rfl (pv 3) (pa_starK K rfl (pv 4) (pa_starK K rfl (pe_lock (pe_lc (own := [("action", 7)]) (g := gName 7) (tt := tYes) (by rfl) sc_write_lines.nd (pi_values (pv 2)) (blkOk_by (N := ["agents", "pools", "actions", "lone", "shared", "name", "states", "action"]) (sc := defScope s_write_lines) (by decide +kernel)) (fun _ _ _ _ _ => (pg_name (i := 7) sc_write_lines.nd rfl (Or.inl rfl))) (fun _ _ _ _ _ => pts_nil) (fun _ _ _ _ _ => (pe_joined (.cons pe_str (.cons (pe_fmtO (pv 7) TA.OS TA.FM TA.IC.hm G_str TA.BS pass0 (hr.mono (by decide))) .nil)))))) pa_nil)))) pa_nil)))))), ?_⟩
    have ha := qA.length
    have hp := qP.length
    have hx := qX.length
    refine ⟨da, _, hA, trivial, fun od => ⟨_, rfl, da, od, ka, rfl, upd_same, fun DA hDA => ?_⟩⟩
    have hLxA : ExtD H (upd H da (.frz od (.dK ka))) := ExtD.lock hA
    have hLdA : (upd H da (.frz od (.dK ka))) da = some (.frz od (.dK ka)) := upd_same
    have hunA : ∀ H', Same (upd H da (.frz od (.dK ka))) H' → Same H (upd H' da (.dK ka)) := fun H' s' => same_unlock hA s'
    generalize upd H da (.frz od (.dK ka)) = HLA at hLxA hLdA hunA hDA
    refine lc_it (n := ka.length) walk_itemsK (fun i H5 => Same HLA H5 ∧ H5 DA = some (.lst (((ag.take i).map (owL "agent")).map V.str))) ⟨gSame_new hDA, upd_same⟩ (fun i H5 _ h5 => h5.1 _ _ hLdA) (fun i x H5 H' hi h5 hy => ?_) (fun H5 h5 => ?_)
    · obtain ⟨s5, d5⟩ := h5
      obtain ⟨T, kv, hkv, rfl, hT, rfl⟩ := hy
      obtain ⟨o, ho, r1, r2⟩ := paired_get qA hkv
      have s6 : Same HLA (upd H5 T (.tup [kV kv.1, kv.2])) := s5.trans (gSame_new hT)
      have d6 := gSame_new (o := .tup [kV kv.1, kv.2]) hT _ _ d5
      have t6 : (upd H5 T (.tup [kV kv.1, kv.2])) T = some (.tup [kV kv.1, kv.2]) := upd_same
      generalize upd H5 T (.tup [kV kv.1, kv.2]) = H6 at s6 d6 t6
      obtain ⟨wo, okS⟩ := oa o (List.mem_of_getElem? ho)
      rw [r1] at t6
      have r3 : StR K H6 kv.2 o.2 := strR_extD ((ExtD.refl H).trans (hLxA.trans (ExtD.of s6))) r2
      obtain ⟨ps, er, p1, p2⟩ := r3
      refine ⟨T, _, rfl, SqT.of t6, rfl, _, _, rfl, _, _, rfl, rfl, rfl, ?_⟩
      refine ⟨⟨_, rfl⟩, _, rfl, _, rfl, ps, _, er, .inl p1, ?_⟩
      have l6 := okS.l6
      refine ⟨by rw [List.append_nil, List.length_cons, List.length_cons, List.length_map, sizeLine_eq]; omega, fun N H7 n7 e7 s7 => ?_⟩
      rw [List.append_nil] at e7
      refine ⟨_, N, "agent" :: o.1 :: o.2, rfl, rfl, .inl (SqL.of e7), ?_, ?_⟩
      · exact own_sum (w := "agent") (by decide +kernel) (isW_len wo).2 okS
      · refine ⟨_, s7 _ _ d6, ?_, gSame_mut (s6.trans s7) hDA, ?_⟩
        · rw [List.length_map, List.length_map, List.length_take]
          exact small1000 (by omega)
        · rw [upd_same, List.take_add_one, ho, List.map_append, List.map_append]
          rfl
    · obtain ⟨s5, d5⟩ := h5
      have e : ag.take ka.length = ag := List.take_of_length_le (Nat.le_of_eq qA.length.symm)
      rw [e] at d5
      have sH1 := hunA _ s5
      have dH1 : (upd H5 da (.dK ka)) DA = some (.lst ((ag.map (owL "agent")).map V.str)) := by
        rw [upd_ne fun z => by rw [z, hLdA] at hDA; cases hDA]
        exact d5
      refine ⟨s5 _ _ hLdA, ?_⟩
      generalize upd H5 da (.dK ka) = H1 at sH1 dH1
      have hP1 := sH1 _ _ hPl
      refine ⟨dp, _, hP1, trivial, fun od => ⟨_, rfl, dp, od, kp, rfl, upd_same, fun DB hDB => ?_⟩⟩
      have hLxB : ExtD H1 (upd H1 dp (.frz od (.dK kp))) := ExtD.lock hP1
      have hLdB : (upd H1 dp (.frz od (.dK kp))) dp = some (.frz od (.dK kp)) := upd_same
      have hunB : ∀ H', Same (upd H1 dp (.frz od (.dK kp))) H' → Same H1 (upd H' dp (.dK kp)) := fun H' s' => same_unlock hP1 s'
      generalize upd H1 dp (.frz od (.dK kp)) = HLB at hLxB hLdB hunB hDB
      refine lc_it (n := kp.length) walk_itemsK (fun i H5 => Same HLB H5 ∧ H5 DB = some (.lst (((pl.take i).map (owL "pool")).map V.str))) ⟨gSame_new hDB, upd_same⟩ (fun i H5 _ h5 => h5.1 _ _ hLdB) (fun i x H5 H' hi h5 hy => ?_) (fun H5 h5 => ?_)
      · obtain ⟨s5, d5⟩ := h5
        obtain ⟨T, kv, hkv, rfl, hT, rfl⟩ := hy
        obtain ⟨o, ho, r1, r2⟩ := paired_get qP hkv
        have s6 : Same HLB (upd H5 T (.tup [kV kv.1, kv.2])) := s5.trans (gSame_new hT)
        have d6 := gSame_new (o := .tup [kV kv.1, kv.2]) hT _ _ d5
        have t6 : (upd H5 T (.tup [kV kv.1, kv.2])) T = some (.tup [kV kv.1, kv.2]) := upd_same
        generalize upd H5 T (.tup [kV kv.1, kv.2]) = H6 at s6 d6 t6
        obtain ⟨wo, okS⟩ := op o (List.mem_of_getElem? ho)
        rw [r1] at t6
        have r3 : StR K H6 kv.2 o.2 := strR_extD ((ExtD.of sH1).trans (hLxB.trans (ExtD.of s6))) r2
        obtain ⟨ps, er, p1, p2⟩ := r3
        refine ⟨T, _, rfl, SqT.of t6, rfl, _, _, rfl, _, _, rfl, rfl, rfl, ?_⟩
        refine ⟨⟨_, rfl⟩, _, rfl, _, rfl, ps, _, er, .inl p1, ?_⟩
        have l6 := okS.l6
        refine ⟨by rw [List.append_nil, List.length_cons, List.length_cons, List.length_map, sizeLine_eq]; omega, fun N H7 n7 e7 s7 => ?_⟩
        rw [List.append_nil] at e7
        refine ⟨_, N, "pool" :: o.1 :: o.2, rfl, rfl, .inl (SqL.of e7), ?_, ?_⟩
        · exact own_sum (w := "pool") (by decide +kernel) (isW_len wo).2 okS
        · refine ⟨_, s7 _ _ d6, ?_, gSame_mut (s6.trans s7) hDB, ?_⟩
          · rw [List.length_map, List.length_map, List.length_take]
            exact small1000 (by omega)
          · rw [upd_same, List.take_add_one, ho, List.map_append, List.map_append]
            rfl
      · obtain ⟨s5, d5⟩ := h5
        have e : pl.take kp.length = pl := List.take_of_length_le (Nat.le_of_eq qP.length.symm)
        rw [e] at d5
        have sH2 := hunB _ s5
        have dH2 : (upd H5 dp (.dK kp)) DB = some (.lst ((pl.map (owL "pool")).map V.str)) := by
          rw [upd_ne fun z => by rw [z, hLdB] at hDB; cases hDB]
          exact d5
        refine ⟨s5 _ _ hLdB, ?_⟩
        generalize upd H5 dp (.dK kp) = H2 at sH2 dH2
        have hX2 := sH2 _ _ (sH1 _ _ hX)
        have dA := sH2 _ _ dH1
        have s02 := sH1.trans sH2
        refine ⟨_, rfl, DA, _, rfl, .inr (SqL.of dA), _, rfl, DB, _, rfl, .inr (SqL.of dH2), ?_⟩
        refine ⟨dx, _, hX2, trivial, fun od2 => ⟨_, rfl, dx, od2, kx, rfl, upd_same, fun DC hDC => ?_⟩⟩
        have hLxC : ExtD H2 (upd H2 dx (.frz od2 (.dK kx))) := ExtD.lock hX2
        have hLdC : (upd H2 dx (.frz od2 (.dK kx))) dx = some (.frz od2 (.dK kx)) := upd_same
        have hunC : ∀ H', Same (upd H2 dx (.frz od2 (.dK kx))) H' → Same H2 (upd H' dx (.dK kx)) := fun H' s' => same_unlock hX2 s'
        generalize upd H2 dx (.frz od2 (.dK kx)) = HLC at hLxC hLdC hunC hDC
        refine lc_it (te := fun σ H Q => tJs [L2.tC (.str (Str.ofString "action ")), tFmtO C_Action (spGet K C_Action gStr) E0 (tVar 7)] Str.empty σ H fun out H1 => Q (.str out) H1) (n := kx.length) walk_values (fun i H5 => Same HLC H5 ∧ H5 DC = some (.lst (((as.take i).map acL).map V.str))) ⟨gSame_new hDC, upd_same⟩ (fun i H5 _ h5 => h5.1 _ _ hLdC) (fun i x H5 H' hi h5 hy => ?_) (fun H5 h5 => ?_)
        · obtain ⟨s5, d5⟩ := h5
          obtain ⟨rfl, k, hkv⟩ := hy
          obtain ⟨o, ho, r1, r2⟩ := paired_get qX hkv
          obtain ⟨a, rfl, va⟩ := AcR.extD (((ExtD.of s02).trans hLxC).trans (ExtD.of s5)) r2
          have la2 : (Str.ofString "action ").length = 7 := by decide +kernel
          have le : (Str.empty ++ Str.ofString "action " : Str) = Str.ofString "action " := TL.ext_tl (by rw [TL.tl_append]; rfl)
          have ll : (liA o.1 o.2).length ≤ 1000 := by
            obtain ⟨_, _, _, _, _, _, _, v5, v6, v7⟩ := va
            exact li_len v7 v5 v6
          refine ⟨rfl, _, rfl, ?_, _, rfl, a, rfl, va.ins, va.sp fun _ _ _ _ _ => fun H7 s7 => ⟨_, rfl, _, rfl, ?_, ?_⟩⟩
          · rw [le, la2, sizeLine_eq]
            omega
          · rw [le, Str.length_append, la2, sizeLine_eq]
            omega
          · rw [le]
            refine ⟨_, s7 _ _ d5, ?_, gSame_mut (s5.trans s7) hDC, ?_⟩
            · rw [List.length_map, List.length_map, List.length_take]
              exact small1000 (by omega)
            · rw [upd_same, List.take_add_one, ho, List.map_append, List.map_append]
              rfl
        · obtain ⟨s5, d5⟩ := h5
          have e : as.take kx.length = as := List.take_of_length_le (Nat.le_of_eq qX.length.symm)
          rw [e] at d5
          have sH3 := hunC _ s5
          have dH3 : (upd H5 dx (.dK kx)) DC = some (.lst ((as.map acL).map V.str)) := by
            rw [upd_ne fun z => by rw [z, hLdC] at hDC; cases hDC]
            exact d5
          refine ⟨s5 _ _ hLdC, ?_⟩
          generalize upd H5 dx (.dK kx) = H3 at sH3 dH3
          refine ⟨DC, _, rfl, .inr (SqL.of dH3), ?_⟩
          refine ⟨?_, fun N H4 n4 e4 s4 => ⟨N, _, rfl, SqL.of e4, fun p H5 n5 e5 s5 => ?_⟩⟩
          · rw [List.length_append, List.length_append, List.length_append, List.length_map, List.length_map, List.length_map, List.length_map, List.length_map, List.length_map, sizeLine_eq]
            simp
            omega
          · refine q p H5 (((s02.trans sH3).trans s4).trans s5) ?_
            rw [e5]
            unfold linesOf
            simp only [List.map_append, List.append_nil, List.append_assoc]
end
end Gk

set_option Elab.async false
set_option linter.all false
set_option maxRecDepth 100000
set_option maxHeartbeats 8000000
namespace Gk
open PySem PySem.Spec PyProof.Rows L2
abbrev s_System___init : Stmt := inClass (topS 24) 0
theorem sc_System___init : FnScope ["self", "agents", "pools", "actions", "action", "name"] ["self", "agents", "pools", "actions"] (defScope s_System___init) := ⟨rfl, rfl, rfl, by decide +kernel, rfl, by decide +kernel, by decide +kernel⟩
/-- what the text's top has left of the class Plan, and what making one does -/
structure PlanK (K : PySem.W.Frag) (mg : Str → Option Value) (C fI : Addr) (dI : FuncData) : Prop where
  g : mg "Plan" = some (.ref C)
  M : Mk K C fI
  BI : Binds K dI ["self", "moves", "pools"] []
def spPlan (K : PySem.W.Frag) (CP : Addr) : Sp := fun vs H Q _ => ∃ (a dx p l : Addr) (ys : List V) (ms : List Mv) (ns : List Str), vs = [.ref a, .ref p, .ref l] ∧ H a = some (.ins CP dx []) ∧ SqT K H p ys ∧ TyX K H (.ref p) (.type "tuple") ∧ Paired (MvR K H) ys ms ∧ ms.length ≤ 4 ∧ OkMv ms ∧ SqL K H l (ns.map V.str) ∧ ns.length ≤ 3 ∧
  ∀ H', But a H H' → Q .non H'
/-- what the class System keeps of its own -/
structure SysC (K : PySem.W.Frag) (C : Addr) : Prop where
  cl : Cls K C
  n1 : NoAttr K C "_agents"
  n2 : NoAttr K C "_pools"
  n3 : NoAttr K C "_actions"
  n4 : NoAttr K C "_lines"
  n5 : NoAttr K C "_plans"
  n6 : NoAttr K C "notes"
theorem take_fresh {α β : Type} {f : α → β} {l : List α} {i : Nat} {x : α} (nd : (l.map f).Nodup) (h : l[i]? = some x) : f x ∉ (l.take i).map f := fun hm => by
  have hi : i < l.length := (List.getElem?_eq_some_iff.mp h).1
  have h2 := nd
  rw [← List.take_append_drop i l, List.map_append, List.nodup_append] at h2
  have h3 : x ∈ l.drop i := by
    rw [List.drop_eq_getElem_cons hi]
    have e : l[i] = x := by
      rw [List.getElem?_eq_getElem hi] at h
      exact Option.some.inj h
    rw [e]
    exact List.mem_cons_self ..
  exact h2.2.2 _ hm _ (List.mem_map.mpr ⟨x, h3, rfl⟩) rfl
/-- the entries of values by their names -/
def byNm {α : Type} (nm : α → Str) : List V → List α → List (Key × V)
  | v :: vs, o :: os => (Sum.inr (nm o), v) :: byNm nm vs os
  | _, _ => []
theorem byNm_pair {α : Type} {R : V → α → Prop} {nm : α → Str} : ∀ {xs : List V} {os : List α}, Paired R xs os → Paired (KR R nm) (byNm nm xs os) os
  | _, _, .nil => .nil
  | _, _, .cons h t => .cons ⟨rfl, h⟩ (byNm_pair t)
theorem byNm_get {α : Type} {R : V → α → Prop} {nm : α → Str} : ∀ {xs : List V} {os : List α} {i : Nat} {v : V} {o : α}, Paired R xs os → xs[i]? = some v → os[i]? = some o → (byNm nm xs os)[i]? = some (Sum.inr (nm o), v)
  | _, _, 0, _, _, .cons h t, e1, e2 => by
    cases Option.some.inj e1
    cases Option.some.inj e2
    rfl
  | _, _, i + 1, _, _, .cons h t, e1, e2 => byNm_get (i := i) t e1 e2
  | _, _, 0, _, _, .nil, e1, _ => nomatch e1
  | _, _, _ + 1, _, _, .nil, e1, _ => nomatch e1
theorem putK_len {kvs : List (Key × V)} {k : Key} {v : V} : (putK kvs k v).length ≤ kvs.length + 1 := by
  unfold putK
  split
  · rw [List.length_map]
    exact Nat.le_succ _
  · rw [List.length_append]
    exact Nat.le_refl _
theorem kr_nodup {α : Type} {R : V → α → Prop} {nm : α → Str} {kvs : List (Key × V)} {os : List α} (h : Paired (KR R nm) kvs os) (nd : (os.map nm).Nodup) : (kvs.map (·.1)).Nodup := by
  rw [kr_keys h]
  exact List.Pairwise.map (R := fun a b : Str => a ≠ b) (S := fun a b : Key => a ≠ b) _ (fun a b h z => h (Sum.inr.inj z)) nd
theorem But.of {a : Addr} {H H' : Hp} (s : Same H H') : But a H H' := fun b o _ h => s b o h
theorem But.put {a : Addr} {H : Hp} {o : HO} : But a H (upd H a o) := fun b o n h => by rw [upd_ne n]; exact h
theorem But.trans {a : Addr} {H H1 H2 : Hp} (k : But a H H1) (l : But a H1 H2) : But a H H2 := fun b o n h => l b o n (k b o n h)
theorem But.at {a b : Addr} {H H' : Hp} {o o' : HO} (k : But a H H') (ha : H a = some o) (h : H b = some o') (n : o' ≠ o) : H' b = some o' := k b o' (fun z => by
  rw [z, ha] at h
  exact n (Option.some.inj h).symm) h
theorem But.dk {a b C dx : Addr} {fs : List (Str × V)} {H H' : Hp} {kvs : List (Key × V)} (k : But a H H') (ha : H a = some (.ins C dx fs)) (h : H b = some (.dK kvs)) : H' b = some (.dK kvs) := k.at ha h fun z => by cases z
theorem But.ow {K : PySem.W.Frag} {a C dx : Addr} {fs : List (Str × V)} {H H' : Hp} {kv : Key × V} {o : Own} (k : But a H H') (ha : H a = some (.ins C dx fs)) (h : OwR K H kv o) : OwR K H' kv o := by
  obtain ⟨h1, p, h2, h3, h4⟩ := h
  refine ⟨h1, p, h2, k.sqT ha h3, ?_⟩
  exact k.ty ha h4
theorem But.acV {K : PySem.W.Frag} {a b C CA dx : Addr} {fs : List (Str × V)} {H H' : Hp} {c : Str} {ms : List Mv} (k : But a H H') (ha : H a = some (.ins C dx fs)) (n : CA ≠ C) (h : ActV K H CA b c ms) : ActV K H' CA b c ms := by
  obtain ⟨dx', p, ys, h1, h2, h3, h4, h5⟩ := h
  exact ⟨dx', p, ys, k.at ha h1 (fun z => by injection z with z; exact n z), k.sqT ha h2, k.ty ha h3, pr_mono (fun _ _ h => k.mvR ha h) h4, h5⟩
theorem But.ac {K : PySem.W.Frag} {a C CA dx : Addr} {fs : List (Str × V)} {H H' : Hp} {v : V} {x : Act} (k : But a H H') (ha : H a = some (.ins C dx fs)) (n : CA ≠ C) (h : AcR K H CA v x) : AcR K H' CA v x := by
  obtain ⟨b, rfl, h⟩ := h
  exact ⟨b, rfl, k.acV ha n h⟩
theorem filt_perm {l : List Str} {A B : List Str} (p : A.Perm B) : (l.filter fun n => decide (n ∈ A)) = l.filter fun n => decide (n ∈ B) := by
  refine List.filter_congr fun x _ => ?_
  exact decide_eq_decide.mpr p.mem_iff
theorem Fit.perm {ag pl ag' pl' : List Own} {ms : List Mv} (h : Fit ag pl ms) (pa : ag'.Perm ag) (pp : pl'.Perm pl) : Fit ag' pl' ms := by
  refine ⟨fun m hm => ?_, ?_, ?_⟩
  · obtain ⟨o, ho, r⟩ := h.own m hm
    exact ⟨o, (pa.append pp).mem_iff.mpr ho, r⟩
  · rw [filt_perm (pa.map _)]
    exact h.alone
  · rw [filt_perm (pp.map _)]
    exact h.shared
theorem OkSys.perm {ag pl ag' pl' : List Own} {as as' : List Act} (h : OkSys ag pl as) (pa : ag'.Perm ag) (pp : pl'.Perm pl) (px : as'.Perm as) : OkSys ag' pl' as' := by
  refine ⟨?_, ?_, ?_, ?_, fun o ho => h.oa o (pa.mem_iff.mp ho), fun o ho => h.op o (pp.mem_iff.mp ho), ?_, ?_, ?_, fun n hn hm => ?_⟩
  · rw [pa.length_eq]
    exact h.la
  · rw [pp.length_eq]
    exact h.lp
  · rw [px.length_eq]
    exact h.l1
  · rw [px.length_eq]
    exact h.l16
  · exact (pa.map _).nodup_iff.mpr h.nda
  · exact (pp.map _).nodup_iff.mpr h.ndp
  · exact (px.map _).nodup_iff.mpr h.ndx
  · exact h.dis n ((pa.map _).mem_iff.mp hn) ((pp.map _).mem_iff.mp hm)
abbrev sysF (dA dP dX pL dPl dN : Addr) : List (Str × V) := [("_agents", .ref dA), ("_pools", .ref dP), ("_actions", .ref dX), ("_lines", .ref pL), ("_plans", .ref dPl), ("notes", .ref dN)]
/-- a system, as it stands; the parts in order -/
structure SysV (K : PySem.W.Frag) (H : Hp) (CS CA a : Addr) (ag pl : List Own) (as : List Act) : Prop where
  v : ∃ (dx dA dP dX pL dPl dN : Addr) (kA kP kX : List (Key × V)), H a = some (.ins CS dx (sysF dA dP dX pL dPl dN)) ∧ H dA = some (.dK kA) ∧ H dP = some (.dK kP) ∧ H dX = some (.dK kX) ∧ H pL = some (.tup ((linesOf ag pl as).map V.str)) ∧ Paired (OwR K H) kA ag ∧ Paired (OwR K H) kP pl ∧ Paired (KrA K H CA) kX as
  ok : OkSys ag pl as
  fit : ∀ x ∈ as, Fit ag pl x.2
  sA : sortedS (ag.map (·.1)) = true
  sP : sortedS (pl.map (·.1)) = true
  sX : sortedS (as.map (·.1)) = true
theorem KrA.same {K : PySem.W.Frag} {H H' : Hp} {C : Addr} {kv : Key × V} {x : Act} (s : Same H H') (h : KrA K H C kv x) : KrA K H' C kv x := ⟨h.1, AcR.same s h.2⟩
theorem KrA.extD {K : PySem.W.Frag} {H H' : Hp} {C : Addr} {kv : Key × V} {x : Act} (s : ExtD H H') (h : KrA K H C kv x) : KrA K H' C kv x := ⟨h.1, AcR.extD s h.2⟩
theorem SysV.same {K : PySem.W.Frag} {H H' : Hp} {CS CA a : Addr} {ag pl : List Own} {as : List Act} (s : Same H H') (h : SysV K H CS CA a ag pl as) : SysV K H' CS CA a ag pl as := by
  obtain ⟨⟨dx, dA, dP, dX, pL, dPl, dN, kA, kP, kX, h1, h2, h3, h4, h5, h6, h7, h8⟩, r1, r2, r3, r4, r5⟩ := h
  exact ⟨⟨dx, dA, dP, dX, pL, dPl, dN, kA, kP, kX, s _ _ h1, s _ _ h2, s _ _ h3, s _ _ h4, s _ _ h5, pr_mono (fun _ _ h => OwR.same s h) h6, pr_mono (fun _ _ h => OwR.same s h) h7, pr_mono (fun _ _ h => KrA.same s h) h8⟩, r1, r2, r3, r4, r5⟩
def spSysI (K : PySem.W.Frag) (CS CA : Addr) : Sp := fun vs H Q _ => ∃ (a dx da dp pa : Addr) (ka kp : List (Key × V)) (xs : List V) (ag pl : List Own) (as : List Act), vs = [.ref a, .ref da, .ref dp, .ref pa] ∧ H a = some (.ins CS dx []) ∧ Parts K H CA da dp pa ka kp xs ag pl as ∧ OkSys ag pl as ∧ (∀ x ∈ as, Fit ag pl x.2) ∧
  ∀ H' ag' pl' as', But a H H' → ag'.Perm ag → pl'.Perm pl → as'.Perm as → SysV K H' CS CA a ag' pl' as' → Q .non H'
section
variable {P : Program} {w : World} {K : PySem.W.Frag} {mg : Str → Option Value} {base : Heap}
theorem ok_System___init {C C_Action CI CP fPI fI fC pC fM pM fL fE fS f f1 f2 f3 : Addr} {dPI dI dC dM dL dE dS fd d1 d2 d3 : FuncData} (B : Blt mg) (T_InvalidSystem : OwnT K mg "InvalidSystem" CI) (SC : SysC K C) (hne : C_Action ≠ C)
    (TA : ActK K mg C_Action fI fC pC fM pM fL fE fS dI dC dM dL dE dS) (TP : PlanK K mg CP fPI dPI) (hnp : CP ≠ C)
    (G_called : FnOk P w K mg base CX0 1 fC dC ["self"] (spGet K C_Action gCalled)) (G_moves : FnOk P w K mg base CX0 1 fM dM ["self"] (spGet K C_Action gMoves))
    (G_Plan : FnOk P w K mg base CX0 1 fPI dPI ["self", "moves", "pools"] (spPlan K CP))
    (D_is_system : Df K mg "_is_system" s_is_system ["agents", "pools", "actions"] f1 d1) (G_is_system : FnOk P w K mg base CX0 5 f1 d1 ["agents", "pools", "actions"] (spSystem K C_Action))
    (D_ascending : Df K mg "_ascending" s_ascending ["table"] f2 d2) (G_ascending : FnOk P w K mg base CX0 1 f2 d2 ["table"] (spAsc K))
    (D_write_lines : Df K mg "_write_lines" s_write_lines ["agents", "pools", "actions"] f3 d3) (G_write_lines : FnOk P w K mg base CX0 4 f3 d3 ["agents", "pools", "actions"] (spLines K C_Action))
    (F : Fun K "__init__" "System.__init__" s_System___init f fd) : FnOk P w K mg base (L2.CX P w) 6 f fd ["self", "agents", "pools", "actions"] (spSysI K C C_Action) := by
  refine F.okX sc_System___init (fun vs H Q E h => ?_) (fun cdv A outer s H vs Q E hr h => ?_)
  · obtain ⟨a, dx, da, dp, pa, ka, kp, xs, ag, pl, as, rfl, _⟩ := h
    rfl
  · obtain ⟨a, dx, da, dp, pa, ka, kp, xs, ag, pl, as, rfl, ha, pt, ok, fit, q⟩ := h
    refine ⟨_, (pss_cons (ps_if (pt_not (pt_val (pe_call G_is_system (hr.mono (by decide)) (by rfl) D_is_system.g D_is_system.F.kp D_is_system.b .nil pass0 (pa_cons (pv 1) (pa_cons (pv 2) (pa_cons (pv 3) pa_nil)))) (by intro _; rfl)))
    (pss_one (ps_raise rfl (takes_of rfl rfl rfl rfl) (pmk_own PySem.F.excBase_ValueError T_InvalidSystem.x T_InvalidSystem.g T_InvalidSystem.k (raises_own T_InvalidSystem.b T_InvalidSystem.t) (by exact rfl)))) pss_nil)
    (pss_cons (ps_fld (pv 0) (pe_call G_ascending (hr.mono (by decide)) (by rfl) D_ascending.g D_ascending.F.kp D_ascending.b .nil pass0 (pa_cons (pv 1) pa_nil)) rfl)
    (pss_cons (ps_fld (pv 0) (pe_call G_ascending (hr.mono (by decide)) (by rfl) D_ascending.g D_ascending.F.kp D_ascending.b .nil pass0 (pa_cons (pv 2) pa_nil)) rfl)
    (pss_cons (ps_fld (pv 0) (pe_call G_ascending (hr.mono (by decide)) (by rfl) D_ascending.g D_ascending.F.kp D_ascending.b .nil pass0 (pa_cons (pe_dc (own := [("action", 4)]) (g := gName 4) (tt := tYes) (by rfl) sc_System___init.nd (pi_tup (pv 3)) (blkOk_by (N := ["self", "agents", "pools", "actions", "action", "name"]) (sc := defScope s_System___init) (by decide +kernel)) (fun _ _ _ _ _ => (pg_name (i := 4) sc_System___init.nd rfl (Or.inl rfl))) (fun _ _ _ _ _ => pts_nil) (fun _ _ _ _ _ => (pe_prop (pv 4) TA.AC.cl TA.P_called G_called (hr.mono (by decide)) TA.B_called .nil pass0 rfl)) (fun _ _ _ _ _ => (pv 4))) pa_nil)) rfl)
    (pss_cons (ps_fld (pv 0) (pe_call G_write_lines (hr.mono (by decide)) (by rfl) D_write_lines.g D_write_lines.F.kp D_write_lines.b .nil pass0 (pa_cons (pe_fld (pv 0) rfl) (pa_cons (pe_fld (pv 0) rfl) (pa_cons (pe_fld (pv 0) rfl) pa_nil)))) rfl)
    (pss_cons (ps_set (i := 2) sc_System___init.nd rfl (Or.inr rfl) (pe_callTy (call_list_dK rfl) (by rfl) B.list_ (by decide +kernel) (pa_cons (pe_fld (pv 0) rfl) pa_nil)))
    (pss_cons (ps_fld (pv 0) (pe_lock (pe_dc (own := [("name", 5), ("action", 4)]) (g := gTup K 2 (gCons (gName 5) (gCons (gName 4) gNil))) (tt := tYes) (by rfl) sc_System___init.nd (pi_items (pe_fld (pv 0) rfl)) (blkOk_by (N := ["self", "agents", "pools", "actions", "action", "name"]) (sc := defScope s_System___init) (by decide +kernel)) (fun _ _ _ _ _ => (pg_tup (by rfl) (pgs_cons (pg_name (i := 5) sc_System___init.nd rfl (Or.inl rfl)) (pgs_cons (pg_name (i := 4) sc_System___init.nd rfl (Or.inl rfl)) pgs_nil)))) (fun _ _ _ _ _ => pts_nil) (fun _ _ _ _ _ => (pv 5)) (fun _ _ _ _ _ => (pe_make TP.M G_Plan (hr.mono (by decide)) (by rfl) TP.g TP.BI .nil pass0 (pa_cons (pe_prop (pv 4) TA.AC.cl TA.P_moves G_moves (hr.mono (by decide)) TA.B_moves .nil pass0 rfl) (pa_cons (pv 2) pa_nil)))))) rfl)
    (pss_one (ps_fld (pv 0) pe_dnewN rfl))))))))), ?_⟩
    have o1 := ok.la
    have o2 := ok.lp
    have o3 := ok.l16
    refine ⟨_, rfl, _, rfl, _, rfl, da, dp, pa, ka, kp, xs, ag, pl, as, rfl, pt, ok, fit, fun H1 s1 => ⟨_, rfl, ?_⟩⟩
    -- the agents
    refine ⟨_, rfl, da, ka, ag.map (·.1), rfl, s1 _ _ pt.ha, kr_keys (R := fun v (o : Own) => StR K H v o.2) (nm := fun o => o.1) pt.pa, ok.nda, by rw [List.length_map]; omega, fun dA H2 yA pyA syA nA s2 eA => ?_⟩
    obtain ⟨agS, pag, eyA, qA⟩ := kr_asc (R := fun v (o : Own) => StR K H v o.2) (nm := fun o => o.1) pt.pa ok.nda pyA
    refine ⟨_, rfl, a, C, dx, [], rfl, s2 _ _ (s1 _ _ ha), SC.cl, SC.n1, by decide, ?_⟩
    have a2 := s2 _ _ (s1 _ _ ha)
    have b2 : But a H (upd H2 a (.ins C dx (putF "_agents" (.ref dA) []))) := (But.of (s1.trans s2)).trans But.put
    have c2 : (upd H2 a (.ins C dx (putF "_agents" (.ref dA) []))) a = some (.ins C dx [("_agents", .ref dA)]) := upd_same
    have eA2 : (upd H2 a (.ins C dx (putF "_agents" (.ref dA) []))) dA = some (.dK (ascK ka yA)) := But.put.dk a2 eA
    generalize upd H2 a (.ins C dx (putF "_agents" (.ref dA) [])) = K2 at b2 c2 eA2 ⊢
    -- the pools
    refine ⟨_, rfl, dp, kp, pl.map (·.1), rfl, b2.dk ha pt.hp, kr_keys (R := fun v (o : Own) => StR K H v o.2) (nm := fun o => o.1) pt.pp, ok.ndp, by rw [List.length_map]; omega, fun dP H3 yP pyP syP nP s3 eP => ?_⟩
    obtain ⟨plS, ppl, eyP, qP⟩ := kr_asc (R := fun v (o : Own) => StR K H v o.2) (nm := fun o => o.1) pt.pp ok.ndp pyP
    have a3 := s3 _ _ c2
    refine ⟨_, rfl, a, C, dx, _, rfl, a3, SC.cl, SC.n2, by show 1 < 1000; decide, ?_⟩
    have b3 : But a H (upd H3 a (.ins C dx (putF "_pools" (.ref dP) [("_agents", .ref dA)]))) := (b2.trans (But.of s3)).trans But.put
    have c3 : (upd H3 a (.ins C dx (putF "_pools" (.ref dP) [("_agents", .ref dA)]))) a = some (.ins C dx [("_agents", .ref dA), ("_pools", .ref dP)]) := upd_same
    have eA3 : (upd H3 a (.ins C dx (putF "_pools" (.ref dP) [("_agents", .ref dA)]))) dA = some (.dK (ascK ka yA)) := But.put.dk a3 (s3 _ _ eA2)
    have eP3 : (upd H3 a (.ins C dx (putF "_pools" (.ref dP) [("_agents", .ref dA)]))) dP = some (.dK (ascK kp yP)) := But.put.dk a3 eP
    generalize upd H3 a (.ins C dx (putF "_pools" (.ref dP) [("_agents", .ref dA)])) = K3 at b3 c3 eA3 eP3 ⊢
    -- the actions
    have hS3 := b3.sqT ha pt.hs
    have lxs := pt.ps.length
    have qx0 : Paired (KrA K H C_Action) (byNm (fun x : Act => x.1) xs as) as := byNm_pair pt.ps
    have g0 : ∀ (i : Nat) (v : V) (o : Act), xs[i]? = some v → as[i]? = some o → (byNm (fun x : Act => x.1) xs as)[i]? = some (Sum.inr o.1, v) := fun i v o e1 e2 => byNm_get pt.ps e1 e2
    generalize byNm (fun x : Act => x.1) xs as = k0 at qx0 g0
    have lk0 := qx0.length
    have nk0 : (k0.map (·.1)).Nodup := kr_nodup qx0 ok.ndx
    refine ⟨_, rfl, pa, rfl, ⟨xs, hS3⟩, fun D hD => ?_⟩
    refine dc_it (n := xs.length) walk_tup (fun i H5 => Same K3 H5 ∧ H5 D = some (.dK (k0.take i))) ⟨gSame_new hD, upd_same⟩ (fun i H5 _ h5 => gSeqT h5.1 hS3) (fun i x H5 H' hi h5 hy => ?_) (fun H5 h5 => ?_)
    · obtain ⟨s5, d5⟩ := h5
      obtain ⟨rfl, hx⟩ := hy
      obtain ⟨ac, hac, b, rfl, va⟩ := paired_get pt.ps hx
      refine ⟨rfl, _, rfl, ((b3.acV ha hne va).same s5).prop fun _ _ _ _ _ => ⟨_, rfl, _, Sum.inr ac.1, rfl, d5, ?_, gSame_mut s5 hD, ?_⟩⟩
      · rw [List.length_take, sizeLine_eq]
        omega
      · rw [upd_same, putK_add (take_fresh nk0 (g0 _ _ _ hx hac)), List.take_add_one, g0 _ _ _ hx hac]
        rfl
    obtain ⟨s5, d5⟩ := h5
    rw [List.take_of_length_le (by omega)] at d5
    refine ⟨D, k0, as.map (·.1), rfl, d5, kr_keys qx0, ok.ndx, by rw [List.length_map]; omega, fun dX H6 yX pyX syX nX s6 eX => ?_⟩
    obtain ⟨asS, pas, eyX, qX⟩ := kr_asc qx0 ok.ndx pyX
    have s56 := s5.trans s6
    have a4 := s56 _ _ c3
    refine ⟨_, rfl, a, C, dx, _, rfl, a4, SC.cl, SC.n3, by show 2 < 1000; decide, ?_⟩
    have b4 : But a H (upd H6 a (.ins C dx (putF "_actions" (.ref dX) [("_agents", .ref dA), ("_pools", .ref dP)]))) := (b3.trans (But.of s56)).trans But.put
    have c4 : (upd H6 a (.ins C dx (putF "_actions" (.ref dX) [("_agents", .ref dA), ("_pools", .ref dP)]))) a = some (.ins C dx [("_agents", .ref dA), ("_pools", .ref dP), ("_actions", .ref dX)]) := upd_same
    have eA4 : (upd H6 a (.ins C dx (putF "_actions" (.ref dX) [("_agents", .ref dA), ("_pools", .ref dP)]))) dA = some (.dK (ascK ka yA)) := But.put.dk a4 (s56 _ _ eA3)
    have eP4 : (upd H6 a (.ins C dx (putF "_actions" (.ref dX) [("_agents", .ref dA), ("_pools", .ref dP)]))) dP = some (.dK (ascK kp yP)) := But.put.dk a4 (s56 _ _ eP3)
    have eX4 : (upd H6 a (.ins C dx (putF "_actions" (.ref dX) [("_agents", .ref dA), ("_pools", .ref dP)]))) dX = some (.dK (ascK k0 yX)) := But.put.dk a4 eX
    generalize upd H6 a (.ins C dx (putF "_actions" (.ref dX) [("_agents", .ref dA), ("_pools", .ref dP)])) = K4 at b4 c4 eA4 eP4 eX4 ⊢
    have okS := ok.perm pag ppl pas
    -- the lines
    refine ⟨_, rfl, a, C, dx, _, _, rfl, c4, SC.cl, SC.n1, rfl, _, rfl, a, C, dx, _, _, rfl, c4, SC.cl, SC.n2, rfl, _, rfl, a, C, dx, _, _, rfl, c4, SC.cl, SC.n3, rfl, ?_⟩
    refine ⟨dA, dP, dX, _, _, _, agS, plS, asS, rfl, eA4, eP4, eX4, pr_mono (fun _ _ h => b4.ow ha h) qA, pr_mono (fun _ _ h => b4.ow ha h) qP, pr_mono (fun _ _ h => ⟨h.1, b4.ac ha hne h.2⟩) qX, okS.la, okS.lp, okS.l16, okS.oa, okS.op, fun pL H7 s7 eL => ?_⟩
    have a5 := s7 _ _ c4
    refine ⟨_, rfl, a, C, dx, _, rfl, a5, SC.cl, SC.n4, by show 3 < 1000; decide, ?_⟩
    have b5 : But a H (upd H7 a (.ins C dx (putF "_lines" (.ref pL) [("_agents", .ref dA), ("_pools", .ref dP), ("_actions", .ref dX)]))) := (b4.trans (But.of s7)).trans But.put
    have c5 : (upd H7 a (.ins C dx (putF "_lines" (.ref pL) [("_agents", .ref dA), ("_pools", .ref dP), ("_actions", .ref dX)]))) a = some (.ins C dx [("_agents", .ref dA), ("_pools", .ref dP), ("_actions", .ref dX), ("_lines", .ref pL)]) := upd_same
    have eA5 : (upd H7 a (.ins C dx (putF "_lines" (.ref pL) [("_agents", .ref dA), ("_pools", .ref dP), ("_actions", .ref dX)]))) dA = some (.dK (ascK ka yA)) := But.put.dk a5 (s7 _ _ eA4)
    have eP5 : (upd H7 a (.ins C dx (putF "_lines" (.ref pL) [("_agents", .ref dA), ("_pools", .ref dP), ("_actions", .ref dX)]))) dP = some (.dK (ascK kp yP)) := But.put.dk a5 (s7 _ _ eP4)
    have eX5 : (upd H7 a (.ins C dx (putF "_lines" (.ref pL) [("_agents", .ref dA), ("_pools", .ref dP), ("_actions", .ref dX)]))) dX = some (.dK (ascK k0 yX)) := But.put.dk a5 (s7 _ _ eX4)
    have eL5 : (upd H7 a (.ins C dx (putF "_lines" (.ref pL) [("_agents", .ref dA), ("_pools", .ref dP), ("_actions", .ref dX)]))) pL = some (.tup ((linesOf agS plS asS).map V.str)) := But.put.at a5 eL fun z => by cases z
    generalize upd H7 a (.ins C dx (putF "_lines" (.ref pL) [("_agents", .ref dA), ("_pools", .ref dP), ("_actions", .ref dX)])) = K5 at b5 c5 eA5 eP5 eX5 eL5 ⊢
    -- the plans
    refine ⟨_, rfl, a, C, dx, _, _, rfl, c5, SC.cl, SC.n2, rfl, dP, _, rfl, eP5, fun lp nlp => ?_⟩
    have el : (ascK kp yP).map (fun kv => kV kv.1) = (plS.map (·.1)).map V.str := by
      rw [eyP]
      unfold ascK
      rw [List.map_map]
      rfl
    rw [el]
    have s8 : Same K5 (upd K5 lp (.lst ((plS.map (·.1)).map V.str))) := gSame_new nlp
    have e8 : (upd K5 lp (.lst ((plS.map (·.1)).map V.str))) lp = some (.lst ((plS.map (·.1)).map V.str)) := upd_same
    generalize upd K5 lp (.lst ((plS.map (·.1)).map V.str)) = H8 at s8 e8 ⊢
    have c8 := s8 _ _ c5
    have eX8 := s8 _ _ eX5
    have nax : a ≠ dX := fun z => by
      rw [z, eX8] at c8
      cases c8
    refine ⟨dX, _, eX8, trivial, fun od => ⟨_, rfl, a, C, dx, _, _, rfl, same_lock c8 nax, SC.cl, SC.n3, rfl, dX, od, _, rfl, upd_same, fun DP hDP => ?_⟩⟩
    have hLx : ExtD H8 (upd H8 dX (.frz od (.dK (ascK k0 yX)))) := ExtD.lock eX8
    have hLd : (upd H8 dX (.frz od (.dK (ascK k0 yX)))) dX = some (.frz od (.dK (ascK k0 yX))) := upd_same
    have hun : ∀ H', Same (upd H8 dX (.frz od (.dK (ascK k0 yX)))) H' → Same H8 (upd H' dX (.dK (ascK k0 yX))) := fun H' s' => same_unlock eX8 s'
    generalize upd H8 dX (.frz od (.dK (ascK k0 yX))) = HL at hLx hLd hun hDP ⊢
    have eLp : HL lp = some (.lst ((plS.map (·.1)).map V.str)) := hLx _ _ e8 fun _ z => by cases z
    refine dc_it (n := (ascK k0 yX).length) walk_itemsK (fun i H9 => Same HL H9 ∧ ∃ kvs, H9 DP = some (.dK kvs) ∧ kvs.length ≤ i) ⟨gSame_new hDP, [], upd_same, Nat.le_refl _⟩ (fun i H9 _ h9 => h9.1 _ _ hLd) (fun i x H9 H' hi h9 hy => ?_) (fun H9 h9 => ?_)
    · obtain ⟨s9, kvs, d9, l9⟩ := h9
      obtain ⟨T, kv, hkv, rfl, hT, rfl⟩ := hy
      obtain ⟨ac, hac, r1, b, rb, va⟩ := paired_get qX hkv
      have s6' : Same HL (upd H9 T (.tup [kV kv.1, kv.2])) := s9.trans (gSame_new hT)
      have d6 := gSame_new (o := .tup [kV kv.1, kv.2]) hT _ _ d9
      have t6 : (upd H9 T (.tup [kV kv.1, kv.2])) T = some (.tup [kV kv.1, kv.2]) := upd_same
      generalize upd H9 T (.tup [kV kv.1, kv.2]) = H10 at s6' d6 t6 ⊢
      have va10 : ActV K H10 C_Action b ac.1 ac.2 := (actV_extD hLx ((b5.acV ha hne va).same s8)).same s6'
      have va10' := va10
      obtain ⟨_, _, _, _, _, _, _, vl, vw, _⟩ := va10'
      rw [r1, rb] at t6
      refine ⟨T, _, rfl, SqT.of t6, rfl, _, _, rfl, _, _, rfl, rfl, rfl, ?_⟩
      refine ⟨_, rfl, _, rfl, va10.prop fun p ys p1 p2 p3 => ⟨_, rfl, fun x dx' hx hdx nx => ?_⟩⟩
      have sN : Same H10 (upd (upd H10 dx' (.own x)) x (.ins CP dx' [])) := (gSame_new hdx).trans (gSame_new (by rw [upd_ne nx.symm]; exact hx))
      have hN : (upd (upd H10 dx' (.own x)) x (.ins CP dx' [])) x = some (.ins CP dx' []) := upd_same
      generalize upd (upd H10 dx' (.own x)) x (.ins CP dx' []) = H11 at sN hN ⊢
      refine ⟨x, dx', p, lp, ys, ac.2, plS.map (·.1), rfl, hN, gSeqT sN p1, p2.same sN, paired_mono (fun _ _ h => MvR.same sN h) p3, vl, vw, SqL.of (sN _ _ (s6' _ _ eLp)), by rw [List.length_map]; exact okS.lp, fun H12 k12 => ?_⟩
      have s12 : Same H10 H12 := fun b o e => k12 b o (fun z => by
        rw [z, hx] at e
        cases e) (sN b o e)
      have lX : (ascK k0 yX).length = asS.length := qX.length
      have l16 := okS.l16
      refine ⟨rfl, kvs, Sum.inr ac.1, rfl, s12 _ _ d6, by rw [sizeLine_eq]; omega, gSame_mut (s6'.trans s12) hDP, _, upd_same, ?_⟩
      exact Nat.le_trans putK_len (by omega)
    obtain ⟨s9, kvs, d9, l9⟩ := h9
    have s9' := hun _ s9
    refine ⟨s9 _ _ hLd, ?_⟩
    generalize upd H9 dX (.dK (ascK k0 yX)) = H13 at s9' ⊢
    have s13 := s8.trans s9'
    have a6 := s13 _ _ c5
    refine ⟨_, rfl, a, C, dx, _, rfl, a6, SC.cl, SC.n5, by show 4 < 1000; decide, ?_⟩
    have b6 : But a H (upd H13 a (.ins C dx (putF "_plans" (.ref DP) [("_agents", .ref dA), ("_pools", .ref dP), ("_actions", .ref dX), ("_lines", .ref pL)]))) := (b5.trans (But.of s13)).trans But.put
    have c6 : (upd H13 a (.ins C dx (putF "_plans" (.ref DP) [("_agents", .ref dA), ("_pools", .ref dP), ("_actions", .ref dX), ("_lines", .ref pL)]))) a = some (.ins C dx [("_agents", .ref dA), ("_pools", .ref dP), ("_actions", .ref dX), ("_lines", .ref pL), ("_plans", .ref DP)]) := upd_same
    have k6 : But a K5 (upd H13 a (.ins C dx (putF "_plans" (.ref DP) [("_agents", .ref dA), ("_pools", .ref dP), ("_actions", .ref dX), ("_lines", .ref pL)]))) := (But.of s13).trans But.put
    generalize upd H13 a (.ins C dx (putF "_plans" (.ref DP) [("_agents", .ref dA), ("_pools", .ref dP), ("_actions", .ref dX), ("_lines", .ref pL)])) = K6 at b6 c6 k6 ⊢
    refine fun dN H14 nN eN sN => ⟨_, rfl, a, C, dx, _, rfl, sN _ _ c6, SC.cl, SC.n6, by show 5 < 1000; decide, ?_⟩
    have k7 : But a K5 (upd H14 a (.ins C dx (putF "notes" (.ref dN) [("_agents", .ref dA), ("_pools", .ref dP), ("_actions", .ref dX), ("_lines", .ref pL), ("_plans", .ref DP)]))) := (k6.trans (But.of sN)).trans But.put
    have b7 := b5.trans k7
    refine q _ agS plS asS b7 pag ppl pas ⟨⟨dx, dA, dP, dX, pL, DP, dN, _, _, _, upd_same, k7.dk c5 eA5, k7.dk c5 eP5, k7.dk c5 eX5, k7.at c5 eL5 (fun z => by cases z), pr_mono (fun _ _ h => b7.ow ha h) qA, pr_mono (fun _ _ h => b7.ow ha h) qP, pr_mono (fun _ _ h => ⟨h.1, b7.ac ha hne h.2⟩) qX⟩, okS, fun x hx => (fit x (pas.mem_iff.mp hx)).perm pag ppl, ?_, ?_, ?_⟩
    · rw [eyA]
      exact syA
    · rw [eyP]
      exact syP
    · rw [eyX]
      exact syX
end
end Gk

set_option Elab.async false
set_option linter.all false
set_option maxRecDepth 100000
set_option maxHeartbeats 8000000
namespace Gk
open PySem PySem.Spec PyProof.Rows L2
abbrev s_owners : Stmt := topS 44
theorem sc_owners : FnScope ["tape", "plain", "name"] ["tape"] (defScope s_owners) := ⟨rfl, rfl, rfl, by decide +kernel, rfl, by decide +kernel, by decide +kernel⟩
abbrev s_states : Stmt := topS 45
theorem sc_states : FnScope ["plain", "owner"] ["plain", "owner"] (defScope s_states) := ⟨rfl, rfl, rfl, by decide +kernel, rfl, by decide +kernel, by decide +kernel⟩
theorem none_back {H H' : Hp} {a : Addr} (s : Same H H') (n : H' a = none) : H a = none := by
  cases e : H a with
  | none => rfl
  | some o =>
    rw [s _ _ e] at n
    cases n
/-- a dict's entry: a list of texts -/
def OwL (H : Hp) (kv : Key × V) (o : Own) : Prop := kv.1 = Sum.inr o.1 ∧ ∃ p, kv.2 = .ref p ∧ H p = some (.lst (o.2.map V.str))
def plK (dA dP dX : Addr) : List (Key × V) := [(Sum.inr "agents", .ref dA), (Sum.inr "pools", .ref dP), (Sum.inr "actions", .ref dX)]
theorem plK_nd {a b c : Addr} : ((([] : List (Key × V)) ++ plK a b c).map (·.1)).Nodup := by
  show ([Sum.inr "agents", Sum.inr "pools", Sum.inr "actions"] : List Key).Nodup
  decide +kernel
theorem _root_.L2.Kt.at {t b : Addr} {H H' : Hp} {o : HO} (k : Kt t H H') (hT : Tp H t) (h : H b = some o) (n : ∀ x y z, o ≠ .lst [.int x, .int y, .int z]) : H' b = some o := k.kp _ _ (fun z => by
  obtain ⟨x, y, u, e⟩ := hT
  rw [z, e] at h
  exact n _ _ _ (Option.some.inj h).symm) h
def OkO (o : Own) : Prop := 1 ≤ o.2.length ∧ o.2.length ≤ 3 ∧ o.2.Nodup ∧ ∀ s ∈ o.2, s ∈ (["s", "t", "u"] : List Str)
theorem stu_ok {m : Nat} {nm : Str} {ys rest : List Str} (hm : m ∈ ([1, 2, 2, 3] : List Nat)) (pm : (ys ++ rest).Perm (["s", "t", "u"] : List Str)) (lm : ys.length = min (m : Int).toNat (["s", "t", "u"] : List Str).length) : OkO (nm, ys) := by
  have h0 : 1 ≤ m ∧ m ≤ 3 := by
    simp only [List.mem_cons, List.not_mem_nil, or_false] at hm
    omega
  have lm : ys.length = min m 3 := lm
  refine ⟨by show 1 ≤ ys.length; omega, by show ys.length ≤ 3; omega, ?_, fun s hs => pm.mem_iff.mp (List.mem_append_left _ hs)⟩
  have nd : (["s", "t", "u"] : List Str).Nodup := by decide +kernel
  exact (List.nodup_append.mp (pm.nodup_iff.mpr nd)).1
theorem stu_sub {m : Nat} (h : m ∈ ([2, 2, 3, 3] : List Nat)) : m ∈ ([1, 2, 2, 3] : List Nat) := by
  simp only [List.mem_cons, List.not_mem_nil, or_false] at h ⊢
  omega
theorem stu_s : OkS (["s", "t", "u"] : List Str) := OkS.of fun s hs => by
  have : ∀ s ∈ (["s", "t", "u"] : List Str), isW s = true := by decide +kernel
  exact this s hs
theorem tk_nd {l : List Str} (h : l.Nodup) (j : Nat) : (l.take j).Nodup := by
  have h2 := h
  rw [← List.take_append_drop j l, List.nodup_append] at h2
  exact h2.1
theorem inr_fresh {l : List Str} {i : Nat} {x : Str} (nd : l.Nodup) (h : l[i]? = some x) : (Sum.inr x : Key) ∉ (l.take i).map Sum.inr := fun hm => by
  obtain ⟨y, hy, e⟩ := List.mem_map.mp hm
  have e : y = x := Sum.inr.inj e
  rw [e] at hy
  exact take_fresh (f := id) (by rw [List.map_id]; exact nd) h (by rw [List.map_id]; exact hy)
theorem owl_keys {H : Hp} : ∀ {kvs : List (Key × V)} {os : List Own}, Paired (OwL H) kvs os → kvs.map (·.1) = (os.map (·.1)).map Sum.inr
  | _, _, .nil => rfl
  | _, _, .cons h t => by rw [List.map_cons, List.map_cons, List.map_cons, h.1, owl_keys t]
theorem OwL.kp {H H' : Hp} {kv : Key × V} {o : Own} (h : OwL H kv o) (k : ∀ l (ss : List Str), H l = some (.lst (ss.map V.str)) → H' l = some (.lst (ss.map V.str))) : OwL H' kv o := by
  obtain ⟨e, p, ep, h⟩ := h
  exact ⟨e, p, ep, k _ _ h⟩
/-- all but lists stays -/
def ExtL (H H' : Hp) : Prop := ∀ b o, (∀ zs, o ≠ .lst zs) → H b = some o → H' b = some o
theorem ExtL.of {H H' : Hp} (s : Same H H') : ExtL H H' := fun b o _ h => s b o h
theorem ExtL.trans {H H1 H2 : Hp} (a : ExtL H H1) (b : ExtL H1 H2) : ExtL H H2 := fun c o n h => b c o n (a c o n h)
theorem ExtL.kt {t : Addr} {H H' : Hp} (k : Kt t H H') (hT : Tp H t) : ExtL H H' := fun b o n h => k.at hT h fun _ _ _ => n _
theorem ExtL.lst {H : Hp} {F : Addr} {ys : List V} {u : HO} (e : H F = some (.lst ys)) : ExtL H (upd H F u) := fun b o n h => by
  rw [upd_ne fun z => ?_]
  · exact h
  · rw [z, e] at h
    exact n _ (Option.some.inj h).symm
theorem sqT_extL {K : PySem.W.Frag} {H H' : Hp} {p : Addr} {xs : List V} (e : ExtL H H') (h : SqT K H p xs) : SqT K H' p xs := by
  rcases h with (h | ⟨w, h⟩) | h
  · exact .inl (.inl (e _ _ (fun _ z => by cases z) h))
  · exact .inl (.inr ⟨w, e _ _ (fun _ z => by cases z) h⟩)
  · exact .inr h
theorem tyT_extL {K : PySem.W.Frag} {H H' : Hp} {x : V} (e : ExtL H H') (h : TyX K H x (.type "tuple")) : TyX K H' x (.type "tuple") := by
  generalize ht : Value.type "tuple" = w at h
  cases h with
  | base b =>
    cases b with
    | tup q =>
      rw [← ht]
      exact .base (.tup (e _ _ (fun _ z => by cases z) q))
    | _ => first | exact absurd ht (by decide) | (injection ht with q; exact absurd q (by decide)) | cases ht
  | kTuple q c =>
    rw [← ht]
    exact .kTuple q c
  | fTuple q =>
    rw [← ht]
    exact .fTuple (e _ _ (fun _ z => by cases z) q)
  | _ => first | exact absurd ht (by decide) | (injection ht with q; exact absurd q (by decide)) | cases ht
theorem mvR_extL {K : PySem.W.Frag} {H H' : Hp} {x : V} {m : Mv} (e : ExtL H H') (h : MvR K H x m) : MvR K H' x m := by
  obtain ⟨b, rfl, h1, h2⟩ := h
  exact ⟨b, rfl, sqT_extL e h1, tyT_extL e h2⟩
theorem actV_extL {K : PySem.W.Frag} {H H' : Hp} {C a : Addr} {c : Str} {ms : List Mv} (e : ExtL H H') (h : ActV K H C a c ms) : ActV K H' C a c ms := by
  obtain ⟨dx, p, ys, h1, h2, h3, h4, h5⟩ := h
  exact ⟨dx, p, ys, e _ _ (fun _ z => by cases z) h1, sqT_extL e h2, tyT_extL e h3, pr_mono (fun _ _ h => mvR_extL e h) h4, h5⟩
/-- names and states of owners as the law draws them -/
structure OkOw (ns : List Str) (os : List Own) : Prop where
  pre : ∃ k, os.map (·.1) = ns.take k
  st : ∀ o ∈ os, OkO o
def spOwL (K : PySem.W.Frag) : Sp := fun vs H Q _ => ∃ t : Addr, vs = [.ref t] ∧ Tp H t ∧ ∀ (p dA dP dX : Addr) (kA kP : List (Key × V)) (ag pl : List Own) (H' : Hp), Kt t H H' → H' p = some (.dK (plK dA dP dX)) → H' dA = some (.dK kA) → H' dP = some (.dK kP) → H' dX = some (.dK []) →
  (H p = none ∧ H dA = none ∧ H dP = none ∧ H dX = none ∧ dA ≠ dP ∧ dA ≠ dX ∧ dP ≠ dX) → Paired (OwL H') kA ag → Paired (OwL H') kP pl → OkOw ["ann", "bo", "cy"] ag → OkOw ["kin", "lot"] pl → ag ++ pl ≠ [] → Q (.ref p) H'
section
variable {P : Program} {w : World} {K : PySem.W.Frag} {mg : Str → Option Value} {base : Heap}
theorem ok_owners {f fP fF : Addr} {fd fdP fdF : FuncData} (B : Blt mg) (D_pick : Df K mg "_law_pick" s_pick ["tape", "items"] fP fdP) (G_pick : FnOk P w K mg base CX0 2 fP fdP ["tape", "items"] (spPick K))
    (D_few : Df K mg "_law_few" s_few ["tape", "items", "many"] fF fdF) (G_few : FnOk P w K mg base CX0 2 fF fdF ["tape", "items", "many"] (spFew K))
    (D : Df K mg "_law_owners" s_owners ["tape"] f fd) : FnOk P w K mg base CX0 3 f fd ["tape"] (spOwL K) := by
  refine D.F.ok sc_owners (fun vs H Q E h => ?_) (fun cdv A outer s H vs Q E hr h => ?_)
  · obtain ⟨t, rfl, _⟩ := h
    rfl
  · obtain ⟨t, rfl, hT, q⟩ := h
    refine ⟨_, (pss_cons (ps_set (i := 1) sc_owners.nd rfl (Or.inl rfl) (pe_disp (pps_cons pe_str pe_dnewN (pps_cons pe_str pe_dnewN (pps_cons pe_str pe_dnewN pps_nil))) (by rfl) (by rfl) (fun z => by cases z) (by decide)))
    (pss_cons (ps_for PassesOwn.never rfl (pi_list (pe_slice sl_listN (pe_lstN (pa_cons pe_str (pa_cons pe_str (pa_cons pe_str pa_nil)))) po_none (po_some (pe_call G_pick (hr.mono (by decide)) (by rfl) D_pick.g D_pick.F.kp D_pick.b .nil pass0 (pa_cons (pv 0) (pa_cons (pe_lstN (pa_cons pe_int (pa_cons pe_int (pa_cons pe_int (pa_cons pe_int (pa_cons pe_int (pa_cons pe_int pa_nil))))))) pa_nil)))))) (pg_name (i := 2) sc_owners.nd rfl (Or.inl rfl))
    (pss_one (ps_dput (hu_of hr) (pe_dget (hu_of hr) (pv 1) pe_str (fun _ _ => rfl)) (pv 2) (pe_call G_few (hr.mono (by decide)) (by rfl) D_few.g D_few.F.kp D_few.b .nil pass0 (pa_cons (pv 0) (pa_cons (pe_lstN (pa_cons pe_str (pa_cons pe_str (pa_cons pe_str pa_nil)))) (pa_cons (pe_call G_pick (hr.mono (by decide)) (by rfl) D_pick.g D_pick.F.kp D_pick.b .nil pass0 (pa_cons (pv 0) (pa_cons (pe_lstN (pa_cons pe_int (pa_cons pe_int (pa_cons pe_int (pa_cons pe_int pa_nil))))) pa_nil))) pa_nil)))) rfl)))
    (pss_cons (ps_for PassesOwn.never rfl (pi_list (pe_slice sl_listN (pe_lstN (pa_cons pe_str (pa_cons pe_str pa_nil))) po_none (po_some (pe_call G_pick (hr.mono (by decide)) (by rfl) D_pick.g D_pick.F.kp D_pick.b .nil pass0 (pa_cons (pv 0) (pa_cons (pe_lstN (pa_cons pe_int (pa_cons pe_int (pa_cons pe_int (pa_cons pe_int (pa_cons pe_int (pa_cons pe_int pa_nil))))))) pa_nil)))))) (pg_name (i := 2) sc_owners.nd rfl (Or.inl rfl))
    (pss_one (ps_dput (hu_of hr) (pe_dget (hu_of hr) (pv 1) pe_str (fun _ _ => rfl)) (pv 2) (pe_call G_few (hr.mono (by decide)) (by rfl) D_few.g D_few.F.kp D_few.b .nil pass0 (pa_cons (pv 0) (pa_cons (pe_lstN (pa_cons pe_str (pa_cons pe_str (pa_cons pe_str pa_nil)))) (pa_cons (pe_call G_pick (hr.mono (by decide)) (by rfl) D_pick.g D_pick.F.kp D_pick.b .nil pass0 (pa_cons (pv 0) (pa_cons (pe_lstN (pa_cons pe_int (pa_cons pe_int (pa_cons pe_int (pa_cons pe_int pa_nil))))) pa_nil))) pa_nil)))) rfl)))
    (pss_cons (ps_if (PW.pt (pw_and (pt_cmpR (op_eqDE hr) (pe_dget (hu_of hr) (pv 1) pe_str (fun _ _ => rfl)) pe_dnewN (nomark _)) (pw_and1 (pt_cmpR (op_eqDE hr) (pe_dget (hu_of hr) (pv 1) pe_str (fun _ _ => rfl)) pe_dnewN (nomark _)))))
    (pss_one (ps_dput (hu_of hr) (pe_dget (hu_of hr) (pv 1) pe_str (fun _ _ => rfl)) pe_str (pe_call G_few (hr.mono (by decide)) (by rfl) D_few.g D_few.F.kp D_few.b .nil pass0 (pa_cons (pv 0) (pa_cons (pe_lstN (pa_cons pe_str (pa_cons pe_str (pa_cons pe_str pa_nil)))) (pa_cons pe_int pa_nil)))) rfl)) pss_nil)
    (pss_one (ps_ret (pv 1))))))), ?_⟩
    refine fun p np dA H1 nA eA sA dP H2 nP eP sP dX H3 nX eX sX => ?_
    have k3 : Kt t H H3 := ((Kt.new hT np).trans (Kt.same (Kt.new hT np).tp (sA.trans (sP.trans sX))))
    have ep : H3 p = some (.dK []) := sX _ _ (sP _ _ (sA _ _ upd_same))
    have eA3 := sX _ _ (sP _ _ eA)
    have eP3 := sX _ _ eP
    have npt : p ≠ t := Kt.ne hT np
    have nAH : H dA = none := none_back (gSame_new np) nA
    have nPH : H dP = none := none_back ((gSame_new np).trans sA) nP
    have nXH : H dX = none := none_back (((gSame_new np).trans sA).trans sP) nX
    have nAp : dA ≠ p := fun z => by rw [z, upd_same] at nA; cases nA
    have nPp : dP ≠ p := fun z => by rw [z, sA _ _ upd_same] at nP; cases nP
    have nXp : dX ≠ p := fun z => by rw [z, sP _ _ (sA _ _ upd_same)] at nX; cases nX
    have nPA : dP ≠ dA := fun z => by rw [z, eA] at nP; cases nP
    have nXA : dX ≠ dA := fun z => by rw [z, sP _ _ eA] at nX; cases nX
    have nXP : dX ≠ dP := fun z => by rw [z, eP] at nX; cases nX
    refine ⟨ep, plK dA dP dX, rfl, by show 3 ≤ 15; decide, ?_⟩
    rw [mergeK_nil plK_nd, List.nil_append]
    have k4 : Kt t H (upd H3 p (.dK (plK dA dP dX))) := k3.mut np npt
    have ep4 : (upd H3 p (.dK (plK dA dP dX))) p = some (.dK (plK dA dP dX)) := upd_same
    have eA4 : (upd H3 p (.dK (plK dA dP dX))) dA = some (.dK []) := by rw [upd_ne nAp]; exact eA3
    have eP4 : (upd H3 p (.dK (plK dA dP dX))) dP = some (.dK []) := by rw [upd_ne nPp]; exact eP3
    have eX4 : (upd H3 p (.dK (plK dA dP dX))) dX = some (.dK []) := by rw [upd_ne nXp]; exact eX
    generalize upd H3 p (.dK (plK dA dP dX)) = H4 at k4 ep4 eA4 eP4 eX4 ⊢
    -- the agents
    refine ⟨by rw [sizeLine_eq]; decide, fun l1 H5 n1 e1 s1 => ?_⟩
    refine ⟨_, rfl, by rw [sizeLine_eq]; decide, fun l2 H6 n2 e2 s2 => ?_⟩
    have k6 := k4.trans ((Kt.same k4.tp s1).trans (Kt.same (Kt.same k4.tp s1).tp s2))
    refine ⟨t, _, ([0, 1, 1, 1, 2, 3] : List Nat).map (fun n => V.int (n : Nat)), rfl, k6.tp, .inl ⟨l2, rfl, Kt.ne (Kt.same k4.tp s1).tp n2, .inl (SqL.of e2)⟩, by decide, by decide, fun y H7 hy k7 => ?_⟩
    obtain ⟨j, hj, rfl⟩ := List.mem_map.mp hy
    have e17 : H7 l1 = some (.lst ((["ann", "bo", "cy"] : List Str).map V.str)) := k7.strs k6.tp (s2 _ _ e1)
    refine ⟨_, rfl, l1, _, rfl, SqL.of e17, fun l3 H8 n3 e3 s3 => ?_⟩
    rw [cut_to] at e3
    have k8 := k6.trans (k7.trans (Kt.same k7.tp s3))
    have kk := (Kt.same k4.tp s1).trans ((Kt.same (Kt.same k4.tp s1).tp s2).trans (k7.trans (Kt.same k7.tp s3)))
    refine ⟨l3, rfl, ⟨_, SqL.of e3⟩, ?_⟩
    refine for_list (K := K) (a := l3) (xs := ((["ann", "bo", "cy"] : List Str).take j).map V.str) (fun i σ H5 => (∃ o, σ = [some (.ref t), some (.ref p), o]) ∧ Kt t H H5 ∧ H5 l3 = some (.lst (((["ann", "bo", "cy"] : List Str).take j).map V.str)) ∧ H5 p = some (.dK (plK dA dP dX)) ∧ H5 dP = some (.dK []) ∧ H5 dX = some (.dK []) ∧
      ∃ kA ag, H5 dA = some (.dK kA) ∧ Paired (OwL H5) kA ag ∧ ag.map (·.1) = ((["ann", "bo", "cy"] : List Str).take j).take i ∧ ∀ o ∈ ag, OkO o) ⟨⟨none, rfl⟩, k8, e3, kk.at k4.tp ep4 (fun _ _ _ z => by cases z), kk.at k4.tp eP4 (fun _ _ _ z => by cases z), kk.at k4.tp eX4 (fun _ _ _ z => by cases z), [], [], kk.at k4.tp eA4 (fun _ _ _ z => by cases z), .nil, rfl, fun o ho => by cases ho⟩ (fun i σ H5 _ h5 => SqL.of h5.2.2.1) (fun i x σ H9 hx h9 => ?_) (fun σ H9 h9 => ?_)
    · obtain ⟨⟨o, rfl⟩, k9, f3, fp, fP, fX, kA, ag, fA, qA, nA, oA⟩ := h9
      rw [List.getElem?_map] at hx
      obtain ⟨nm, hnm, rfl⟩ := Option.map_eq_some_iff.mp hx
      -- the states
      refine ⟨_, rfl, by rw [sizeLine_eq]; decide, fun l4 H10 n4 e4 s4 => ?_⟩
      refine ⟨_, rfl, by rw [sizeLine_eq]; decide, fun l5 H11 n5 e5 s5 => ?_⟩
      have t10 := (Kt.same k9.tp s4).tp
      have t11 := (Kt.same t10 s5).tp
      refine ⟨t, _, ([1, 2, 2, 3] : List Nat).map (fun n => V.int (n : Nat)), rfl, t11, .inl ⟨l5, rfl, Kt.ne t10 n5, .inl (SqL.of e5)⟩, by decide, by decide, fun y H12 hy k12 => ?_⟩
      obtain ⟨m, hm, rfl⟩ := List.mem_map.mp hy
      have e412 : H12 l4 = some (.lst ((["s", "t", "u"] : List Str).map V.str)) := k12.strs t11 (s5 _ _ e4)
      refine ⟨t, l4, ["s", "t", "u"], m, rfl, k12.tp, Kt.ne k9.tp n4, SqL.of e412, stu_s, by decide, by omega, fun pF ys rest H13 pm lm nF eF kF => ?_⟩
      have q12 : Kt t H9 H12 := (Kt.same k9.tp s4).trans ((Kt.same t10 s5).trans k12)
      have q13 : Kt t H9 H13 := q12.trans kF
      have k13 := k9.trans q13
      have okS : OkO (nm, ys) := stu_ok hm pm lm
      have fA13 := q13.at k9.tp fA (fun _ _ _ z => by cases z)
      refine ⟨_, rfl, p, _, rfl, DGet.k (k := Sum.inr "agents") (q13.at k9.tp fp (fun _ _ _ z => by cases z)), ?_⟩
      have hln : ag.length ≤ 3 := by
        have h := congrArg List.length nA
        rw [List.length_map, List.length_take, List.length_take] at h
        have h3 : (["ann", "bo", "cy"] : List Str).length = 3 := rfl
        omega
      have hk := owl_keys qA
      have lkA := qA.length
      have hfr : (Sum.inr nm : Key) ∉ kA.map (·.1) := by
        rw [hk, nA]
        exact inr_fresh (tk_nd (by decide +kernel) j) hnm
      refine ⟨_, rfl, dA, _, rfl, DPut.k (k := Sum.inr nm) fA13 (by rw [sizeLine_eq]; omega), ?_⟩
      rw [putK_add hfr]
      have dk : ∀ b o, b ≠ dA → H13 b = some o → (upd H13 dA (.dK (kA ++ [(Sum.inr nm, .ref pF)]))) b = some o := fun b o n h => by rw [upd_ne n]; exact h
      have ndl : ∀ b xs, H13 b = some (.lst xs) → b ≠ dA := fun b xs h z => by rw [z, fA13] at h; cases h
      refine ⟨⟨some (.str nm), rfl⟩, k13.mut nAH (Kt.ne hT nAH), ?_, dk _ _ nAp.symm (q13.at k9.tp fp (fun _ _ _ z => by cases z)), dk _ _ nPA (q13.at k9.tp fP (fun _ _ _ z => by cases z)), dk _ _ nXA (q13.at k9.tp fX (fun _ _ _ z => by cases z)), _, ag ++ [(nm, ys)], upd_same, ?_, ?_, fun o ho => ?_⟩
      · have e := q13.strs k9.tp f3
        exact dk _ _ (ndl _ _ e) e
      · refine paired_app (pr_mono (fun _ _ h => OwL.kp h fun l ss h => ?_) qA) (.cons ⟨rfl, pF, rfl, dk _ _ (ndl _ _ eF) eF⟩ .nil)
        have e := q13.strs k9.tp h
        exact dk _ _ (ndl _ _ e) e
      · rw [List.map_append, nA, List.take_add_one, hnm]
        rfl
      · rcases List.mem_append.mp ho with ho | ho
        · exact oA o ho
        · rw [List.mem_singleton.mp ho]
          exact okS
    obtain ⟨⟨o, rfl⟩, k9, f3, fp, fP, fX, kA, ag, fA, qA, nA, oA⟩ := h9
    rw [List.length_map, List.take_length] at nA
    have preA : OkOw ["ann", "bo", "cy"] ag := ⟨⟨j, nA⟩, oA⟩
    -- the pools
    have kB := k9
    have bp := fp
    have bP := fP
    have bX := fX
    have bA := fA
    have bQ := qA
    have lkA := qA.length
    refine ⟨by rw [sizeLine_eq]; decide, fun l1 H5 n1 e1 s1 => ?_⟩
    refine ⟨_, rfl, by rw [sizeLine_eq]; decide, fun l2 H6 n2 e2 s2 => ?_⟩
    have k6 := kB.trans ((Kt.same kB.tp s1).trans (Kt.same (Kt.same kB.tp s1).tp s2))
    refine ⟨t, _, ([0, 1, 1, 1, 1, 2] : List Nat).map (fun n => V.int (n : Nat)), rfl, k6.tp, .inl ⟨l2, rfl, Kt.ne (Kt.same kB.tp s1).tp n2, .inl (SqL.of e2)⟩, by decide, by decide, fun y H7 hy k7 => ?_⟩
    obtain ⟨j, hj, rfl⟩ := List.mem_map.mp hy
    have e17 : H7 l1 = some (.lst ((["kin", "lot"] : List Str).map V.str)) := k7.strs k6.tp (s2 _ _ e1)
    refine ⟨_, rfl, l1, _, rfl, SqL.of e17, fun l3 H8 n3 e3 s3 => ?_⟩
    rw [cut_to] at e3
    have k8 := k6.trans (k7.trans (Kt.same k7.tp s3))
    have kk := (Kt.same kB.tp s1).trans ((Kt.same (Kt.same kB.tp s1).tp s2).trans (k7.trans (Kt.same k7.tp s3)))
    refine ⟨l3, rfl, ⟨_, SqL.of e3⟩, ?_⟩
    refine for_list (K := K) (a := l3) (xs := ((["kin", "lot"] : List Str).take j).map V.str) (fun i σ H5 => (∃ o, σ = [some (.ref t), some (.ref p), o]) ∧ Kt t H H5 ∧ H5 l3 = some (.lst (((["kin", "lot"] : List Str).take j).map V.str)) ∧ H5 p = some (.dK (plK dA dP dX)) ∧ H5 dA = some (.dK kA) ∧ H5 dX = some (.dK []) ∧ Paired (OwL H5) kA ag ∧
      ∃ kP pl, H5 dP = some (.dK kP) ∧ Paired (OwL H5) kP pl ∧ pl.map (·.1) = ((["kin", "lot"] : List Str).take j).take i ∧ ∀ o ∈ pl, OkO o) ⟨⟨o, rfl⟩, k8, e3, kk.at kB.tp bp (fun _ _ _ z => by cases z), kk.at kB.tp bA (fun _ _ _ z => by cases z), kk.at kB.tp bX (fun _ _ _ z => by cases z), pr_mono (fun _ _ h => OwL.kp h fun l ss h => kk.strs kB.tp h) bQ, [], [], kk.at kB.tp bP (fun _ _ _ z => by cases z), .nil, rfl, fun o ho => by cases ho⟩ (fun i σ H5 _ h5 => SqL.of h5.2.2.1) (fun i x σ H9 hx h9 => ?_) (fun σ H9 h9 => ?_)
    · obtain ⟨⟨o, rfl⟩, k9, f3, fp, fA, fX, qA, kP, pl, fP, qP, nP', oP⟩ := h9
      rw [List.getElem?_map] at hx
      obtain ⟨nm, hnm, rfl⟩ := Option.map_eq_some_iff.mp hx
      -- the states
      refine ⟨_, rfl, by rw [sizeLine_eq]; decide, fun l4 H10 n4 e4 s4 => ?_⟩
      refine ⟨_, rfl, by rw [sizeLine_eq]; decide, fun l5 H11 n5 e5 s5 => ?_⟩
      have t10 := (Kt.same k9.tp s4).tp
      have t11 := (Kt.same t10 s5).tp
      refine ⟨t, _, ([2, 2, 3, 3] : List Nat).map (fun n => V.int (n : Nat)), rfl, t11, .inl ⟨l5, rfl, Kt.ne t10 n5, .inl (SqL.of e5)⟩, by decide, by decide, fun y H12 hy k12 => ?_⟩
      obtain ⟨m, hm, rfl⟩ := List.mem_map.mp hy
      have e412 : H12 l4 = some (.lst ((["s", "t", "u"] : List Str).map V.str)) := k12.strs t11 (s5 _ _ e4)
      refine ⟨t, l4, ["s", "t", "u"], m, rfl, k12.tp, Kt.ne k9.tp n4, SqL.of e412, stu_s, by decide, by omega, fun pF ys rest H13 pm lm nF eF kF => ?_⟩
      have q12 : Kt t H9 H12 := (Kt.same k9.tp s4).trans ((Kt.same t10 s5).trans k12)
      have q13 : Kt t H9 H13 := q12.trans kF
      have k13 := k9.trans q13
      have okS : OkO (nm, ys) := stu_ok (stu_sub hm) pm lm
      have fP13 := q13.at k9.tp fP (fun _ _ _ z => by cases z)
      refine ⟨_, rfl, p, _, rfl, DGet.k (k := Sum.inr "pools") (q13.at k9.tp fp (fun _ _ _ z => by cases z)), ?_⟩
      have hln : pl.length ≤ 2 := by
        have h := congrArg List.length nP'
        rw [List.length_map, List.length_take, List.length_take] at h
        have h3 : (["kin", "lot"] : List Str).length = 2 := rfl
        omega
      have hk := owl_keys qP
      have lkP := qP.length
      have hfr : (Sum.inr nm : Key) ∉ kP.map (·.1) := by
        rw [hk, nP']
        exact inr_fresh (tk_nd (by decide +kernel) j) hnm
      refine ⟨_, rfl, dP, _, rfl, DPut.k (k := Sum.inr nm) fP13 (by rw [sizeLine_eq]; omega), ?_⟩
      rw [putK_add hfr]
      have dk : ∀ b o, b ≠ dP → H13 b = some o → (upd H13 dP (.dK (kP ++ [(Sum.inr nm, .ref pF)]))) b = some o := fun b o n h => by rw [upd_ne n]; exact h
      have ndl : ∀ b xs, H13 b = some (.lst xs) → b ≠ dP := fun b xs h z => by rw [z, fP13] at h; cases h
      refine ⟨⟨some (.str nm), rfl⟩, k13.mut nPH (Kt.ne hT nPH), ?_, dk _ _ nPp.symm (q13.at k9.tp fp (fun _ _ _ z => by cases z)), dk _ _ nPA.symm (q13.at k9.tp fA (fun _ _ _ z => by cases z)), dk _ _ nXP (q13.at k9.tp fX (fun _ _ _ z => by cases z)), ?_, _, pl ++ [(nm, ys)], upd_same, ?_, ?_, fun o ho => ?_⟩
      · have e := q13.strs k9.tp f3
        exact dk _ _ (ndl _ _ e) e
      · refine pr_mono (fun _ _ h => OwL.kp h fun l ss h => ?_) qA
        have e := q13.strs k9.tp h
        exact dk _ _ (ndl _ _ e) e
      · refine paired_app (pr_mono (fun _ _ h => OwL.kp h fun l ss h => ?_) qP) (.cons ⟨rfl, pF, rfl, dk _ _ (ndl _ _ eF) eF⟩ .nil)
        have e := q13.strs k9.tp h
        exact dk _ _ (ndl _ _ e) e
      · rw [List.map_append, nP', List.take_add_one, hnm]
        rfl
      · rcases List.mem_append.mp ho with ho | ho
        · exact oP o ho
        · rw [List.mem_singleton.mp ho]
          exact okS
    obtain ⟨⟨o, rfl⟩, k9, f3, fp, fA, fX, qA, kP, pl, fP, qP, nP', oP⟩ := h9
    rw [List.length_map, List.take_length] at nP'
    have preP : OkOw ["kin", "lot"] pl := ⟨⟨j, nP'⟩, oP⟩
    have lkP := qP.length
    -- one owner, at least
    refine ⟨_, rfl, p, _, rfl, DGet.k (k := Sum.inr "agents") fp, fun z1 H10 nz1 ez1 sz1 => ?_⟩
    refine ⟨dA, z1, kA, rfl, rfl, sz1 _ _ fA, ez1, _, rfl, ?_⟩
    have k10 := k9.trans (Kt.same k9.tp sz1)
    have fr : H p = none ∧ H dA = none ∧ H dP = none ∧ H dX = none ∧ dA ≠ dP ∧ dA ≠ dX ∧ dP ≠ dX := ⟨np, nAH, nPH, nXH, nPA.symm, nXA.symm, nXP.symm⟩
    have fin : ∀ H11, Same H9 H11 → ag ++ pl ≠ [] → Q (.ref p) H11 := fun H11 s hne => q p dA dP dX kA kP ag pl H11 (k9.trans (Kt.same k9.tp s)) (s _ _ fp) (s _ _ fA) (s _ _ fP) (s _ _ fX) fr (pr_mono (fun _ _ h => OwL.kp h fun l ss h => s _ _ h) qA) (pr_mono (fun _ _ h => OwL.kp h fun l ss h => s _ _ h) qP) preA preP hne
    by_cases hA : kA = []
    · subst hA
      obtain rfl : ag = [] := List.length_eq_zero_iff.mp lkA.symm
      refine ite2 (fun _ => ?_) (fun h => absurd rfl h)
      refine ⟨_, rfl, p, _, rfl, DGet.k (k := Sum.inr "pools") (sz1 _ _ fp), fun z2 H11 nz2 ez2 sz2 => ?_⟩
      have s11 := sz1.trans sz2
      refine ⟨dP, z2, kP, rfl, rfl, s11 _ _ fP, ez2, _, rfl, ?_⟩
      by_cases hP : kP = []
      · subst hP
        obtain rfl : pl = [] := List.length_eq_zero_iff.mp lkP.symm
        refine ite2 (fun _ => ?_) (fun h => absurd rfl h)
        refine ⟨_, rfl, by rw [sizeLine_eq]; decide, fun l4 H12 n4 e4 s4 => ?_⟩
        have k11 := k9.trans (Kt.same k9.tp s11)
        have k12 := k11.trans (Kt.same k11.tp s4)
        refine ⟨t, l4, ["s", "t", "u"], 2, rfl, k12.tp, Kt.ne k11.tp n4, SqL.of e4, stu_s, by decide, by decide, fun pF ys rest H13 pm lm nF eF kF => ?_⟩
        have q13 : Kt t H9 H13 := (Kt.same k9.tp (s11.trans s4)).trans kF
        have k13 := k9.trans q13
        have okS : OkO ("kin", ys) := stu_ok (m := 2) (by decide) pm lm
        have fP13 := q13.at k9.tp fP (fun _ _ _ z => by cases z)
        refine ⟨_, rfl, p, _, rfl, DGet.k (k := Sum.inr "pools") (q13.at k9.tp fp (fun _ _ _ z => by cases z)), ?_⟩
        refine ⟨dP, _, rfl, DPut.k (k := Sum.inr "kin") fP13 (by rw [sizeLine_eq]; decide), ?_⟩
        rw [putK_add (fun h => by cases h)]
        have dk : ∀ b o, b ≠ dP → H13 b = some o → (upd H13 dP (.dK (([] : List (Key × V)) ++ ([(Sum.inr "kin", V.ref pF)] : List (Key × V))))) b = some o := fun b o n h => by rw [upd_ne n]; exact h
        refine ⟨_, rfl, ?_⟩
        refine q p dA dP dX [] [(Sum.inr "kin", V.ref pF)] [] [("kin", ys)] _ (k13.mut nPH (Kt.ne hT nPH)) (dk _ _ nPp.symm (q13.at k9.tp fp (fun _ _ _ z => by cases z))) (dk _ _ nPA.symm (q13.at k9.tp fA (fun _ _ _ z => by cases z))) upd_same (dk _ _ nXP (q13.at k9.tp fX (fun _ _ _ z => by cases z))) fr .nil (.cons ⟨rfl, pF, rfl, dk _ _ (fun z => by rw [z, fP13] at eF; cases eF) eF⟩ .nil) ⟨⟨0, rfl⟩, fun o ho => by cases ho⟩ ⟨⟨1, rfl⟩, fun o ho => ?_⟩ (by simp)
        rw [List.mem_singleton.mp ho]
        exact okS
      · rw [decide_eq_false hP]
        refine ite2 (fun h => absurd h (by decide)) (fun _ => ?_)
        refine ⟨_, rfl, fin _ s11 fun z => hP ?_⟩
        have : pl = [] := by simpa using z
        rw [this] at lkP
        exact List.length_eq_zero_iff.mp lkP
    · rw [decide_eq_false hA]
      refine ite2 (fun h => absurd h (by decide)) (fun _ => ?_)
      refine ite2 (fun h => absurd h (by decide)) (fun _ => ?_)
      refine ⟨_, rfl, fin _ sz1 fun z => hA ?_⟩
      have : ag = [] := (List.append_eq_nil_iff.mp z).1
      rw [this] at lkA
      exact List.length_eq_zero_iff.mp lkA
end
end Gk

set_option Elab.async false
set_option linter.all false
set_option maxRecDepth 100000
set_option maxHeartbeats 8000000
namespace Gk
open PySem PySem.Spec PyProof.Rows L2
abbrev s_moves : Stmt := topS 46
theorem sc_moves : FnScope ["tape", "plain", "most", "found", "lots", "turn", "used", "left", "owner", "states", "source", "move", "one"] ["tape", "plain", "most"] (defScope s_moves) := ⟨rfl, rfl, rfl, by decide +kernel, rfl, by decide +kernel, by decide +kernel⟩
/-- what stands for the owners of a plain system -/
structure PlnO (H : Hp) (p dA dP dX : Addr) (kA kP : List (Key × V)) (ag pl : List Own) : Prop where
  hp : H p = some (.dK (plK dA dP dX))
  hA : H dA = some (.dK kA)
  hP : H dP = some (.dK kP)
  nAP : dA ≠ dP
  qA : Paired (OwL H) kA ag
  qP : Paired (OwL H) kP pl
/-- owners as they can be -/
structure OwD (ag pl : List Own) : Prop where
  la : ag.length ≤ 5
  lp : pl.length ≤ 3
  oa : ∀ o ∈ ag, isW o.1 = true ∧ OkSt o.2
  op : ∀ o ∈ pl, isW o.1 = true ∧ OkSt o.2
  nda : (ag.map (·.1)).Nodup
  ndp : (pl.map (·.1)).Nodup
  dis : ∀ n ∈ ag.map (·.1), n ∉ pl.map (·.1)
theorem PlnO.kt {t : Addr} {H H' : Hp} {p dA dP dX : Addr} {kA kP : List (Key × V)} {ag pl : List Own} (k : Kt t H H') (hT : Tp H t) (h : PlnO H p dA dP dX kA kP ag pl) : PlnO H' p dA dP dX kA kP ag pl :=
  ⟨k.at hT h.hp (fun _ _ _ z => by cases z), k.at hT h.hA (fun _ _ _ z => by cases z), k.at hT h.hP (fun _ _ _ z => by cases z), h.nAP, pr_mono (fun _ _ h => OwL.kp h fun l ss h => k.strs hT h) h.qA, pr_mono (fun _ _ h => OwL.kp h fun l ss h => k.strs hT h) h.qP⟩
theorem PlnO.same {H H' : Hp} {p dA dP dX : Addr} {kA kP : List (Key × V)} {ag pl : List Own} (s : Same H H') (h : PlnO H p dA dP dX kA kP ag pl) : PlnO H' p dA dP dX kA kP ag pl :=
  ⟨s _ _ h.hp, s _ _ h.hA, s _ _ h.hP, h.nAP, pr_mono (fun _ _ h => OwL.kp h fun l ss h => s _ _ h) h.qA, pr_mono (fun _ _ h => OwL.kp h fun l ss h => s _ _ h) h.qP⟩
def LsR (H : Hp) (v : V) (o : Own) : Prop := ∃ p, v = .ref p ∧ H p = some (.lst (o.2.map V.str))
theorem PlnO.in_ {H : Hp} {kA : List (Key × V)} {ag : List Own} {x : Str} (q : Paired (OwL H) kA ag) : (valV kA (Sum.inr x)).isSome = decide (x ∈ ag.map (·.1)) := kr_in (R := LsR H) (nm := fun o : Own => o.1) q
theorem PlnO.at_ {H : Hp} {kA : List (Key × V)} {ag : List Own} (q : Paired (OwL H) kA ag) (nd : (ag.map (·.1)).Nodup) {o : Own} (ho : o ∈ ag) : ∃ v, valV kA (Sum.inr o.1) = some v ∧ LsR H v o := kr_at (R := LsR H) (nm := fun o : Own => o.1) q nd ho
def spSts : Sp := fun vs H Q _ => ∃ (p dA dP dX : Addr) (kA kP : List (Key × V)) (ag pl : List Own) (o : Own), vs = [.ref p, .str o.1] ∧ PlnO H p dA dP dX kA kP ag pl ∧ (ag.map (·.1)).Nodup ∧ (pl.map (·.1)).Nodup ∧ (∀ n ∈ ag.map (·.1), n ∉ pl.map (·.1)) ∧ o ∈ ag ++ pl ∧ ∀ l, H l = some (.lst (o.2.map V.str)) → Q (.ref l) H
/-- the agents of the moves -/
def agF (ag : List Own) (ms : List Mv) : List Str := (ms.map fun m => m.1).filter fun n => decide (n ∈ ag.map fun o => o.1)
theorem agF_take {ag : List Own} {ms : List Mv} {j : Nat} {m : Mv} (hm : ms[j]? = some m) {c : Bool} (hc : c = decide (m.1 ∈ ag.map (·.1))) : agF ag (ms.take (j + 1)) = agF ag (ms.take j) ++ (if c = true then [m.1] else []) := by
  unfold agF
  rw [List.take_add_one, hm, List.map_append, List.filter_append]
  show _ ++ List.filter _ [m.1] = _
  rw [List.filter_cons, ← hc, List.filter_nil]
theorem agF_snoc {ag : List Own} {ms : List Mv} {m : Mv} : agF ag (ms ++ [m]) = agF ag ms ++ (if decide (m.1 ∈ ag.map (·.1)) = true then [m.1] else []) := by
  unfold agF
  rw [List.map_append, List.filter_append]
  show _ ++ List.filter _ [m.1] = _
  rw [List.filter_cons, List.filter_nil]
theorem agF_len {ag : List Own} {ms : List Mv} {j : Nat} : (agF ag (ms.take j)).length ≤ ms.length := mvF_len (n := 0)
theorem owl_kV {H : Hp} {kA : List (Key × V)} {ag : List Own} (q : Paired (OwL H) kA ag) : (kA.map fun kv => kV kv.1) = (ag.map (·.1)).map V.str := by
  have e := congrArg (List.map kV) (owl_keys q)
  rw [List.map_map, List.map_map] at e
  exact e
theorem rep2 (xs : List V) : (List.replicate (Int.toNat 2) xs).flatten = xs ++ xs := by
  show (List.replicate 2 xs).flatten = _
  simp [List.replicate]
/-- moves as the law draws them -/
def OkM (ag pl : List Own) (m : Mv) : Prop := ∃ o ∈ ag ++ pl, o.1 = m.1 ∧ m.2.1 ∈ o.2 ∧ m.2.2 ∈ o.2
def spMvs3 (K : PySem.W.Frag) : Sp := fun vs H Q _ => ∃ (t p dA dP dX : Addr) (most : Int) (kA kP : List (Key × V)) (ag pl : List Own), vs = [.ref t, .ref p, .int most] ∧ Tp H t ∧ 1 ≤ most ∧ most ≤ 3 ∧ PlnO H p dA dP dX kA kP ag pl ∧ OwD ag pl ∧ ag ++ pl ≠ [] ∧
  ∀ (l : Addr) (ys : List V) (ms : List Mv) (H' : Hp), Kt t H H' → H l = none → H' l = some (.lst ys) → Paired (MvR K H') ys ms → sortM ms = ms → 1 ≤ ms.length → ms.length ≤ 3 → OkMv ms → Fit ag pl ms → Q (.ref l) H'
section
variable {P : Program} {w : World} {K : PySem.W.Frag} {mg : Str → Option Value} {base : Heap}
theorem ok_states {f : Addr} {fd : FuncData} (B : Blt mg) (D : Df K mg "_law_states" s_states ["plain", "owner"] f fd) : FnOk P w K mg base CX0 1 f fd ["plain", "owner"] spSts := by
  refine D.F.ok sc_states (fun vs H Q E h => ?_) (fun cdv A outer s H vs Q E hr h => ?_)
  · obtain ⟨p, dA, dP, dX, kA, kP, ag, pl, o, rfl, _⟩ := h
    rfl
  · obtain ⟨p, dA, dP, dX, kA, kP, ag, pl, o, rfl, pn, nda, ndp, dis, ho, q⟩ := h
    refine ⟨_, (pss_one (ps_ret (pe_ifExp (pt_cmp (pc_din (hu_of hr) (pv 1) (pe_dget (hu_of hr) (pv 0) pe_str (fun _ _ => rfl)))) (pe_dget (hu_of hr) (pe_dget (hu_of hr) (pv 0) pe_str (fun _ _ => rfl)) (pv 1) (fun _ _ => rfl)) (pe_dget (hu_of hr) (pe_dget (hu_of hr) (pv 0) pe_str (fun _ _ => rfl)) (pv 1) (fun _ _ => rfl))))), ?_⟩
    refine ⟨_, rfl, _, rfl, p, _, rfl, DGet.k (k := Sum.inr "agents") pn.hp, dA, _, rfl, DGet.k (k := Sum.inr o.1) pn.hA, ?_⟩
    rw [PlnO.in_ pn.qA]
    have hag : o.1 ∈ ag.map (·.1) → o ∈ ag := fun h => by
      rcases List.mem_append.mp ho with h' | h'
      · exact h'
      · exact absurd (List.mem_map.mpr ⟨o, h', rfl⟩) (dis _ h)
    have hpl : o.1 ∉ ag.map (·.1) → o ∈ pl := fun h => by
      rcases List.mem_append.mp ho with h' | h'
      · exact absurd (List.mem_map.mpr ⟨o, h', rfl⟩) h
      · exact h'
    refine ⟨_, rfl, ite2 (fun h1 => ?_) (fun h1 => ?_)⟩
    · obtain ⟨v, hv, l, rfl, hl⟩ := PlnO.at_ pn.qA nda (hag (of_decide_eq_true h1))
      refine ⟨_, rfl, p, _, rfl, DGet.k (k := Sum.inr "agents") pn.hp, _, rfl, dA, _, rfl, hv ▸ DGet.k (k := Sum.inr o.1) pn.hA, q l hl⟩
    · obtain ⟨v, hv, l, rfl, hl⟩ := PlnO.at_ pn.qP ndp (hpl fun z => h1 (decide_eq_true z))
      refine ⟨_, rfl, p, _, rfl, DGet.k (k := Sum.inr "pools") pn.hp, _, rfl, dP, _, rfl, hv ▸ DGet.k (k := Sum.inr o.1) pn.hP, q l hl⟩
theorem ok_moves {f fP fR fS : Addr} {fd fdP fdR fdS : FuncData} (B : Blt mg) (D_pick : Df K mg "_law_pick" s_pick ["tape", "items"] fP fdP) (G_pick : FnOk P w K mg base CX0 2 fP fdP ["tape", "items"] (spPick K))
    (D_roll : Df K mg "_law_roll" s_roll ["tape", "total"] fR fdR) (G_roll : FnOk P w K mg base CX0 1 fR fdR ["tape", "total"] spRoll)
    (D_states : Df K mg "_law_states" s_states ["plain", "owner"] fS fdS) (G_states : FnOk P w K mg base CX0 1 fS fdS ["plain", "owner"] spSts)
    (D : Df K mg "_law_moves" s_moves ["tape", "plain", "most"] f fd) : FnOk P w K mg base CX0 3 f fd ["tape", "plain", "most"] (spMvs3 K) := by
  refine D.F.ok sc_moves (fun vs H Q E h => ?_) (fun cdv A outer s H vs Q E hr h => ?_)
  · obtain ⟨t, p, dA, dP, dX, most, kA, kP, ag, pl, rfl, _⟩ := h
    rfl
  · obtain ⟨t, p, dA, dP, dX, most, kA, kP, ag, pl, rfl, hT, hm1, hm3, pn, od, hne, q⟩ := h
    refine ⟨_, (pss_cons (ps_par (i := 3) (j := 4) (by rfl) sc_moves.nd rfl rfl (by decide) rfl rfl (pa_cons (pe_lstN pa_nil) (pa_cons (pe_call G_pick (hr.mono (by decide)) (by rfl) D_pick.g D_pick.F.kp D_pick.b .nil pass0 (pa_cons (pv 0) (pa_cons (pe_lstN (pa_cons pe_int (pa_cons pe_int (pa_cons pe_int (pa_cons pe_int (pa_cons pe_int (pa_cons pe_int pa_nil))))))) pa_nil))) pa_nil)) (by rfl))
    (pss_cons (ps_for PassesOwn.never rfl (pi_range1 (by rfl) B.range (pa_cons (pe_callB (call_min2 rfl) (by rfl) B.min_ (by decide +kernel) (pa_cons (pv 2) (pa_cons (pv 4) pa_nil))) pa_nil)) (pg_name (i := 5) sc_moves.nd rfl (Or.inl rfl))
    (pss_cons (ps_set (i := 6) sc_moves.nd rfl (Or.inr rfl) (pe_lc (own := [("move", 11)]) (g := gName 11)  (by rfl) sc_moves.nd (pi_list (pv 3)) (blkOk_by (N := ["tape", "plain", "most", "found", "lots", "turn", "used", "left", "owner", "states", "source", "move", "one"]) (sc := defScope s_moves) (by decide +kernel)) (fun _ _ _ _ _ => (pg_name (i := 11) sc_moves.nd rfl (Or.inl rfl))) (fun _ _ _ _ _ => pts_one (pt_cmp (pc_din (hu_of hr) (pe_ix (ix_tupK K rfl) (pv 11) pe_int (fun _ _ => rfl)) (pe_dget (hu_of hr) (pv 1) pe_str (fun _ _ => rfl))))) (fun _ _ _ _ _ => (pe_ix (ix_tupK K rfl) (pv 11) pe_int (fun _ _ => rfl)))))
    (pss_cons (ps_setLc (i := 7) (own := [("one", 12)]) (g := gName 12)  (by rfl) sc_moves.nd rfl rfl (sw_true rfl rfl rfl (by decide +kernel)) (pi_list (pe_op op_catN (pe_callTy (call_list_dK rfl) (by rfl) B.list_ (by decide +kernel) (pa_cons (pe_dget (hu_of hr) (pv 1) pe_str (fun _ _ => rfl)) pa_nil)) (pe_op op_rep (pe_callTy (call_list_dK rfl) (by rfl) B.list_ (by decide +kernel) (pa_cons (pe_dget (hu_of hr) (pv 1) pe_str (fun _ _ => rfl)) pa_nil)) pe_int))) (blkOk_by (N := ["tape", "plain", "most", "found", "lots", "turn", "used", "left", "owner", "states", "source", "move", "one"]) (sc := defScope s_moves) (by decide +kernel)) (fun _ _ _ _ _ => (pg_name (i := 12) sc_moves.nd rfl (Or.inl rfl))) (fun _ _ _ _ _ => pts_one (pt_cmpR (op_notIn_seqK K rfl) (pv 12) (pv 6) (by rfl))) (fun _ _ _ _ _ => (pv 12)))
    (pss_one (ps_if (pt_cmpR (op_neD hr.units) (pv 7) (pe_lstN pa_nil) (nomark _))
    (pss_cons (ps_set (i := 8) sc_moves.nd rfl (Or.inl rfl) (pe_call G_pick (hr.mono (by decide)) (by rfl) D_pick.g D_pick.F.kp D_pick.b .nil pass0 (pa_cons (pv 0) (pa_cons (pv 7) pa_nil))))
    (pss_cons (ps_set (i := 9) sc_moves.nd rfl (Or.inl rfl) (pe_call G_states (hr.mono (by decide)) (by rfl) D_states.g D_states.F.kp D_states.b .nil pass0 (pa_cons (pv 1) (pa_cons (pv 8) pa_nil))))
    (pss_cons (ps_set (i := 10) sc_moves.nd rfl (Or.inl rfl) (pe_clo (pe_ifExp (PW.pt (pw_and (pt_cmpR op_eq (pv 5) pe_int (nomark _)) (pw_and1 (pt_cmpR op_eq (pe_call G_roll (hr.mono (by decide)) (by rfl) D_roll.g D_roll.F.kp D_roll.b .nil pass0 (pa_cons (pv 0) (pa_cons pe_int pa_nil))) pe_int (nomark _))))) (pe_ix ix_list (pv 9) pe_int (fun _ _ => rfl)) (pe_call G_pick (hr.mono (by decide)) (by rfl) D_pick.g D_pick.F.kp D_pick.b .nil pass0 (pa_cons (pv 0) (pa_cons (pv 9) pa_nil))))))
    (pss_one (ps_expr (pe_bm PySem.F.plainAttrs_list PySem.F.slot_list_append PySem.F.type_list_append mt_append (pv 3) (pa_cons (pe_tupN (pa_cons (pv 8) (pa_cons (pv 10) (pa_cons (pe_call G_pick (hr.mono (by decide)) (by rfl) D_pick.g D_pick.F.kp D_pick.b .nil pass0 (pa_cons (pv 0) (pa_cons (pv 9) pa_nil))) pa_nil)))) pa_nil))))))) pss_nil)))))
    (pss_one (ps_ret (pe_callB (cr_sortM hr) (by rfl) B.sorted_ (by decide +kernel) (pa_cons (pv 3) pa_nil)))))), ?_⟩
    have sl : ∀ n : Nat, n ≤ 100000 → n ≤ sizeLine := fun n hn => by rw [sizeLine_eq]; omega
    refine ⟨sl 0 (by decide), fun F H1 nF eF s1 => ⟨_, rfl, sl 6 (by decide), fun l1 H2 n1 e1 s2 => ?_⟩⟩
    have t1 := (Kt.same hT s1).tp
    have t2 := (Kt.same t1 s2).tp
    refine ⟨t, _, ([1, 1, 2, 2, 2, 3] : List Nat).map (fun n => V.int (n : Nat)), rfl, t2, .inl ⟨l1, rfl, Kt.ne t1 n1, .inl (SqL.of e1)⟩, by decide, by decide, fun y H3 hy k3 => ⟨_, _, rfl, ?_⟩⟩
    obtain ⟨j, hj, rfl⟩ := List.mem_map.mp hy
    have hj3 : 1 ≤ j ∧ j ≤ 3 := by
      simp only [List.mem_cons, List.not_mem_nil, or_false] at hj
      omega
    have nFt : F ≠ t := Kt.ne hT nF
    have k03 : Kt t H H3 := (Kt.same hT s1).trans ((Kt.same t1 s2).trans k3)
    have eF3 : H3 F = some (.lst []) := k3.kp _ _ nFt (s2 _ _ eF)
    refine ⟨_, rfl, _, rfl, _, _, rfl, _, rfl, ?_, ?_, ?_⟩
    · split <;> omega
    · split <;> omega
    refine for_range (lo := 0) (fun i σ H6 => ∃ (ys : List V) (ms : List Mv) (x5 x6 x7 x8 x9 x10 : Option V), σ = [some (.ref t), some (.ref p), some (.int most), some (.ref F), some (.int j), x5, x6, x7, x8, x9, x10, none, none] ∧ H6 F = some (.lst ys) ∧ Paired (MvR K H6) ys ms ∧ ms.length ≤ i ∧ (1 ≤ i → ms ≠ []) ∧ (∀ m ∈ ms, OkM ag pl m) ∧
      (agF ag ms).Nodup ∧ Kt t H H6)
      ⟨[], [], none, none, none, none, none, none, rfl, eF3, .nil, Nat.le_refl _, fun h => absurd h (by decide), fun m hm => (by cases hm), List.nodup_nil, k03⟩ (fun i σ H6 hi hP => ?_) (fun σ H6 hP => ?_)
    · obtain ⟨ys, ms, x5, x6, x7, x8, x9, x10, rfl, f6, p6, l6, ne6, o6, d6, k6⟩ := hP
      have lys := p6.length
      have pn6 := pn.kt k6 hT
      -- the agents that are used
      refine ⟨_, rfl, F, rfl, ⟨_, SqL.of f6⟩, fun D hD => ?_⟩
      refine lc_list (K := K) (a := F) (xs := ys) (fun jj H7 => Same H6 H7 ∧ H7 D = some (.lst ((agF ag (ms.take jj)).map V.str))) ⟨gSame_new hD, upd_same⟩ (fun jj H7 _ h7 => SqL.of (h7.1 _ _ f6)) (fun jj x H7 hx h7 => ?_) (fun H7 h7 => ?_)
      · obtain ⟨s7, d7⟩ := h7
        obtain ⟨m, hm, b, rfl, m1, m2⟩ := paired_get p6 hx
        have ml := agF_len (ag := ag) (ms := ms) (j := jj)
        refine ⟨rfl, _, rfl, b, _, 0, .str m.1, rfl, rfl, gSeqT s7 m1, rfl, _, rfl, p, _, rfl, DGet.k (k := Sum.inr "agents") (s7 _ _ pn6.hp), dA, _, rfl, DGet.k (k := Sum.inr m.1) (s7 _ _ pn6.hA), _, rfl, ?_⟩
        rw [PlnO.in_ pn.qA]
        refine ite2 (fun hc => ?_) (fun hc => ?_)
        · refine ⟨_, rfl, b, _, 0, .str m.1, rfl, rfl, gSeqT s7 m1, rfl, _, d7, ?_, gSame_mut s7 hD, ?_⟩
          · rw [List.length_map]
            exact small1000 (by omega)
          · rw [upd_same, agF_take hm hc.symm, if_pos rfl, List.map_append]
            rfl
        · rw [Bool.not_eq_true] at hc
          refine ⟨s7, ?_⟩
          rw [agF_take hm hc.symm, if_neg Bool.false_ne_true, List.append_nil]
          exact d7
      obtain ⟨s7, eU⟩ := h7
      rw [lys, List.take_length] at eU
      have pn7 := pn6.same s7
      -- the owners that are left
      refine ⟨_, rfl, p, _, rfl, DGet.k (k := Sum.inr "agents") pn7.hp, dA, kA, rfl, pn7.hA, fun la nla => ?_⟩
      rw [owl_kV pn.qA]
      have s8 : Same H7 (upd H7 la (.lst ((ag.map (·.1)).map V.str))) := gSame_new nla
      have e8 : (upd H7 la (.lst ((ag.map (·.1)).map V.str))) la = some (.lst ((ag.map (·.1)).map V.str)) := upd_same
      generalize upd H7 la (.lst ((ag.map (·.1)).map V.str)) = H8 at s8 e8 ⊢
      have pn8 := pn7.same s8
      refine ⟨_, rfl, p, _, rfl, DGet.k (k := Sum.inr "pools") pn8.hp, dP, kP, rfl, pn8.hP, fun lb nlb => ?_⟩
      rw [owl_kV pn.qP]
      have s9 : Same H8 (upd H8 lb (.lst ((pl.map (·.1)).map V.str))) := gSame_new nlb
      have e9 : (upd H8 lb (.lst ((pl.map (·.1)).map V.str))) lb = some (.lst ((pl.map (·.1)).map V.str)) := upd_same
      generalize upd H8 lb (.lst ((pl.map (·.1)).map V.str)) = H9 at s9 e9 ⊢
      have hla := od.la
      have hlp := od.lp
      refine ⟨lb, 2, _, rfl, rfl, e9, by decide, by decide, by rw [List.length_map, List.length_map, sizeLine_eq]; show pl.length * 2 ≤ _; omega, fun lc nlc => ?_⟩
      rw [rep2]
      have s10 : Same H9 (upd H9 lc (.lst ((pl.map (·.1)).map V.str ++ (pl.map (·.1)).map V.str))) := gSame_new nlc
      have e10 : (upd H9 lc (.lst ((pl.map (·.1)).map V.str ++ (pl.map (·.1)).map V.str))) lc = some (.lst ((pl.map (·.1)).map V.str ++ (pl.map (·.1)).map V.str)) := upd_same
      generalize upd H9 lc (.lst ((pl.map (·.1)).map V.str ++ (pl.map (·.1)).map V.str)) = H10 at s10 e10 ⊢
      refine ⟨la, lc, _, _, rfl, rfl, s10 _ _ (s9 _ _ e8), e10, ?_, fun ld H11 nd11 e11 s11 => ?_⟩
      · rw [List.length_append, List.length_map, List.length_map, List.length_map, List.length_map, sizeLine_eq]
        omega
      have e11 : H11 ld = some (.lst ((ag.map (·.1) ++ (pl.map (·.1) ++ pl.map (·.1))).map V.str)) := by
        rw [e11, List.map_append, List.map_append]
      have hns : ∀ n ∈ ag.map (·.1) ++ (pl.map (·.1) ++ pl.map (·.1)), ∃ o ∈ ag ++ pl, o.1 = n := fun n hn => by
        rw [List.mem_append, List.mem_append] at hn
        rcases hn with hn | hn | hn
        · obtain ⟨o, ho, e⟩ := List.mem_map.mp hn
          exact ⟨o, List.mem_append_left _ ho, e⟩
        · obtain ⟨o, ho, e⟩ := List.mem_map.mp hn
          exact ⟨o, List.mem_append_right _ ho, e⟩
        · obtain ⟨o, ho, e⟩ := List.mem_map.mp hn
          exact ⟨o, List.mem_append_right _ ho, e⟩
      have lns : (ag.map (·.1) ++ (pl.map (·.1) ++ pl.map (·.1))).length ≤ 20 := by
        rw [List.length_append, List.length_append, List.length_map, List.length_map]
        omega
      have nns : ag.map (·.1) ++ (pl.map (·.1) ++ pl.map (·.1)) ≠ [] := fun z => by
        have h1 := List.append_eq_nil_iff.mp z
        have h2 := List.append_eq_nil_iff.mp h1.2
        exact hne (by rw [List.map_eq_nil_iff.mp h1.1, List.map_eq_nil_iff.mp h2.1]; rfl)
      have ens : ∀ n ∈ ag.map (·.1), n ∈ ag.map (·.1) ++ (pl.map (·.1) ++ pl.map (·.1)) := fun n hn => List.mem_append_left _ hn
      generalize ag.map (·.1) ++ (pl.map (·.1) ++ pl.map (·.1)) = ns at e11 hns lns nns ens
      have eU11 := s11 _ _ (s10 _ _ (s9 _ _ (s8 _ _ eU)))
      refine ⟨ld, rfl, ⟨_, SqL.of e11⟩, fun D2 hD2 => ?_⟩
      refine lc_list (K := K) (a := ld) (xs := ns.map V.str) (fun jj H12 => Same H11 H12 ∧ H12 D2 = some (.lst (((ns.take jj).filter fun n => !decide (n ∈ agF ag ms)).map V.str))) ⟨gSame_new hD2, upd_same⟩ (fun jj H12 _ h12 => SqL.of (h12.1 _ _ e11)) (fun jj x H12 hx h12 => ?_) (fun H12 h12 => ?_)
      · obtain ⟨s12, d12⟩ := h12
        rw [List.getElem?_map] at hx
        obtain ⟨n, hn, rfl⟩ := Option.map_eq_some_iff.mp hx
        have fl : ((agF ag ms).map V.str).all flatV = true := by
          rw [List.all_map]
          exact List.all_eq_true.mpr fun s _ => rfl
        refine ⟨rfl, _, rfl, _, rfl, D, _, rfl, .inl (SqL.of (s12 _ _ eU11)), rfl, fl, ?_⟩
        rw [if_pos rfl, inV_strs]
        have ez : ∀ c : Bool, c = (!decide (n ∈ agF ag ms)) → ((ns.take (jj + 1)).filter fun n => !decide (n ∈ agF ag ms)) = ((ns.take jj).filter fun n => !decide (n ∈ agF ag ms)) ++ (if c = true then [n] else []) := fun c hc => by
          rw [List.take_add_one, hn, List.filter_append]
          show _ ++ List.filter _ [n] = _
          rw [List.filter_cons, ← hc, List.filter_nil]
        refine ⟨_, rfl, ite2 (fun hc => ?_) (fun hc => ?_)⟩
        · refine ⟨_, rfl, _, d12, ?_, gSame_mut s12 hD2, ?_⟩
          · rw [List.length_map]
            have := List.length_filter_le (fun n => !decide (n ∈ agF ag ms)) (ns.take jj)
            rw [List.length_take] at this
            exact small1000 (by omega)
          · rw [upd_same, ez true hc.symm, if_pos rfl, List.map_append]
            rfl
        · rw [Bool.not_eq_true] at hc
          refine ⟨s12, ?_⟩
          rw [ez false hc.symm, if_neg Bool.false_ne_true, List.append_nil]
          exact d12
      obtain ⟨s12, eL⟩ := h12
      rw [List.length_map, List.take_length] at eL
      have hlf : ∀ n ∈ ns.filter (fun n => !decide (n ∈ agF ag ms)), n ∈ ns ∧ n ∉ agF ag ms := fun n hn => by
        obtain ⟨h1, h2⟩ := List.mem_filter.mp hn
        refine ⟨h1, fun z => ?_⟩
        rw [decide_eq_true z] at h2
        cases h2
      have hl0 : ms = [] → ns.filter (fun n => !decide (n ∈ agF ag ms)) ≠ [] := fun z e => by
        subst z
        refine nns ?_
        rw [List.filter_eq_nil_iff] at e
        cases ns with
        | nil => rfl
        | cons n r => exact absurd rfl (e n (List.mem_cons_self ..))
      have hll : (ns.filter (fun n => !decide (n ∈ agF ag ms))).length ≤ 20 := Nat.le_trans (List.length_filter_le ..) lns
      generalize ns.filter (fun n => !decide (n ∈ agF ag ms)) = lf at eL hlf hl0 hll ⊢
      have s612 : Same H6 H12 := s7.trans (s8.trans (s9.trans (s10.trans (s11.trans s12))))
      refine ⟨_, rfl, sl 0 (by decide), fun z H13 nz ez sz => neLS (ss := lf) (ts := []) ?_ ?_ (SqL.of (sz _ _ eL)) (SqL.of ez) ⟨_, rfl, ?_⟩⟩
      · exact OkS.of fun n hn => by
          obtain ⟨o, ho, e⟩ := hns n (hlf n hn).1
          rw [← e]
          rcases List.mem_append.mp ho with h | h
          · exact (od.oa o h).1
          · exact (od.op o h).1
      · rfl
      have s613 := s612.trans sz
      have k13 := k6.trans (Kt.same k6.tp s613)
      have pn13 := pn6.same s613
      have p13 : Paired (MvR K H13) ys ms := paired_mono (fun _ _ h => MvR.same s613 h) p6
      have f13 := s613 _ _ f6
      have eL13 := sz _ _ eL
      by_cases hn : lf = []
      · subst hn
        refine ite2 (fun h => absurd h (by decide)) (fun _ => ?_)
        exact ⟨ys, ms, _, _, _, _, _, _, rfl, f13, p13, by omega, fun _ e => hl0 e rfl, o6, d6, k13⟩
      have hb : (!decide (lf = [])) = true := by simp [hn]
      rw [hb]
      refine ite2 (fun _ => ?_) (fun h => absurd rfl h)
      have lpos : 0 < lf.length := List.length_pos_iff.mpr hn
      refine ⟨_, rfl, _, rfl, t, _, lf.map V.str, rfl, k13.tp, .inl ⟨D2, rfl, Kt.ne (Kt.same k6.tp (s7.trans (s8.trans (s9.trans (s10.trans s11))))).tp hD2, .inl (SqL.of eL13)⟩, by rw [List.length_map]; exact lpos, by rw [List.length_map]; omega, fun y H14 hy k14 => ?_⟩
      obtain ⟨nm, hnm, rfl⟩ := List.mem_map.mp hy
      obtain ⟨hnm1, hnm2⟩ := hlf nm hnm
      obtain ⟨o, ho, eo⟩ := hns nm hnm1
      have pn14 := pn13.kt k14 k13.tp
      refine ⟨_, rfl, _, rfl, p, dA, dP, dX, kA, kP, ag, pl, o, by rw [eo]; rfl, pn14, od.nda, od.ndp, od.dis, ho, fun ls els => ?_⟩
      have okO : OkSt o.2 := by
        rcases List.mem_append.mp ho with h | h
        · exact (od.oa o h).2
        · exact (od.op o h).2
      have lo1 := okO.l1
      have lo6 := okO.l6
      -- the source
      refine ⟨fun v H15 => ∃ src, v = .str src ∧ src ∈ o.2 ∧ Kt t H14 H15, ?_, ?_⟩
      · have els' : ∀ H15, Kt t H14 H15 → H15 ls = some (.lst (o.2.map V.str)) := fun H15 k => k.strs k14.tp els
        have nls : ls ≠ t := k14.tp.ne_strs els
        have pick : ∀ H15, Kt t H14 H15 → spPick K [.ref t, .ref ls] H15 (fun v H16 => ∃ src, v = .str src ∧ src ∈ o.2 ∧ Kt t H14 H16) E0 := fun H15 k15 => by
          refine ⟨t, _, o.2.map V.str, rfl, k15.tp, .inl ⟨ls, rfl, nls, .inl (SqL.of (els' _ k15))⟩, by rw [List.length_map]; omega, by rw [List.length_map]; omega, fun y H16 hy k16 => ?_⟩
          obtain ⟨src, hs, rfl⟩ := List.mem_map.mp hy
          exact ⟨src, rfl, hs, k15.trans k16⟩
        refine ⟨_, rfl, rfl, _, rfl, ite2 (fun h1 => ?_) (fun h1 => ?_)⟩
        · refine ⟨_, rfl, t, 3, rfl, k14.tp, by decide, by decide, fun r H15 r0 r1 k15 => ⟨rfl, _, rfl, ite2 (fun h2 => ?_) (fun h2 => ?_)⟩⟩
          · refine ⟨_, rfl, ls, _, 0, .str o.2[0], rfl, rfl, SqL.of (els' _ k15), atI_nat (j := 0) ?_, _, rfl, List.getElem_mem _, k15⟩
            rw [List.getElem?_map, List.getElem?_eq_getElem (by omega)]
            rfl
          · exact ⟨_, rfl, _, rfl, pick _ k15⟩
        · exact ⟨_, rfl, _, rfl, pick _ (Kt.refl k14.tp)⟩
      · rintro v H15 ⟨src, rfl, hsrc, k15⟩
        have k115 := k14.trans k15
        have ls15 : H15 ls = some (.lst (o.2.map V.str)) := k15.strs k14.tp els
        have nls : ls ≠ t := k14.tp.ne_strs els
        have f15 : H15 F = some (.lst ys) := k115.kp _ _ nFt f13
        refine ⟨_, rfl, .inl ⟨rfl, _, SqL.of f15⟩, _, rfl, _, rfl, _, rfl, _, rfl, t, _, o.2.map V.str, rfl, k15.tp, .inl ⟨ls, rfl, nls, .inl (SqL.of ls15)⟩, by rw [List.length_map]; omega, by rw [List.length_map]; omega, fun y H16 hy k16 => ?_⟩
        obtain ⟨tgt, htgt, rfl⟩ := List.mem_map.mp hy
        refine ⟨sl 3 (by decide), fun T H17 nT eT sT => ?_⟩
        have k1317 : Kt t H13 H17 := (k115.trans k16).trans (Kt.same k16.tp sT)
        have f17 : H17 F = some (.lst ys) := sT _ _ (k16.kp _ _ nFt f15)
        have x17 : ExtL H13 (upd H17 F (.lst (ys ++ [.ref T]))) := (ExtL.kt k1317 k13.tp).trans (ExtL.lst f17)
        have mT : MvR K H17 (.ref T) (nm, src, tgt) := ⟨T, rfl, .inl (.inl eT), .base (.tup eT)⟩
        have lys' := lys
        refine ⟨F, ys, .ref T, rfl, rfl, f17, ?_, ys ++ [.ref T], ms ++ [(nm, src, tgt)], _, _, _, _, _, _, rfl, upd_same, ?_, ?_, fun _ z => ?_, fun m hm => ?_, ?_, (k13.trans k1317).mut nF nFt⟩
        · exact small1000 (by omega)
        · exact paired_app (pr_mono (fun _ _ h => mvR_extL x17 h) p13) (.cons (mvR_extL (ExtL.lst f17) mT) .nil)
        · rw [List.length_append]
          show ms.length + 1 ≤ i + 1
          omega
        · simp at z
        · rcases List.mem_append.mp hm with hm | hm
          · exact o6 m hm
          · rw [List.mem_singleton.mp hm]
            exact ⟨o, ho, eo, hsrc, htgt⟩
        · rw [agF_snoc]
          by_cases hc : nm ∈ ag.map (·.1)
          · rw [if_pos (decide_eq_true hc)]
            refine List.nodup_append.mpr ⟨d6, by simp, fun a ha b hb e => ?_⟩
            rw [List.mem_singleton.mp hb] at e
            have e : a = nm := e
            rw [e] at ha
            exact hnm2 ha
          · rw [decide_eq_false hc, if_neg Bool.false_ne_true, List.append_nil]
            exact d6
    · obtain ⟨ys, ms, x5, x6, x7, x8, x9, x10, rfl, f6, p6, l6, ne6, o6, d6, k6⟩ := hP
      have hn1 : 1 ≤ ((if (j : Int) < most then (j : Int) else most) - 0).toNat ∧ ((if (j : Int) < most then (j : Int) else most) - 0).toNat ≤ 3 := by
        split <;> omega
      have hms := ne6 (by first | exact hn1.1 | omega)
      have lms : ms.length ≤ 3 := Nat.le_trans l6 (by first | exact hn1.2 | omega)
      have lm1 : 1 ≤ ms.length := List.length_pos_iff.mpr hms
      have okw : OkMv ms := fun m hm s hs => by
        obtain ⟨o, ho, e1, e2, e3⟩ := o6 m hm
        have hw : isW o.1 = true ∧ OkSt o.2 := by
          rcases List.mem_append.mp ho with h | h
          · exact od.oa o h
          · exact od.op o h
        simp only [wds, List.mem_cons, List.not_mem_nil, or_false] at hs
        rcases hs with rfl | rfl | rfl
        · rw [← e1]
          exact hw.1
        · exact hw.2.w _ e2
        · exact hw.2.w _ e3
      refine ⟨_, rfl, F, ys, ms, rfl, .inl (SqL.of f6), p6, by omega, fun ys' py D2 H7 nD eD s7 => ?_⟩
      refine q D2 ys' (sortM ms) H7 (k6.trans (Kt.same k6.tp s7)) (k6.free nD) eD (paired_mono (fun _ _ h => MvR.same s7 h) py) (sortM_idem ms) (by rw [sortM_len]; exact lm1) (by rw [sortM_len]; exact lms) (fun m hm => okw m (sortM_mem.mp hm)) ⟨fun m hm => ?_, ?_, ?_⟩
      · obtain ⟨o, ho, e⟩ := o6 m (sortM_mem.mp hm)
        exact ⟨o, ho, e⟩
      · exact (((sortM_perm ms).map _).filter _).nodup_iff.mpr d6
      · refine Nat.le_trans (List.length_filter_le ..) ?_
        rw [List.length_map, sortM_len]
        exact lms
end
end Gk

set_option Elab.async false
set_option linter.all false
set_option maxRecDepth 100000
set_option maxHeartbeats 8000000
namespace Gk
open PySem PySem.Spec PyProof.Rows L2
abbrev s_bare : Stmt := topS 47
theorem sc_bare : FnScope ["tape", "plain", "name"] ["tape"] (defScope s_bare) := ⟨rfl, rfl, rfl, by decide +kernel, rfl, by decide +kernel, by decide +kernel⟩
def MvL (K : PySem.W.Frag) (H : Hp) (v : V) (x : Act) : Prop := ∃ l ys, v = .ref l ∧ H l = some (.lst ys) ∧ Paired (MvR K H) ys x.2
theorem MvL.extD {K : PySem.W.Frag} {H H' : Hp} {v : V} {x : Act} (e : ExtD H H') (h : MvL K H v x) : MvL K H' v x := by
  obtain ⟨l, ys, rfl, h1, h2⟩ := h
  exact ⟨l, ys, rfl, e _ _ h1 (fun _ z => by cases z), pr_mono (fun _ _ h => mvR_extD e h) h2⟩
theorem MvL.kt {K : PySem.W.Frag} {t : Addr} {H H' : Hp} {v : V} {x : Act} (k : Kt t H H') (hT : Tp H t) (h : MvL K H v x) : MvL K H' v x := by
  obtain ⟨l, ys, rfl, h1, h2⟩ := h
  refine ⟨l, ys, rfl, k.at hT h1 (fun a b c z => ?_), pr_mono (fun _ _ h => mvR_extL (ExtL.kt k hT) h) h2⟩
  injection z with z
  subst z
  generalize x.2 = ms at h2
  cases h2 with
  | cons h _ =>
    obtain ⟨_, e, _⟩ := h
    cases e
/-- what stands for a plain system -/
structure PlnV (K : PySem.W.Frag) (H : Hp) (p dA dP dX : Addr) (kA kP kX : List (Key × V)) (ag pl : List Own) (as : List Act) : Prop where
  o : PlnO H p dA dP dX kA kP ag pl
  hX : H dX = some (.dK kX)
  nAX : dA ≠ dX
  nPX : dP ≠ dX
  qX : Paired (KR (MvL K H) fun x => x.1) kX as
theorem PlnV.kt {K : PySem.W.Frag} {t : Addr} {H H' : Hp} {p dA dP dX : Addr} {kA kP kX : List (Key × V)} {ag pl : List Own} {as : List Act} (k : Kt t H H') (hT : Tp H t) (h : PlnV K H p dA dP dX kA kP kX ag pl as) : PlnV K H' p dA dP dX kA kP kX ag pl as :=
  ⟨h.o.kt k hT, k.at hT h.hX (fun _ _ _ z => by cases z), h.nAX, h.nPX, pr_mono (fun _ _ h => ⟨h.1, MvL.kt k hT h.2⟩) h.qX⟩
theorem PlnV.same {K : PySem.W.Frag} {H H' : Hp} {p dA dP dX : Addr} {kA kP kX : List (Key × V)} {ag pl : List Own} {as : List Act} (s : Same H H') (h : PlnV K H p dA dP dX kA kP kX ag pl as) : PlnV K H' p dA dP dX kA kP kX ag pl as :=
  ⟨h.o.same s, s _ _ h.hX, h.nAX, h.nPX, pr_mono (fun _ _ h => ⟨h.1, MvL.extD (ExtD.of s) h.2⟩) h.qX⟩
/-- an action as the law draws it -/
structure OkA (ag pl : List Own) (x : Act) : Prop where
  s : sortM x.2 = x.2
  l1 : 1 ≤ x.2.length
  l3 : x.2.length ≤ 3
  w : OkMv x.2
  fit : Fit ag pl x.2
structure OkPl (ag pl : List Own) (as : List Act) : Prop where
  oA : OkOw ["ann", "bo", "cy"] ag
  oP : OkOw ["kin", "lot"] pl
  ne : ag ++ pl ≠ []
  nX : ∃ k, 1 ≤ k ∧ k ≤ 5 ∧ as.map (·.1) = (["buy", "go", "hop", "pay", "zip"] : List Str).take k
  a : ∀ x ∈ as, OkA ag pl x
theorem okO_st {o : Own} (h : OkO o) : OkSt o.2 := ⟨h.1, Nat.le_trans h.2.1 (by decide), h.2.2.1, fun s hs => by
  have w : ∀ s ∈ (["s", "t", "u"] : List Str), isW s = true := by decide +kernel
  exact w s (h.2.2.2 s hs)⟩
theorem okOw_in {ns : List Str} {os : List Own} (h : OkOw ns os) {o : Own} (ho : o ∈ os) : o.1 ∈ ns := by
  obtain ⟨k, e⟩ := h.pre
  have h1 : o.1 ∈ os.map (·.1) := List.mem_map.mpr ⟨o, ho, rfl⟩
  rw [e] at h1
  exact List.mem_of_mem_take h1
theorem okOw_len {ns : List Str} {os : List Own} (h : OkOw ns os) : os.length ≤ ns.length := by
  obtain ⟨k, e⟩ := h.pre
  have h1 := congrArg List.length e
  rw [List.length_map, List.length_take] at h1
  omega
theorem okOw_nd {ns : List Str} {os : List Own} (h : OkOw ns os) (nd : ns.Nodup) : (os.map (·.1)).Nodup := by
  obtain ⟨k, e⟩ := h.pre
  rw [e]
  exact tk_nd nd k
theorem okOw_d {ag pl : List Own} (hA : OkOw ["ann", "bo", "cy"] ag) (hP : OkOw ["kin", "lot"] pl) : OwD ag pl := by
  have w1 : ∀ s ∈ (["ann", "bo", "cy"] : List Str), isW s = true := by decide +kernel
  have w2 : ∀ s ∈ (["kin", "lot"] : List Str), isW s = true := by decide +kernel
  have dj : ∀ s ∈ (["ann", "bo", "cy"] : List Str), s ∉ (["kin", "lot"] : List Str) := by decide +kernel
  refine ⟨Nat.le_trans (okOw_len hA) (by decide), Nat.le_trans (okOw_len hP) (by decide), fun o ho => ⟨w1 _ (okOw_in hA ho), okO_st (hA.st o ho)⟩, fun o ho => ⟨w2 _ (okOw_in hP ho), okO_st (hP.st o ho)⟩, okOw_nd hA (by decide +kernel), okOw_nd hP (by decide +kernel), fun n hn hm => ?_⟩
  obtain ⟨o, ho, rfl⟩ := List.mem_map.mp hn
  obtain ⟨o', ho', e⟩ := List.mem_map.mp hm
  exact dj _ (okOw_in hA ho) (e ▸ okOw_in hP ho')
def spBare (K : PySem.W.Frag) : Sp := fun vs H Q _ => ∃ t : Addr, vs = [.ref t] ∧ Tp H t ∧ ∀ (p dA dP dX : Addr) (kA kP kX : List (Key × V)) (ag pl : List Own) (as : List Act) (H' : Hp), Kt t H H' → PlnV K H' p dA dP dX kA kP kX ag pl as → OkPl ag pl as → (H p = none ∧ H dA = none ∧ H dP = none ∧ H dX = none) → Q (.ref p) H'
section
variable {P : Program} {w : World} {K : PySem.W.Frag} {mg : Str → Option Value} {base : Heap}
theorem ok_bare {f fP fO fM : Addr} {fd fdP fdO fdM : FuncData} (B : Blt mg) (D_pick : Df K mg "_law_pick" s_pick ["tape", "items"] fP fdP) (G_pick : FnOk P w K mg base CX0 2 fP fdP ["tape", "items"] (spPick K))
    (D_owners : Df K mg "_law_owners" s_owners ["tape"] fO fdO) (G_owners : FnOk P w K mg base CX0 3 fO fdO ["tape"] (spOwL K))
    (D_moves : Df K mg "_law_moves" s_moves ["tape", "plain", "most"] fM fdM) (G_moves : FnOk P w K mg base CX0 3 fM fdM ["tape", "plain", "most"] (spMvs3 K))
    (D : Df K mg "_law_bare" s_bare ["tape"] f fd) : FnOk P w K mg base CX0 4 f fd ["tape"] (spBare K) := by
  refine D.F.ok sc_bare (fun vs H Q E h => ?_) (fun cdv A outer s H vs Q E hr h => ?_)
  · obtain ⟨t, rfl, _⟩ := h
    rfl
  · obtain ⟨t, rfl, hT, q⟩ := h
    refine ⟨_, (pss_cons (ps_set (i := 1) sc_bare.nd rfl (Or.inl rfl) (pe_call G_owners (hr.mono (by decide)) (by rfl) D_owners.g D_owners.F.kp D_owners.b .nil pass0 (pa_cons (pv 0) pa_nil)))
    (pss_cons (ps_for PassesOwn.never rfl (pi_list (pe_slice sl_listN (pe_lstN (pa_cons pe_str (pa_cons pe_str (pa_cons pe_str (pa_cons pe_str (pa_cons pe_str pa_nil)))))) po_none (po_some (pe_call G_pick (hr.mono (by decide)) (by rfl) D_pick.g D_pick.F.kp D_pick.b .nil pass0 (pa_cons (pv 0) (pa_cons (pe_lstN (pa_cons pe_int (pa_cons pe_int (pa_cons pe_int (pa_cons pe_int (pa_cons pe_int (pa_cons pe_int (pa_cons pe_int pa_nil)))))))) pa_nil)))))) (pg_name (i := 2) sc_bare.nd rfl (Or.inl rfl))
    (pss_one (ps_dput (hu_of hr) (pe_dget (hu_of hr) (pv 1) pe_str (fun _ _ => rfl)) (pv 2) (pe_call G_moves (hr.mono (by decide)) (by rfl) D_moves.g D_moves.F.kp D_moves.b .nil pass0 (pa_cons (pv 0) (pa_cons (pv 1) (pa_cons pe_int pa_nil)))) rfl)))
    (pss_one (ps_ret (pv 1))))), ?_⟩
    have sl : ∀ n : Nat, n ≤ 100000 → n ≤ sizeLine := fun n hn => by rw [sizeLine_eq]; omega
    refine ⟨_, rfl, t, rfl, hT, fun p dA dP dX kA kP ag pl H1 k1 hp hA hP hX fr qA qP oA oP ne => ?_⟩
    obtain ⟨np, nA, nP, nX, nAP, nAX, nPX⟩ := fr
    have od := okOw_d oA oP
    have pn1 : PlnO H1 p dA dP dX kA kP ag pl := ⟨hp, hA, hP, nAP, qA, qP⟩
    have npX : p ≠ dX := fun z => by
      rw [z, hX] at hp
      injection hp with hp
      injection hp with hp
      cases hp
    refine ⟨sl 5 (by decide), fun l1 H2 n1 e1 s1 => ?_⟩
    have t2 := (Kt.same k1.tp s1).tp
    refine ⟨_, rfl, sl 7 (by decide), fun l2 H3 n2 e2 s2 => ?_⟩
    have t3 := (Kt.same t2 s2).tp
    refine ⟨t, _, ([1, 2, 3, 3, 4, 4, 5] : List Nat).map (fun n => V.int (n : Nat)), rfl, t3, .inl ⟨l2, rfl, Kt.ne t2 n2, .inl (SqL.of e2)⟩, by decide, by decide, fun y H4 hy k4 => ?_⟩
    obtain ⟨j, hj, rfl⟩ := List.mem_map.mp hy
    have hj5 : 1 ≤ j ∧ j ≤ 5 := by
      simp only [List.mem_cons, List.not_mem_nil, or_false] at hj
      omega
    have e14 : H4 l1 = some (.lst ((["buy", "go", "hop", "pay", "zip"] : List Str).map V.str)) := k4.strs t3 (s2 _ _ e1)
    refine ⟨_, rfl, l1, _, rfl, SqL.of e14, fun l3 H5 n3 e3 s3 => ?_⟩
    rw [cut_to] at e3
    have kk : Kt t H1 H5 := (Kt.same k1.tp s1).trans ((Kt.same t2 s2).trans (k4.trans (Kt.same k4.tp s3)))
    refine ⟨l3, rfl, ⟨_, SqL.of e3⟩, ?_⟩
    refine for_list (K := K) (a := l3) (xs := ((["buy", "go", "hop", "pay", "zip"] : List Str).take j).map V.str) (fun i σ H5 => (∃ o, σ = [some (.ref t), some (.ref p), o]) ∧ Kt t H H5 ∧ H5 l3 = some (.lst (((["buy", "go", "hop", "pay", "zip"] : List Str).take j).map V.str)) ∧
      ∃ kX as, PlnV K H5 p dA dP dX kA kP kX ag pl as ∧ as.map (·.1) = ((["buy", "go", "hop", "pay", "zip"] : List Str).take j).take i ∧ ∀ x ∈ as, OkA ag pl x) ⟨⟨none, rfl⟩, k1.trans kk, e3, [], [], ⟨pn1.kt kk k1.tp, kk.at k1.tp hX (fun _ _ _ z => by cases z), nAX, nPX, .nil⟩, rfl, fun x hx => by cases hx⟩ (fun i σ H5 _ h5 => SqL.of h5.2.2.1) (fun i x σ H9 hx h9 => ?_) (fun σ H9 h9 => ?_)
    · obtain ⟨⟨o, rfl⟩, k9, f3, kX, as, pv, nX', oX⟩ := h9
      rw [List.getElem?_map] at hx
      obtain ⟨nm, hnm, rfl⟩ := Option.map_eq_some_iff.mp hx
      refine ⟨_, rfl, _, rfl, t, p, dA, dP, dX, 3, kA, kP, ag, pl, rfl, k9.tp, by decide, by decide, pv.o, od, ne, fun l ys ms H10 k10 nl el pm sm l1' l3' wm ft => ?_⟩
      have pv10 := pv.kt k10 k9.tp
      have hln : as.length ≤ 5 := by
        have h := congrArg List.length nX'
        rw [List.length_map, List.length_take, List.length_take] at h
        omega
      have hk := kr_keys pv.qX
      have lkX := pv.qX.length
      have hfr : (Sum.inr nm : Key) ∉ kX.map (·.1) := by
        rw [hk, nX']
        exact inr_fresh (tk_nd (by decide +kernel) j) hnm
      refine ⟨_, rfl, p, _, rfl, DGet.k (k := Sum.inr "actions") pv10.o.hp, ?_⟩
      refine ⟨_, rfl, dX, _, rfl, DPut.k (k := Sum.inr nm) pv10.hX (by rw [sizeLine_eq]; omega), ?_⟩
      rw [putK_add hfr]
      have xD : ExtD H10 (upd H10 dX (.dK (kX ++ [(Sum.inr nm, .ref l)]))) := ExtD.lock pv10.hX
      have dk : ∀ b o, b ≠ dX → H10 b = some o → (upd H10 dX (.dK (kX ++ [(Sum.inr nm, .ref l)]))) b = some o := fun b o n h => by rw [upd_ne n]; exact h
      refine ⟨⟨some (.str nm), rfl⟩, (k9.trans k10).mut nX (Kt.ne hT nX), xD _ _ (k10.strs k9.tp f3) (fun _ z => by cases z), _, as ++ [(nm, ms)], ⟨⟨dk _ _ npX pv10.o.hp, dk _ _ nAX pv10.o.hA, dk _ _ nPX pv10.o.hP, nAP, pr_mono (fun _ _ h => OwL.kp h fun l ss h => xD _ _ h fun _ z => by cases z) pv10.o.qA, pr_mono (fun _ _ h => OwL.kp h fun l ss h => xD _ _ h fun _ z => by cases z) pv10.o.qP⟩, upd_same, nAX, nPX, ?_⟩, ?_, fun x hx => ?_⟩
      · exact paired_app (pr_mono (fun _ _ h => ⟨h.1, MvL.extD xD h.2⟩) pv10.qX) (.cons ⟨rfl, MvL.extD xD ⟨l, ys, rfl, el, pm⟩⟩ .nil)
      · rw [List.map_append, nX', List.take_add_one, hnm]
        rfl
      · rcases List.mem_append.mp hx with hx | hx
        · exact oX x hx
        · rw [List.mem_singleton.mp hx]
          exact ⟨sm, l1', l3', wm, ft⟩
    · obtain ⟨⟨o, rfl⟩, k9, f3, kX, as, pv, nX', oX⟩ := h9
      rw [List.length_map, List.take_length] at nX'
      exact ⟨_, rfl, q p dA dP dX kA kP kX ag pl as H9 k9 pv ⟨oA, oP, ne, ⟨j, hj5.1, hj5.2, nX'⟩, oX⟩ ⟨np, nA, nP, nX⟩⟩
end
end Gk

set_option Elab.async false
set_option linter.all false
set_option maxRecDepth 100000
set_option maxHeartbeats 8000000
namespace Gk
open PySem PySem.Spec PyProof.Rows L2
abbrev s_made : Stmt := topS 48
theorem sc_made : FnScope ["plain", "agents", "pools", "actions", "name"] ["plain"] (defScope s_made) := ⟨rfl, rfl, rfl, by decide +kernel, rfl, by decide +kernel, by decide +kernel⟩
/-- what the text's top has left of the class System -/
structure SysK (K : PySem.W.Frag) (mg : Str → Option Value) (C fI : Addr) (dI : FuncData) : Prop where
  g : mg "System" = some (.ref C)
  M : Mk K C fI
  BI : Binds K dI ["self", "agents", "pools", "actions"] []
  SC : SysC K C
  IC : C8.InsC K C
/-- no tuple stands there -/
def NoTup (H : Hp) (a : Addr) : Prop := (∀ zs, H a ≠ some (.tup zs)) ∧ ∀ w zs, H a ≠ some (.frz w (.tup zs))
theorem NoTup.frz {H : Hp} {a : Addr} {o : Obj} {k : List (Key × V)} (e : H a = some (.frz o (.dK k))) : NoTup H a := ⟨fun zs z => (by rw [e] at z; cases z), fun w zs z => (by rw [e] at z; cases z)⟩
theorem NoTup.ins {H : Hp} {a C dx : Addr} {fs : List (Str × V)} (e : H a = some (.ins C dx fs)) : NoTup H a := ⟨fun zs z => (by rw [e] at z; cases z), fun w zs z => (by rw [e] at z; cases z)⟩
theorem sqT_but {K : PySem.W.Frag} {H H' : Hp} {a p : Addr} {xs : List V} (k : But a H H') (n : NoTup H a) (h : SqT K H p xs) : SqT K H' p xs := by
  rcases h with (h | ⟨o, h⟩) | h
  · exact .inl (.inl (k _ _ (fun z => by subst z; exact n.1 _ h) h))
  · exact .inl (.inr ⟨o, k _ _ (fun z => by subst z; exact n.2 _ _ h) h⟩)
  · exact .inr h
theorem tyT_but {K : PySem.W.Frag} {H H' : Hp} {a : Addr} {x : V} (k : But a H H') (n : NoTup H a) (h : TyX K H x (.type "tuple")) : TyX K H' x (.type "tuple") := by
  generalize ht : Value.type "tuple" = w at h
  cases h with
  | base b =>
    cases b with
    | tup q =>
      rw [← ht]
      exact .base (.tup (k _ _ (fun z => by subst z; exact n.1 _ q) q))
    | _ => first | exact absurd ht (by decide) | (injection ht with q; exact absurd q (by decide)) | cases ht
  | kTuple q c =>
    rw [← ht]
    exact .kTuple q c
  | fTuple q =>
    rw [← ht]
    exact .fTuple (k _ _ (fun z => by subst z; exact n.2 _ _ q) q)
  | _ => first | exact absurd ht (by decide) | (injection ht with q; exact absurd q (by decide)) | cases ht
theorem strR_but {K : PySem.W.Frag} {H H' : Hp} {a : Addr} {v : V} {ss : List Str} (k : But a H H') (n : NoTup H a) (h : StR K H v ss) : StR K H' v ss := by
  obtain ⟨p, rfl, h1, h2⟩ := h
  exact ⟨p, rfl, sqT_but k n h1, tyT_but k n h2⟩
theorem owR_but {K : PySem.W.Frag} {H H' : Hp} {a : Addr} {kv : Key × V} {o : Own} (k : But a H H') (n : NoTup H a) (h : OwR K H kv o) : OwR K H' kv o := ⟨h.1, strR_but k n h.2⟩
theorem mvR_but {K : PySem.W.Frag} {H H' : Hp} {a : Addr} {x : V} {m : Mv} (k : But a H H') (n : NoTup H a) (h : MvR K H x m) : MvR K H' x m := by
  obtain ⟨b, rfl, h1, h2⟩ := h
  exact ⟨b, rfl, sqT_but k n h1, tyT_but k n h2⟩
theorem actV_but {K : PySem.W.Frag} {H H' : Hp} {a C b : Addr} {c : Str} {ms : List Mv} (k : But a H H') (n : NoTup H a) (ni : ∀ C dx fs, H a ≠ some (.ins C dx fs)) (h : ActV K H C b c ms) : ActV K H' C b c ms := by
  obtain ⟨dx, p, ys, h1, h2, h3, h4, h5⟩ := h
  exact ⟨dx, p, ys, k _ _ (fun z => by subst z; exact ni _ _ _ h1) h1, sqT_but k n h2, tyT_but k n h3, pr_mono (fun _ _ h => mvR_but k n h) h4, h5⟩
theorem But.upd {H : Hp} {a : Addr} {u : HO} : But a H (upd H a u) := fun b o n h => by rw [upd_ne n]; exact h
theorem PlnO.npA {H : Hp} {p dA dP dX : Addr} {kA kP : List (Key × V)} {ag pl : List Own} (h : PlnO H p dA dP dX kA kP ag pl) : p ≠ dA := fun z => by
  have e := h.hp
  rw [z, h.hA] at e
  injection e with e
  injection e with e
  have q := h.qA
  rw [e] at q
  cases q with
  | cons r _ =>
    obtain ⟨_, l, el, hl⟩ := r
    injection el with el
    rw [← el, h.hA] at hl
    cases hl
theorem PlnO.npP {H : Hp} {p dA dP dX : Addr} {kA kP : List (Key × V)} {ag pl : List Own} (h : PlnO H p dA dP dX kA kP ag pl) : p ≠ dP := fun z => by
  have e := h.hp
  rw [z, h.hP] at e
  injection e with e
  injection e with e
  have q := h.qP
  rw [e] at q
  cases q with
  | cons r _ =>
    obtain ⟨_, l, el, hl⟩ := r
    injection el with el
    rw [← el, h.hA] at hl
    cases hl
theorem PlnV.npX {K : PySem.W.Frag} {H : Hp} {p dA dP dX : Addr} {kA kP kX : List (Key × V)} {ag pl : List Own} {as : List Act} (h : PlnV K H p dA dP dX kA kP kX ag pl as) : p ≠ dX := fun z => by
  have e := h.o.hp
  rw [z, h.hX] at e
  injection e with e
  injection e with e
  have q := h.qX
  rw [e] at q
  cases q with
  | cons r _ =>
    obtain ⟨_, l, ys, el, hl, _⟩ := r
    injection el with el
    rw [← el, h.o.hA] at hl
    cases hl
abbrev PrR (K : PySem.W.Frag) (H : Hp) (p : Addr) (kv : Key × V) : Prop := SqT K H p [kV kv.1, kv.2]
theorem Fit.sort {ag pl : List Own} {ms : List Mv} (h : Fit ag pl ms) : Fit ag pl (sortM ms) := by
  refine ⟨fun m hm => h.own m (sortM_mem.mp hm), ?_, ?_⟩
  · exact (((sortM_perm ms).map _).filter _).nodup_iff.mpr h.alone
  · rw [(((sortM_perm ms).map (·.1)).filter _).length_eq]
    exact h.shared
theorem inr_nd {α : Type} {f : α → Str} {os : List α} (h : (os.map f).Nodup) : (os.map fun o => (Sum.inr (f o) : Key)).Nodup := by
  have e : (os.map fun o => (Sum.inr (f o) : Key)) = (os.map f).map Sum.inr := by
    rw [List.map_map]
    rfl
  rw [e]
  exact List.Pairwise.map (R := fun a b : Str => a ≠ b) (S := fun a b : Key => a ≠ b) _ (fun a b h z => h (Sum.inr.inj z)) h
/-- the actions, their moves in order -/
abbrev sortAs (as : List Act) : List Act := as.map fun x => (x.1, sortM x.2)
structure OkMade (ag pl : List Own) (as : List Act) : Prop where
  s : OkSys ag pl as
  a : ∀ x ∈ as, Fit ag pl x.2 ∧ 1 ≤ x.2.length ∧ x.2.length ≤ 4 ∧ OkMv x.2 ∧ isW x.1 = true
def spMade (K : PySem.W.Frag) (CS CA : Addr) : Sp := fun vs H Q _ => ∃ (p dA dP dX : Addr) (kA kP kX : List (Key × V)) (ag pl : List Own) (as : List Act), vs = [.ref p] ∧ PlnV K H p dA dP dX kA kP kX ag pl as ∧ OkMade ag pl as ∧
  ∀ (a : Addr) (H' : Hp) (ag' pl' : List Own) (as' : List Act), Same H H' → H a = none → ag'.Perm ag → pl'.Perm pl → as'.Perm (sortAs as) → SysV K H' CS CA a ag' pl' as' → Q (.ref a) H'
section
variable {P : Program} {w : World} {K : PySem.W.Frag} {mg : Str → Option Value} {base : Heap}
theorem ok_made {C_System C_Action fSI fI fC pC fM pM fL fE fS f : Addr} {dSI dI dC dM dL dE dS fd : FuncData} {CN CA' : Addr} (B : Blt mg) (TA : ActK K mg C_Action fI fC pC fM pM fL fE fS dI dC dM dL dE dS) (TS : SysK K mg C_System fSI dSI)
    (G_init : FnOk P w K mg base (L2.CX P w) 4 fI dI ["self", "called", "moves"] (spAct K C_Action CN CA'))
    (G_System : FnOk P w K mg base (L2.CX P w) 6 fSI dSI ["self", "agents", "pools", "actions"] (spSysI K C_System C_Action))
    (D : Df K mg "_law_made" s_made ["plain"] f fd) : FnOk P w K mg base CX0 8 f fd ["plain"] (spMade K C_System C_Action) := by
  refine D.F.ok sc_made (fun vs H Q E h => ?_) (fun cdv A outer s H vs Q E hr h => ?_)
  · obtain ⟨p, dA, dP, dX, kA, kP, kX, ag, pl, as, rfl, _⟩ := h
    rfl
  · obtain ⟨p, dA, dP, dX, kA, kP, kX, ag, pl, as, rfl, pnv, ok, q⟩ := h
    refine ⟨_, (pss_cons (ps_set (i := 1) sc_made.nd rfl (Or.inl rfl) (pe_callTy (call_dictP rfl) (by rfl) B.dict_ (by decide +kernel) (pa_cons (pe_lock (pe_lc (own := [("name", 4)]) (g := gName 4) (tt := tYes) (by rfl) sc_made.nd (pi_keys (pe_dget (hu_of hr) (pv 0) pe_str (fun _ _ => rfl))) (blkOk_by (N := ["plain", "agents", "pools", "actions", "name"]) (sc := defScope s_made) (by decide +kernel)) (fun _ _ _ _ _ => (pg_name (i := 4) sc_made.nd rfl (Or.inl rfl))) (fun _ _ _ _ _ => pts_nil) (fun _ _ _ _ _ => (pe_tupN (pa_cons (pv 4) (pa_cons (pe_callTy (call_tupNK K rfl) (by rfl) B.tuple_ (by decide +kernel) (pa_cons (pe_dget (hu_of hr) (pe_dget (hu_of hr) (pv 0) pe_str (fun _ _ => rfl)) (pv 4) (fun _ _ => rfl)) pa_nil)) pa_nil)))))) pa_nil)))
    (pss_cons (ps_set (i := 2) sc_made.nd rfl (Or.inl rfl) (pe_callTy (call_dictP rfl) (by rfl) B.dict_ (by decide +kernel) (pa_cons (pe_lock (pe_lc (own := [("name", 4)]) (g := gName 4) (tt := tYes) (by rfl) sc_made.nd (pi_keys (pe_dget (hu_of hr) (pv 0) pe_str (fun _ _ => rfl))) (blkOk_by (N := ["plain", "agents", "pools", "actions", "name"]) (sc := defScope s_made) (by decide +kernel)) (fun _ _ _ _ _ => (pg_name (i := 4) sc_made.nd rfl (Or.inl rfl))) (fun _ _ _ _ _ => pts_nil) (fun _ _ _ _ _ => (pe_tupN (pa_cons (pv 4) (pa_cons (pe_callTy (call_tupNK K rfl) (by rfl) B.tuple_ (by decide +kernel) (pa_cons (pe_dget (hu_of hr) (pe_dget (hu_of hr) (pv 0) pe_str (fun _ _ => rfl)) (pv 4) (fun _ _ => rfl)) pa_nil)) pa_nil)))))) pa_nil)))
    (pss_cons (ps_lock (ps_setLc (i := 3) (own := [("name", 4)]) (g := gName 4) (tt := tYes) (by rfl) sc_made.nd rfl rfl (sw_true rfl rfl rfl (by decide +kernel)) (pi_keys (pe_dget (hu_of hr) (pv 0) pe_str (fun _ _ => rfl))) (blkOk_by (N := ["plain", "agents", "pools", "actions", "name"]) (sc := defScope s_made) (by decide +kernel)) (fun _ _ _ _ _ => (pg_name (i := 4) sc_made.nd rfl (Or.inl rfl))) (fun _ _ _ _ _ => pts_nil) (fun _ _ _ _ _ => (pe_makeS TA.M G_init (hr.mono (by decide)) (by rfl) TA.g TA.BI (fun σ pins H s e s' I c => passL0 pins σ H s e s' I c) (pa_cons (pv 4) (pa_cons (pe_callTy (call_tupNK K rfl) (by rfl) B.tuple_ (by decide +kernel) (pa_cons (pe_dget (hu_of hr) (pe_dget (hu_of hr) (pv 0) pe_str (fun _ _ => rfl)) (pv 4) (fun _ _ => rfl)) pa_nil)) pa_nil))))))
    (pss_one (ps_ret (pe_makeS TS.M G_System (hr.mono (by decide)) (by rfl) TS.g TS.BI (fun σ pins H s e s' I c => passL0 pins σ H s e s' I c) (pa_cons (pv 1) (pa_cons (pv 2) (pa_cons (pe_callTy call_tupN (by rfl) B.tuple_ (by decide +kernel) (pa_cons (pv 3) pa_nil)) pa_nil))))))))), ?_⟩
    have sl : ∀ n : Nat, n ≤ 100000 → n ≤ sizeLine := fun n hn => by rw [sizeLine_eq]; omega
    have o1 := ok.s.la
    have o2 := ok.s.lp
    have o3 := ok.s.l16
    have la := pnv.o.qA.length
    have lp := pnv.o.qP.length
    have lx := pnv.qX.length
    -- the agents
    refine ⟨dA, _, pnv.o.hA, trivial, fun od => ⟨_, rfl, p, _, rfl, DGet.k (k := Sum.inr "agents") (same_lock pnv.o.hp pnv.o.npA), dA, od, rfl, .inl ⟨kA, upd_same, fun D hDn => ?_⟩⟩⟩
    have hLx : ExtD H (upd H dA (.frz od (.dK kA))) := ExtD.lock pnv.o.hA
    have hLd : (upd H dA (.frz od (.dK kA))) dA = some (.frz od (.dK kA)) := upd_same
    have hLp : (upd H dA (.frz od (.dK kA))) p = some (.dK (plK dA dP dX)) := same_lock pnv.o.hp pnv.o.npA
    have hun : ∀ H', Same (upd H dA (.frz od (.dK kA))) H' → Same H (upd H' dA (.dK kA)) := fun H' s' => same_unlock pnv.o.hA s'
    generalize upd H dA (.frz od (.dK kA)) = HL at hLx hLd hLp hun hDn ⊢
    refine lc_it (n := kA.length) walk_keys (fun i H5 => Same HL H5 ∧ ∃ ps kvs, H5 D = some (.lst (ps.map V.ref)) ∧ Paired (PrR K H5) ps kvs ∧ Paired (OwR K H5) kvs (ag.take i)) ⟨gSame_new hDn, [], [], upd_same, .nil, .nil⟩ (fun i H5 _ h5 => h5.1 _ _ hLd) (fun i x H5 H' hi h5 hy => ?_) (fun H5 h5 => ?_)
    · obtain ⟨s5, ps, kvs, d5, q5, o5⟩ := h5
      obtain ⟨rfl, k, v, hkv, rfl⟩ := hy
      obtain ⟨o, ho, r1, l, rl, hl⟩ := paired_get pnv.o.qA hkv
      have r1 : k = Sum.inr o.1 := r1
      subst r1
      obtain ⟨v', hv', l', rfl, hl'⟩ := PlnO.at_ pnv.o.qA ok.s.nda (List.mem_of_getElem? ho)
      have el' : H' l' = some (.lst (o.2.map V.str)) := s5 _ _ (hLx _ _ hl' fun _ z => by cases z)
      refine ⟨rfl, _, rfl, _, rfl, p, _, rfl, DGet.k (k := Sum.inr "agents") (s5 _ _ hLp), _, rfl, dA, _, rfl, .inl ⟨kA, Sum.inr o.1, .inr ⟨od, s5 _ _ hLd⟩, rfl, hv'.symm⟩, l', _, rfl, SqL.of el', fun t1 H6 n1 e1 s1 => ⟨sl 2 (by decide), fun T H7 nT eT sT => ⟨_, (s1.trans sT) _ _ d5, ?_, gSame_mut (s5.trans (s1.trans sT)) hDn, ps ++ [T], kvs ++ [(Sum.inr o.1, .ref t1)], ?_, ?_, ?_⟩⟩⟩
      · have h1 := q5.length
        have h2 := o5.length
        rw [List.length_take] at h2
        rw [List.length_map]
        exact small1000 (by omega)
      · rw [upd_same, List.map_append]
        rfl
      · have x7 : ExtL H' (upd H7 D (.lst (ps.map V.ref ++ [.ref T]))) := (ExtL.of (s1.trans sT)).trans (ExtL.lst ((s1.trans sT) _ _ d5))
        refine paired_app (pr_mono (fun _ _ h => sqT_extL x7 h) q5) (.cons (sqT_extL (ExtL.lst ((s1.trans sT) _ _ d5)) (.inl (.inl eT))) .nil)
      · have x7 : ExtL H' (upd H7 D (.lst (ps.map V.ref ++ [.ref T]))) := (ExtL.of (s1.trans sT)).trans (ExtL.lst ((s1.trans sT) _ _ d5))
        have x8 : ExtL H7 (upd H7 D (.lst (ps.map V.ref ++ [.ref T]))) := ExtL.lst ((s1.trans sT) _ _ d5)
        rw [List.take_add_one, ho]
        refine paired_app (pr_mono (fun _ _ h => ⟨h.1, ?_⟩) o5) (.cons ⟨rfl, t1, rfl, sqT_extL x8 (.inl (.inl (sT _ _ e1))), tyT_extL x8 (.base (.tup (sT _ _ e1)))⟩ .nil)
        obtain ⟨p', ep', g1, g2⟩ := h.2
        exact ⟨p', ep', sqT_extL x7 g1, tyT_extL x7 g2⟩
    obtain ⟨s5, ps, kvsA, d5, q5, o5⟩ := h5
    rw [List.take_of_length_le (by omega)] at o5
    have sU := hun _ s5
    have f5 := s5 _ _ hLd
    refine ⟨f5, ?_⟩
    have bU : But dA H5 (upd H5 dA (.dK kA)) := But.upd
    have d5' := bU _ _ (fun z => by rw [z, f5] at d5; cases d5) d5
    have q5' := pr_mono (fun _ _ h => sqT_but bU (.frz f5) h) q5
    have o5' := pr_mono (fun _ _ h => owR_but bU (.frz f5) h) o5
    generalize upd H5 dA (.dK kA) = HU at sU bU d5' q5' o5' ⊢
    refine ⟨D, ps, kvsA, rfl, SqL.of d5', q5', fun da2 na2 => ?_⟩
    rw [mergeK_nil (by rw [List.nil_append, own_keys o5']; exact inr_nd (f := fun o : Own => o.1) ok.s.nda), List.nil_append]
    have sa2 : Same H (upd HU da2 (.dK kvsA)) := sU.trans (gSame_new na2)
    have ea2 : (upd HU da2 (.dK kvsA)) da2 = some (.dK kvsA) := upd_same
    have qa2 : Paired (OwR K (upd HU da2 (.dK kvsA))) kvsA ag := pr_mono (fun _ _ h => OwR.same (gSame_new na2) h) o5'
    have nea2 : H da2 = none := none_back sU na2
    generalize upd HU da2 (.dK kvsA) = HA at sa2 ea2 qa2 ⊢
    have pva := pnv.same sa2
    -- the pools
    refine ⟨dP, _, pva.o.hP, trivial, fun od => ⟨_, rfl, p, _, rfl, DGet.k (k := Sum.inr "pools") (same_lock pva.o.hp pva.o.npP), dP, od, rfl, .inl ⟨kP, upd_same, fun D hDn => ?_⟩⟩⟩
    have hLx : ExtD HA (upd HA dP (.frz od (.dK kP))) := ExtD.lock pva.o.hP
    have hLd : (upd HA dP (.frz od (.dK kP))) dP = some (.frz od (.dK kP)) := upd_same
    have hLp : (upd HA dP (.frz od (.dK kP))) p = some (.dK (plK dA dP dX)) := same_lock pva.o.hp pva.o.npP
    have hun : ∀ H', Same (upd HA dP (.frz od (.dK kP))) H' → Same HA (upd H' dP (.dK kP)) := fun H' s' => same_unlock pva.o.hP s'
    generalize upd HA dP (.frz od (.dK kP)) = HL at hLx hLd hLp hun hDn ⊢
    refine lc_it (n := kP.length) walk_keys (fun i H5 => Same HL H5 ∧ ∃ ps kvs, H5 D = some (.lst (ps.map V.ref)) ∧ Paired (PrR K H5) ps kvs ∧ Paired (OwR K H5) kvs (pl.take i)) ⟨gSame_new hDn, [], [], upd_same, .nil, .nil⟩ (fun i H5 _ h5 => h5.1 _ _ hLd) (fun i x H5 H' hi h5 hy => ?_) (fun H5 h5 => ?_)
    · obtain ⟨s5, ps, kvs, d5, q5, o5⟩ := h5
      obtain ⟨rfl, k, v, hkv, rfl⟩ := hy
      obtain ⟨o, ho, r1, l, rl, hl⟩ := paired_get pva.o.qP hkv
      have r1 : k = Sum.inr o.1 := r1
      subst r1
      obtain ⟨v', hv', l', rfl, hl'⟩ := PlnO.at_ pva.o.qP ok.s.ndp (List.mem_of_getElem? ho)
      have el' : H' l' = some (.lst (o.2.map V.str)) := s5 _ _ (hLx _ _ hl' fun _ z => by cases z)
      refine ⟨rfl, _, rfl, _, rfl, p, _, rfl, DGet.k (k := Sum.inr "pools") (s5 _ _ hLp), _, rfl, dP, _, rfl, .inl ⟨kP, Sum.inr o.1, .inr ⟨od, s5 _ _ hLd⟩, rfl, hv'.symm⟩, l', _, rfl, SqL.of el', fun t1 H6 n1 e1 s1 => ⟨sl 2 (by decide), fun T H7 nT eT sT => ⟨_, (s1.trans sT) _ _ d5, ?_, gSame_mut (s5.trans (s1.trans sT)) hDn, ps ++ [T], kvs ++ [(Sum.inr o.1, .ref t1)], ?_, ?_, ?_⟩⟩⟩
      · have h1 := q5.length
        have h2 := o5.length
        rw [List.length_take] at h2
        rw [List.length_map]
        exact small1000 (by omega)
      · rw [upd_same, List.map_append]
        rfl
      · have x7 : ExtL H' (upd H7 D (.lst (ps.map V.ref ++ [.ref T]))) := (ExtL.of (s1.trans sT)).trans (ExtL.lst ((s1.trans sT) _ _ d5))
        refine paired_app (pr_mono (fun _ _ h => sqT_extL x7 h) q5) (.cons (sqT_extL (ExtL.lst ((s1.trans sT) _ _ d5)) (.inl (.inl eT))) .nil)
      · have x7 : ExtL H' (upd H7 D (.lst (ps.map V.ref ++ [.ref T]))) := (ExtL.of (s1.trans sT)).trans (ExtL.lst ((s1.trans sT) _ _ d5))
        have x8 : ExtL H7 (upd H7 D (.lst (ps.map V.ref ++ [.ref T]))) := ExtL.lst ((s1.trans sT) _ _ d5)
        rw [List.take_add_one, ho]
        refine paired_app (pr_mono (fun _ _ h => ⟨h.1, ?_⟩) o5) (.cons ⟨rfl, t1, rfl, sqT_extL x8 (.inl (.inl (sT _ _ e1))), tyT_extL x8 (.base (.tup (sT _ _ e1)))⟩ .nil)
        obtain ⟨p', ep', g1, g2⟩ := h.2
        exact ⟨p', ep', sqT_extL x7 g1, tyT_extL x7 g2⟩
    obtain ⟨s5, ps, kvsP, d5, q5, o5⟩ := h5
    rw [List.take_of_length_le (by omega)] at o5
    have sU := hun _ s5
    have f5 := s5 _ _ hLd
    refine ⟨f5, ?_⟩
    have bU : But dP H5 (upd H5 dP (.dK kP)) := But.upd
    have d5' := bU _ _ (fun z => by rw [z, f5] at d5; cases d5) d5
    have q5' := pr_mono (fun _ _ h => sqT_but bU (.frz f5) h) q5
    have o5' := pr_mono (fun _ _ h => owR_but bU (.frz f5) h) o5
    generalize upd H5 dP (.dK kP) = HU at sU bU d5' q5' o5' ⊢
    refine ⟨D, ps, kvsP, rfl, SqL.of d5', q5', fun dp2 np2 => ?_⟩
    rw [mergeK_nil (by rw [List.nil_append, own_keys o5']; exact inr_nd (f := fun o : Own => o.1) ok.s.ndp), List.nil_append]
    have sp2 : Same HA (upd HU dp2 (.dK kvsP)) := sU.trans (gSame_new np2)
    have ep2 : (upd HU dp2 (.dK kvsP)) dp2 = some (.dK kvsP) := upd_same
    have qp2 : Paired (OwR K (upd HU dp2 (.dK kvsP))) kvsP pl := pr_mono (fun _ _ h => OwR.same (gSame_new np2) h) o5'
    have nep2 : HA dp2 = none := none_back sU np2
    generalize upd HU dp2 (.dK kvsP) = HP at sp2 ep2 qp2 ⊢
    have pvp := pva.same sp2
    have ea3 := sp2 _ _ ea2
    have qa3 := pr_mono (fun _ _ h => OwR.same sp2 h) qa2
    have nap : da2 ≠ dp2 := fun z => by
      rw [← z, ea2] at nep2
      cases nep2
    -- the actions
    refine ⟨dX, _, pvp.hX, trivial, fun od => ⟨_, rfl, p, _, rfl, DGet.k (k := Sum.inr "actions") (same_lock pvp.o.hp pvp.npX), dX, od, rfl, .inl ⟨kX, upd_same, fun D hDn => ?_⟩⟩⟩
    have hLx : ExtD HP (upd HP dX (.frz od (.dK kX))) := ExtD.lock pvp.hX
    have hLd : (upd HP dX (.frz od (.dK kX))) dX = some (.frz od (.dK kX)) := upd_same
    have hLp : (upd HP dX (.frz od (.dK kX))) p = some (.dK (plK dA dP dX)) := same_lock pvp.o.hp pvp.npX
    have hun : ∀ H', Same (upd HP dX (.frz od (.dK kX))) H' → Same HP (upd H' dX (.dK kX)) := fun H' s' => same_unlock pvp.hX s'
    generalize upd HP dX (.frz od (.dK kX)) = HL at hLx hLd hLp hun hDn ⊢
    refine lc_it (n := kX.length) walk_keys (fun i H5 => Same HL H5 ∧ ∃ vs, H5 D = some (.lst vs) ∧ Paired (AcR K H5 C_Action) vs ((sortAs as).take i)) ⟨gSame_new hDn, [], upd_same, .nil⟩ (fun i H5 _ h5 => h5.1 _ _ hLd) (fun i x H5 H' hi h5 hy => ?_) (fun H5 h5 => ?_)
    · obtain ⟨s5, vs, d5, q5⟩ := h5
      obtain ⟨rfl, k, v, hkv, rfl⟩ := hy
      obtain ⟨o, ho, r1, _⟩ := paired_get pvp.qX hkv
      have r1 : k = Sum.inr o.1 := r1
      subst r1
      obtain ⟨v', hv', l', ys, rfl, hl', pm⟩ := kr_at pvp.qX ok.s.ndx (List.mem_of_getElem? ho)
      have el' : H' l' = some (.lst ys) := s5 _ _ (hLx _ _ hl' fun _ z => by cases z)
      have pm' : Paired (MvR K H') ys o.2 := pr_mono (fun _ _ h => mvR_extD (hLx.trans (ExtD.of s5)) h) pm
      obtain ⟨ft, l1, l4, wm, wc⟩ := ok.a o (List.mem_of_getElem? ho)
      refine ⟨rfl, _, rfl, _, rfl, p, _, rfl, DGet.k (k := Sum.inr "actions") (s5 _ _ hLp), _, rfl, dX, _, rfl, .inl ⟨kX, Sum.inr o.1, .inr ⟨od, s5 _ _ hLd⟩, rfl, hv'.symm⟩, l', _, rfl, SqL.of el', fun t1 H6 n1 e1 s1 => fun xa dx hx hdx nx => ?_⟩
      have sN : Same H6 (upd (upd H6 dx (.own xa)) xa (.ins C_Action dx [])) := (gSame_new hdx).trans (gSame_new (by rw [upd_ne nx.symm]; exact hx))
      have hN : (upd (upd H6 dx (.own xa)) xa (.ins C_Action dx [])) xa = some (.ins C_Action dx []) := upd_same
      generalize upd (upd H6 dx (.own xa)) xa (.ins C_Action dx []) = H7 at sN hN ⊢
      have s17 := s1.trans sN
      refine ⟨xa, dx, .str o.1, .ref t1, rfl, hN, .inr ⟨o.1, rfl, wc, .inr ⟨t1, ys, o.2, rfl, .inl (.inl (sN _ _ e1)), .base (.tup (sN _ _ e1)), pr_mono (fun _ _ h => MvR.same s17 h) pm', l1, l4, wm, fun H8 bk av => ⟨rfl, ?_⟩⟩⟩⟩
      have s68 : Same H6 H8 := fun b u e => bk b u (fun z => by rw [z, hx] at e; cases e) (sN _ _ e)
      have s18 := s1.trans s68
      refine ⟨vs, s18 _ _ d5, ?_, gSame_mut (s5.trans s18) hDn, vs ++ [.ref xa], upd_same, ?_⟩
      · have h1 := q5.length
        rw [List.length_take, List.length_map] at h1
        exact small1000 (by omega)
      · have x8 : ExtL H8 (upd H8 D (.lst (vs ++ [.ref xa]))) := ExtL.lst (s18 _ _ d5)
        have e2 : (sortAs as)[i]? = some (o.1, sortM o.2) := by rw [List.getElem?_map, ho]; rfl
        rw [List.take_add_one, e2]
        refine paired_app (pr_mono (fun _ _ h => ?_) q5) (.cons ⟨xa, rfl, actV_extL x8 av⟩ .nil)
        obtain ⟨b, rfl, h⟩ := h
        exact ⟨b, rfl, actV_extL x8 (h.same s18)⟩
    obtain ⟨s5, vs, d5, q5⟩ := h5
    rw [List.take_of_length_le (by rw [List.length_map]; omega)] at q5
    have sU := hun _ s5
    have f5 := s5 _ _ hLd
    refine ⟨f5, ?_⟩
    have bU : But dX H5 (upd H5 dX (.dK kX)) := But.upd
    have d5' := bU _ _ (fun z => by rw [z, f5] at d5; cases d5) d5
    have q5' : Paired (AcR K (upd H5 dX (.dK kX)) C_Action) vs (sortAs as) := pr_mono (fun _ _ h => by
      obtain ⟨b, rfl, h⟩ := h
      exact ⟨b, rfl, actV_but bU (.frz f5) (fun _ _ _ z => by rw [f5] at z; cases z) h⟩) q5
    generalize upd H5 dX (.dK kX) = HU at sU bU d5' q5' ⊢
    -- the system
    refine ⟨_, rfl, _, rfl, _, rfl, D, vs, rfl, SqL.of d5', fun T3 H9 n9 e9 s9 => fun x dx hx hdx nx => ?_⟩
    have sN : Same H9 (upd (upd H9 dx (.own x)) x (.ins C_System dx [])) := (gSame_new hdx).trans (gSame_new (by rw [upd_ne nx.symm]; exact hx))
    have hN : (upd (upd H9 dx (.own x)) x (.ins C_System dx [])) x = some (.ins C_System dx []) := upd_same
    generalize upd (upd H9 dx (.own x)) x (.ins C_System dx []) = H10 at sN hN ⊢
    have sUN := s9.trans sN
    have sPN := sU.trans sUN
    have s0 := sa2.trans (sp2.trans (sU.trans s9))
    refine ⟨x, dx, da2, dp2, T3, kvsA, kvsP, vs, ag, pl, sortAs as, rfl, hN, ⟨sPN _ _ ea3, sPN _ _ ep2, .inl (.inl (sN _ _ e9)), .base (.tup (sN _ _ e9)), pr_mono (fun _ _ h => OwR.same sPN h) qa3, pr_mono (fun _ _ h => OwR.same sPN h) qp2, pr_mono (fun _ _ h => AcR.same sUN h) q5', nap⟩, ⟨ok.s.la, ok.s.lp, by rw [List.length_map]; exact ok.s.l1, by rw [List.length_map]; exact ok.s.l16, ok.s.oa, ok.s.op, ok.s.nda, ok.s.ndp, ?_, ok.s.dis⟩, fun y hy => ?_, fun H' ag' pl' as' bk pa pp px sv => ?_⟩
    · rw [List.map_map]
      exact ok.s.ndx
    · obtain ⟨z, hz, rfl⟩ := List.mem_map.mp hy
      exact (ok.a z hz).1.sort
    · refine ⟨rfl, q x H' ag' pl' as' (fun b u e => bk b u (fun z => ?_) (sN _ _ (s0 _ _ e))) (none_back s0 hx) pa pp px sv⟩
      have e := s0 _ _ e
      rw [z, hx] at e
      cases e
end
end Gk

set_option Elab.async false
set_option linter.all false
set_option maxRecDepth 100000
set_option maxHeartbeats 8000000
namespace Gk
open PySem PySem.Spec PyProof.Rows L2
abbrev s_action_line : Stmt := topS 49
theorem sc_action_line : FnScope ["called", "moves", "move"] ["called", "moves"] (defScope s_action_line) := ⟨rfl, rfl, rfl, by decide +kernel, rfl, by decide +kernel, by decide +kernel⟩
abbrev s_lines : Stmt := topS 50
theorem sc_lines : FnScope ["plain", "found", "name"] ["plain"] (defScope s_lines) := ⟨rfl, rfl, rfl, by decide +kernel, rfl, by decide +kernel, by decide +kernel⟩
def spLine (K : PySem.W.Frag) : Sp := fun vs H Q _ => ∃ (c : Str) (l : Addr) (xs : List V) (ms : List Mv), vs = [.str c, .ref l] ∧ isW c = true ∧ SqL K H l xs ∧ Paired (MvR K H) xs ms ∧ ms.length ≤ 4 ∧ OkMv ms ∧ ∀ H', Same H H' → Q (.str (liA c (sortM ms))) H'
theorem join_cons2 (S s t : Str) (r : List Str) : Txt.join S (s :: t :: r) = s ++ S ++ Txt.join S (t :: r) := TL.ext_tl (by
  rw [TL.tl_append, TL.tl_append, TL.join_eq, TL.join_eq, TL.tl_join, TL.tl_join, List.append_assoc]
  rfl)
theorem app_assoc (a b c : Str) : a ++ b ++ c = a ++ (b ++ c) := TL.ext_tl (by rw [TL.tl_append, TL.tl_append, TL.tl_append, TL.tl_append, List.append_assoc])
theorem owL_eq {w w' : Str} {o : Own} (hw : w' = w ++ " ") (h : 1 ≤ o.2.length) : w' ++ o.1 ++ " " ++ Txt.join " " o.2 = owL w o := by
  unfold owL
  cases e : o.2 with
  | nil =>
    rw [e] at h
    exact absurd h (by decide)
  | cons s r =>
    rw [join_cons2, join_cons2, hw]
    rw [app_assoc, app_assoc, app_assoc, app_assoc, app_assoc]
def spLinesL (K : PySem.W.Frag) : Sp := fun vs H Q _ => ∃ (p dA dP dX : Addr) (kA kP kX : List (Key × V)) (ag pl : List Own) (as : List Act), vs = [.ref p] ∧ PlnV K H p dA dP dX kA kP kX ag pl as ∧ OkMade ag pl as ∧
  ∀ (l : Addr) (H' : Hp) (ag' pl' : List Own) (as' : List Act), Same H H' → H l = none → H' l = some (.lst ((linesOf ag' pl' as').map V.str)) → ag'.Perm ag → pl'.Perm pl → as'.Perm (sortAs as) → sortedS (ag'.map (·.1)) = true → sortedS (pl'.map (·.1)) = true → sortedS (as'.map (·.1)) = true → Q (.ref l) H'
section
variable {P : Program} {w : World} {K : PySem.W.Frag} {mg : Str → Option Value} {base : Heap}
theorem ok_action_line {f : Addr} {fd : FuncData} (B : Blt mg) (D : Df K mg "_law_action_line" s_action_line ["called", "moves"] f fd) : FnOk P w K mg base CX0 1 f fd ["called", "moves"] (spLine K) := by
  refine D.F.ok sc_action_line (fun vs H Q E h => ?_) (fun cdv A outer s H vs Q E hr h => ?_)
  · obtain ⟨c, l, xs, ms, rfl, _⟩ := h
    rfl
  · obtain ⟨c, l, xs, ms, rfl, hc, hs, hp, hl, hw, q⟩ := h
    refine ⟨_, (pss_one (ps_ret (pe_op op_add_str (pe_op op_add_str (pv 0) pe_str) (pe_join pe_str (pe_lc (own := [("move", 2)]) (g := gName 2) (tt := tYes) (by rfl) sc_action_line.nd (pi_list (pe_callB (cr_sortM hr) (by rfl) B.sorted_ (by decide +kernel) (pa_cons (pv 1) pa_nil))) (blkOk_by (N := ["called", "moves", "move"]) (sc := defScope s_action_line) (by decide +kernel)) (fun _ _ _ _ _ => (pg_name (i := 2) sc_action_line.nd rfl (Or.inl rfl))) (fun _ _ _ _ _ => pts_nil) (fun _ _ _ _ _ => (pe_joinK K rfl pe_str (pv 2)))))))), ?_⟩
    have l1 : (Str.ofString " ").length = 1 := by decide +kernel
    have l2 : (Str.ofString ", ").length = 2 := by decide +kernel
    have lc := (isW_len hc).2
    have sl : ∀ n : Nat, n ≤ 100000 → n ≤ sizeLine := fun n hn => by rw [sizeLine_eq]; omega
    refine ⟨_, rfl, c, _, rfl, rfl, sl _ (by rw [l1]; omega), ⟨_, rfl⟩, _, rfl, l, xs, ms, rfl, .inl hs, hp, by omega, fun ys py D0 H1 n1 e1 s1 => ⟨D0, rfl, ⟨ys, SqL.of e1⟩, fun D hD => ?_⟩⟩
    have hw' : OkMv (sortM ms) := fun m hm => hw m (sortM_mem.mp hm)
    have hl' : (sortM ms).length ≤ 4 := by rw [sortM_len]; exact hl
    generalize hns : sortM ms = ns at *
    refine lc_list (K := K) (a := D0) (xs := ys) (fun j H5 => Same H1 H5 ∧ H5 D = some (.lst (((ns.take j).map fun m => jn (wds m)).map V.str))) ⟨gSame_new hD, upd_same⟩ (fun j H5 _ h5 => SqL.of (h5.1 _ _ e1)) (fun j x H5 hx h5 => ?_) (fun H5 h5 => ?_)
    · obtain ⟨s5, d5⟩ := h5
      obtain ⟨m, hm, mr⟩ := paired_get py hx
      obtain ⟨b, rfl, m1, m2⟩ := mr.same (s1.trans s5)
      have hmm : m ∈ ns := List.mem_of_getElem? hm
      refine ⟨rfl, ⟨_, rfl⟩, _, rfl, _, b, wds m, rfl, rfl, .inr m1, ?_, _, d5, ?_, gSame_mut s5 hD, ?_⟩
      · have h1 := sum_le4 (wds m) 8 fun s hs => (isW_len (hw' m hmm s hs)).2
        have h3 : (wds m).length = 3 := rfl
        rw [l1, h3]
        rw [h3] at h1
        omega
      · rw [List.length_map, List.length_map, List.length_take]
        exact small1000 (by omega)
      · rw [upd_same, List.take_add_one, hm, List.map_append, List.map_append]
        rfl
    · obtain ⟨s5, d5⟩ := h5
      have e : ns.take ys.length = ns := List.take_of_length_le (Nat.le_of_eq py.length.symm)
      rw [e] at d5
      have lw := wrM_len hl' hw'
      refine ⟨_, D, ns.map fun m => jn (wds m), rfl, rfl, .inl (SqL.of d5), ?_, _, _, rfl, rfl, sl _ ?_, q H5 (s1.trans s5)⟩
      · have h1 := sum_le4 (ns.map fun m => jn (wds m)) 27 fun s hs => by
          obtain ⟨m, hm, rfl⟩ := List.mem_map.mp hs
          exact wds_len (hw' m hm)
        rw [List.length_map] at h1
        rw [l2, List.length_map]
        omega
      · rw [Str.length_append, l1]
        show c.length + 1 + (wrM ns).length ≤ _
        omega
theorem ok_lines {f fA : Addr} {fd fdA : FuncData} (B : Blt mg) (D_action_line : Df K mg "_law_action_line" s_action_line ["called", "moves"] fA fdA) (G_action_line : FnOk P w K mg base CX0 1 fA fdA ["called", "moves"] (spLine K))
    (D : Df K mg "_law_lines" s_lines ["plain"] f fd) : FnOk P w K mg base CX0 2 f fd ["plain"] (spLinesL K) := by
  refine D.F.ok sc_lines (fun vs H Q E h => ?_) (fun cdv A outer s H vs Q E hr h => ?_)
  · obtain ⟨p, dA, dP, dX, kA, kP, kX, ag, pl, as, rfl, _⟩ := h
    rfl
  · obtain ⟨p, dA, dP, dX, kA, kP, kX, ag, pl, as, rfl, pnv, ok, q⟩ := h
    refine ⟨_, (pss_cons (ps_setLc (i := 1) (own := [("name", 2)]) (g := gName 2) (tt := tYes) (by rfl) sc_lines.nd rfl rfl (sw_true rfl rfl rfl (by decide +kernel)) (pi_list (pe_callB (call_sortedD rfl) (by rfl) B.sorted_ (by decide +kernel) (pa_cons (pe_dget (hu_of hr) (pv 0) pe_str (fun _ _ => rfl)) pa_nil))) (blkOk_by (N := ["plain", "found", "name"]) (sc := defScope s_lines) (by decide +kernel)) (fun _ _ _ _ _ => (pg_name (i := 2) sc_lines.nd rfl (Or.inl rfl))) (fun _ _ _ _ _ => pts_nil) (fun _ _ _ _ _ => (pe_op op_add_str (pe_op op_add_str (pe_op op_add_str pe_str (pv 2)) pe_str) (pe_joinK K rfl pe_str (pe_dget (hu_of hr) (pe_dget (hu_of hr) (pv 0) pe_str (fun _ _ => rfl)) (pv 2) (fun _ _ => rfl))))))
    (pss_cons (ps_set (i := 1) sc_lines.nd rfl (Or.inl rfl) (pe_op op_catN (pv 1) (pe_lc (own := [("name", 2)]) (g := gName 2) (tt := tYes) (by rfl) sc_lines.nd (pi_list (pe_callB (call_sortedD rfl) (by rfl) B.sorted_ (by decide +kernel) (pa_cons (pe_dget (hu_of hr) (pv 0) pe_str (fun _ _ => rfl)) pa_nil))) (blkOk_by (N := ["plain", "found", "name"]) (sc := defScope s_lines) (by decide +kernel)) (fun _ _ _ _ _ => (pg_name (i := 2) sc_lines.nd rfl (Or.inl rfl))) (fun _ _ _ _ _ => pts_nil) (fun _ _ _ _ _ => (pe_op op_add_str (pe_op op_add_str (pe_op op_add_str pe_str (pv 2)) pe_str) (pe_joinK K rfl pe_str (pe_dget (hu_of hr) (pe_dget (hu_of hr) (pv 0) pe_str (fun _ _ => rfl)) (pv 2) (fun _ _ => rfl))))))))
    (pss_one (ps_ret (pe_op op_catN (pv 1) (pe_lc (own := [("name", 2)]) (g := gName 2) (tt := tYes) (by rfl) sc_lines.nd (pi_list (pe_callB (call_sortedD rfl) (by rfl) B.sorted_ (by decide +kernel) (pa_cons (pe_dget (hu_of hr) (pv 0) pe_str (fun _ _ => rfl)) pa_nil))) (blkOk_by (N := ["plain", "found", "name"]) (sc := defScope s_lines) (by decide +kernel)) (fun _ _ _ _ _ => (pg_name (i := 2) sc_lines.nd rfl (Or.inl rfl))) (fun _ _ _ _ _ => pts_nil) (fun _ _ _ _ _ => (pe_op op_add_str pe_str (pe_call G_action_line (hr.mono (by decide)) (by rfl) D_action_line.g D_action_line.F.kp D_action_line.b .nil pass0 (pa_cons (pv 2) (pa_cons (pe_dget (hu_of hr) (pe_dget (hu_of hr) (pv 0) pe_str (fun _ _ => rfl)) (pv 2) (fun _ _ => rfl)) pa_nil))))))))))), ?_⟩
    have sl : ∀ n : Nat, n ≤ 100000 → n ≤ sizeLine := fun n hn => by rw [sizeLine_eq]; omega
    have l1 : (Str.ofString " ").length = 1 := by decide +kernel
    have o1 := ok.s.la
    have o2 := ok.s.lp
    have o3 := ok.s.l16
    -- the agents
    refine ⟨_, rfl, p, _, rfl, DGet.k (k := Sum.inr "agents") pnv.o.hp, dA, kA, ag.map (·.1), rfl, .inl pnv.o.hA, kr_keys (R := LsR H) (nm := fun o : Own => o.1) pnv.o.qA, by rw [List.length_map]; omega, fun yA lA pyA soA nlA => ?_⟩
    obtain ⟨ag', pag, eag, qag⟩ := kr_asc (R := LsR H) (nm := fun o : Own => o.1) pnv.o.qA ok.s.nda pyA
    have sLA : Same H (upd H lA (.lst (yA.map V.str))) := gSame_new nlA
    have eLA : (upd H lA (.lst (yA.map V.str))) lA = some (.lst (yA.map V.str)) := upd_same
    generalize upd H lA (.lst (yA.map V.str)) = GA at sLA eLA ⊢
    have lag' : ag'.length ≤ 5 := by rw [pag.length_eq]; exact ok.s.la
    have lyA : yA.length = ag'.length := by rw [← eag, List.length_map]
    refine ⟨lA, rfl, ⟨_, SqL.of eLA⟩, fun DA hDA => ?_⟩
    refine lc_list (K := K) (a := lA) (xs := yA.map V.str) (fun j H5 => Same GA H5 ∧ H5 DA = some (.lst (((ag'.take j).map (owL "agent")).map V.str))) ⟨gSame_new hDA, upd_same⟩ (fun j H5 _ h5 => SqL.of (h5.1 _ _ eLA)) (fun j x H5 hx h5 => ?_) (fun H5 h5 => ?_)
    · obtain ⟨s5, d5⟩ := h5
      rw [← eag, List.map_map, List.getElem?_map] at hx
      obtain ⟨o, ho, rfl⟩ := Option.map_eq_some_iff.mp hx
      have hmo : o ∈ ag := pag.mem_iff.mp (List.mem_of_getElem? ho)
      obtain ⟨wo, so⟩ := ok.s.oa o hmo
      obtain ⟨v, hv, l', rfl, hl'⟩ := PlnO.at_ pnv.o.qA ok.s.nda hmo
      have s05 := sLA.trans s5
      have lw := (isW_len wo).2
      have hs := own_sum (w := "agent") (by decide +kernel) lw so
      have hjl := join_len " " o.2 8 fun s hs => (isW_len (so.w s hs)).2
      have lst := so.l6
      rw [l1] at hjl
      have lww : (Str.ofString "agent ").length ≤ 10 := by decide +kernel
      have h8 := sum_le4 o.2 8 fun s hs => (isW_len (so.w s hs)).2
      refine ⟨rfl, _, rfl, _, _, rfl, rfl, sl _ ?_, _, _, rfl, rfl, sl _ ?_, ⟨_, rfl⟩, _, rfl, p, _, rfl, DGet.k (k := Sum.inr "agents") (s05 _ _ pnv.o.hp), _, rfl, dA, _, rfl, hv ▸ DGet.k (k := Sum.inr o.1) (s05 _ _ pnv.o.hA), _, l', o.2, rfl, rfl, .inl (SqL.of (s05 _ _ hl')), ?_, _, _, rfl, rfl, sl _ ?_, _, d5, ?_, gSame_mut s5 hDA, ?_⟩
      · show (Str.ofString "agent ").length + o.1.length ≤ _
        omega
      · show (Str.ofString "agent " ++ o.1).length + (Str.ofString " ").length ≤ _
        rw [Str.length_append, l1]
        omega
      · rw [l1]
        omega
      · show (Str.ofString "agent " ++ o.1 ++ Str.ofString " ").length + _ ≤ _
        rw [Str.length_append, Str.length_append, l1]
        omega
      · rw [List.length_map, List.length_map, List.length_take]
        exact small1000 (by omega)
      · rw [upd_same, List.take_add_one, ho, List.map_append, List.map_append]
        show _ = some (HO.lst (_ ++ [V.str (owL "agent" o)]))
        rw [← owL_eq (w' := Str.ofString "agent ") (by decide +kernel) so.l1]
    obtain ⟨s5, d5⟩ := h5
    rw [List.length_map, lyA, List.take_length] at d5
    have sA5 := sLA.trans s5
    have pva := pnv.same sA5
    have dA5 := d5
    refine ⟨_, rfl, ?_⟩
    -- the pools
    refine ⟨_, rfl, p, _, rfl, DGet.k (k := Sum.inr "pools") pva.o.hp, dP, kP, pl.map (·.1), rfl, .inl pva.o.hP, kr_keys (R := LsR H5) (nm := fun o : Own => o.1) pva.o.qP, by rw [List.length_map]; omega, fun yP lP pyP soP nlP => ?_⟩
    obtain ⟨pl', ppl, epl, qpl⟩ := kr_asc (R := LsR H5) (nm := fun o : Own => o.1) pva.o.qP ok.s.ndp pyP
    have sLP : Same H5 (upd H5 lP (.lst (yP.map V.str))) := gSame_new nlP
    have eLP : (upd H5 lP (.lst (yP.map V.str))) lP = some (.lst (yP.map V.str)) := upd_same
    generalize upd H5 lP (.lst (yP.map V.str)) = GP at sLP eLP ⊢
    have lpl' : pl'.length ≤ 3 := by rw [ppl.length_eq]; exact ok.s.lp
    have lyP : yP.length = pl'.length := by rw [← epl, List.length_map]
    refine ⟨lP, rfl, ⟨_, SqL.of eLP⟩, fun DP hDP => ?_⟩
    refine lc_list (K := K) (a := lP) (xs := yP.map V.str) (fun j H5 => Same GP H5 ∧ H5 DP = some (.lst (((pl'.take j).map (owL "pool")).map V.str))) ⟨gSame_new hDP, upd_same⟩ (fun j H5 _ h5 => SqL.of (h5.1 _ _ eLP)) (fun j x H5 hx h5 => ?_) (fun H5 h5 => ?_)
    · obtain ⟨s5, d5⟩ := h5
      rw [← epl, List.map_map, List.getElem?_map] at hx
      obtain ⟨o, ho, rfl⟩ := Option.map_eq_some_iff.mp hx
      have hmo : o ∈ pl := ppl.mem_iff.mp (List.mem_of_getElem? ho)
      obtain ⟨wo, so⟩ := ok.s.op o hmo
      obtain ⟨v, hv, l', rfl, hl'⟩ := PlnO.at_ pva.o.qP ok.s.ndp hmo
      have s05 := sLP.trans s5
      have lw := (isW_len wo).2
      have hs := own_sum (w := "pool") (by decide +kernel) lw so
      have hjl := join_len " " o.2 8 fun s hs => (isW_len (so.w s hs)).2
      have lst := so.l6
      rw [l1] at hjl
      have lww : (Str.ofString "pool ").length ≤ 10 := by decide +kernel
      have h8 := sum_le4 o.2 8 fun s hs => (isW_len (so.w s hs)).2
      refine ⟨rfl, _, rfl, _, _, rfl, rfl, sl _ ?_, _, _, rfl, rfl, sl _ ?_, ⟨_, rfl⟩, _, rfl, p, _, rfl, DGet.k (k := Sum.inr "pools") (s05 _ _ pva.o.hp), _, rfl, dP, _, rfl, hv ▸ DGet.k (k := Sum.inr o.1) (s05 _ _ pva.o.hP), _, l', o.2, rfl, rfl, .inl (SqL.of (s05 _ _ hl')), ?_, _, _, rfl, rfl, sl _ ?_, _, d5, ?_, gSame_mut s5 hDP, ?_⟩
      · show (Str.ofString "pool ").length + o.1.length ≤ _
        omega
      · show (Str.ofString "pool " ++ o.1).length + (Str.ofString " ").length ≤ _
        rw [Str.length_append, l1]
        omega
      · rw [l1]
        omega
      · show (Str.ofString "pool " ++ o.1 ++ Str.ofString " ").length + _ ≤ _
        rw [Str.length_append, Str.length_append, l1]
        omega
      · rw [List.length_map, List.length_map, List.length_take]
        exact small1000 (by omega)
      · rw [upd_same, List.take_add_one, ho, List.map_append, List.map_append]
        show _ = some (HO.lst (_ ++ [V.str (owL "pool" o)]))
        rw [← owL_eq (w' := Str.ofString "pool ") (by decide +kernel) so.l1]
    obtain ⟨s5, d5⟩ := h5
    rw [List.length_map, lyP, List.take_length] at d5
    have sP5 := sLP.trans s5
    have pvp := pva.same sP5
    have dP5 := d5
    have dA6 := sP5 _ _ dA5
    refine ⟨DA, DP, _, _, rfl, rfl, dA6, dP5, ?_, fun lf HF nf ef sf => ?_⟩
    · rw [List.length_map, List.length_map, List.length_map, List.length_map, sizeLine_eq]
      omega
    have pvf := pvp.same sf
    -- the actions
    refine ⟨_, rfl, _, rfl, p, _, rfl, DGet.k (k := Sum.inr "actions") pvf.o.hp, dX, kX, as.map (·.1), rfl, .inl pvf.hX, kr_keys pvf.qX, by rw [List.length_map]; omega, fun yX lX pyX soX nlX => ?_⟩
    obtain ⟨as', pas, eas, qas⟩ := kr_asc pvf.qX ok.s.ndx pyX
    have sLX : Same HF (upd HF lX (.lst (yX.map V.str))) := gSame_new nlX
    have eLX : (upd HF lX (.lst (yX.map V.str))) lX = some (.lst (yX.map V.str)) := upd_same
    generalize upd HF lX (.lst (yX.map V.str)) = GX at sLX eLX ⊢
    have las' : as'.length ≤ 16 := by rw [pas.length_eq]; exact ok.s.l16
    have lyX : yX.length = as'.length := by rw [← eas, List.length_map]
    refine ⟨lX, rfl, ⟨_, SqL.of eLX⟩, fun DX hDX => ?_⟩
    refine lc_list (K := K) (a := lX) (xs := yX.map V.str) (fun j H5 => Same GX H5 ∧ H5 DX = some (.lst ((((sortAs as').take j).map acL).map V.str))) ⟨gSame_new hDX, upd_same⟩ (fun j H5 _ h5 => SqL.of (h5.1 _ _ eLX)) (fun j x H5 hx h5 => ?_) (fun H5 h5 => ?_)
    · obtain ⟨s5, d5⟩ := h5
      rw [← eas, List.map_map, List.getElem?_map] at hx
      obtain ⟨o, ho, rfl⟩ := Option.map_eq_some_iff.mp hx
      have hmo : o ∈ as := pas.mem_iff.mp (List.mem_of_getElem? ho)
      obtain ⟨ft, m1, m4, mw, wc⟩ := ok.a o hmo
      obtain ⟨v, hv, l', ys, rfl, hl', pm⟩ := kr_at pvf.qX ok.s.ndx hmo
      have s05 := sLX.trans s5
      refine ⟨rfl, _, rfl, _, rfl, p, _, rfl, DGet.k (k := Sum.inr "actions") (s05 _ _ pvf.o.hp), _, rfl, dX, _, rfl, hv ▸ DGet.k (k := Sum.inr o.1) (s05 _ _ pvf.hX), ?_⟩
      refine ⟨o.1, l', ys, o.2, rfl, wc, SqL.of (s05 _ _ hl'), pr_mono (fun _ _ h => MvR.same s05 h) pm, m4, mw, fun H6 s6 => ?_⟩
      have hll := li_len (c := o.1) (ms := sortM o.2) wc (by rw [sortM_len]; exact m4) (fun m hm => mw m (sortM_mem.mp hm))
      have e2 : (sortAs as')[j]? = some (o.1, sortM o.2) := by rw [List.getElem?_map, ho]; rfl
      have la2 : (Str.ofString "action ").length = 7 := by decide +kernel
      refine ⟨_, _, rfl, rfl, sl _ (by rw [la2]; omega), _, s6 _ _ d5, ?_, gSame_mut (s5.trans s6) hDX, ?_⟩
      · rw [List.length_map, List.length_map, List.length_take, List.length_map]
        exact small1000 (by omega)
      · rw [upd_same, List.take_add_one, e2, List.map_append, List.map_append]
        rfl
    obtain ⟨s5, d5⟩ := h5
    rw [List.length_map, lyX, List.take_of_length_le (by rw [List.length_map]; exact Nat.le_refl _)] at d5
    have sX5 := sLX.trans s5
    refine ⟨lf, DX, _, _, rfl, rfl, sX5 _ _ ef, d5, ?_, fun lr HR nr er sr => ?_⟩
    · rw [List.length_append, List.length_map, List.length_map, List.length_map, List.length_map, List.length_map, List.length_map, List.length_map, sizeLine_eq]
      omega
    have sAll : Same H HR := sA5.trans (sP5.trans (sf.trans (sX5.trans sr)))
    refine q lr HR ag' pl' (sortAs as') sAll (none_back (sA5.trans (sP5.trans (sf.trans sX5))) nr) ?_ pag ppl (pas.map _) ?_ ?_ ?_
    · rw [er]
      unfold linesOf
      simp only [List.map_append]
    · rw [eag]
      exact soA
    · rw [epl]
      exact soP
    · rw [List.map_map]
      show sortedS (as'.map fun x => x.1) = true
      rw [eas]
      exact soX
end
end Gk

set_option Elab.async false
set_option linter.all false
set_option maxRecDepth 100000
set_option maxHeartbeats 8000000
namespace Gk
open PySem PySem.Spec PyProof.Rows L2
abbrev s_read_line : Stmt := topS 35
theorem sc_read_line : FnScope ["line", "word", "_", "rest", "told"] ["line"] (defScope s_read_line) := ⟨rfl, rfl, rfl, by decide +kernel, rfl, by decide +kernel, by decide +kernel⟩
abbrev s_read_owner : Stmt := topS 36
theorem sc_read_owner : FnScope ["text", "words", "name", "states"] ["text"] (defScope s_read_owner) := ⟨rfl, rfl, rfl, by decide +kernel, rfl, by decide +kernel, by decide +kernel⟩
abbrev s_is_taken : Stmt := topS 38
theorem sc_is_taken : FnScope ["tables", "told", "word", "name", "_"] ["tables", "told"] (defScope s_is_taken) := ⟨rfl, rfl, rfl, by decide +kernel, rfl, by decide +kernel, by decide +kernel⟩
def okStB (ss : List Str) : Bool := okNames ss && decide (1 ≤ ss.length ∧ ss.length ≤ 6)
def spStatesB (K : PySem.W.Frag) : Sp := fun vs H Q _ => ∃ (x : V) (ss : List Str), vs = [x] ∧ StR K H x ss ∧ (∀ s ∈ ss, s.length ≤ 100000) ∧ ss.length ≤ 100000 ∧ ∀ H', Same H H' → Q (.bl (okStB ss)) H'
/-- what a text says of an owner -/
def rdO (z : Str) : Option Own := match Txt.split z " " with
  | n :: ss => if isW n && okStB ss then some (n, ss) else none
  | [] => none
def spRdO : Sp := fun vs H Q _ => ∃ z : Str, vs = [.str z] ∧ z.length ≤ 90000 ∧ (rdO z = none → ∀ H', Same H H' → Q .non H') ∧
  ∀ o, rdO z = some o → ∀ (p p2 : Addr) (H' : Hp), Same H H' → H' p = some (.tup [.str o.1, .ref p2]) → H' p2 = some (.tup (o.2.map V.str)) → Q (.ref p) H'
/-- what a line says -/
inductive Told where
  | ow (b : Bool) (o : Own)
  | ac (x : Act)
def owW (b : Bool) : Str := if b then "agent" else "pool"
def rdL (z : Str) : Option Told :=
  if (Txt.partition z " ").1 = "action" then (rdA (Txt.partition z " ").2.2).map .ac
  else if (Txt.partition z " ").1 = "agent" then (rdO (Txt.partition z " ").2.2).map (.ow true)
  else if (Txt.partition z " ").1 = "pool" then (rdO (Txt.partition z " ").2.2).map (.ow false)
  else none
def TolR (K : PySem.W.Frag) (H : Hp) (p : Addr) : Told → Prop
  | .ow b o => ∃ p2, SqT K H p [.str (owW b), .str o.1, .ref p2] ∧ H p2 = some (.tup (o.2.map V.str)) ∧ isW o.1 = true ∧ okStB o.2 = true
  | .ac x => ∃ p2 ys, SqT K H p [.str "action", .str x.1, .ref p2] ∧ SqT K H p2 ys ∧ TyX K H (.ref p2) (.type "tuple") ∧ Paired (MvR K H) ys x.2 ∧ rdA (liA x.1 x.2) = some x
/-- a line, as it may be passed -/
def LnV (K : PySem.W.Frag) (H : Hp) (x : V) (t : Option Told) : Prop := (∃ z : Str, x = .str z ∧ z.length ≤ 80000 ∧ t = rdL z) ∨ (∃ ty, TyX K H x ty ∧ PySem.W.kitOne K ty (.type "str") = some false ∧ t = none)
def spRdL (K : PySem.W.Frag) : Sp := fun vs H Q _ => ∃ (x : V) (t : Option Told), vs = [x] ∧ LnV K H x t ∧ (t = none → ∀ H', Same H H' → Q .non H') ∧ ∀ u, t = some u → ∀ (p : Addr) (H' : Hp), Same H H' → TolR K H' p u → Q (.ref p) H'
theorem rdO_ok {z : Str} {o : Own} (h : rdO z = some o) : isW o.1 = true ∧ okStB o.2 = true := by
  unfold rdO at h
  split at h
  · split at h
    · rename_i c
      cases Option.some.inj h
      rw [Bool.and_eq_true] at c
      exact c
    · cases h
  · cases h
section
variable {P : Program} {w : World} {K : PySem.W.Frag} {mg : Str → Option Value} {base : Heap}
theorem ok_are_statesB {f fN : Addr} {fd fdN : FuncData} {tl : Tok} (B : Blt mg) (C_MAX_STATES : mg "MAX_STATES" = some (.int 6 tl)) (D_is_names : Df K mg "is_names" s_is_names ["value"] fN fdN) (G_is_names : FnOk P w K mg base CX0 2 fN fdN ["value"] (spIsNames K))
    (D : Df K mg "_are_states" s_are_states ["value"] f fd) : FnOk P w K mg base CX0 3 f fd ["value"] (spStatesB K) := by
  refine D.F.ok sc_are_states (fun vs H Q E h => ?_) (fun cdv A outer s H vs Q E hr h => ?_)
  · obtain ⟨x, ss, rfl, _⟩ := h
    rfl
  · obtain ⟨x, ss, rfl, hS, hl, hll, q⟩ := h
    refine ⟨_, (pss_one (ps_ret (pe_and (pe_call G_is_names (hr.mono (by decide)) (by rfl) D_is_names.g D_is_names.F.kp D_is_names.b .nil pass0 (pa_cons (pv 0) pa_nil)) (pe_one (pe_chain op_le op_le pe_int (pe_callB call_len_seq (by rfl) B.len_ (by decide +kernel) (pa_cons (pv 0) pa_nil)) (pe_glob (v := .int 6) rfl C_MAX_STATES ⟨_, rfl⟩)))))), ?_⟩
    obtain ⟨p, rfl, h1, h2⟩ := hS
    refine ⟨_, rfl, .ref p, okNames ss, rfl, .strsB h1 h2 hl, fun H1 s1 => ⟨_, rfl, ?_⟩⟩
    unfold okStB at q
    cases e : okNames ss with
    | false =>
      rw [e] at q
      exact q H1 s1
    | true =>
      rw [e, Bool.true_and] at q
      refine ⟨_, rfl, p, _, rfl, .inr (gSeqT s1 h1), _, _, rfl, rfl, _, rfl, ?_⟩
      rw [List.length_map]
      refine ite2 (fun y1 => ⟨_, _, rfl, rfl, ?_⟩) (fun n1 => ?_)
      · have y1' := of_decide_eq_true y1
        have e2 : decide ((ss.length : Int) ≤ 6) = decide (1 ≤ ss.length ∧ ss.length ≤ 6) := decide_eq_decide.mpr ⟨fun h => ⟨by omega, by omega⟩, fun h => by omega⟩
        show Q (.bl (decide ((ss.length : Int) ≤ 6))) H1
        rw [e2]
        exact q H1 s1
      · have e2 : decide (1 ≤ ss.length ∧ ss.length ≤ 6) = false := decide_eq_false fun h => n1 (decide_eq_true (by omega))
        rw [e2] at q
        first
        | exact q H1 s1
        | (have e3 : decide ((1 : Int) ≤ ss.length) = false := by rw [Bool.not_eq_true] at n1; exact n1
           rw [e3]; exact q H1 s1)
theorem ok_read_owner {f fN fS : Addr} {fd fdN fdS : FuncData} (B : Blt mg) (D_is_name : Df K mg "is_name" s_is_name ["value"] fN fdN) (G_is_name : FnOk P w K mg base CX0 1 fN fdN ["value"] (spIsName K))
    (D_are_states : Df K mg "_are_states" s_are_states ["value"] fS fdS) (G_are_states : FnOk P w K mg base CX0 3 fS fdS ["value"] (spStatesB K))
    (D : Df K mg "_read_owner" s_read_owner ["text"] f fd) : FnOk P w K mg base CX0 4 f fd ["text"] spRdO := by
  refine D.F.ok sc_read_owner (fun vs H Q E h => ?_) (fun cdv A outer s H vs Q E hr h => ?_)
  · obtain ⟨z, rfl, _⟩ := h
    rfl
  · obtain ⟨z, rfl, hz, q1, q2⟩ := h
    refine ⟨_, (pss_cons (ps_set (i := 1) sc_read_owner.nd rfl (Or.inl rfl) (pe_split (pv 0) pe_str))
    (pss_cons (ps_par (i := 2) (j := 3) (by rfl) sc_read_owner.nd rfl rfl (by decide) rfl rfl (pa_cons (pe_ix ix_list (pv 1) pe_int (fun _ _ => rfl)) (pa_cons (pe_callTy call_tupN (by rfl) B.tuple_ (by decide +kernel) (pa_cons (pe_slice sl_listN (pv 1) (po_some pe_int) po_none) pa_nil)) pa_nil)) (by rfl))
    (pss_one (ps_ret (pe_ifExp (PW.pt (pw_and (pt_val (pe_call G_is_name (hr.mono (by decide)) (by rfl) D_is_name.g D_is_name.F.kp D_is_name.b .nil pass0 (pa_cons (pv 2) pa_nil)) (by intro _; rfl)) (pw_and1 (pt_val (pe_call G_are_states (hr.mono (by decide)) (by rfl) D_are_states.g D_are_states.F.kp D_are_states.b .nil pass0 (pa_cons (pv 3) pa_nil)) (by intro _; rfl))))) (pe_tupN (pa_cons (pv 2) (pa_cons (pv 3) pa_nil))) pe_non))))), ?_⟩
    have sl : ∀ n : Nat, n ≤ 100000 → n ≤ sizeLine := fun n hn => by rw [sizeLine_eq]; omega
    have l1 : (Str.ofString " ").length = 1 := by decide +kernel
    refine ⟨_, rfl, ⟨_, rfl⟩, z, _, rfl, rfl, by rw [l1]; rfl, sl _ (by omega), fun p1 n1 => ?_⟩
    have s1 : Same H (upd H p1 (.lst ((Txt.split z " ").map V.str))) := gSame_new n1
    have e1 : (upd H p1 (.lst ((Txt.split z " ").map V.str))) p1 = some (.lst ((Txt.split z " ").map V.str)) := upd_same
    generalize upd H p1 (.lst ((Txt.split z " ").map V.str)) = H1 at s1 e1 ⊢
    have hne : Txt.split z " " ≠ [] := fun h => by
      have e := TL.split_spl z " " (by decide +kernel) (TL.kind_ok (by decide +kernel))
      rw [h] at e
      exact spl_some _ _ _ e.symm
    have hpl : ∀ s ∈ Txt.split z " ", s.length ≤ 90000 := fun s hs => Nat.le_trans (split_piece sp_ne sp_asc hs) hz
    have hll := PyProof.Rows.split_le z " "
    unfold rdO at q1 q2
    generalize Txt.split z " " = ws at e1 hne hpl hll q1 q2 ⊢
    obtain ⟨n, ss, rfl⟩ : ∃ n ss, ws = n :: ss := by
      cases ws with
      | nil => exact absurd rfl hne
      | cons n ss => exact ⟨n, ss, rfl⟩
    dsimp only at q1 q2
    rw [List.length_cons] at hll
    refine ⟨_, rfl, p1, _, 0, .str n, rfl, rfl, SqL.of e1, atI_nat (j := 0) rfl, _, rfl, 1, rfl, p1, _, rfl, SqL.of e1, fun l2 H2 n2 e2 s2 => ?_⟩
    have ec : cutV ((n :: ss).map V.str) (some 1) none = ss.map V.str := cut_from V.str (n :: ss) 1
    rw [ec] at e2
    refine ⟨l2, _, rfl, SqL.of e2, fun t1 H3 n3 e3 s3 => ⟨_, _, rfl, ?_⟩⟩
    have s03 := s1.trans (s2.trans s3)
    refine ⟨_, rfl, .str n, isW n, rfl, .inl ⟨n, rfl, Nat.le_trans (hpl n (List.mem_cons_self ..)) (by decide), rfl⟩, fun H4 s4 => ⟨_, rfl, ?_⟩⟩
    cases ew : isW n with
    | false =>
      rw [ew, Bool.false_and, if_neg Bool.false_ne_true] at q1
      refine ite2 (fun h => absurd h (by decide)) (fun _ => ?_)
      exact q1 rfl H4 (s03.trans s4)
    | true =>
      rw [ew, Bool.true_and] at q1 q2
      refine ite2 (fun _ => ?_) (fun h => absurd rfl h)
      refine ⟨_, rfl, .ref t1, ss, rfl, ⟨t1, rfl, .inl (.inl (s4 _ _ e3)), .base (.tup (s4 _ _ e3))⟩, fun s hs => Nat.le_trans (hpl s (List.mem_cons_of_mem _ hs)) (by decide), by omega, fun H5 s5 => ⟨_, rfl, ite2 (fun h => ?_) (fun h => ?_)⟩⟩
      · rw [if_pos h] at q2
        refine ⟨_, rfl, _, rfl, sl 2 (by decide), fun p H6 n6 e6 s6 => ?_⟩
        exact q2 (n, ss) rfl p t1 H6 (s03.trans (s4.trans (s5.trans s6))) e6 (s6 _ _ (s5 _ _ (s4 _ _ e3)))
      · rw [if_neg h] at q1
        exact q1 rfl H5 (s03.trans (s4.trans s5))
theorem ok_read_line {f fA fO : Addr} {fd fdA fdO : FuncData} (B : Blt mg) (D_read_action : Df K mg "_read_action" s_read_action ["line"] fA fdA) (G_read_action : FnOk P w K mg base CX0 4 fA fdA ["line"] (spRdA K))
    (D_read_owner : Df K mg "_read_owner" s_read_owner ["text"] fO fdO) (G_read_owner : FnOk P w K mg base CX0 4 fO fdO ["text"] spRdO)
    (D : Df K mg "_read_line" s_read_line ["line"] f fd) : FnOk P w K mg base CX0 5 f fd ["line"] (spRdL K) := by
  refine D.F.ok sc_read_line (fun vs H Q E h => ?_) (fun cdv A outer s H vs Q E hr h => ?_)
  · obtain ⟨x, t, rfl, _⟩ := h
    rfl
  · obtain ⟨x, t, rfl, hx, q1, q2⟩ := h
    refine ⟨_, (pss_cons (ps_if (pt_not (pt_val (pe_callB call_isi (by rfl) B.isinstance_ (by decide +kernel) (pa_cons (pv 0) (pa_cons (pe_bltn (v := .ty "str") rfl B.str_ (by decide +kernel) rfl) pa_nil))) (by intro _; rfl)))
    (pss_one (ps_ret pe_non)) pss_nil)
    (pss_cons (ps_asg (pe_partition (pv 0) pe_str) (pg_tup (by rfl) (pgs_cons (pg_name (i := 1) sc_read_line.nd rfl (Or.inl rfl)) (pgs_cons (pg_name (i := 2) sc_read_line.nd rfl (Or.inl rfl)) (pgs_cons (pg_name (i := 3) sc_read_line.nd rfl (Or.inl rfl)) pgs_nil)))))
    (pss_cons (ps_set (i := 4) sc_read_line.nd rfl (Or.inl rfl) pe_non)
    (pss_cons (ps_if (pt_cmpR op_eq (pv 1) pe_str (nomark _))
    (pss_one (ps_set (i := 4) sc_read_line.nd rfl (Or.inl rfl) (pe_call G_read_action (hr.mono (by decide)) (by rfl) D_read_action.g D_read_action.F.kp D_read_action.b .nil pass0 (pa_cons (pv 3) pa_nil)))) (pss_one (ps_if (pt_cmpR op_in_seq (pv 1) (pe_tupN (pa_cons pe_str (pa_cons pe_str pa_nil))) (by rfl))
    (pss_one (ps_set (i := 4) sc_read_line.nd rfl (Or.inl rfl) (pe_call G_read_owner (hr.mono (by decide)) (by rfl) D_read_owner.g D_read_owner.F.kp D_read_owner.b .nil pass0 (pa_cons (pv 3) pa_nil)))) pss_nil)))
    (pss_one (ps_ret (pe_ifExp (pt_cmpR op_isN (pv 4) pe_non (nomark _)) pe_non (pe_tupN (pa_cons (pv 1) (pa_starK K rfl (pv 4) pa_nil)))))))))), ?_⟩
    have sl : ∀ n : Nat, n ≤ 100000 → n ≤ sizeLine := fun n hn => by rw [sizeLine_eq]; omega
    have l1 : (Str.ofString " ").length = 1 := by decide +kernel
    rcases hx with ⟨z, rfl, hz, rfl⟩ | ⟨ty, hty, hk, rfl⟩
    · refine ⟨_, rfl, .str z, .ty "str", _, _, true, rfl, .ty "str", .base (.str z), kit_ty (by decide +kernel), _, rfl, ?_⟩
      obtain ⟨lc, lr⟩ := part_len z
      refine ⟨_, rfl, ⟨_, rfl⟩, z, _, rfl, rfl, by rw [l1]; rfl, sl _ (by omega), fun p1 n1 => ⟨p1, _, rfl, SqT.of upd_same, rfl, _, _, rfl, _, _, rfl, _, _, rfl, rfl, ?_⟩⟩
      have s1 : Same H (upd H p1 (.tup [.str (Txt.partition z " ").1, .str (Txt.partition z " ").2.1, .str (Txt.partition z " ").2.2])) := gSame_new n1
      generalize upd H p1 (.tup [.str (Txt.partition z " ").1, .str (Txt.partition z " ").2.1, .str (Txt.partition z " ").2.2]) = H1 at s1 ⊢
      unfold rdL at q1 q2
      generalize (Txt.partition z " ").1 = wd at lc q1 q2 ⊢
      generalize (Txt.partition z " ").2.1 = mid at q1 q2 ⊢
      generalize (Txt.partition z " ").2.2 = rest at lr q1 q2 ⊢
      have finN : ∀ H2, Q .non H2 → tRet (tIf (tTest (tOp (fun x y H Q => y = V.non ∧ Q (V.bl (decide (x = V.non))) H) (tVar 4) (tC V.non))) (tC V.non) (tTupN (tCons (tVar 1) (StX.tStar K (tVar 4) tNil)))) { nx := fun x H' => Q V.non H', rt := Q } [some (.str z), some (.str wd), some (.str mid), some (.str rest), some .non] H2 := fun H2 q => ⟨_, rfl, rfl, _, rfl, ite2 (fun _ => q) (fun h => absurd (decide_eq_true rfl) h)⟩
      have finR : ∀ (H2 : Hp) (a : Addr) (xs : List V), SqT K H2 a xs → xs.length ≤ 10 → (∀ p H3, Same H2 H3 → H3 p = some (.tup (.str wd :: xs)) → Q (.ref p) H3) → tRet (tIf (tTest (tOp (fun x y H Q => y = V.non ∧ Q (V.bl (decide (x = V.non))) H) (tVar 4) (tC V.non))) (tC V.non) (tTupN (tCons (tVar 1) (StX.tStar K (tVar 4) tNil)))) { nx := fun x H' => Q V.non H', rt := Q } [some (.str z), some (.str wd), some (.str mid), some (.str rest), some (.ref a)] H2 := fun H2 a xs ha hx q => by
        refine ⟨_, rfl, rfl, _, rfl, ite2 (fun h => ?_) (fun _ => ?_)⟩
        · exact absurd (of_decide_eq_true h) (by intro z; cases z)
        · refine ⟨_, rfl, _, rfl, a, xs, rfl, .inl ha, ?_, fun p H3 n3 e3 s3 => ?_⟩
          · rw [List.append_nil, List.length_cons, sizeLine_eq]
            omega
          · rw [List.append_nil] at e3
            exact q p H3 s3 e3
      have e1 : ∀ w : Str, decide (V.str wd = V.str w) = decide (wd = w) := fun w => decide_eq_decide.mpr ⟨fun z => V.str.inj z, fun z => by rw [z]⟩
      refine ⟨_, rfl, rfl, _, rfl, ?_⟩
      rw [e1]
      refine ite2 (fun h => ?_) (fun h => ?_)
      · -- an action
        have h := of_decide_eq_true h
        rw [if_pos h] at q1 q2
        refine ⟨_, rfl, .str rest, rfl, .inl ⟨rest, rfl, by omega, fun e H2 s2 => ?_, fun c ms e p p2 H2 ys s2 ep hs ht hp wm l4 wc => ?_⟩⟩
        · exact finN H2 (q1 (by rw [e]; rfl) H2 (s1.trans s2))
        · refine finR H2 p _ (.inl (.inl ep)) (by simp) fun p3 H3 s3 e3 => ?_
          obtain ⟨g1, g2, g3, g4, g5, g6⟩ := rdA_some e
          refine q2 (.ac (c, ms)) (by rw [e]; rfl) p3 H3 (s1.trans (s2.trans s3)) ⟨p2, ys, .inl (.inl ?_), gSeqT s3 hs, ht.same s3, paired_mono (fun _ _ h => MvR.same s3 h) hp, ?_⟩
          · rw [e3, h]
          · exact rdA_li g1 g2 g3 g4 g5
      have h := fun z => h (decide_eq_true z)
      rw [if_neg h] at q1 q2
      refine ⟨_, rfl, sl 2 (by decide), fun p2 H2 n2 e2 s2 => ⟨p2, ([("agent" : Str), "pool"] : List Str).map V.str, rfl, .inr (SqT.of e2), rfl, rfl, ?_⟩⟩
      rw [if_neg Bool.false_ne_true, inV_strs]
      refine ⟨_, rfl, ite2 (fun hm => ?_) (fun hm => ?_)⟩
      · have hm := of_decide_eq_true hm
        have hb : ∃ b, wd = owW b ∧ (if wd = "agent" then (rdO rest).map (Told.ow true) else if wd = "pool" then (rdO rest).map (Told.ow false) else none) = (rdO rest).map (Told.ow b) := by
          rcases List.mem_cons.mp hm with e | e
          · exact ⟨true, e, by rw [if_pos e]⟩
          · have e := List.mem_singleton.mp e
            exact ⟨false, e, by rw [if_neg (by rw [e]; decide +kernel), if_pos e]⟩
        obtain ⟨b, eb, er⟩ := hb
        rw [er] at q1 q2
        refine ⟨_, rfl, rest, rfl, by omega, fun e H3 s3 => ?_, fun o e p p2 H3 s3 ep e2' => ?_⟩
        · exact finN H3 (q1 (by rw [e]; rfl) H3 (s1.trans (s2.trans s3)))
        · refine finR H3 p _ (.inl (.inl ep)) (by simp) fun p3 H4 s4 e4 => ?_
          obtain ⟨g1, g2⟩ := rdO_ok e
          refine q2 (.ow b o) (by rw [e]; rfl) p3 H4 (s1.trans (s2.trans (s3.trans s4))) ⟨p2, .inl (.inl ?_), s4 _ _ e2', g1, g2⟩
          rw [e4, eb]
      · have hm := fun z => hm (decide_eq_true z)
        have g1 : ¬ wd = "agent" := fun z => hm (List.mem_cons.mpr (.inl z))
        have g2 : ¬ wd = "pool" := fun z => hm (List.mem_cons.mpr (.inr (List.mem_singleton.mpr z)))
        rw [if_neg g1, if_neg g2] at q1
        exact finN H2 (q1 rfl H2 (s1.trans s2))
    · refine ⟨_, rfl, x, .ty "str", ty, _, false, rfl, .ty "str", hty, hk, _, rfl, ?_⟩
      exact q1 rfl H (fun _ _ h => h)
end
end Gk

set_option Elab.async false
set_option linter.all false
set_option maxRecDepth 100000
set_option maxHeartbeats 8000000
namespace Gk
open PySem PySem.Spec PyProof.Rows L2
abbrev s_System_from_lines : Stmt := inClass (topS 24) 1
theorem sc_System_from_lines : FnScope ["cls", "lines", "tables", "index", "line", "told", "word", "name", "parts", "actions", "moves"] ["cls", "lines"] (defScope s_System_from_lines) := ⟨rfl, rfl, rfl, by decide +kernel, rfl, by decide +kernel, by decide +kernel⟩
def tbK (dA dP dX : Addr) : List (Key × V) := [(Sum.inr "agent", .ref dA), (Sum.inr "pool", .ref dP), (Sum.inr "action", .ref dX)]
theorem tbK_nd {a b c : Addr} : ((([] : List (Key × V)) ++ tbK a b c).map (·.1)).Nodup := by
  show ([Sum.inr "agent", Sum.inr "pool", Sum.inr "action"] : List Key).Nodup
  decide +kernel
/-- a tuple of moves -/
def MvT (K : PySem.W.Frag) (H : Hp) (v : V) (x : Act) : Prop := ∃ p ys, v = .ref p ∧ SqT K H p ys ∧ TyX K H v (.type "tuple") ∧ Paired (MvR K H) ys x.2
theorem MvT.extD {K : PySem.W.Frag} {H H' : Hp} {v : V} {x : Act} (e : ExtD H H') (h : MvT K H v x) : MvT K H' v x := by
  obtain ⟨p, ys, rfl, h1, h2, h3⟩ := h
  exact ⟨p, ys, rfl, sqT_extD e h1, tyT_extD e h2, pr_mono (fun _ _ h => mvR_extD e h) h3⟩
/-- the tables that are filled line by line -/
structure TabV (K : PySem.W.Frag) (H : Hp) (tp dA dP dX : Addr) (kA kP kX : List (Key × V)) (ag pl : List Own) (as : List Act) : Prop where
  hp : H tp = some (.dK (tbK dA dP dX))
  hA : H dA = some (.dK kA)
  hP : H dP = some (.dK kP)
  hX : H dX = some (.dK kX)
  nAP : dA ≠ dP
  nAX : dA ≠ dX
  nPX : dP ≠ dX
  npA : tp ≠ dA
  npP : tp ≠ dP
  npX : tp ≠ dX
  qA : Paired (OwR K H) kA ag
  qP : Paired (OwR K H) kP pl
  qX : Paired (KR (MvT K H) fun x => x.1) kX as
theorem TabV.same {K : PySem.W.Frag} {H H' : Hp} {tp dA dP dX : Addr} {kA kP kX : List (Key × V)} {ag pl : List Own} {as : List Act} (s : Same H H') (h : TabV K H tp dA dP dX kA kP kX ag pl as) : TabV K H' tp dA dP dX kA kP kX ag pl as :=
  ⟨s _ _ h.hp, s _ _ h.hA, s _ _ h.hP, s _ _ h.hX, h.nAP, h.nAX, h.nPX, h.npA, h.npP, h.npX, pr_mono (fun _ _ h => OwR.same s h) h.qA, pr_mono (fun _ _ h => OwR.same s h) h.qP, pr_mono (fun _ _ h => ⟨h.1, MvT.extD (ExtD.of s) h.2⟩) h.qX⟩
def takenB (ag pl : List Own) (as : List Act) : Told → Bool
  | .ow _ o => decide (o.1 ∈ ag.map (·.1)) || decide (o.1 ∈ pl.map (·.1))
  | .ac x => decide (x.1 ∈ as.map (·.1))
def spTaken (K : PySem.W.Frag) : Sp := fun vs H Q _ => ∃ (tp tl dA dP dX : Addr) (kA kP kX : List (Key × V)) (ag pl : List Own) (as : List Act) (u : Told), vs = [.ref tp, .ref tl] ∧ TabV K H tp dA dP dX kA kP kX ag pl as ∧ TolR K H tl u ∧ Q (.bl (takenB ag pl as u)) H
section
variable {P : Program} {w : World} {K : PySem.W.Frag} {mg : Str → Option Value} {base : Heap}
theorem ok_is_taken {f : Addr} {fd : FuncData} (B : Blt mg) (D : Df K mg "_is_taken" s_is_taken ["tables", "told"] f fd) : FnOk P w K mg base CX0 1 f fd ["tables", "told"] (spTaken K) := by
  refine D.F.ok sc_is_taken (fun vs H Q E h => ?_) (fun cdv A outer s H vs Q E hr h => ?_)
  · obtain ⟨tp, tl, dA, dP, dX, kA, kP, kX, ag, pl, as, u, rfl, _⟩ := h
    rfl
  · obtain ⟨tp, tl, dA, dP, dX, kA, kP, kX, ag, pl, as, u, rfl, tv, hu, q⟩ := h
    refine ⟨_, (pss_cons (ps_asg (pv 1) (pg_tup (by rfl) (pgs_cons (pg_name (i := 2) sc_is_taken.nd rfl (Or.inl rfl)) (pgs_cons (pg_name (i := 3) sc_is_taken.nd rfl (Or.inl rfl)) (pgs_cons (pg_name (i := 4) sc_is_taken.nd rfl (Or.inl rfl)) pgs_nil)))))
    (pss_cons (ps_if (pt_cmpR op_eq (pv 2) pe_str (nomark _))
    (pss_one (ps_ret (pe_cmp (pc_din (hu_of hr) (pv 3) (pe_dget (hu_of hr) (pv 0) pe_str (fun _ _ => rfl)))))) pss_nil)
    (pss_one (ps_ret (pe_or (pe_cmp (pc_din (hu_of hr) (pv 3) (pe_dget (hu_of hr) (pv 0) pe_str (fun _ _ => rfl)))) (pe_one (pe_cmp (pc_din (hu_of hr) (pv 3) (pe_dget (hu_of hr) (pv 0) pe_str (fun _ _ => rfl)))))))))), ?_⟩
    have e1 : ∀ a b : Str, decide (V.str a = V.str b) = decide (a = b) := fun a b => decide_eq_decide.mpr ⟨fun z => V.str.inj z, fun z => by rw [z]⟩
    cases u with
    | ac x =>
      obtain ⟨p2, ys, h1, _⟩ := hu
      refine ⟨_, rfl, tl, _, rfl, h1, rfl, _, _, rfl, _, _, rfl, _, _, rfl, rfl, ?_⟩
      refine ⟨_, rfl, rfl, _, rfl, ?_⟩
      refine ite2 (fun _ => ?_) (fun h => absurd (decide_eq_true rfl) h)
      refine ⟨_, rfl, _, rfl, tp, _, rfl, DGet.k (k := Sum.inr "action") tv.hp, dX, _, rfl, DGet.k (k := Sum.inr x.1) tv.hX, ?_⟩
      rw [kr_in tv.qX]
      exact q
    | ow b o =>
      obtain ⟨p2, h1, _⟩ := hu
      refine ⟨_, rfl, tl, _, rfl, h1, rfl, _, _, rfl, _, _, rfl, _, _, rfl, rfl, ?_⟩
      refine ⟨_, rfl, rfl, _, rfl, ?_⟩
      rw [e1]
      have hb : ¬ owW b = "action" := by cases b <;> decide +kernel
      refine ite2 (fun h => absurd (of_decide_eq_true h) hb) (fun _ => ?_)
      refine ⟨_, rfl, _, rfl, tp, _, rfl, DGet.k (k := Sum.inr "agent") tv.hp, dA, _, rfl, DGet.k (k := Sum.inr o.1) tv.hA, ?_⟩
      rw [valV_in tv.qA]
      have q : Q (.bl (decide (o.1 ∈ ag.map (·.1)) || decide (o.1 ∈ pl.map (·.1)))) H := q
      cases ea : decide (o.1 ∈ ag.map (·.1)) with
      | true =>
        rw [ea, Bool.true_or] at q
        exact ⟨_, rfl, q⟩
      | false =>
        rw [ea, Bool.false_or] at q
        refine ⟨_, rfl, ?_⟩
        refine ⟨_, rfl, _, rfl, tp, _, rfl, DGet.k (k := Sum.inr "pool") tv.hp, dP, _, rfl, DGet.k (k := Sum.inr o.1) tv.hP, ?_⟩
        rw [valV_in tv.qP]
        exact q
end
end Gk

set_option Elab.async false
set_option linter.all false
set_option maxRecDepth 100000
set_option maxHeartbeats 8000000
namespace Gk
open PySem PySem.Spec PyProof.Rows L2
abbrev Tabs3 := List Own × List Own × List Act
def addT (st : Tabs3) : Told → Tabs3
  | .ow true o => (st.1 ++ [o], st.2.1, st.2.2)
  | .ow false o => (st.1, st.2.1 ++ [o], st.2.2)
  | .ac x => (st.1, st.2.1, st.2.2 ++ [x])
/-- line by line: the index of the first wrong line, or all tables -/
def runT : List (Option Told) → Nat → Tabs3 → Sum Nat Tabs3
  | [], _, st => .inr st
  | none :: _, i, _ => .inl i
  | some u :: r, i, st => if takenB st.1 st.2.1 st.2.2 u then .inl i else runT r (i + 1) (addT st u)
/-- what the tables hold is right -/
structure TabOk (ag pl : List Own) (as : List Act) : Prop where
  oa : ∀ o ∈ ag, isW o.1 = true ∧ OkSt o.2
  op : ∀ o ∈ pl, isW o.1 = true ∧ OkSt o.2
  ox : ∀ x ∈ as, rdA (liA x.1 x.2) = some x
  nda : (ag.map (·.1)).Nodup
  ndp : (pl.map (·.1)).Nodup
  ndx : (as.map (·.1)).Nodup
  dis : ∀ n ∈ ag.map (·.1), n ∉ pl.map (·.1)
def FitBad (ag pl : List Own) (ms : List Mv) : Prop :=
  (∃ m ∈ ms, m.1 ∉ ag.map (·.1) ∧ m.1 ∉ pl.map (·.1)) ∨
  ((∀ m ∈ ms, ∃ o ∈ ag ++ pl, o.1 = m.1) ∧ ((ms.map (·.1)).filter fun n => decide (n ∈ ag.map (·.1))).Nodup ∧ ((ms.map (·.1)).filter fun n => decide (n ∈ pl.map (·.1))).length ≤ 3 ∧ ∃ m ∈ ms, ∀ o ∈ ag ++ pl, o.1 = m.1 → ¬ (m.2.1 ∈ o.2 ∧ m.2.2 ∈ o.2))
def SysBad (ag pl : List Own) (as : List Act) : Prop := as = [] ∨ ((∃ x ∈ as, FitBad ag pl x.2) ∧ ∀ x ∈ as, Fit ag pl x.2 ∨ FitBad ag pl x.2)
def spSysBad (K : PySem.W.Frag) (CS CA CI : Addr) : Sp := fun vs H Q E => ∃ (a dx da dp pa : Addr) (ka kp : List (Key × V)) (xs : List V) (ag pl : List Own) (as : List Act), vs = [.ref a, .ref da, .ref dp, .ref pa] ∧ H a = some (.ins CS dx []) ∧ Parts K H CA da dp pa ka kp xs ag pl as ∧ OwD ag pl ∧ as.length ≤ 16 ∧ (as.map (·.1)).Nodup ∧ SysBad ag pl as ∧ ∀ H', Same H H' → E (.ref CI) none H'
def spSysU (K : PySem.W.Frag) (CS CA CI : Addr) : Sp := fun vs H Q E => spSysI K CS CA vs H Q E ∨ spSysBad K CS CA CI vs H Q E
def spFromL (K : PySem.W.Frag) (CS CA CP CI : Addr) : Sp := fun vs H Q E => ∃ (t : Addr) (xs : List V) (ts : List (Option Told)), vs = [.ref CS, .ref t] ∧ SqT K H t xs ∧ Paired (LnV K H) xs ts ∧ xs.length ≤ 20 ∧
  (∀ i, runT ts 0 ([], [], []) = .inl i → ∀ d H', H d = none → Same H H' → H' d = some (.xd [("line", .int (i : Nat))]) → E (.ref CP) (some d) H') ∧
  (∀ ag pl as, runT ts 0 ([], [], []) = .inr (ag, pl, as) → ag.length ≤ 5 ∧ pl.length ≤ 3 ∧ as.length ≤ 16 ∧
    ((1 ≤ as.length ∧ (∀ x ∈ as, Fit ag pl x.2) ∧ ∀ (a : Addr) (H' : Hp) (ag' pl' : List Own) (as' : List Act), Same H H' → H a = none → ag'.Perm ag → pl'.Perm pl → as'.Perm as → SysV K H' CS CA a ag' pl' as' → Q (.ref a) H') ∨
      (SysBad ag pl as ∧ ∀ H', Same H H' → E (.ref CI) none H')))
theorem nd_snoc {l : List Str} {x : Str} (h : l.Nodup) (n : x ∉ l) : (l ++ [x]).Nodup := List.nodup_append.mpr ⟨h, by simp, fun a ha b hb e => by
  rw [List.mem_singleton.mp hb] at e
  exact n (e ▸ ha)⟩
theorem okSt_of {ss : List Str} (h : okStB ss = true) : OkSt ss := by
  unfold okStB at h
  rw [Bool.and_eq_true] at h
  obtain ⟨h1, h2⟩ := h
  have h2 := of_decide_eq_true h2
  obtain ⟨g1, g2, g3⟩ := okNames_of h1
  exact ⟨h2.1, h2.2, by first | exact g3 | (rw [← nd_strs]; exact g3), g2⟩
theorem LnV.same {K : PySem.W.Frag} {H H' : Hp} {x : V} {t : Option Told} (s : Same H H') (h : LnV K H x t) : LnV K H' x t := by
  rcases h with h | ⟨ty, h1, h2, h3⟩
  · exact .inl h
  · exact .inr ⟨ty, h1.same s, h2, h3⟩
section
variable {P : Program} {w : World} {K : PySem.W.Frag} {mg : Str → Option Value} {base : Heap}
theorem ok_from_lines {C_System C_Action CP CI CN CA' fSI fI fC pC fM pM fL fE fS f fR fT fPE : Addr} {dSI dI dC dM dL dE dS fd dR dT dPE : FuncData} (B : Blt mg) (m_enumerate : mg "enumerate" = none) (TA : ActK K mg C_Action fI fC pC fM pM fL fE fS dI dC dM dL dE dS) (TS : SysK K mg C_System fSI dSI)
    (T_ParseError : IniT K mg "ParseError" "line" s_ParseError___init CP fPE dPE) (G_ParseError : FnOk P w K mg base CX0 1 fPE dPE ["self", "line"] (spIni CP "line"))
    (G_init : FnOk P w K mg base (L2.CX P w) 4 fI dI ["self", "called", "moves"] (spAct K C_Action CN CA'))
    (G_System : FnOk P w K mg base (L2.CX P w) 6 fSI dSI ["self", "agents", "pools", "actions"] (spSysU K C_System C_Action CI))
    (D_read_line : Df K mg "_read_line" s_read_line ["line"] fR dR) (G_read_line : FnOk P w K mg base CX0 5 fR dR ["line"] (spRdL K))
    (D_is_taken : Df K mg "_is_taken" s_is_taken ["tables", "told"] fT dT) (G_is_taken : FnOk P w K mg base CX0 1 fT dT ["tables", "told"] (spTaken K))
    {A : Around} {outer : List Env} {s : Shared} {cdv : Value} {H : Hp} {vs : List V} {Q : VK} {E : XK} (hr : Room 7 (A.deeper (envOfC "System.from_lines" (defScope s_System_from_lines) s.heap.objs.size f cdv)))
    (h : spFromL K C_System C_Action CP CI vs H Q E) : ∃ t, PSs (cxOf (L2.CX P w) P w K mg base ["cls", "lines", "tables", "index", "line", "told", "word", "name", "parts", "actions", "moves"] "System.from_lines" (defScope s_System_from_lines) f cdv A outer s H E) (defBody s_System_from_lines) t ∧ t { nx := fun _ H' => Q .non H', rt := Q } (L2.start ["cls", "lines", "tables", "index", "line", "told", "word", "name", "parts", "actions", "moves"] vs) H := by
  obtain ⟨t, xs, ts, rfl, hS, hL, hl, qE, qS⟩ := h
  refine ⟨_, (pss_cons (ps_set (i := 2) sc_System_from_lines.nd rfl (Or.inl rfl) (pe_disp (pps_cons pe_str pe_dnewN (pps_cons pe_str pe_dnewN (pps_cons pe_str pe_dnewN pps_nil))) (by rfl) (by rfl) (fun z => by cases z) (by decide)))
    (pss_cons (ps_for (passes_of rfl) rfl (pi_enumT (by rfl) m_enumerate (pa_cons (pv 1) pa_nil)) (pg_tup (by rfl) (pgs_cons (pg_name (i := 3) sc_System_from_lines.nd rfl (Or.inl rfl)) (pgs_cons (pg_name (i := 4) sc_System_from_lines.nd rfl (Or.inl rfl)) pgs_nil)))
    (pss_cons (ps_set (i := 5) sc_System_from_lines.nd rfl (Or.inl rfl) (pe_call G_read_line (hr.mono (by decide)) (by rfl) D_read_line.g D_read_line.F.kp D_read_line.b .nil pass0 (pa_cons (pv 4) pa_nil)))
    (pss_cons (ps_if (PW.pt (pw_or (pt_cmpR op_isN (pv 5) pe_non (nomark _)) (pw_or1 (pt_val (pe_call G_is_taken (hr.mono (by decide)) (by rfl) D_is_taken.g D_is_taken.F.kp D_is_taken.b .nil pass0 (pa_cons (pv 2) (pa_cons (pv 5) pa_nil))) (by intro _; rfl)))))
    (pss_one (ps_raise rfl (takes_of rfl rfl rfl rfl) (pmk_oex T_ParseError.o T_ParseError.i T_ParseError.ti G_ParseError (hr.mono (by decide)) T_ParseError.bi .nil pass0 (by rfl) T_ParseError.g (pa_cons (pv 3) pa_nil)))) pss_nil)
    (pss_cons (ps_asg (pv 5) (pg_tup (by rfl) (pgs_cons (pg_name (i := 6) sc_System_from_lines.nd rfl (Or.inl rfl)) (pgs_cons (pg_name (i := 7) sc_System_from_lines.nd rfl (Or.inl rfl)) (pgs_cons (pg_name (i := 8) sc_System_from_lines.nd rfl (Or.inl rfl)) pgs_nil)))))
    (pss_one (ps_dput (hu_of hr) (pe_dget (hu_of hr) (pv 2) (pv 6) (fun _ _ => rfl)) (pv 7) (pv 8) rfl))))))
    (pss_cons (ps_lock (ps_setLc (i := 9) (own := [("name", 7), ("moves", 10)]) (g := gTup K 2 (gCons (gName 7) (gCons (gName 10) gNil))) (tt := tYes) (by rfl) sc_System_from_lines.nd rfl rfl (sw_true rfl rfl rfl (by decide +kernel)) (pi_items (pe_dget (hu_of hr) (pv 2) pe_str (fun _ _ => rfl))) (blkOk_by (N := ["cls", "lines", "tables", "index", "line", "told", "word", "name", "parts", "actions", "moves"]) (sc := defScope s_System_from_lines) (by decide +kernel)) (fun _ _ _ _ _ => (pg_tup (by rfl) (pgs_cons (pg_name (i := 7) sc_System_from_lines.nd rfl (Or.inl rfl)) (pgs_cons (pg_name (i := 10) sc_System_from_lines.nd rfl (Or.inl rfl)) pgs_nil)))) (fun _ _ _ _ _ => pts_nil) (fun _ _ _ _ _ => (pe_makeS TA.M G_init (hr.mono (by decide)) (by rfl) TA.g TA.BI (fun σ pins H s e s' I c => passL0 pins σ H s e s' I c) (pa_cons (pv 7) (pa_cons (pv 10) pa_nil))))))
    (pss_one (ps_ret (pe_makeL (i := 0) TS.M G_System (hr.mono (by decide)) rfl (.inl rfl) TS.BI (fun σ => passAt (takes_of rfl rfl rfl rfl) σ) (pa_cons (pe_dget (hu_of hr) (pv 2) pe_str (fun _ _ => rfl)) (pa_cons (pe_dget (hu_of hr) (pv 2) pe_str (fun _ _ => rfl)) (pa_cons (pe_callTy call_tupN (by rfl) B.tuple_ (by decide +kernel) (pa_cons (pv 9) pa_nil)) pa_nil))))))))), ?_⟩
  have sl : ∀ n : Nat, n ≤ 100000 → n ≤ sizeLine := fun n hn => by rw [sizeLine_eq]; omega
  refine fun p np dA H1 nA eA sA dP H2 nP eP sP dX H3 nX eX sX => ?_
  have ep : H3 p = some (.dK []) := sX _ _ (sP _ _ (sA _ _ upd_same))
  have s03 : Same H H3 := (gSame_new np).trans (sA.trans (sP.trans sX))
  have eA3 := sX _ _ (sP _ _ eA)
  have eP3 := sX _ _ eP
  have nAH : H dA = none := none_back (gSame_new np) nA
  have nPH : H dP = none := none_back ((gSame_new np).trans sA) nP
  have nXH : H dX = none := none_back (((gSame_new np).trans sA).trans sP) nX
  have nAp : dA ≠ p := fun z => by rw [z, upd_same] at nA; cases nA
  have nPp : dP ≠ p := fun z => by rw [z, sA _ _ upd_same] at nP; cases nP
  have nXp : dX ≠ p := fun z => by rw [z, sP _ _ (sA _ _ upd_same)] at nX; cases nX
  have nPA : dP ≠ dA := fun z => by rw [z, eA] at nP; cases nP
  have nXA : dX ≠ dA := fun z => by rw [z, sP _ _ eA] at nX; cases nX
  have nXP : dX ≠ dP := fun z => by rw [z, eP] at nX; cases nX
  refine ⟨ep, tbK dA dP dX, rfl, by show 3 ≤ 15; decide, ?_⟩
  rw [mergeK_nil tbK_nd, List.nil_append]
  have s4 : Same H (upd H3 p (.dK (tbK dA dP dX))) := gSame_mut s03 np
  have tv4 : TabV K (upd H3 p (.dK (tbK dA dP dX))) p dA dP dX [] [] [] [] [] [] := ⟨upd_same, by rw [upd_ne nAp]; exact eA3, by rw [upd_ne nPp]; exact eP3, by rw [upd_ne nXp]; exact eX, nPA.symm, nXA.symm, nXP.symm, nAp.symm, nPp.symm, nXp.symm, .nil, .nil, .nil⟩
  generalize upd H3 p (.dK (tbK dA dP dX)) = H4 at s4 tv4 ⊢
  have lts := hL.length
  refine ⟨_, rfl, t, xs, rfl, gSeqT s4 hS, ?_⟩
  refine for_it (n := xs.length) walk_enumT (fun i σ H5 => (∃ x3 x4 x5 x6 x7 x8, σ = [some (.ref C_System), some (.ref t), some (.ref p), x3, x4, x5, x6, x7, x8, none, none]) ∧ Same H H5 ∧ ∃ kA kP kX ag pl as, TabV K H5 p dA dP dX kA kP kX ag pl as ∧ TabOk ag pl as ∧ ag.length + pl.length + as.length ≤ i ∧ runT ts 0 ([], [], []) = runT (ts.drop i) i (ag, pl, as))
    ⟨⟨_, _, _, _, _, _, rfl⟩, s4, [], [], [], [], [], [], tv4, ⟨fun _ h => (by cases h), fun _ h => (by cases h), fun _ h => (by cases h), List.nodup_nil, List.nodup_nil, List.nodup_nil, fun _ h => (by cases h)⟩, Nat.le_refl _, rfl⟩ (fun i σ H5 _ h5 => gSeqT h5.2.1 hS) (fun i x σ H5 H' hi h5 hy => ?_) (fun σ H5 h5 => ?_)
  · obtain ⟨⟨x3, x4, x5, x6, x7, x8, rfl⟩, s5, kA, kP, kX, ag, pl, as, tv, ok, hlen, hrun⟩ := h5
    obtain ⟨T, x, rfl, hT, rfl, hx⟩ := hy
    obtain ⟨u, hu, lv⟩ := paired_get hL hx
    have s6 : Same H5 (upd H5 T (.tup [.int (i : Nat), x])) := gSame_new hT
    have t6 : (upd H5 T (.tup [.int (i : Nat), x])) T = some (.tup [.int (i : Nat), x]) := upd_same
    generalize upd H5 T (.tup [.int (i : Nat), x]) = H6 at s6 t6 ⊢
    have s06 := s5.trans s6
    have hdr : ts.drop i = u :: ts.drop (i + 1) := by
      have hi2 : i < ts.length := by omega
      rw [List.drop_eq_getElem_cons hi2]
      have e : ts[i] = u := by
        rw [List.getElem?_eq_getElem hi2] at hu
        exact Option.some.inj hu
      rw [e]
    rw [hdr] at hrun
    have err : ∀ H7, Same H H7 → runT ts 0 ([], [], []) = .inl i → ∀ σ : L2.St, σ[3]? = some (some (.int (i : Nat))) → tMkO CP (spIni CP "line") [] (tCons (tVar 3) tNil) σ H7 fun cls d H' => E cls d H' := fun H7 s7 hr σ hσ =>
      ini_mk (.inr ⟨(i : Int), rfl, by omega, by omega⟩) (fun Q q => ⟨_, hσ, q⟩) fun d H' hd s e => qE i hr d H' (none_back s7 hd) (s7.trans s) e
    refine ⟨T, _, rfl, SqT.of t6, rfl, _, _, rfl, _, _, rfl, rfl, ?_⟩
    refine ⟨_, rfl, x, u, rfl, LnV.same s06 lv, fun hn H7 s7 => ?_, fun u' hu' pt H7 s7 tr => ?_⟩
    · subst hn
      exact ⟨_, rfl, rfl, _, rfl, err H7 (s06.trans s7) (by rw [hrun]; rfl) _ rfl⟩
    · subst hu'
      have s07 := s06.trans s7
      have tv7 := tv.same (s6.trans s7)
      refine ⟨_, rfl, rfl, _, rfl, ite2 (fun h => absurd (of_decide_eq_true h) (by intro z; cases z)) (fun _ => ?_)⟩
      refine ⟨_, rfl, _, rfl, p, pt, dA, dP, dX, kA, kP, kX, ag, pl, as, u', rfl, tv7, tr, _, rfl, ite2 (fun ht => ?_) (fun ht => ?_)⟩
      · exact err H7 s07 (by rw [hrun]; show (if _ then _ else _) = _; rw [if_pos ht]) _ rfl
      have hrun' : runT ts 0 ([], [], []) = runT (ts.drop (i + 1)) (i + 1) (addT (ag, pl, as) u') := by
        rw [hrun]
        show (if _ then _ else _) = _
        rw [if_neg ht]
      cases u' with
      | ow b o =>
        obtain ⟨p2, h1, h2, w1, w2⟩ := tr
        refine ⟨_, rfl, pt, _, rfl, h1, rfl, _, _, rfl, _, _, rfl, _, _, rfl, rfl, ?_⟩
        cases b
        · -- a pool
          have na : o.1 ∉ ag.map (·.1) := fun z => ht (by show (decide _ || decide _) = true; rw [decide_eq_true z]; rfl)
          have npl : o.1 ∉ pl.map (·.1) := fun z => ht (by show (decide _ || decide _) = true; rw [decide_eq_true z, Bool.or_true])
          have hfr : (Sum.inr o.1 : Key) ∉ kP.map (·.1) := by
            rw [own_keys tv7.qP]
            intro hm
            obtain ⟨y, hy, e⟩ := List.mem_map.mp hm
            exact npl (List.mem_map.mpr ⟨y, hy, Sum.inr.inj e⟩)
          have lk := tv7.qP.length
          refine ⟨_, rfl, _, rfl, _, rfl, p, _, rfl, DGet.k (k := Sum.inr "pool") tv7.hp, _, rfl, dP, _, rfl, DPut.k (k := Sum.inr o.1) tv7.hP (by rw [sizeLine_eq]; omega), ?_⟩
          rw [putK_add hfr]
          have xD : ExtD H7 (upd H7 dP (.dK (kP ++ [(Sum.inr o.1, .ref p2)]))) := ExtD.lock tv7.hP
          have dk : ∀ b u, b ≠ dP → H7 b = some u → (upd H7 dP (.dK (kP ++ [(Sum.inr o.1, .ref p2)]))) b = some u := fun b u n h => by rw [upd_ne n]; exact h
          refine ⟨⟨_, _, _, _, _, _, rfl⟩, gSame_mut s07 nPH, kA, _, kX, ag, pl ++ [o], as, ⟨dk _ _ tv7.npP tv7.hp, dk _ _ tv7.nAP tv7.hA, upd_same, dk _ _ tv7.nPX.symm tv7.hX, tv7.nAP, tv7.nAX, tv7.nPX, tv7.npA, tv7.npP, tv7.npX, pr_mono (fun _ _ h => OwR.extD xD h) tv7.qA, paired_app (pr_mono (fun _ _ h => OwR.extD xD h) tv7.qP) (.cons ⟨rfl, p2, rfl, .inl (.inl (xD _ _ h2 fun _ z => by cases z)), .base (.tup (xD _ _ h2 fun _ z => by cases z))⟩ .nil), pr_mono (fun _ _ h => ⟨h.1, MvT.extD xD h.2⟩) tv7.qX⟩, ⟨ok.oa, fun o' ho' => ?_, ok.ox, ok.nda, ?_, ok.ndx, fun n hn hm => ?_⟩, ?_, hrun'⟩
          · rcases List.mem_append.mp ho' with h | h
            · exact ok.op o' h
            · rw [List.mem_singleton.mp h]
              exact ⟨w1, okSt_of w2⟩
          · rw [List.map_append]
            exact nd_snoc ok.ndp npl
          · rw [List.map_append] at hm
            rcases List.mem_append.mp hm with h | h
            · exact ok.dis n hn h
            · rw [List.mem_singleton.mp h] at hn
              exact na hn
          · rw [List.length_append]
            show ag.length + (pl.length + 1) + as.length ≤ i + 1
            omega
        · -- an agent
          have na : o.1 ∉ ag.map (·.1) := fun z => ht (by show (decide _ || decide _) = true; rw [decide_eq_true z]; rfl)
          have npl : o.1 ∉ pl.map (·.1) := fun z => ht (by show (decide _ || decide _) = true; rw [decide_eq_true z, Bool.or_true])
          have hfr : (Sum.inr o.1 : Key) ∉ kA.map (·.1) := by
            rw [own_keys tv7.qA]
            intro hm
            obtain ⟨y, hy, e⟩ := List.mem_map.mp hm
            exact na (List.mem_map.mpr ⟨y, hy, Sum.inr.inj e⟩)
          have lk := tv7.qA.length
          refine ⟨_, rfl, _, rfl, _, rfl, p, _, rfl, DGet.k (k := Sum.inr "agent") tv7.hp, _, rfl, dA, _, rfl, DPut.k (k := Sum.inr o.1) tv7.hA (by rw [sizeLine_eq]; omega), ?_⟩
          rw [putK_add hfr]
          have xD : ExtD H7 (upd H7 dA (.dK (kA ++ [(Sum.inr o.1, .ref p2)]))) := ExtD.lock tv7.hA
          have dk : ∀ b u, b ≠ dA → H7 b = some u → (upd H7 dA (.dK (kA ++ [(Sum.inr o.1, .ref p2)]))) b = some u := fun b u n h => by rw [upd_ne n]; exact h
          refine ⟨⟨_, _, _, _, _, _, rfl⟩, gSame_mut s07 nAH, _, kP, kX, ag ++ [o], pl, as, ⟨dk _ _ tv7.npA tv7.hp, upd_same, dk _ _ tv7.nAP.symm tv7.hP, dk _ _ tv7.nAX.symm tv7.hX, tv7.nAP, tv7.nAX, tv7.nPX, tv7.npA, tv7.npP, tv7.npX, paired_app (pr_mono (fun _ _ h => OwR.extD xD h) tv7.qA) (.cons ⟨rfl, p2, rfl, .inl (.inl (xD _ _ h2 fun _ z => by cases z)), .base (.tup (xD _ _ h2 fun _ z => by cases z))⟩ .nil), pr_mono (fun _ _ h => OwR.extD xD h) tv7.qP, pr_mono (fun _ _ h => ⟨h.1, MvT.extD xD h.2⟩) tv7.qX⟩, ⟨fun o' ho' => ?_, ok.op, ok.ox, ?_, ok.ndp, ok.ndx, fun n hn => ?_⟩, ?_, hrun'⟩
          · rcases List.mem_append.mp ho' with h | h
            · exact ok.oa o' h
            · rw [List.mem_singleton.mp h]
              exact ⟨w1, okSt_of w2⟩
          · rw [List.map_append]
            exact nd_snoc ok.nda na
          · rw [List.map_append] at hn
            rcases List.mem_append.mp hn with h | h
            · exact ok.dis n h
            · rw [List.mem_singleton.mp h]
              exact npl
          · rw [List.length_append]
            show ag.length + 1 + pl.length + as.length ≤ i + 1
            omega
      | ac x =>
        obtain ⟨p2, ys, h1, h2, h3, h4, h5⟩ := tr
        refine ⟨_, rfl, pt, _, rfl, h1, rfl, _, _, rfl, _, _, rfl, _, _, rfl, rfl, ?_⟩
        have na : x.1 ∉ as.map (·.1) := fun z => ht (decide_eq_true z)
        have hfr : (Sum.inr x.1 : Key) ∉ kX.map (·.1) := by
          rw [kr_keys tv7.qX]
          intro hm
          obtain ⟨y, hy, e⟩ := List.mem_map.mp hm
          rw [Sum.inr.inj e] at hy
          exact na hy
        have lk := tv7.qX.length
        refine ⟨_, rfl, _, rfl, _, rfl, p, _, rfl, DGet.k (k := Sum.inr "action") tv7.hp, _, rfl, dX, _, rfl, DPut.k (k := Sum.inr x.1) tv7.hX (by rw [sizeLine_eq]; omega), ?_⟩
        rw [putK_add hfr]
        have xD : ExtD H7 (upd H7 dX (.dK (kX ++ [(Sum.inr x.1, .ref p2)]))) := ExtD.lock tv7.hX
        have dk : ∀ b u, b ≠ dX → H7 b = some u → (upd H7 dX (.dK (kX ++ [(Sum.inr x.1, .ref p2)]))) b = some u := fun b u n h => by rw [upd_ne n]; exact h
        refine ⟨⟨_, _, _, _, _, _, rfl⟩, gSame_mut s07 nXH, kA, kP, _, ag, pl, as ++ [x], ⟨dk _ _ tv7.npX tv7.hp, dk _ _ tv7.nAX tv7.hA, dk _ _ tv7.nPX tv7.hP, upd_same, tv7.nAP, tv7.nAX, tv7.nPX, tv7.npA, tv7.npP, tv7.npX, pr_mono (fun _ _ h => OwR.extD xD h) tv7.qA, pr_mono (fun _ _ h => OwR.extD xD h) tv7.qP, paired_app (pr_mono (fun _ _ h => ⟨h.1, MvT.extD xD h.2⟩) tv7.qX) (.cons ⟨rfl, MvT.extD xD ⟨p2, ys, rfl, h2, h3, h4⟩⟩ .nil)⟩, ⟨ok.oa, ok.op, fun o' ho' => ?_, ok.nda, ok.ndp, ?_, ok.dis⟩, ?_, hrun'⟩
        · rcases List.mem_append.mp ho' with h | h
          · exact ok.ox o' h
          · rw [List.mem_singleton.mp h]
            exact h5
        · rw [List.map_append]
          exact nd_snoc ok.ndx na
        · rw [List.length_append]
          show ag.length + pl.length + (as.length + 1) ≤ i + 1
          omega
  · obtain ⟨⟨x3, x4, x5, x6, x7, x8, rfl⟩, s5, kA, kP, kX, ag, pl, as, tv, ok, hlen, hrun⟩ := h5
    rw [List.drop_of_length_le (by omega)] at hrun
    obtain ⟨b5, b3, b16, qq⟩ := qS ag pl as hrun
    have lX := tv.qX.length
    -- the actions
    refine ⟨dX, _, tv.hX, trivial, fun od => ⟨_, rfl, p, _, rfl, DGet.k (k := Sum.inr "action") (same_lock tv.hp tv.npX), dX, od, kX, rfl, upd_same, fun D hDn => ?_⟩⟩
    have hLx : ExtD H5 (upd H5 dX (.frz od (.dK kX))) := ExtD.lock tv.hX
    have hLd : (upd H5 dX (.frz od (.dK kX))) dX = some (.frz od (.dK kX)) := upd_same
    have hun : ∀ H', Same (upd H5 dX (.frz od (.dK kX))) H' → Same H5 (upd H' dX (.dK kX)) := fun H' s' => same_unlock tv.hX s'
    generalize upd H5 dX (.frz od (.dK kX)) = HL at hLx hLd hun hDn ⊢
    refine lc_it (n := kX.length) walk_itemsK (fun i H6 => Same HL H6 ∧ ∃ vs, H6 D = some (.lst vs) ∧ Paired (AcR K H6 C_Action) vs (as.take i)) ⟨gSame_new hDn, [], upd_same, .nil⟩ (fun i H6 _ h6 => h6.1 _ _ hLd) (fun i x H6 H' hi h6 hy => ?_) (fun H6 h6 => ?_)
    · obtain ⟨s6, vs, d6, q6⟩ := h6
      obtain ⟨T, kv, hkv, rfl, hT, rfl⟩ := hy
      obtain ⟨ac, hac, r1, p2, ys, rv, m1, m2, m3⟩ := paired_get tv.qX hkv
      have sT : Same H6 (upd H6 T (.tup [kV kv.1, kv.2])) := gSame_new hT
      have t6 : (upd H6 T (.tup [kV kv.1, kv.2])) T = some (.tup [kV kv.1, kv.2]) := upd_same
      generalize upd H6 T (.tup [kV kv.1, kv.2]) = H7 at sT t6 ⊢
      have x7 : ExtD H5 H7 := hLx.trans (ExtD.of (s6.trans sT))
      rw [rv] at m2
      rw [r1, rv] at t6
      have e2 := rdA_some (ok.ox ac (List.mem_of_getElem? hac))
      obtain ⟨g1, g2, g3, g4, g5, g6⟩ := e2
      refine ⟨T, _, rfl, SqT.of t6, rfl, _, _, rfl, _, _, rfl, rfl, rfl, ?_⟩
      refine ⟨_, rfl, _, rfl, fun xa dx hx hdx nx => ?_⟩
      have sN : Same H7 (upd (upd H7 dx (.own xa)) xa (.ins C_Action dx [])) := (gSame_new hdx).trans (gSame_new (by rw [upd_ne nx.symm]; exact hx))
      have hN : (upd (upd H7 dx (.own xa)) xa (.ins C_Action dx [])) xa = some (.ins C_Action dx []) := upd_same
      generalize upd (upd H7 dx (.own xa)) xa (.ins C_Action dx []) = H8 at sN hN ⊢
      have x8 : ExtD H5 H8 := x7.trans (ExtD.of sN)
      refine ⟨xa, dx, .str ac.1, .ref p2, rfl, hN, .inr ⟨ac.1, rfl, g1, .inr ⟨p2, ys, ac.2, rfl, sqT_extD x8 m1, tyT_extD x8 m2, pr_mono (fun _ _ h => mvR_extD x8 h) m3, List.length_pos_iff.mpr g2, g3, g4, fun H9 bk av => ⟨rfl, ?_⟩⟩⟩⟩
      rw [g5] at av
      have s79 : Same H6 H9 := fun b u e => bk b u (fun z => by rw [z] at e; rw [sT _ _ e] at hx; cases hx) (sN _ _ (sT _ _ e))
      refine ⟨vs, s79 _ _ d6, ?_, gSame_mut (s6.trans s79) hDn, vs ++ [.ref xa], upd_same, ?_⟩
      · have h1 := q6.length
        rw [List.length_take] at h1
        exact small1000 (by omega)
      · have x9 : ExtL H9 (upd H9 D (.lst (vs ++ [.ref xa]))) := ExtL.lst (s79 _ _ d6)
        rw [List.take_add_one, hac]
        refine paired_app (pr_mono (fun _ _ h => ?_) q6) (.cons ⟨xa, rfl, actV_extL x9 av⟩ .nil)
        obtain ⟨b, rfl, h⟩ := h
        exact ⟨b, rfl, actV_extL x9 (h.same s79)⟩
    obtain ⟨s6, vs, d6, q6⟩ := h6
    rw [List.take_of_length_le (by omega)] at q6
    have sU := hun _ s6
    have f6 := s6 _ _ hLd
    refine ⟨f6, ?_⟩
    have bU : But dX H6 (upd H6 dX (.dK kX)) := But.upd
    have d6' := bU _ _ (fun z => by rw [z, f6] at d6; cases d6) d6
    have q6' : Paired (AcR K (upd H6 dX (.dK kX)) C_Action) vs as := pr_mono (fun _ _ h => by
      obtain ⟨b, rfl, h⟩ := h
      exact ⟨b, rfl, actV_but bU (.frz f6) (fun _ _ _ z => by rw [f6] at z; cases z) h⟩) q6
    generalize upd H6 dX (.dK kX) = HU at sU bU d6' q6' ⊢
    have tvU := tv.same sU
    refine ⟨rfl, _, rfl, p, _, rfl, DGet.k (k := Sum.inr "agent") tvU.hp, _, rfl, p, _, rfl, DGet.k (k := Sum.inr "pool") tvU.hp, _, rfl, D, vs, rfl, SqL.of d6', fun T3 H9 n9 e9 s9 => fun x dx hx hdx nx => ?_⟩
    have sN : Same H9 (upd (upd H9 dx (.own x)) x (.ins C_System dx [])) := (gSame_new hdx).trans (gSame_new (by rw [upd_ne nx.symm]; exact hx))
    have hN : (upd (upd H9 dx (.own x)) x (.ins C_System dx [])) x = some (.ins C_System dx []) := upd_same
    generalize upd (upd H9 dx (.own x)) x (.ins C_System dx []) = H10 at sN hN ⊢
    have sUN := s9.trans sN
    have tvN := tvU.same sUN
    have s09 := s5.trans (sU.trans s9)
    have parts : Parts K H10 C_Action dA dP T3 kA kP vs ag pl as := ⟨tvN.hA, tvN.hP, .inl (.inl (sN _ _ e9)), .base (.tup (sN _ _ e9)), tvN.qA, tvN.qP, pr_mono (fun _ _ h => AcR.same sUN h) q6', tv.nAP⟩
    rcases qq with ⟨l1, fits, q⟩ | ⟨bad, q⟩
    · refine .inl ⟨x, dx, dA, dP, T3, kA, kP, vs, ag, pl, as, rfl, hN, parts, ⟨b5, b3, l1, b16, ok.oa, ok.op, ok.nda, ok.ndp, ok.ndx, ok.dis⟩, fits, fun H' ag' pl' as' bk pa pp px sv => ⟨rfl, q x H' ag' pl' as' (fun b u e => bk b u (fun z => ?_) (sN _ _ (s09 _ _ e))) (none_back s09 hx) pa pp px sv⟩⟩
      have e := s09 _ _ e
      rw [z, hx] at e
      cases e
    · exact .inr ⟨x, dx, dA, dP, T3, kA, kP, vs, ag, pl, as, rfl, hN, parts, ⟨b5, b3, ok.oa, ok.op, ok.nda, ok.ndp, ok.dis⟩, b16, ok.ndx, bad, fun H' s' => q H' (s09.trans (sN.trans s'))⟩
end
end Gk

set_option Elab.async false
set_option linter.all false
set_option maxRecDepth 100000
set_option maxHeartbeats 8000000
namespace Gk
open PySem PySem.Spec PyProof.Rows L2
def spFitBad (K : PySem.W.Frag) (C : Addr) : Sp := fun vs H Q _ => ∃ (a da dp : Addr) (c : Str) (ms : List Mv) (ka kp : List (Key × V)) (ag pl : List Own), vs = [.ref a, .ref da, .ref dp] ∧ ActV K H C a c ms ∧ H da = some (.dK ka) ∧ H dp = some (.dK kp) ∧ Paired (OwR K H) ka ag ∧ Paired (OwR K H) kp pl ∧
  (ag.map (·.1)).Nodup ∧ (pl.map (·.1)).Nodup ∧ (∀ n ∈ ag.map (·.1), n ∉ pl.map (·.1)) ∧ ag.length ≤ 5 ∧ pl.length ≤ 3 ∧ FitBad ag pl ms ∧ ∀ H', Same H H' → Q (.bl false) H'
theorem fit_lt {A B : List Str} : ∀ {ns : List Str}, (∀ n ∈ A, n ∉ B) → (∃ n ∈ ns, n ∉ A ∧ n ∉ B) → (ns.filter fun n => decide (n ∈ A)).length + (ns.filter fun n => decide (n ∈ B)).length < ns.length := by
  intro ns dj
  have le : ∀ ns : List Str, (ns.filter fun n => decide (n ∈ A)).length + (ns.filter fun n => decide (n ∈ B)).length ≤ ns.length := fun ns => by
    induction ns with
    | nil => exact Nat.le_refl _
    | cons n r ih =>
      rw [List.filter_cons, List.filter_cons, List.length_cons]
      by_cases h1 : n ∈ A
      · rw [decide_eq_true h1, decide_eq_false (dj n h1), if_pos rfl, if_neg Bool.false_ne_true, List.length_cons]
        omega
      · by_cases h2 : n ∈ B
        · rw [decide_eq_false h1, decide_eq_true h2, if_pos rfl, if_neg Bool.false_ne_true, List.length_cons]
          omega
        · rw [decide_eq_false h1, decide_eq_false h2, if_neg Bool.false_ne_true, if_neg Bool.false_ne_true]
          omega
  induction ns with
  | nil =>
    intro h
    obtain ⟨_, h, _⟩ := h
    cases h
  | cons n r ih =>
    intro h
    obtain ⟨m, hm, n1, n2⟩ := h
    rw [List.filter_cons, List.filter_cons, List.length_cons]
    rcases List.mem_cons.mp hm with e | e
    · subst e
      rw [decide_eq_false n1, decide_eq_false n2, if_neg Bool.false_ne_true, if_neg Bool.false_ne_true]
      exact Nat.lt_succ_of_le (le r)
    · have ih := ih ⟨m, e, n1, n2⟩
      by_cases h1 : n ∈ A
      · rw [decide_eq_true h1, decide_eq_false (dj n h1), if_pos rfl, if_neg Bool.false_ne_true, List.length_cons]
        omega
      · by_cases h2 : n ∈ B
        · rw [decide_eq_false h1, decide_eq_true h2, if_pos rfl, if_neg Bool.false_ne_true, List.length_cons]
          omega
        · rw [decide_eq_false h1, decide_eq_false h2, if_neg Bool.false_ne_true, if_neg Bool.false_ne_true]
          omega
theorem own_has {os : List Own} (nd : (os.map (·.1)).Nodup) {x : Str} (h : x ∈ os.map (·.1)) : ∃ o ∈ os, o.1 = x := by
  obtain ⟨o, ho, e⟩ := List.mem_map.mp h
  exact ⟨o, ho, e⟩
section
variable {P : Program} {w : World} {K : PySem.W.Frag} {mg : Str → Option Value} {base : Heap}
theorem ok_fit_bad {C_Action fI fC pC fM pM fL fE fS f : Addr} {dI dC dM dL dE dS fd : FuncData} {tl : Tok} (B : Blt mg) (TA : ActK K mg C_Action fI fC pC fM pM fL fE fS dI dC dM dL dE dS) (C_MAX_SHARED : mg "MAX_SHARED" = some (.int 3 tl))
    (G_moves : FnOk P w K mg base CX0 1 fM dM ["self"] (spGet K C_Action gMoves)) (G_len : FnOk P w K mg base CX0 1 fL dL ["self"] (spGet K C_Action gLen))
    (D : Df K mg "_does_fit" s_does_fit ["action", "agents", "pools"] f fd) : FnOk P w K mg base CX0 3 f fd ["action", "agents", "pools"] (spFitBad K C_Action) := by
  refine D.F.ok sc_does_fit (fun vs H Q E h => ?_) (fun cdv A outer s H vs Q E hr h => ?_)
  · obtain ⟨a, da, dp, c, ms, ka, kp, ag, pl, rfl, _⟩ := h
    rfl
  · obtain ⟨a, da, dp, c, ms, ka, kp, ag, pl, rfl, va, hA, hPl, qA, qP, nda, ndp, dis, la, lp, fit, q⟩ := h
    refine ⟨_, (pss_cons (ps_setLc (i := 3) (own := [("move", 6)]) (g := gName 6)  (by rfl) sc_does_fit.nd rfl rfl (sw_true rfl rfl rfl (by decide +kernel)) (pi_tup (pe_prop (pv 0) TA.AC.cl TA.P_moves G_moves (hr.mono (by decide)) TA.B_moves .nil pass0 rfl)) (blkOk_by (N := ["action", "agents", "pools", "alone", "shared", "states", "move", "owner", "source", "goal"]) (sc := defScope s_does_fit) (by decide +kernel)) (fun _ _ _ _ _ => (pg_name (i := 6) sc_does_fit.nd rfl (Or.inl rfl))) (fun _ _ _ _ _ => pts_one (pt_cmp (pc_din (hu_of hr) (pe_ix (ix_tupK K rfl) (pv 6) pe_int (fun _ _ => rfl)) (pv 1)))) (fun _ _ _ _ _ => (pe_ix (ix_tupK K rfl) (pv 6) pe_int (fun _ _ => rfl))))
    (pss_cons (ps_setLc (i := 4) (own := [("move", 6)]) (g := gName 6)  (by rfl) sc_does_fit.nd rfl rfl (sw_true rfl rfl rfl (by decide +kernel)) (pi_tup (pe_prop (pv 0) TA.AC.cl TA.P_moves G_moves (hr.mono (by decide)) TA.B_moves .nil pass0 rfl)) (blkOk_by (N := ["action", "agents", "pools", "alone", "shared", "states", "move", "owner", "source", "goal"]) (sc := defScope s_does_fit) (by decide +kernel)) (fun _ _ _ _ _ => (pg_name (i := 6) sc_does_fit.nd rfl (Or.inl rfl))) (fun _ _ _ _ _ => pts_one (pt_cmp (pc_din (hu_of hr) (pe_ix (ix_tupK K rfl) (pv 6) pe_int (fun _ _ => rfl)) (pv 2)))) (fun _ _ _ _ _ => (pe_ix (ix_tupK K rfl) (pv 6) pe_int (fun _ _ => rfl))))
    (pss_cons (ps_if (PW.pt (pw_or (pt_cmpR op_lt (pe_op op_add (pe_callB call_len_seq (by rfl) B.len_ (by decide +kernel) (pa_cons (pv 3) pa_nil)) (pe_callB call_len_seq (by rfl) B.len_ (by decide +kernel) (pa_cons (pv 4) pa_nil))) (pe_callB (cr_lenO TA.OL G_len TA.BL pass0 (hr.mono (by decide))) (by rfl) B.len_ (by decide +kernel) (pa_cons (pv 0) pa_nil)) (nomark _)) (pw_or (pt_cmpR op_lt (pe_lenSetA (by rfl) (by rfl) B.len_ (by rfl) B.set_ (pv 3)) (pe_callB call_len_seq (by rfl) B.len_ (by decide +kernel) (pa_cons (pv 3) pa_nil)) (nomark _)) (pw_or1 (pt_cmpR op_gt (pe_callB call_len_seq (by rfl) B.len_ (by decide +kernel) (pa_cons (pv 4) pa_nil)) (pe_glob (v := .int 3) rfl C_MAX_SHARED ⟨_, rfl⟩) (nomark _))))))
    (pss_one (ps_ret pe_bl)) pss_nil)
    (pss_cons (ps_set (i := 5) sc_does_fit.nd rfl (Or.inr rfl) (pe_dmerge2 (pv 1) (pv 2)))
    (pss_one (ps_ret (pe_callB (cr_all rfl) (by rfl) B.all_ (by decide +kernel) (pa_cons (pe_lc (own := [("owner", 7), ("source", 8), ("goal", 9)]) (g := gTup K 3 (gCons (gName 7) (gCons (gName 8) (gCons (gName 9) gNil)))) (tt := tYes) (by rfl) sc_does_fit.nd (pi_tup (pe_prop (pv 0) TA.AC.cl TA.P_moves G_moves (hr.mono (by decide)) TA.B_moves .nil pass0 rfl)) (blkOk_by (N := ["action", "agents", "pools", "alone", "shared", "states", "move", "owner", "source", "goal"]) (sc := defScope s_does_fit) (by decide +kernel)) (fun _ _ _ _ _ => (pg_tup (by rfl) (pgs_cons (pg_name (i := 7) sc_does_fit.nd rfl (Or.inl rfl)) (pgs_cons (pg_name (i := 8) sc_does_fit.nd rfl (Or.inl rfl)) (pgs_cons (pg_name (i := 9) sc_does_fit.nd rfl (Or.inl rfl)) pgs_nil))))) (fun _ _ _ _ _ => pts_nil) (fun _ _ _ _ _ => (pe_and (pe_cmpR (op_in_seqK K rfl) (pv 8) (pe_dget (hu_of hr) (pv 5) (pv 7) (fun _ _ => rfl)) (by rfl)) (pe_one (pe_cmpR (op_in_seqK K rfl) (pv 9) (pe_dget (hu_of hr) (pv 5) (pv 7) (fun _ _ => rfl)) (by rfl)))))) pa_nil)))))))), ?_⟩
    have hml : ms.length ≤ 4 := by
      obtain ⟨_, _, _, _, _, _, _, h5, _⟩ := va
      exact h5
    -- alone
    refine ⟨_, rfl, va.prop fun pA ysA hA1 hA2 hA3 => ⟨pA, rfl, ⟨ysA, hA1⟩, fun DA hDA => ?_⟩⟩
    have hlyA := hA3.length
    refine lc_tup (K := K) (a := pA) (xs := ysA) (fun j H5 => Same H H5 ∧ H5 DA = some (.lst ((((ms.take j).map (·.1)).filter fun n => decide (n ∈ ag.map (·.1))).map V.str))) ⟨gSame_new hDA, upd_same⟩ (fun j H5 _ h5 => gSeqT h5.1 hA1) (fun j x H5 hx h5 => ?_) (fun H1 h5 => ?_)
    · obtain ⟨s5, d5⟩ := h5
      obtain ⟨m, hm, b, rfl, m1, m2⟩ := paired_get hA3 hx
      have ml := mvF_len (n := ms.length) (ms := ms) (j := j) (ag := ag)
      have ez : ∀ c : Bool, c = decide (m.1 ∈ ag.map (·.1)) → (((ms.take (j + 1)).map (·.1)).filter fun n => decide (n ∈ ag.map (·.1))) = (((ms.take j).map (·.1)).filter fun n => decide (n ∈ ag.map (·.1))) ++ (if c = true then [m.1] else []) := fun c hc => by
        rw [List.take_add_one, hm, List.map_append, List.filter_append]
        show _ ++ List.filter _ [m.1] = _
        rw [List.filter_cons, ← hc, List.filter_nil]
      refine ⟨rfl, _, rfl, b, _, 0, .str m.1, rfl, rfl, gSeqT s5 m1, rfl, _, rfl, da, _, rfl, DGet.k (k := Sum.inr m.1) (s5 _ _ hA), _, rfl, ?_⟩
      rw [valV_in qA]
      refine ite2 (fun hc => ?_) (fun hc => ?_)
      · refine ⟨_, rfl, b, _, 0, .str m.1, rfl, rfl, gSeqT s5 m1, rfl, _, d5, ?_, gSame_mut s5 hDA, ?_⟩
        · rw [List.length_map]
          exact small1000 (by omega)
        · rw [upd_same, ez true hc.symm, if_pos rfl, List.map_append]
          rfl
      · rw [Bool.not_eq_true] at hc
        refine ⟨s5, ?_⟩
        rw [ez false hc.symm, if_neg Bool.false_ne_true, List.append_nil]
        exact d5
    obtain ⟨s1, e1⟩ := h5
    rw [hlyA, List.take_length] at e1
    have v1 := va.same s1
    have hP1 := s1 _ _ hPl
    -- shared
    refine ⟨_, rfl, v1.prop fun pB ysB hB1 hB2 hB3 => ⟨pB, rfl, ⟨ysB, hB1⟩, fun DB hDB => ?_⟩⟩
    have hlyB := hB3.length
    refine lc_tup (K := K) (a := pB) (xs := ysB) (fun j H5 => Same H1 H5 ∧ H5 DB = some (.lst ((((ms.take j).map (·.1)).filter fun n => decide (n ∈ pl.map (·.1))).map V.str))) ⟨gSame_new hDB, upd_same⟩ (fun j H5 _ h5 => gSeqT h5.1 hB1) (fun j x H5 hx h5 => ?_) (fun H2 h5 => ?_)
    · obtain ⟨s5, d5⟩ := h5
      obtain ⟨m, hm, b, rfl, m1, m2⟩ := paired_get hB3 hx
      have ml := mvF_len (n := ms.length) (ms := ms) (j := j) (ag := pl)
      have ez : ∀ c : Bool, c = decide (m.1 ∈ pl.map (·.1)) → (((ms.take (j + 1)).map (·.1)).filter fun n => decide (n ∈ pl.map (·.1))) = (((ms.take j).map (·.1)).filter fun n => decide (n ∈ pl.map (·.1))) ++ (if c = true then [m.1] else []) := fun c hc => by
        rw [List.take_add_one, hm, List.map_append, List.filter_append]
        show _ ++ List.filter _ [m.1] = _
        rw [List.filter_cons, ← hc, List.filter_nil]
      refine ⟨rfl, _, rfl, b, _, 0, .str m.1, rfl, rfl, gSeqT s5 m1, rfl, _, rfl, dp, _, rfl, DGet.k (k := Sum.inr m.1) (s5 _ _ hP1), _, rfl, ?_⟩
      rw [valV_in qP]
      refine ite2 (fun hc => ?_) (fun hc => ?_)
      · refine ⟨_, rfl, b, _, 0, .str m.1, rfl, rfl, gSeqT s5 m1, rfl, _, d5, ?_, gSame_mut s5 hDB, ?_⟩
        · rw [List.length_map]
          exact small1000 (by omega)
        · rw [upd_same, ez true hc.symm, if_pos rfl, List.map_append]
          rfl
      · rw [Bool.not_eq_true] at hc
        refine ⟨s5, ?_⟩
        rw [ez false hc.symm, if_neg Bool.false_ne_true, List.append_nil]
        exact d5
    obtain ⟨s2, e2⟩ := h5
    rw [hlyB, List.take_length] at e2
    have e1 := s2 _ _ e1
    have v2 := v1.same s2
    have hA2 := s2 _ _ (s1 _ _ hA)
    have hP2 := s2 _ _ hP1
    rcases fit with ⟨m0, hm0, u1, u2⟩ | ⟨kn, fn, fs, bad⟩
    · have fl := fit_lt (A := ag.map (·.1)) (B := pl.map (·.1)) (ns := ms.map (·.1)) dis ⟨m0.1, List.mem_map.mpr ⟨m0, hm0, rfl⟩, u1, u2⟩
      rw [List.length_map] at fl
      generalize ((ms.map (·.1)).filter fun n => decide (n ∈ ag.map (·.1))) = al at e1 fl
      generalize ((ms.map (·.1)).filter fun n => decide (n ∈ pl.map (·.1))) = sh at e2 fl
      refine ⟨_, rfl, DA, _, rfl, .inl (SqL.of e1), _, rfl, DB, _, rfl, .inl (SqL.of e2), _, _, rfl, rfl, _, rfl, a, rfl, v2.ins, v2.sp fun _ _ _ _ _ => ⟨_, rfl, by omega, by omega, _, _, rfl, rfl, _, rfl, ite2 (fun h1 => ?_) (fun h1 => ?_)⟩⟩
      · exact q _ (s1.trans s2)
      · exact absurd (decide_eq_true (by rw [List.length_map, List.length_map]; omega)) h1
    have fl := fit_len (A := ag.map (·.1)) (B := pl.map (·.1)) (ns := ms.map (·.1)) fun n hn => by
      obtain ⟨m, hm, rfl⟩ := List.mem_map.mp hn
      obtain ⟨o, ho, e⟩ := kn m hm
      rcases List.mem_append.mp ho with ho | ho
      · have h1 : m.1 ∈ ag.map (·.1) := List.mem_map.mpr ⟨o, ho, e⟩
        exact .inl ⟨h1, dis _ h1⟩
      · have h1 : m.1 ∈ pl.map (·.1) := List.mem_map.mpr ⟨o, ho, e⟩
        exact .inr ⟨fun h2 => dis _ h2 h1, h1⟩
    rw [List.length_map] at fl
    generalize ((ms.map (·.1)).filter fun n => decide (n ∈ ag.map (·.1))) = al at e1 fl fn
    generalize ((ms.map (·.1)).filter fun n => decide (n ∈ pl.map (·.1))) = sh at e2 fl fs
    refine ⟨_, rfl, DA, _, rfl, .inl (SqL.of e1), _, rfl, DB, _, rfl, .inl (SqL.of e2), _, _, rfl, rfl, _, rfl, a, rfl, v2.ins, v2.sp fun _ _ _ _ _ => ⟨_, rfl, by omega, by omega, _, _, rfl, rfl, _, rfl, ite2 (fun h1 => ?_) (fun h1 => ?_)⟩⟩
    · have h1' := of_decide_eq_true h1
      rw [List.length_map, List.length_map] at h1'
      omega
    have ed : Gs.dst al al.length = al.length := (Gs.dst_nd al.length (Nat.le_refl _)).mpr (by rw [List.take_length]; exact fn)
    refine ⟨_, rfl, DA, al, rfl, .inl (SqL.of e1), by omega, _, rfl, DA, _, rfl, .inl (SqL.of e1), _, _, rfl, rfl, _, rfl, ite2 (fun h2 => ?_) (fun h2 => ?_)⟩
    · have h2' := of_decide_eq_true h2
      rw [List.length_map, ed] at h2'
      omega
    refine ⟨_, rfl, DB, _, rfl, .inl (SqL.of e2), _, _, rfl, rfl, _, rfl, ite2 (fun h3 => ?_) (fun h3 => ?_)⟩
    · have h3' := of_decide_eq_true h3
      rw [List.length_map] at h3'
      omega
    refine fun pM hM => ⟨_, rfl, da, ka, rfl, upd_same, .inl ((gSame_new hM) _ _ hA2), ne_of_none hA2 hM, _, rfl, dp, kp, rfl, upd_same, .inl ?_, ne_of_none hP2 hM, ?_, ?_⟩
    · rw [upd_ne (ne_of_none hP2 hM), upd_ne (ne_of_none hP2 hM)]
      exact hP2
    · have := qA.length
      have := qP.length
      rw [sizeLine_eq]
      omega
    have hnd : ((ka ++ kp).map (·.1)).Nodup := own_nodup qA qP nda ndp dis
    rw [mergeK_nil hnd, upd_upd, upd_upd]
    have s3 : Same H2 (upd H2 pM (.dK (ka ++ kp))) := gSame_new hM
    have eM : (upd H2 pM (.dK (ka ++ kp))) pM = some (.dK (ka ++ kp)) := upd_same
    generalize upd H2 pM (.dK (ka ++ kp)) = H3 at s3 eM
    have v3 := v2.same s3
    have qM : Paired (OwR K H) (ka ++ kp) (ag ++ pl) := paired_app qA qP
    have ndM : ((ag ++ pl).map (·.1)).Nodup := by
      rw [List.map_append, List.nodup_append]
      exact ⟨nda, ndp, fun a ha b hb e => dis a ha (e ▸ hb)⟩
    refine ⟨_, rfl, v3.prop fun pC ysC hC1 hC2 hC3 => ⟨pC, rfl, ⟨ysC, hC1⟩, fun DC hDC => ?_⟩⟩
    have hlyC := hC3.length
    let bf : Mv → Bool := fun m => (ag ++ pl).any fun o => decide (o.1 = m.1) && (decide (m.2.1 ∈ o.2) && decide (m.2.2 ∈ o.2))
    refine lc_tup (K := K) (a := pC) (xs := ysC) (fun j H5 => Same H3 H5 ∧ H5 DC = some (.lst (((ms.take j).map bf).map V.bl))) ⟨gSame_new hDC, upd_same⟩ (fun j H5 _ h5 => gSeqT h5.1 hC1) (fun j x H5 hx h5 => ?_) (fun H5 h5 => ?_)
    · obtain ⟨s5, d5⟩ := h5
      obtain ⟨m, hm, b, rfl, m1, m2⟩ := paired_get hC3 hx
      have hj : j < ms.length := (List.getElem?_eq_some_iff.mp hm).1
      obtain ⟨o, ho, e0⟩ := kn m (List.mem_of_getElem? hm)
      obtain ⟨v, hv, r1⟩ := valV_at qM ndM ho
      have r5 := r1.same (((s1.trans s2).trans s3).trans s5)
      obtain ⟨pv, rfl, t1, t2⟩ := r5
      have eb : bf m = (decide (m.2.1 ∈ o.2) && decide (m.2.2 ∈ o.2)) := by
        show ((ag ++ pl).any fun o => decide (o.1 = m.1) && (decide (m.2.1 ∈ o.2) && decide (m.2.2 ∈ o.2))) = _
        rw [Bool.eq_iff_iff, List.any_eq_true]
        refine ⟨fun ⟨o', ho', h⟩ => ?_, fun h => ⟨o, ho, by rw [decide_eq_true e0, Bool.true_and]; exact h⟩⟩
        rw [Bool.and_eq_true] at h
        have e1 := of_decide_eq_true h.1
        rw [own_one ndM ho ho' (e0.trans e1.symm)]
        exact h.2
      rw [e0] at hv
      have dg : DGet H5 pM (.str m.1) (some (.ref pv)) := by
        rw [← hv]
        exact DGet.k (k := Sum.inr m.1) (s5 _ _ eM)
      refine ⟨b, _, rfl, gSeqT s5 m1, rfl, _, _, rfl, _, _, rfl, _, _, rfl, rfl, rfl, ?_⟩
      have fl : (o.2.map V.str).all flatV = true := by
        rw [List.all_map]
        exact List.all_eq_true.mpr fun s _ => rfl
      have fin : ∀ c : Bool, c = bf m → ∃ xs, H5 DC = some (.lst xs) ∧ xs.length < sizeLine ∧ (fun H6 => Same H3 H6 ∧ H6 DC = some (.lst (((ms.take (j + 1)).map bf).map V.bl))) (upd H5 DC (.lst (xs ++ [.bl c]))) := fun c hc => by
        refine ⟨_, d5, ?_, gSame_mut s5 hDC, ?_⟩
        · rw [List.length_map, List.length_map, List.length_take]
          exact small1000 (by omega)
        · rw [upd_same, List.take_add_one, hm, List.map_append, List.map_append, hc]
          rfl
      refine ⟨_, rfl, _, rfl, _, rfl, pM, _, rfl, dg, pv, _, rfl, .inr t1, rfl, fl, ?_⟩
      rw [if_neg Bool.false_ne_true, inV_strs]
      cases c1 : decide (m.2.1 ∈ o.2) with
      | false =>
        rw [c1, Bool.false_and] at eb
        exact ⟨_, rfl, fin false eb.symm⟩
      | true =>
        rw [c1, Bool.true_and] at eb
        refine ⟨_, rfl, ?_⟩
        refine ⟨_, rfl, _, rfl, _, rfl, pM, _, rfl, dg, pv, _, rfl, .inr t1, rfl, fl, ?_⟩
        rw [if_neg Bool.false_ne_true, inV_strs]
        exact fin _ eb.symm
    · obtain ⟨s5, d5⟩ := h5
      rw [hlyC, List.take_length] at d5
      refine ⟨DC, ms.map bf, rfl, SqL.of d5, ?_⟩
      have e : (ms.map bf).all id = false := by
        rw [List.all_map]
        obtain ⟨m, hm, hb⟩ := bad
        refine Bool.eq_false_iff.mpr fun h => ?_
        have h1 := List.all_eq_true.mp h m hm
        have h1 : (ag ++ pl).any (fun o => decide (o.1 = m.1) && (decide (m.2.1 ∈ o.2) && decide (m.2.2 ∈ o.2))) = true := h1
        obtain ⟨o, ho, h2⟩ := List.any_eq_true.mp h1
        rw [Bool.and_eq_true, Bool.and_eq_true] at h2
        exact hb o ho (of_decide_eq_true h2.1) ⟨of_decide_eq_true h2.2.1, of_decide_eq_true h2.2.2⟩
      rw [e]
      exact q _ (((s1.trans s2).trans s3).trans s5)
end
end Gk

set_option Elab.async false
set_option linter.all false
set_option maxRecDepth 100000
set_option maxHeartbeats 8000000
namespace Gk
open PySem PySem.Spec PyProof.Rows L2
theorem FnOk.or {P : Program} {w : World} {K : PySem.W.Frag} {mg : Str → Option Value} {base : Heap} {CX : CXT} {k : Nat} {f : Addr} {fd : FuncData} {ps : List Str} {s1 s2 : Sp} (a : FnOk P w K mg base CX k f fd ps s1) (b : FnOk P w K mg base CX k f fd ps s2) : FnOk P w K mg base CX k f fd ps (fun vs H Q E => s1 vs H Q E ∨ s2 vs H Q E) :=
  ⟨fun vs H Q E h => h.elim (a.len vs H Q E) (b.len vs H Q E), fun A outer s H args us vs Q E hr e0 hb r h => h.elim (a.run A outer s H args us vs Q E hr e0 hb r) (b.run A outer s H args us vs Q E hr e0 hb r)⟩
theorem fit_notbad {ag pl : List Own} {ms : List Mv} (b : FitBad ag pl ms) (f : Fit ag pl ms) : False := by
  rcases b with ⟨m, hm, u1, u2⟩ | ⟨_, _, _, m, hm, h⟩
  · obtain ⟨o, ho, e, _⟩ := f.own m hm
    rcases List.mem_append.mp ho with h | h
    · exact u1 (List.mem_map.mpr ⟨o, h, e⟩)
    · exact u2 (List.mem_map.mpr ⟨o, h, e⟩)
  · obtain ⟨o, ho, e, h2⟩ := f.own m hm
    exact h o ho e h2
def spActs0 (K : PySem.W.Frag) : Sp := fun vs H Q _ => ∃ p : Addr, vs = [.ref p] ∧ SqT K H p [] ∧ TyX K H (.ref p) (.type "tuple") ∧ ∀ H', Same H H' → Q (.bl false) H'
def spActsU (K : PySem.W.Frag) (C : Addr) : Sp := fun vs H Q E => spActions K C vs H Q E ∨ spActs0 K vs H Q E
def spFitU (K : PySem.W.Frag) (C : Addr) : Sp := fun vs H Q E => spFit K C vs H Q E ∨ spFitBad K C vs H Q E
def spSystemBad (K : PySem.W.Frag) (C : Addr) : Sp := fun vs H Q _ => ∃ (da dp pa : Addr) (ka kp : List (Key × V)) (xs : List V) (ag pl : List Own) (as : List Act), vs = [.ref da, .ref dp, .ref pa] ∧ Parts K H C da dp pa ka kp xs ag pl as ∧ OwD ag pl ∧ as.length ≤ 16 ∧ (as.map (·.1)).Nodup ∧ SysBad ag pl as ∧ ∀ H', Same H H' → Q (.bl false) H'
section
variable {P : Program} {w : World} {K : PySem.W.Frag} {mg : Str → Option Value} {base : Heap}
theorem ok_are_actions0 {C_Action fI fC pC fM pM fL fE fS f : Addr} {dI dC dM dL dE dS fd : FuncData} {tl : Tok} (B : Blt mg) (TA : ActK K mg C_Action fI fC pC fM pM fL fE fS dI dC dM dL dE dS) (C_MAX_ACTIONS : mg "MAX_ACTIONS" = some (.int 16 tl))
    (G_called : FnOk P w K mg base CX0 1 fC dC ["self"] (spGet K C_Action gCalled))
    (D : Df K mg "_are_actions" s_are_actions ["value"] f fd) : FnOk P w K mg base CX0 3 f fd ["value"] (spActs0 K) := by
  have g_Action := TA.g
  refine D.F.ok sc_are_actions (fun vs H Q E h => ?_) (fun cdv A outer s H vs Q E hr h => ?_)
  · obtain ⟨p, rfl, _⟩ := h
    rfl
  · obtain ⟨p, rfl, hS, hT, q⟩ := h
    refine ⟨_, (pss_cons (ps_if (PW.pt (pw_or (pt_not (pt_val (pe_callB call_isi (by rfl) B.isinstance_ (by decide +kernel) (pa_cons (pv 0) (pa_cons (pe_bltn (v := .ty "tuple") rfl B.tuple_ (by decide +kernel) rfl) pa_nil))) (by intro _; rfl))) (pw_or1 (pt_not (pt_chain op_le op_le pe_int (pe_callB call_len_seq (by rfl) B.len_ (by decide +kernel) (pa_cons (pv 0) pa_nil)) (pe_glob (v := .int 16) rfl C_MAX_ACTIONS ⟨_, rfl⟩))))))
    (pss_one (ps_ret pe_bl)) pss_nil)
    (pss_cons (ps_if (pt_not (pt_val (pe_callB (cr_all rfl) (by rfl) B.all_ (by decide +kernel) (pa_cons (pe_lc (own := [("action", 1)]) (g := gName 1) (tt := tYes) (by rfl) sc_are_actions.nd (pi_tup (pv 0)) (blkOk_by (N := ["value", "action"]) (sc := defScope s_are_actions) (by decide +kernel)) (fun _ _ _ _ _ => (pg_name (i := 1) sc_are_actions.nd rfl (Or.inl rfl))) (fun _ _ _ _ _ => pts_nil) (fun _ _ _ _ _ => (pe_callB (call_isiK' K rfl) (by rfl) B.isinstance_ (by decide +kernel) (pa_cons (pv 1) (pa_cons (pe_glob (v := .ref C_Action) rfl g_Action rfl) pa_nil))))) pa_nil)) (by intro _; rfl)))
    (pss_one (ps_ret pe_bl)) pss_nil)
    (pss_one (ps_ret (pe_cmpR op_eq (pe_callB (cr_lenSS rfl) (by rfl) B.len_ (by decide +kernel) (pa_cons (pe_setc (own := [("action", 1)]) (g := gName 1) (tt := tYes) iniS_ok addS_ok (by rfl) sc_are_actions.nd (pi_tup (pv 0)) (blkOk_by (N := ["value", "action"]) (sc := defScope s_are_actions) (by decide +kernel)) (fun _ _ _ _ _ => (pg_name (i := 1) sc_are_actions.nd rfl (Or.inl rfl))) (fun _ _ _ _ _ => pts_nil) (fun _ _ _ _ _ => (pe_prop (pv 1) TA.AC.cl TA.P_called G_called (hr.mono (by decide)) TA.B_called .nil pass0 rfl))) pa_nil)) (pe_callB call_len_seq (by rfl) B.len_ (by decide +kernel) (pa_cons (pv 0) pa_nil)) (nomark _)))))), ?_⟩
    refine ⟨_, rfl, .ref p, .ty "tuple", _, _, true, rfl, .ty "tuple", hT, kit_ty (by decide +kernel), _, rfl, ?_⟩
    refine ⟨_, rfl, p, [], rfl, .inr hS, _, _, rfl, rfl, _, rfl, ite2 (fun h => absurd (of_decide_eq_true h) (by decide)) (fun _ => ?_)⟩
    first
    | exact q H (fun _ _ h => h)
    | exact ⟨_, rfl, q H (fun _ _ h => h)⟩
theorem ok_is_system_bad {C_Action f f1 f2 f3 : Addr} {fd d1 d2 d3 : FuncData} {t1 t2 : Tok} (B : Blt mg) (m_any : mg "any" = none) (C_MAX_AGENTS : mg "MAX_AGENTS" = some (.int 5 t1)) (C_MAX_POOLS : mg "MAX_POOLS" = some (.int 3 t2))
    (D_are_owners : Df K mg "_are_owners" s_are_owners ["value", "limit"] f1 d1) (G_are_owners : FnOk P w K mg base CX0 4 f1 d1 ["value", "limit"] (spOwners K))
    (D_are_actions : Df K mg "_are_actions" s_are_actions ["value"] f2 d2) (G_are_actions : FnOk P w K mg base CX0 3 f2 d2 ["value"] (spActsU K C_Action))
    (D_does_fit : Df K mg "_does_fit" s_does_fit ["action", "agents", "pools"] f3 d3) (G_does_fit : FnOk P w K mg base CX0 3 f3 d3 ["action", "agents", "pools"] (spFitU K C_Action))
    (D : Df K mg "_is_system" s_is_system ["agents", "pools", "actions"] f fd) : FnOk P w K mg base CX0 5 f fd ["agents", "pools", "actions"] (spSystemBad K C_Action) := by
  refine D.F.ok sc_is_system (fun vs H Q E h => ?_) (fun cdv A outer s H vs Q E hr h => ?_)
  · obtain ⟨da, dp, pa, ka, kp, xs, ag, pl, as, rfl, _⟩ := h
    rfl
  · obtain ⟨da, dp, pa, ka, kp, xs, ag, pl, as, rfl, pt, ok, o3, ndx, bad, q⟩ := h
    refine ⟨_, (pss_cons (ps_if (PW.pt (pw_or (pt_not (pt_val (pe_call G_are_owners (hr.mono (by decide)) (by rfl) D_are_owners.g D_are_owners.F.kp D_are_owners.b .nil pass0 (pa_cons (pv 0) (pa_cons (pe_glob (v := .int 5) rfl C_MAX_AGENTS ⟨_, rfl⟩) pa_nil))) (by intro _; rfl))) (pw_or (pt_not (pt_val (pe_call G_are_owners (hr.mono (by decide)) (by rfl) D_are_owners.g D_are_owners.F.kp D_are_owners.b .nil pass0 (pa_cons (pv 1) (pa_cons (pe_glob (v := .int 3) rfl C_MAX_POOLS ⟨_, rfl⟩) pa_nil))) (by intro _; rfl))) (pw_or1 (pt_not (pt_val (pe_call G_are_actions (hr.mono (by decide)) (by rfl) D_are_actions.g D_are_actions.F.kp D_are_actions.b .nil pass0 (pa_cons (pv 2) pa_nil)) (by intro _; rfl)))))))
    (pss_one (ps_ret pe_bl)) pss_nil)
    (pss_cons (ps_if (pt_val (pe_callB (cr_any rfl) (by rfl) m_any (by decide +kernel) (pa_cons (pe_lock (pe_lc (own := [("name", 3)]) (g := gName 3) (tt := tYes) (by rfl) sc_is_system.nd (pi_keys (pv 0)) (blkOk_by (N := ["agents", "pools", "actions", "name", "action"]) (sc := defScope s_is_system) (by decide +kernel)) (fun _ _ _ _ _ => (pg_name (i := 3) sc_is_system.nd rfl (Or.inl rfl))) (fun _ _ _ _ _ => pts_nil) (fun _ _ _ _ _ => (pe_cmp (pc_din (hu_of hr) (pv 3) (pv 1)))))) pa_nil)) (by intro _; rfl))
    (pss_one (ps_ret pe_bl)) pss_nil)
    (pss_one (ps_ret (pe_callB (cr_all rfl) (by rfl) B.all_ (by decide +kernel) (pa_cons (pe_lc (own := [("action", 4)]) (g := gName 4) (tt := tYes) (by rfl) sc_is_system.nd (pi_tup (pv 2)) (blkOk_by (N := ["agents", "pools", "actions", "name", "action"]) (sc := defScope s_is_system) (by decide +kernel)) (fun _ _ _ _ _ => (pg_name (i := 4) sc_is_system.nd rfl (Or.inl rfl))) (fun _ _ _ _ _ => pts_nil) (fun _ _ _ _ _ => (pe_call G_does_fit (hr.mono (by decide)) (by rfl) D_does_fit.g D_does_fit.F.kp D_does_fit.b .nil pass0 (pa_cons (pv 4) (pa_cons (pv 0) (pa_cons (pv 1) pa_nil)))))) pa_nil)))))), ?_⟩
    have la := pt.pa.length
    have lp := pt.pp.length
    have lx := pt.ps.length
    have o1 := ok.la
    have o2 := ok.lp
    refine ⟨_, rfl, da, 5, ka, ag, rfl, pt.ha, pt.pa, by omega, by omega, ok.oa, fun H1 s1 => ⟨_, rfl, ?_⟩⟩
    refine ⟨_, rfl, dp, 3, kp, pl, rfl, s1 _ _ pt.hp, pr_mono (fun _ _ h => OwR.same s1 h) pt.pp, by omega, by omega, ok.op, fun H2 s2 => ⟨_, rfl, ?_⟩⟩
    have s12 := s1.trans s2
    rcases bad with rfl | ⟨hb, hall⟩
    · have hx0 : xs = [] := List.length_eq_zero_iff.mp (by rw [lx]; rfl)
      subst hx0
      refine ⟨_, rfl, .inr ⟨pa, rfl, gSeqT s12 pt.hs, pt.ht.same s12, fun H3 s3 => ⟨_, rfl, ?_⟩⟩⟩
      exact q _ (s12.trans s3)
    have l1 : 1 ≤ as.length := by
      obtain ⟨x, hx, _⟩ := hb
      exact List.length_pos_of_mem hx
    refine ⟨_, rfl, .inl ⟨pa, xs, as, rfl, gSeqT s12 pt.hs, pt.ht.same s12, paired_mono (fun _ _ h => AcR.same s12 h) pt.ps, l1, o3, ndx, fun H3 s3 => ⟨_, rfl, ?_⟩⟩⟩
    have s13 := s12.trans s3
    have hA3 := s13 _ _ pt.ha
    have hP3 := s13 _ _ pt.hp
    refine ⟨da, _, hA3, trivial, fun od => ⟨_, rfl, da, od, rfl, .inl ⟨ka, upd_same, fun D hDn => ?_⟩⟩⟩
    have hLd : (upd H3 da (.frz od (.dK ka))) da = some (.frz od (.dK ka)) := upd_same
    have hLp : (upd H3 da (.frz od (.dK ka))) dp = some (.dK kp) := by
      rw [upd_ne pt.ne.symm]
      exact hP3
    have hun : ∀ H', Same (upd H3 da (.frz od (.dK ka))) H' → Same H3 (upd H' da (.dK ka)) := fun H' s' => same_unlock hA3 s'
    generalize upd H3 da (.frz od (.dK ka)) = HL at hLd hLp hun hDn
    refine lc_it (n := ka.length) walk_keys (fun i H5 => Same HL H5 ∧ H5 D = some (.lst ((List.replicate i false).map V.bl))) ⟨gSame_new hDn, upd_same⟩ (fun i H5 _ h5 => h5.1 _ _ hLd) (fun i x H5 H' hi h5 hy => ?_) (fun H5 h5 => ?_)
    · obtain ⟨s5, d5⟩ := h5
      obtain ⟨rfl, k, v, hkv, rfl⟩ := hy
      obtain ⟨o, ho, r1, r2⟩ := paired_get pt.pa hkv
      have r1 : k = Sum.inr o.1 := r1
      subst r1
      have en : (valV kp (Sum.inr o.1)).isSome = false := by
        rw [valV_in pt.pp]
        exact decide_eq_false (ok.dis _ (List.mem_map.mpr ⟨o, List.mem_of_getElem? ho, rfl⟩))
      refine ⟨rfl, _, rfl, _, rfl, dp, _, rfl, DGet.k (k := Sum.inr o.1) (s5 _ _ hLp), ?_⟩
      rw [en]
      refine ⟨_, d5, ?_, gSame_mut s5 hDn, ?_⟩
      · rw [List.length_map, List.length_replicate]
        exact small1000 (by omega)
      · rw [upd_same, List.replicate_succ', List.map_append]
        rfl
    · obtain ⟨s5, d5⟩ := h5
      have s4 := hun _ s5
      have d4 : (upd H5 da (.dK ka)) D = some (.lst ((List.replicate ka.length false).map V.bl)) := by
        rw [upd_ne fun z => by rw [z, hLd] at hDn; cases hDn]
        exact d5
      refine ⟨s5 _ _ hLd, D, List.replicate ka.length false, rfl, SqL.of d4, ?_⟩
      generalize upd H5 da (.dK ka) = H4 at s4 d4
      have e : (List.replicate ka.length false).any id = false := List.any_eq_false.mpr fun b hb => by
        rw [List.eq_of_mem_replicate hb]
        exact Bool.false_ne_true
      rw [e]
      refine ⟨_, rfl, ?_⟩
      have s14 := s13.trans s4
      have hs4 := gSeqT s14 pt.hs
      refine ⟨_, rfl, pa, rfl, ⟨xs, hs4⟩, fun D2 hD2 => ?_⟩
      obtain ⟨bs, hbs⟩ : ∃ bs : List Bool, Paired (fun (x : Act) b => (b = true ∧ Fit ag pl x.2) ∨ (b = false ∧ FitBad ag pl x.2)) as bs := by
        clear hb pt lx l1 o3 ndx
        induction as with
        | nil => exact ⟨[], .nil⟩
        | cons x r ih =>
          obtain ⟨bs, h⟩ := ih fun y hy => hall y (List.mem_cons_of_mem _ hy)
          rcases hall x (List.mem_cons_self ..) with h1 | h1
          · exact ⟨true :: bs, .cons (.inl ⟨rfl, h1⟩) h⟩
          · exact ⟨false :: bs, .cons (.inr ⟨rfl, h1⟩) h⟩
      have lbs := hbs.length
      refine lc_tup (K := K) (a := pa) (xs := xs) (fun j H6 => Same H4 H6 ∧ H6 D2 = some (.lst ((bs.take j).map V.bl))) ⟨gSame_new hD2, upd_same⟩ (fun j H6 _ h6 => gSeqT h6.1 hs4) (fun j x H6 hx h6 => ?_) (fun H6 h6 => ?_)
      · obtain ⟨s6, d6⟩ := h6
        obtain ⟨ac, hac, a, rfl, va⟩ := paired_get pt.ps hx
        obtain ⟨b, hb', hc⟩ := paired_get hbs hac
        have s16 := s14.trans s6
        have hj : j < xs.length := (List.getElem?_eq_some_iff.mp hx).1
        have fin : ∀ H7, Same H6 H7 → ∃ ys, H7 D2 = some (.lst ys) ∧ ys.length < sizeLine ∧ (fun H8 => Same H4 H8 ∧ H8 D2 = some (.lst ((bs.take (j + 1)).map V.bl))) (upd H7 D2 (.lst (ys ++ [.bl b]))) := fun H7 s7 => by
          refine ⟨_, s7 _ _ d6, ?_, gSame_mut (s6.trans s7) hD2, ?_⟩
          · rw [List.length_map, List.length_take]
            exact small1000 (by omega)
          · rw [upd_same, List.take_add_one, hb', List.map_append]
            rfl
        refine ⟨rfl, _, rfl, _, rfl, _, rfl, ?_⟩
        rcases hc with ⟨rfl, ft⟩ | ⟨rfl, ft⟩
        · exact .inl ⟨a, da, dp, ac.1, ac.2, ka, kp, ag, pl, rfl, va.same s16, s16 _ _ pt.ha, s16 _ _ pt.hp, pr_mono (fun _ _ h => OwR.same s16 h) pt.pa, pr_mono (fun _ _ h => OwR.same s16 h) pt.pp, ok.nda, ok.ndp, ok.dis, ok.la, ok.lp, ft, fun H7 s7 => fin H7 s7⟩
        · exact .inr ⟨a, da, dp, ac.1, ac.2, ka, kp, ag, pl, rfl, va.same s16, s16 _ _ pt.ha, s16 _ _ pt.hp, pr_mono (fun _ _ h => OwR.same s16 h) pt.pa, pr_mono (fun _ _ h => OwR.same s16 h) pt.pp, ok.nda, ok.ndp, ok.dis, ok.la, ok.lp, ft, fun H7 s7 => fin H7 s7⟩
      · obtain ⟨s6, d6⟩ := h6
        rw [List.take_of_length_le (by omega)] at d6
        refine ⟨D2, bs, rfl, SqL.of d6, ?_⟩
        have e2 : bs.all id = false := by
          obtain ⟨x, hx, fb⟩ := hb
          obtain ⟨j, hj⟩ := List.getElem?_of_mem hx
          obtain ⟨b, hb', hc⟩ := paired_get hbs hj
          refine Bool.eq_false_iff.mpr fun h => ?_
          have h1 : b = true := List.all_eq_true.mp h b (List.mem_of_getElem? hb')
          rcases hc with ⟨_, ft⟩ | ⟨e, _⟩
          · exact fit_notbad fb ft
          · rw [h1] at e
            cases e
        rw [e2]
        exact q _ (s14.trans s6)
/-- where there is no such system -/
theorem ok_System_bad {C C_Action CI CP fPI fI fC pC fM pM fL fE fS f f1 f2 f3 : Addr} {dPI dI dC dM dL dE dS fd d1 d2 d3 : FuncData} (B : Blt mg) (T_InvalidSystem : OwnT K mg "InvalidSystem" CI)
    (TA : ActK K mg C_Action fI fC pC fM pM fL fE fS dI dC dM dL dE dS) (TP : PlanK K mg CP fPI dPI)
    (G_called : FnOk P w K mg base CX0 1 fC dC ["self"] (spGet K C_Action gCalled)) (G_moves : FnOk P w K mg base CX0 1 fM dM ["self"] (spGet K C_Action gMoves))
    (G_Plan : FnOk P w K mg base CX0 1 fPI dPI ["self", "moves", "pools"] (spPlan K CP))
    (D_is_system : Df K mg "_is_system" s_is_system ["agents", "pools", "actions"] f1 d1) (G_is_system : FnOk P w K mg base CX0 5 f1 d1 ["agents", "pools", "actions"] (spSystemBad K C_Action))
    (D_ascending : Df K mg "_ascending" s_ascending ["table"] f2 d2) (G_ascending : FnOk P w K mg base CX0 1 f2 d2 ["table"] (spAsc K))
    (D_write_lines : Df K mg "_write_lines" s_write_lines ["agents", "pools", "actions"] f3 d3) (G_write_lines : FnOk P w K mg base CX0 4 f3 d3 ["agents", "pools", "actions"] (spLines K C_Action))
    (F : Fun K "__init__" "System.__init__" s_System___init f fd) : FnOk P w K mg base (L2.CX P w) 6 f fd ["self", "agents", "pools", "actions"] (spSysBad K C C_Action CI) := by
  refine F.okX sc_System___init (fun vs H Q E h => ?_) (fun cdv A outer s H vs Q E hr h => ?_)
  · obtain ⟨a, dx, da, dp, pa, ka, kp, xs, ag, pl, as, rfl, _⟩ := h
    rfl
  · obtain ⟨a, dx, da, dp, pa, ka, kp, xs, ag, pl, as, rfl, ha, pt, od, l16, ndx, bad, q⟩ := h
    refine ⟨_, (pss_cons (ps_if (pt_not (pt_val (pe_call G_is_system (hr.mono (by decide)) (by rfl) D_is_system.g D_is_system.F.kp D_is_system.b .nil pass0 (pa_cons (pv 1) (pa_cons (pv 2) (pa_cons (pv 3) pa_nil)))) (by intro _; rfl)))
    (pss_one (ps_raise rfl (takes_of rfl rfl rfl rfl) (pmk_own PySem.F.excBase_ValueError T_InvalidSystem.x T_InvalidSystem.g T_InvalidSystem.k (raises_own T_InvalidSystem.b T_InvalidSystem.t) (by exact rfl)))) pss_nil)
    (pss_cons (ps_fld (pv 0) (pe_call G_ascending (hr.mono (by decide)) (by rfl) D_ascending.g D_ascending.F.kp D_ascending.b .nil pass0 (pa_cons (pv 1) pa_nil)) rfl)
    (pss_cons (ps_fld (pv 0) (pe_call G_ascending (hr.mono (by decide)) (by rfl) D_ascending.g D_ascending.F.kp D_ascending.b .nil pass0 (pa_cons (pv 2) pa_nil)) rfl)
    (pss_cons (ps_fld (pv 0) (pe_call G_ascending (hr.mono (by decide)) (by rfl) D_ascending.g D_ascending.F.kp D_ascending.b .nil pass0 (pa_cons (pe_dc (own := [("action", 4)]) (g := gName 4) (tt := tYes) (by rfl) sc_System___init.nd (pi_tup (pv 3)) (blkOk_by (N := ["self", "agents", "pools", "actions", "action", "name"]) (sc := defScope s_System___init) (by decide +kernel)) (fun _ _ _ _ _ => (pg_name (i := 4) sc_System___init.nd rfl (Or.inl rfl))) (fun _ _ _ _ _ => pts_nil) (fun _ _ _ _ _ => (pe_prop (pv 4) TA.AC.cl TA.P_called G_called (hr.mono (by decide)) TA.B_called .nil pass0 rfl)) (fun _ _ _ _ _ => (pv 4))) pa_nil)) rfl)
    (pss_cons (ps_fld (pv 0) (pe_call G_write_lines (hr.mono (by decide)) (by rfl) D_write_lines.g D_write_lines.F.kp D_write_lines.b .nil pass0 (pa_cons (pe_fld (pv 0) rfl) (pa_cons (pe_fld (pv 0) rfl) (pa_cons (pe_fld (pv 0) rfl) pa_nil)))) rfl)
    (pss_cons (ps_set (i := 2) sc_System___init.nd rfl (Or.inr rfl) (pe_callTy (call_list_dK rfl) (by rfl) B.list_ (by decide +kernel) (pa_cons (pe_fld (pv 0) rfl) pa_nil)))
    (pss_cons (ps_fld (pv 0) (pe_lock (pe_dc (own := [("name", 5), ("action", 4)]) (g := gTup K 2 (gCons (gName 5) (gCons (gName 4) gNil))) (tt := tYes) (by rfl) sc_System___init.nd (pi_items (pe_fld (pv 0) rfl)) (blkOk_by (N := ["self", "agents", "pools", "actions", "action", "name"]) (sc := defScope s_System___init) (by decide +kernel)) (fun _ _ _ _ _ => (pg_tup (by rfl) (pgs_cons (pg_name (i := 5) sc_System___init.nd rfl (Or.inl rfl)) (pgs_cons (pg_name (i := 4) sc_System___init.nd rfl (Or.inl rfl)) pgs_nil)))) (fun _ _ _ _ _ => pts_nil) (fun _ _ _ _ _ => (pv 5)) (fun _ _ _ _ _ => (pe_make TP.M G_Plan (hr.mono (by decide)) (by rfl) TP.g TP.BI .nil pass0 (pa_cons (pe_prop (pv 4) TA.AC.cl TA.P_moves G_moves (hr.mono (by decide)) TA.B_moves .nil pass0 rfl) (pa_cons (pv 2) pa_nil)))))) rfl)
    (pss_one (ps_fld (pv 0) pe_dnewN rfl))))))))), ?_⟩
    exact ⟨_, rfl, _, rfl, _, rfl, da, dp, pa, ka, kp, xs, ag, pl, as, rfl, pt, od, l16, ndx, bad, fun H1 s1 => ⟨_, rfl, q H1 s1⟩⟩
end
end Gk

set_option Elab.async false
set_option linter.all false
set_option maxRecDepth 100000
set_option maxHeartbeats 8000000
namespace Gk
open PySem PySem.Spec PyProof.Rows L2
abbrev s_System___eq : Stmt := inClass (topS 24) 18
theorem sc_System___eq : FnScope ["self", "other"] ["self", "other"] (defScope s_System___eq) := ⟨rfl, rfl, rfl, by decide +kernel, rfl, by decide +kernel, by decide +kernel⟩
abbrev s_System_lines : Stmt := inClass (topS 24) 6
theorem sc_System_lines : FnScope ["self"] ["self"] (defScope s_System_lines) := ⟨rfl, rfl, rfl, by decide +kernel, rfl, by decide +kernel, by decide +kernel⟩
theorem strOk_lt {s : Str} (h : ∀ a ∈ TL.tl s, a < 128) : PyData.strOk s = true := by
  unfold PyData.strOk
  rw [Array.all_eq_true_iff_forall_mem]
  intro c hc
  have := h c (by unfold TL.tl; exact Array.mem_toList_iff.mpr hc)
  exact decide_eq_true (by omega)
theorem owL_ok {w : Str} {o : Own} (hw : isW w = true) (h1 : isW o.1 = true) (h2 : ∀ s ∈ o.2, isW s = true) : PyData.strOk (owL w o) = true := strOk_lt fun a ha => by
  have := jn_in (ss := w :: o.1 :: o.2) (fun s hs => by
    rcases List.mem_cons.mp hs with e | hs
    · rw [e]; exact hw
    · rcases List.mem_cons.mp hs with e | hs
      · rw [e]; exact h1
      · exact h2 s hs) a ha
  omega
theorem acL_ok {x : Act} (h1 : isW x.1 = true) (h2 : OkMv x.2) : PyData.strOk (acL x) = true := strOk_lt fun a ha => by
  unfold acL at ha
  rw [TL.tl_append] at ha
  rcases List.mem_append.mp ha with ha | ha
  · have e : ∀ a ∈ TL.tl (Str.ofString "action "), a < 128 := by decide +kernel
    exact e a ha
  · exact li_ascii h1 h2 a ha
theorem lines_ok {ag pl : List Own} {as : List Act} (ok : OkSys ag pl as) (h : ∀ x ∈ as, isW x.1 = true ∧ OkMv x.2) : OkS (linesOf ag pl as) := OkS.mk fun s hs => by
  unfold linesOf at hs
  rcases List.mem_append.mp hs with hs | hs
  · rcases List.mem_append.mp hs with hs | hs
    · obtain ⟨o, ho, rfl⟩ := List.mem_map.mp hs
      exact owL_ok (by decide +kernel) (ok.oa o ho).1 (ok.oa o ho).2.w
    · obtain ⟨o, ho, rfl⟩ := List.mem_map.mp hs
      exact owL_ok (by decide +kernel) (ok.op o ho).1 (ok.op o ho).2.w
  · obtain ⟨x, hx, rfl⟩ := List.mem_map.mp hs
    exact acL_ok (h x hx).1 (h x hx).2
theorem sys_acts {K : PySem.W.Frag} {H : Hp} {CS CA a : Addr} {ag pl : List Own} {as : List Act} (h : SysV K H CS CA a ag pl as) : ∀ x ∈ as, isW x.1 = true ∧ OkMv x.2 := by
  obtain ⟨⟨dx, dA, dP, dX, pL, dPl, dN, kA, kP, kX, h1, h2, h3, h4, h5, h6, h7, h8⟩, _⟩ := h
  intro x hx
  obtain ⟨j, hj⟩ := List.getElem?_of_mem hx
  have hl := h8.length
  have hj2 : j < kX.length := by
    have := (List.getElem?_eq_some_iff.mp hj).1
    omega
  obtain ⟨x', hx', _, b, _, va⟩ := paired_get h8 (List.getElem?_eq_getElem hj2)
  rw [hj] at hx'
  cases Option.some.inj hx'
  obtain ⟨_, _, _, _, _, _, _, _, v6, v7⟩ := va
  exact ⟨v7, v6⟩
def spLinesG (K : PySem.W.Frag) (CS CA : Addr) : Sp := fun vs H Q _ => ∃ (a : Addr) (ag pl : List Own) (as : List Act), vs = [.ref a] ∧ SysV K H CS CA a ag pl as ∧ ∀ p, H p = some (.tup ((linesOf ag pl as).map V.str)) → Q (.ref p) H
def spEqS (K : PySem.W.Frag) (CS CA : Addr) : Sp := fun vs H Q _ => ∃ (a : Addr) (y : V) (ag pl : List Own) (as : List Act), vs = [.ref a, y] ∧ SysV K H CS CA a ag pl as ∧
  ((∃ (b : Addr) (ag' pl' : List Own) (as' : List Act), y = .ref b ∧ SysV K H CS CA b ag' pl' as' ∧ Q (.bl (decide (linesOf ag pl as = linesOf ag' pl' as'))) H) ∨ (∃ t, TyX K H y t ∧ PySem.W.kitOne K t (.ref CS) = some false ∧ Q (.bl false) H))
section
variable {P : Program} {w : World} {K : PySem.W.Frag} {mg : Str → Option Value} {base : Heap}
theorem ok_System_lines {C CA f : Addr} {fd : FuncData} (B : Blt mg) (SC : SysC K C) (F : Fun K "lines" "System.lines" s_System_lines f fd) : FnOk P w K mg base CX0 1 f fd ["self"] (spLinesG K C CA) := by
  refine F.ok sc_System_lines (fun vs H Q E h => ?_) (fun cdv A outer s H vs Q E hr h => ?_)
  · obtain ⟨a, ag, pl, as, rfl, _⟩ := h
    rfl
  · obtain ⟨a, ag, pl, as, rfl, ⟨⟨dx, dA, dP, dX, pL, dPl, dN, kA, kP, kX, h1, h2, h3, h4, h5, _⟩, _⟩, q⟩ := h
    exact ⟨_, (pss_one (ps_ret (pe_fld (pv 0) rfl))), _, rfl, a, C, dx, _, _, rfl, h1, SC.cl, SC.n4, rfl, q pL h5⟩
theorem ok_System___eq {C_System CA f : Addr} {fd : FuncData} (B : Blt mg) (g_System : mg "System" = some (.ref C_System)) (SC : SysC K C_System) (IC : C8.InsC K C_System) (F : Fun K "__eq__" "System.__eq__" s_System___eq f fd) : FnOk P w K mg base CX0 1 f fd ["self", "other"] (spEqS K C_System CA) := by
  refine F.ok sc_System___eq (fun vs H Q E h => ?_) (fun cdv A outer s H vs Q E hr h => ?_)
  · obtain ⟨a, y, ag, pl, as, rfl, _⟩ := h
    rfl
  · obtain ⟨a, y, ag, pl, as, rfl, sv, q⟩ := h
    refine ⟨_, (pss_one (ps_ret (pe_and (pe_callB call_isi (by rfl) B.isinstance_ (by decide +kernel) (pa_cons (pv 1) (pa_cons (pe_glob (v := .ref C_System) rfl g_System rfl) pa_nil))) (pe_one (pe_cmpR (op_eqD hr.units) (pe_fld (pv 0) rfl) (pe_fld (pv 1) rfl) (nomark _)))))), ?_⟩
    have ac1 := sys_acts sv
    obtain ⟨⟨dx, dA, dP, dX, pL, dPl, dN, kA, kP, kX, h1, h2, h3, h4, h5, _⟩, ok1, _⟩ := sv
    rcases q with ⟨b, ag', pl', as', rfl, sv', q⟩ | ⟨t, ty, hk, q⟩
    · have ac2 := sys_acts sv'
      obtain ⟨⟨dx', dA', dP', dX', pL', dPl', dN', kA', kP', kX', h1', h2', h3', h4', h5', _⟩, ok2, _⟩ := sv'
      refine ⟨_, rfl, .ref b, .ref C_System, _, .ref C_System, true, rfl, .own _, .base (.ins h1' IC.cl IC.ha IC.hn IC.htk IC.hm), IC.me, _, rfl, ?_⟩
      refine ⟨_, rfl, a, C_System, dx, _, _, rfl, h1, SC.cl, SC.n4, rfl, _, rfl, b, C_System, dx', _, _, rfl, h1', SC.cl, SC.n4, rfl, ?_⟩
      exact eqTS (lines_ok ok1 ac1) (lines_ok ok2 ac2) (.inl (.inl h5)) (.inl (.inl h5')) q
    · exact ⟨_, rfl, y, .ref C_System, t, .ref C_System, false, rfl, .own _, ty, hk, _, rfl, q⟩
end
end Gk

set_option Elab.async false
set_option linter.all false
set_option maxRecDepth 100000
set_option maxHeartbeats 8000000
namespace Gk
open PySem PySem.Spec PyProof.Rows L2
abbrev s_read_lines : Stmt := topS 51
theorem sc_read_lines : FnScope ["lines", "a", "turn"] ["lines"] (defScope s_read_lines) := ⟨rfl, rfl, rfl, by decide +kernel, rfl, by decide +kernel, by decide +kernel⟩
/-- what follows from the lines -/
structure FromQ (K : PySem.W.Frag) (CS CA CP CI : Addr) (ts : List (Option Told)) (H : Hp) (Q : VK) (E : XK) : Prop where
  e : ∀ i, runT ts 0 ([], [], []) = .inl i → ∀ d H', H d = none → Same H H' → H' d = some (.xd [("line", .int (i : Nat))]) → E (.ref CP) (some d) H'
  s : ∀ ag pl as, runT ts 0 ([], [], []) = .inr (ag, pl, as) → ag.length ≤ 5 ∧ pl.length ≤ 3 ∧ as.length ≤ 16 ∧
    ((1 ≤ as.length ∧ (∀ x ∈ as, Fit ag pl x.2) ∧ ∀ (a : Addr) (H' : Hp) (ag' pl' : List Own) (as' : List Act), Same H H' → H a = none → ag'.Perm ag → pl'.Perm pl → as'.Perm as → SysV K H' CS CA a ag' pl' as' → Q (.ref a) H') ∨
      (SysBad ag pl as ∧ ∀ H', Same H H' → E (.ref CI) none H'))
theorem FromQ.same {K : PySem.W.Frag} {CS CA CP CI : Addr} {ts : List (Option Told)} {H H1 : Hp} {Q : VK} {E : XK} (s : Same H H1) (h : FromQ K CS CA CP CI ts H Q E) : FromQ K CS CA CP CI ts H1 Q E := by
  refine ⟨fun i hr d H' hd s' e => h.e i hr d H' (none_back s hd) (s.trans s') e, fun ag pl as hr => ?_⟩
  obtain ⟨b1, b2, b3, q⟩ := h.s ag pl as hr
  refine ⟨b1, b2, b3, ?_⟩
  rcases q with ⟨l1, ft, q⟩ | ⟨bad, q⟩
  · exact .inl ⟨l1, ft, fun a H' ag' pl' as' s' ha pa pp px sv => q a H' ag' pl' as' (s.trans s') (none_back s ha) pa pp px sv⟩
  · exact .inr ⟨bad, fun H' s' => q H' (s.trans s')⟩
theorem sqL_same {K : PySem.W.Frag} {H H' : Hp} {p : Addr} {xs : List V} (s : Same H H') (h : SqL K H p xs) : SqL K H' p xs := by
  rcases h with (h | ⟨w, h⟩) | h
  · exact .inl (.inl (s _ _ h))
  · exact .inl (.inr ⟨w, s _ _ h⟩)
  · exact .inr h
/-- the lines, as they are passed to the class method -/
def spFromR (K : PySem.W.Frag) (CS CA CP CI : Addr) : Sp := fun vs H Q E => ∃ ws rest, vs = ws ++ rest ∧ ws.length = (["cls"] : List Str).length ∧ rest.length ≤ sizeLine ∧ ∀ p, H p = none → spFromL K CS CA CP CI (ws ++ [.ref p]) (upd H p (.tup rest)) Q E
def spReadL (K : PySem.W.Frag) (CS CA CP CI : Addr) : Sp := fun vs H Q E => ∃ (l : Addr) (xs : List V) (ts : List (Option Told)), vs = [.ref l] ∧ SqL K H l xs ∧ Paired (LnV K H) xs ts ∧ xs.length ≤ 11 ∧ FromQ K CS CA CP CI ts H Q E
section
variable {P : Program} {w : World} {K : PySem.W.Frag} {mg : Str → Option Value} {base : Heap}
theorem ok_read_lines {C_System CA CP CI fSI fL pL f : Addr} {dSI fd : FuncData} (B : Blt mg) (TS : SysK K mg C_System fSI dSI) (TS_R : ClX.CRead K C_System (.type "type")) (TS_CM : ClX.CMet K C_System (.type "type") "from_lines" pL fL)
    (G_from_lines : FnR P w K mg base (L2.CX P w) 8 fL (spFromR K C_System CA CP CI)) (D : Df K mg "_law_read_lines" s_read_lines ["lines"] f fd) : FnOk P w K mg base (L2.CX P w) 9 f fd ["lines"] (spReadL K C_System CA CP CI) := by
  refine D.F.okX sc_read_lines (fun vs H Q E h => ?_) (fun cdv A outer s H vs Q E hr h => ?_)
  · obtain ⟨l, xs, ts, rfl, _⟩ := h
    rfl
  · obtain ⟨l, xs, ts, rfl, hS, hL, hl, fq⟩ := h
    refine ⟨_, (pss_cons (ps_set (i := 1) sc_read_lines.nd rfl (Or.inl rfl) (pe_op op_catN (pe_callTy call_lstN (by rfl) B.list_ (by decide +kernel) (pa_cons (pv 0) pa_nil)) (pe_lc (own := [("turn", 2)]) (g := gName 2) (tt := tYes) (by rfl) sc_read_lines.nd (pi_range1 (by rfl) B.range (pa_cons (pe_op op_sub pe_int (pe_callB call_len_seq (by rfl) B.len_ (by decide +kernel) (pa_cons (pv 0) pa_nil))) pa_nil)) (blkOk_by (N := ["lines", "a", "turn"]) (sc := defScope s_read_lines) (by decide +kernel)) (fun _ _ _ _ _ => (pg_name (i := 2) sc_read_lines.nd rfl (Or.inl rfl))) (fun _ _ _ _ _ => pts_nil) (fun _ _ _ _ _ => pe_non))))
    (pss_cons (ps_if (pt_cmpR op_lt (pe_callB call_len_seq (by rfl) B.len_ (by decide +kernel) (pa_cons (pv 0) pa_nil)) pe_int (nomark _))
    (pss_cons (ps_if (pt_cmpR op_eq (pe_callB call_len_seq (by rfl) B.len_ (by decide +kernel) (pa_cons (pv 0) pa_nil)) pe_int (nomark _))
    (pss_one (ps_ret (pe_cmeth0 (E := E) (pe_glob (v := .ref C_System) rfl TS.g rfl) TS_R TS_CM G_from_lines (hr.mono (by decide)) (fun pins σ H s e s' I c => passAt (takes_of rfl rfl rfl rfl) σ pins H s e s' I c)))) pss_nil)
    (pss_cons (ps_if (pt_cmpR op_eq (pe_callB call_len_seq (by rfl) B.len_ (by decide +kernel) (pa_cons (pv 0) pa_nil)) pe_int (nomark _))
    (pss_one (ps_ret (ClX.pe_cmeth (E := E) (pe_glob (v := .ref C_System) rfl TS.g rfl) TS_R TS_CM G_from_lines (hr.mono (by decide)) (fun pins σ H s e s' I c => passAt (takes_of rfl rfl rfl rfl) σ pins H s e s' I c) (pa_cons (pe_ix ix_list (pv 1) pe_int (fun _ _ => rfl)) pa_nil)))) pss_nil)
    (pss_cons (ps_if (pt_cmpR op_eq (pe_callB call_len_seq (by rfl) B.len_ (by decide +kernel) (pa_cons (pv 0) pa_nil)) pe_int (nomark _))
    (pss_one (ps_ret (ClX.pe_cmeth (E := E) (pe_glob (v := .ref C_System) rfl TS.g rfl) TS_R TS_CM G_from_lines (hr.mono (by decide)) (fun pins σ H s e s' I c => passAt (takes_of rfl rfl rfl rfl) σ pins H s e s' I c) (pa_cons (pe_ix ix_list (pv 1) pe_int (fun _ _ => rfl)) (pa_cons (pe_ix ix_list (pv 1) pe_int (fun _ _ => rfl)) pa_nil))))) pss_nil)
    (pss_one (ps_ret (pe_ifExp (pt_cmpR op_eq (pe_callB call_len_seq (by rfl) B.len_ (by decide +kernel) (pa_cons (pv 0) pa_nil)) pe_int (nomark _)) (ClX.pe_cmeth (E := E) (pe_glob (v := .ref C_System) rfl TS.g rfl) TS_R TS_CM G_from_lines (hr.mono (by decide)) (fun pins σ H s e s' I c => passAt (takes_of rfl rfl rfl rfl) σ pins H s e s' I c) (pa_cons (pe_ix ix_list (pv 1) pe_int (fun _ _ => rfl)) (pa_cons (pe_ix ix_list (pv 1) pe_int (fun _ _ => rfl)) (pa_cons (pe_ix ix_list (pv 1) pe_int (fun _ _ => rfl)) pa_nil)))) (ClX.pe_cmeth (E := E) (pe_glob (v := .ref C_System) rfl TS.g rfl) TS_R TS_CM G_from_lines (hr.mono (by decide)) (fun pins σ H s e s' I c => passAt (takes_of rfl rfl rfl rfl) σ pins H s e s' I c) (pa_cons (pe_ix ix_list (pv 1) pe_int (fun _ _ => rfl)) (pa_cons (pe_ix ix_list (pv 1) pe_int (fun _ _ => rfl)) (pa_cons (pe_ix ix_list (pv 1) pe_int (fun _ _ => rfl)) (pa_cons (pe_ix ix_list (pv 1) pe_int (fun _ _ => rfl)) pa_nil))))))))))) pss_nil)
    (pss_cons (ps_if (pt_cmpR op_lt (pe_callB call_len_seq (by rfl) B.len_ (by decide +kernel) (pa_cons (pv 0) pa_nil)) pe_int (nomark _))
    (pss_cons (ps_if (pt_cmpR op_eq (pe_callB call_len_seq (by rfl) B.len_ (by decide +kernel) (pa_cons (pv 0) pa_nil)) pe_int (nomark _))
    (pss_one (ps_ret (ClX.pe_cmeth (E := E) (pe_glob (v := .ref C_System) rfl TS.g rfl) TS_R TS_CM G_from_lines (hr.mono (by decide)) (fun pins σ H s e s' I c => passAt (takes_of rfl rfl rfl rfl) σ pins H s e s' I c) (pa_cons (pe_ix ix_list (pv 1) pe_int (fun _ _ => rfl)) (pa_cons (pe_ix ix_list (pv 1) pe_int (fun _ _ => rfl)) (pa_cons (pe_ix ix_list (pv 1) pe_int (fun _ _ => rfl)) (pa_cons (pe_ix ix_list (pv 1) pe_int (fun _ _ => rfl)) (pa_cons (pe_ix ix_list (pv 1) pe_int (fun _ _ => rfl)) pa_nil)))))))) pss_nil)
    (pss_cons (ps_if (pt_cmpR op_eq (pe_callB call_len_seq (by rfl) B.len_ (by decide +kernel) (pa_cons (pv 0) pa_nil)) pe_int (nomark _))
    (pss_one (ps_ret (ClX.pe_cmeth (E := E) (pe_glob (v := .ref C_System) rfl TS.g rfl) TS_R TS_CM G_from_lines (hr.mono (by decide)) (fun pins σ H s e s' I c => passAt (takes_of rfl rfl rfl rfl) σ pins H s e s' I c) (pa_cons (pe_ix ix_list (pv 1) pe_int (fun _ _ => rfl)) (pa_cons (pe_ix ix_list (pv 1) pe_int (fun _ _ => rfl)) (pa_cons (pe_ix ix_list (pv 1) pe_int (fun _ _ => rfl)) (pa_cons (pe_ix ix_list (pv 1) pe_int (fun _ _ => rfl)) (pa_cons (pe_ix ix_list (pv 1) pe_int (fun _ _ => rfl)) (pa_cons (pe_ix ix_list (pv 1) pe_int (fun _ _ => rfl)) pa_nil))))))))) pss_nil)
    (pss_cons (ps_if (pt_cmpR op_eq (pe_callB call_len_seq (by rfl) B.len_ (by decide +kernel) (pa_cons (pv 0) pa_nil)) pe_int (nomark _))
    (pss_one (ps_ret (ClX.pe_cmeth (E := E) (pe_glob (v := .ref C_System) rfl TS.g rfl) TS_R TS_CM G_from_lines (hr.mono (by decide)) (fun pins σ H s e s' I c => passAt (takes_of rfl rfl rfl rfl) σ pins H s e s' I c) (pa_cons (pe_ix ix_list (pv 1) pe_int (fun _ _ => rfl)) (pa_cons (pe_ix ix_list (pv 1) pe_int (fun _ _ => rfl)) (pa_cons (pe_ix ix_list (pv 1) pe_int (fun _ _ => rfl)) (pa_cons (pe_ix ix_list (pv 1) pe_int (fun _ _ => rfl)) (pa_cons (pe_ix ix_list (pv 1) pe_int (fun _ _ => rfl)) (pa_cons (pe_ix ix_list (pv 1) pe_int (fun _ _ => rfl)) (pa_cons (pe_ix ix_list (pv 1) pe_int (fun _ _ => rfl)) pa_nil)))))))))) pss_nil)
    (pss_one (ps_ret (ClX.pe_cmeth (E := E) (pe_glob (v := .ref C_System) rfl TS.g rfl) TS_R TS_CM G_from_lines (hr.mono (by decide)) (fun pins σ H s e s' I c => passAt (takes_of rfl rfl rfl rfl) σ pins H s e s' I c) (pa_cons (pe_ix ix_list (pv 1) pe_int (fun _ _ => rfl)) (pa_cons (pe_ix ix_list (pv 1) pe_int (fun _ _ => rfl)) (pa_cons (pe_ix ix_list (pv 1) pe_int (fun _ _ => rfl)) (pa_cons (pe_ix ix_list (pv 1) pe_int (fun _ _ => rfl)) (pa_cons (pe_ix ix_list (pv 1) pe_int (fun _ _ => rfl)) (pa_cons (pe_ix ix_list (pv 1) pe_int (fun _ _ => rfl)) (pa_cons (pe_ix ix_list (pv 1) pe_int (fun _ _ => rfl)) (pa_cons (pe_ix ix_list (pv 1) pe_int (fun _ _ => rfl)) pa_nil)))))))))))))) pss_nil)
    (pss_cons (ps_if (pt_cmpR op_eq (pe_callB call_len_seq (by rfl) B.len_ (by decide +kernel) (pa_cons (pv 0) pa_nil)) pe_int (nomark _))
    (pss_one (ps_ret (ClX.pe_cmeth (E := E) (pe_glob (v := .ref C_System) rfl TS.g rfl) TS_R TS_CM G_from_lines (hr.mono (by decide)) (fun pins σ H s e s' I c => passAt (takes_of rfl rfl rfl rfl) σ pins H s e s' I c) (pa_cons (pe_ix ix_list (pv 1) pe_int (fun _ _ => rfl)) (pa_cons (pe_ix ix_list (pv 1) pe_int (fun _ _ => rfl)) (pa_cons (pe_ix ix_list (pv 1) pe_int (fun _ _ => rfl)) (pa_cons (pe_ix ix_list (pv 1) pe_int (fun _ _ => rfl)) (pa_cons (pe_ix ix_list (pv 1) pe_int (fun _ _ => rfl)) (pa_cons (pe_ix ix_list (pv 1) pe_int (fun _ _ => rfl)) (pa_cons (pe_ix ix_list (pv 1) pe_int (fun _ _ => rfl)) (pa_cons (pe_ix ix_list (pv 1) pe_int (fun _ _ => rfl)) (pa_cons (pe_ix ix_list (pv 1) pe_int (fun _ _ => rfl)) pa_nil)))))))))))) pss_nil)
    (pss_cons (ps_if (pt_cmpR op_eq (pe_callB call_len_seq (by rfl) B.len_ (by decide +kernel) (pa_cons (pv 0) pa_nil)) pe_int (nomark _))
    (pss_one (ps_ret (ClX.pe_cmeth (E := E) (pe_glob (v := .ref C_System) rfl TS.g rfl) TS_R TS_CM G_from_lines (hr.mono (by decide)) (fun pins σ H s e s' I c => passAt (takes_of rfl rfl rfl rfl) σ pins H s e s' I c) (pa_cons (pe_ix ix_list (pv 1) pe_int (fun _ _ => rfl)) (pa_cons (pe_ix ix_list (pv 1) pe_int (fun _ _ => rfl)) (pa_cons (pe_ix ix_list (pv 1) pe_int (fun _ _ => rfl)) (pa_cons (pe_ix ix_list (pv 1) pe_int (fun _ _ => rfl)) (pa_cons (pe_ix ix_list (pv 1) pe_int (fun _ _ => rfl)) (pa_cons (pe_ix ix_list (pv 1) pe_int (fun _ _ => rfl)) (pa_cons (pe_ix ix_list (pv 1) pe_int (fun _ _ => rfl)) (pa_cons (pe_ix ix_list (pv 1) pe_int (fun _ _ => rfl)) (pa_cons (pe_ix ix_list (pv 1) pe_int (fun _ _ => rfl)) (pa_cons (pe_ix ix_list (pv 1) pe_int (fun _ _ => rfl)) pa_nil))))))))))))) pss_nil)
    (pss_one (ps_ret (ClX.pe_cmeth (E := E) (pe_glob (v := .ref C_System) rfl TS.g rfl) TS_R TS_CM G_from_lines (hr.mono (by decide)) (fun pins σ H s e s' I c => passAt (takes_of rfl rfl rfl rfl) σ pins H s e s' I c) (pa_cons (pe_ix ix_list (pv 1) pe_int (fun _ _ => rfl)) (pa_cons (pe_ix ix_list (pv 1) pe_int (fun _ _ => rfl)) (pa_cons (pe_ix ix_list (pv 1) pe_int (fun _ _ => rfl)) (pa_cons (pe_ix ix_list (pv 1) pe_int (fun _ _ => rfl)) (pa_cons (pe_ix ix_list (pv 1) pe_int (fun _ _ => rfl)) (pa_cons (pe_ix ix_list (pv 1) pe_int (fun _ _ => rfl)) (pa_cons (pe_ix ix_list (pv 1) pe_int (fun _ _ => rfl)) (pa_cons (pe_ix ix_list (pv 1) pe_int (fun _ _ => rfl)) (pa_cons (pe_ix ix_list (pv 1) pe_int (fun _ _ => rfl)) (pa_cons (pe_ix ix_list (pv 1) pe_int (fun _ _ => rfl)) (pa_cons (pe_ix ix_list (pv 1) pe_int (fun _ _ => rfl)) pa_nil))))))))))))))))))), ?_⟩
    have fin : ∀ H3, Same H H3 → spFromR K C_System CA CP CI (.ref C_System :: xs) H3 Q E := fun H3 s3 => by
      refine ⟨[.ref C_System], xs, rfl, rfl, by rw [sizeLine_eq]; omega, fun p hp => ?_⟩
      have s4 := s3.trans (gSame_new (o := .tup xs) hp)
      have f4 := fq.same s4
      exact ⟨p, xs, ts, rfl, .inl (.inl upd_same), paired_mono (fun _ _ h => LnV.same s4 h) hL, by omega, f4.e, f4.s⟩
    refine ⟨_, rfl, l, xs, rfl, .inl hS, fun l2 H1 n1 e1 s1 => ?_⟩
    have hS1 := sqL_same s1 hS
    refine ⟨_, rfl, l, xs, rfl, .inl hS1, _, _, rfl, rfl, _, rfl, by omega, by omega, fun D1 hD => ?_⟩
    refine lc_range (lo := 0) (n := (12 - (xs.length : Int)).toNat) (fun j H5 => Same H1 H5 ∧ H5 D1 = some (.lst (List.replicate j V.non))) ⟨gSame_new hD, upd_same⟩ (fun j H5 hj h5 => ?_) (fun H5 h5 => ?_)
    · obtain ⟨s5, d5⟩ := h5
      refine ⟨rfl, _, d5, ?_, gSame_mut s5 hD, ?_⟩
      · rw [List.length_replicate]
        exact small1000 (by omega)
      · rw [upd_same, List.replicate_succ']
    obtain ⟨s5, d5⟩ := h5
    refine ⟨l2, D1, _, _, rfl, rfl, s5 _ _ e1, d5, ?_, fun la H2 n2 e2 s2 => ?_⟩
    · rw [List.length_replicate, sizeLine_eq]
      omega
    have s02 := s1.trans (s5.trans s2)
    have hS2 := sqL_same s02 hS
    generalize (12 - (xs.length : Int)).toNat = nn at e2
    have fin := fin H2 s02
    clear hL fq d5 e1 hS1 hS
    cases xs with
    | nil =>
      refine ⟨_, rfl, l, _, rfl, .inl hS2, _, _, rfl, rfl, _, rfl, ?_⟩
      refine ite2 (fun _ => ?_) (fun h => absurd rfl h)
      refine ⟨_, rfl, l, _, rfl, .inl hS2, rfl, _, rfl, ?_⟩
      refine ite2 (fun _ => ?_) (fun h => absurd rfl h)
      exact ⟨rfl, fin⟩
    | cons x0 xs =>
      cases xs with
      | nil =>
        refine ⟨_, rfl, l, _, rfl, .inl hS2, _, _, rfl, rfl, _, rfl, ?_⟩
        refine ite2 (fun _ => ?_) (fun h => absurd rfl h)
        refine ⟨_, rfl, l, _, rfl, .inl hS2, rfl, _, rfl, ?_⟩
        refine ite2 (fun h => absurd (show false = true from h) Bool.false_ne_true) (fun _ => ?_)
        refine ⟨_, rfl, l, _, rfl, .inl hS2, rfl, _, rfl, ?_⟩
        refine ite2 (fun _ => ?_) (fun h => absurd rfl h)
        exact ⟨rfl, _, rfl, la, _, 0, x0, rfl, rfl, SqL.of e2, atI_nat (j := 0) rfl, fin⟩
      | cons x1 xs =>
        cases xs with
        | nil =>
          refine ⟨_, rfl, l, _, rfl, .inl hS2, _, _, rfl, rfl, _, rfl, ?_⟩
          refine ite2 (fun _ => ?_) (fun h => absurd rfl h)
          refine ⟨_, rfl, l, _, rfl, .inl hS2, rfl, _, rfl, ?_⟩
          refine ite2 (fun h => absurd (show false = true from h) Bool.false_ne_true) (fun _ => ?_)
          refine ⟨_, rfl, l, _, rfl, .inl hS2, rfl, _, rfl, ?_⟩
          refine ite2 (fun h => absurd (show false = true from h) Bool.false_ne_true) (fun _ => ?_)
          refine ⟨_, rfl, l, _, rfl, .inl hS2, rfl, _, rfl, ?_⟩
          refine ite2 (fun _ => ?_) (fun h => absurd rfl h)
          exact ⟨rfl, _, rfl, la, _, 0, x0, rfl, rfl, SqL.of e2, atI_nat (j := 0) rfl, _, rfl, la, _, 1, x1, rfl, rfl, SqL.of e2, atI_nat (j := 1) rfl, fin⟩
        | cons x2 xs =>
          cases xs with
          | nil =>
            refine ⟨_, rfl, l, _, rfl, .inl hS2, _, _, rfl, rfl, _, rfl, ?_⟩
            refine ite2 (fun _ => ?_) (fun h => absurd rfl h)
            refine ⟨_, rfl, l, _, rfl, .inl hS2, rfl, _, rfl, ?_⟩
            refine ite2 (fun h => absurd (show false = true from h) Bool.false_ne_true) (fun _ => ?_)
            refine ⟨_, rfl, l, _, rfl, .inl hS2, rfl, _, rfl, ?_⟩
            refine ite2 (fun h => absurd (show false = true from h) Bool.false_ne_true) (fun _ => ?_)
            refine ⟨_, rfl, l, _, rfl, .inl hS2, rfl, _, rfl, ?_⟩
            refine ite2 (fun h => absurd (show false = true from h) Bool.false_ne_true) (fun _ => ?_)
            refine ⟨_, rfl, l, _, rfl, .inl hS2, rfl, _, rfl, ?_⟩
            refine ite2 (fun _ => ?_) (fun h => absurd rfl h)
            exact ⟨rfl, _, rfl, la, _, 0, x0, rfl, rfl, SqL.of e2, atI_nat (j := 0) rfl, _, rfl, la, _, 1, x1, rfl, rfl, SqL.of e2, atI_nat (j := 1) rfl, _, rfl, la, _, 2, x2, rfl, rfl, SqL.of e2, atI_nat (j := 2) rfl, fin⟩
          | cons x3 xs =>
            cases xs with
            | nil =>
              refine ⟨_, rfl, l, _, rfl, .inl hS2, _, _, rfl, rfl, _, rfl, ?_⟩
              refine ite2 (fun _ => ?_) (fun h => absurd rfl h)
              refine ⟨_, rfl, l, _, rfl, .inl hS2, rfl, _, rfl, ?_⟩
              refine ite2 (fun h => absurd (show false = true from h) Bool.false_ne_true) (fun _ => ?_)
              refine ⟨_, rfl, l, _, rfl, .inl hS2, rfl, _, rfl, ?_⟩
              refine ite2 (fun h => absurd (show false = true from h) Bool.false_ne_true) (fun _ => ?_)
              refine ⟨_, rfl, l, _, rfl, .inl hS2, rfl, _, rfl, ?_⟩
              refine ite2 (fun h => absurd (show false = true from h) Bool.false_ne_true) (fun _ => ?_)
              refine ⟨_, rfl, l, _, rfl, .inl hS2, rfl, _, rfl, ?_⟩
              refine ite2 (fun h => absurd (show false = true from h) Bool.false_ne_true) (fun _ => ?_)
              exact ⟨rfl, _, rfl, la, _, 0, x0, rfl, rfl, SqL.of e2, atI_nat (j := 0) rfl, _, rfl, la, _, 1, x1, rfl, rfl, SqL.of e2, atI_nat (j := 1) rfl, _, rfl, la, _, 2, x2, rfl, rfl, SqL.of e2, atI_nat (j := 2) rfl, _, rfl, la, _, 3, x3, rfl, rfl, SqL.of e2, atI_nat (j := 3) rfl, fin⟩
            | cons x4 xs =>
              cases xs with
              | nil =>
                refine ⟨_, rfl, l, _, rfl, .inl hS2, _, _, rfl, rfl, _, rfl, ?_⟩
                refine ite2 (fun h => absurd (show false = true from h) Bool.false_ne_true) (fun _ => ?_)
                refine ⟨_, rfl, l, _, rfl, .inl hS2, _, _, rfl, rfl, _, rfl, ?_⟩
                refine ite2 (fun _ => ?_) (fun h => absurd rfl h)
                refine ⟨_, rfl, l, _, rfl, .inl hS2, rfl, _, rfl, ?_⟩
                refine ite2 (fun _ => ?_) (fun h => absurd rfl h)
                exact ⟨rfl, _, rfl, la, _, 0, x0, rfl, rfl, SqL.of e2, atI_nat (j := 0) rfl, _, rfl, la, _, 1, x1, rfl, rfl, SqL.of e2, atI_nat (j := 1) rfl, _, rfl, la, _, 2, x2, rfl, rfl, SqL.of e2, atI_nat (j := 2) rfl, _, rfl, la, _, 3, x3, rfl, rfl, SqL.of e2, atI_nat (j := 3) rfl, _, rfl, la, _, 4, x4, rfl, rfl, SqL.of e2, atI_nat (j := 4) rfl, fin⟩
              | cons x5 xs =>
                cases xs with
                | nil =>
                  refine ⟨_, rfl, l, _, rfl, .inl hS2, _, _, rfl, rfl, _, rfl, ?_⟩
                  refine ite2 (fun h => absurd (show false = true from h) Bool.false_ne_true) (fun _ => ?_)
                  refine ⟨_, rfl, l, _, rfl, .inl hS2, _, _, rfl, rfl, _, rfl, ?_⟩
                  refine ite2 (fun _ => ?_) (fun h => absurd rfl h)
                  refine ⟨_, rfl, l, _, rfl, .inl hS2, rfl, _, rfl, ?_⟩
                  refine ite2 (fun h => absurd (show false = true from h) Bool.false_ne_true) (fun _ => ?_)
                  refine ⟨_, rfl, l, _, rfl, .inl hS2, rfl, _, rfl, ?_⟩
                  refine ite2 (fun _ => ?_) (fun h => absurd rfl h)
                  exact ⟨rfl, _, rfl, la, _, 0, x0, rfl, rfl, SqL.of e2, atI_nat (j := 0) rfl, _, rfl, la, _, 1, x1, rfl, rfl, SqL.of e2, atI_nat (j := 1) rfl, _, rfl, la, _, 2, x2, rfl, rfl, SqL.of e2, atI_nat (j := 2) rfl, _, rfl, la, _, 3, x3, rfl, rfl, SqL.of e2, atI_nat (j := 3) rfl, _, rfl, la, _, 4, x4, rfl, rfl, SqL.of e2, atI_nat (j := 4) rfl, _, rfl, la, _, 5, x5, rfl, rfl, SqL.of e2, atI_nat (j := 5) rfl, fin⟩
                | cons x6 xs =>
                  cases xs with
                  | nil =>
                    refine ⟨_, rfl, l, _, rfl, .inl hS2, _, _, rfl, rfl, _, rfl, ?_⟩
                    refine ite2 (fun h => absurd (show false = true from h) Bool.false_ne_true) (fun _ => ?_)
                    refine ⟨_, rfl, l, _, rfl, .inl hS2, _, _, rfl, rfl, _, rfl, ?_⟩
                    refine ite2 (fun _ => ?_) (fun h => absurd rfl h)
                    refine ⟨_, rfl, l, _, rfl, .inl hS2, rfl, _, rfl, ?_⟩
                    refine ite2 (fun h => absurd (show false = true from h) Bool.false_ne_true) (fun _ => ?_)
                    refine ⟨_, rfl, l, _, rfl, .inl hS2, rfl, _, rfl, ?_⟩
                    refine ite2 (fun h => absurd (show false = true from h) Bool.false_ne_true) (fun _ => ?_)
                    refine ⟨_, rfl, l, _, rfl, .inl hS2, rfl, _, rfl, ?_⟩
                    refine ite2 (fun _ => ?_) (fun h => absurd rfl h)
                    exact ⟨rfl, _, rfl, la, _, 0, x0, rfl, rfl, SqL.of e2, atI_nat (j := 0) rfl, _, rfl, la, _, 1, x1, rfl, rfl, SqL.of e2, atI_nat (j := 1) rfl, _, rfl, la, _, 2, x2, rfl, rfl, SqL.of e2, atI_nat (j := 2) rfl, _, rfl, la, _, 3, x3, rfl, rfl, SqL.of e2, atI_nat (j := 3) rfl, _, rfl, la, _, 4, x4, rfl, rfl, SqL.of e2, atI_nat (j := 4) rfl, _, rfl, la, _, 5, x5, rfl, rfl, SqL.of e2, atI_nat (j := 5) rfl, _, rfl, la, _, 6, x6, rfl, rfl, SqL.of e2, atI_nat (j := 6) rfl, fin⟩
                  | cons x7 xs =>
                    cases xs with
                    | nil =>
                      refine ⟨_, rfl, l, _, rfl, .inl hS2, _, _, rfl, rfl, _, rfl, ?_⟩
                      refine ite2 (fun h => absurd (show false = true from h) Bool.false_ne_true) (fun _ => ?_)
                      refine ⟨_, rfl, l, _, rfl, .inl hS2, _, _, rfl, rfl, _, rfl, ?_⟩
                      refine ite2 (fun _ => ?_) (fun h => absurd rfl h)
                      refine ⟨_, rfl, l, _, rfl, .inl hS2, rfl, _, rfl, ?_⟩
                      refine ite2 (fun h => absurd (show false = true from h) Bool.false_ne_true) (fun _ => ?_)
                      refine ⟨_, rfl, l, _, rfl, .inl hS2, rfl, _, rfl, ?_⟩
                      refine ite2 (fun h => absurd (show false = true from h) Bool.false_ne_true) (fun _ => ?_)
                      refine ⟨_, rfl, l, _, rfl, .inl hS2, rfl, _, rfl, ?_⟩
                      refine ite2 (fun h => absurd (show false = true from h) Bool.false_ne_true) (fun _ => ?_)
                      exact ⟨rfl, _, rfl, la, _, 0, x0, rfl, rfl, SqL.of e2, atI_nat (j := 0) rfl, _, rfl, la, _, 1, x1, rfl, rfl, SqL.of e2, atI_nat (j := 1) rfl, _, rfl, la, _, 2, x2, rfl, rfl, SqL.of e2, atI_nat (j := 2) rfl, _, rfl, la, _, 3, x3, rfl, rfl, SqL.of e2, atI_nat (j := 3) rfl, _, rfl, la, _, 4, x4, rfl, rfl, SqL.of e2, atI_nat (j := 4) rfl, _, rfl, la, _, 5, x5, rfl, rfl, SqL.of e2, atI_nat (j := 5) rfl, _, rfl, la, _, 6, x6, rfl, rfl, SqL.of e2, atI_nat (j := 6) rfl, _, rfl, la, _, 7, x7, rfl, rfl, SqL.of e2, atI_nat (j := 7) rfl, fin⟩
                    | cons x8 xs =>
                      cases xs with
                      | nil =>
                        refine ⟨_, rfl, l, _, rfl, .inl hS2, _, _, rfl, rfl, _, rfl, ?_⟩
                        refine ite2 (fun h => absurd (show false = true from h) Bool.false_ne_true) (fun _ => ?_)
                        refine ⟨_, rfl, l, _, rfl, .inl hS2, _, _, rfl, rfl, _, rfl, ?_⟩
                        refine ite2 (fun h => absurd (show false = true from h) Bool.false_ne_true) (fun _ => ?_)
                        refine ⟨_, rfl, l, _, rfl, .inl hS2, rfl, _, rfl, ?_⟩
                        refine ite2 (fun _ => ?_) (fun h => absurd rfl h)
                        exact ⟨rfl, _, rfl, la, _, 0, x0, rfl, rfl, SqL.of e2, atI_nat (j := 0) rfl, _, rfl, la, _, 1, x1, rfl, rfl, SqL.of e2, atI_nat (j := 1) rfl, _, rfl, la, _, 2, x2, rfl, rfl, SqL.of e2, atI_nat (j := 2) rfl, _, rfl, la, _, 3, x3, rfl, rfl, SqL.of e2, atI_nat (j := 3) rfl, _, rfl, la, _, 4, x4, rfl, rfl, SqL.of e2, atI_nat (j := 4) rfl, _, rfl, la, _, 5, x5, rfl, rfl, SqL.of e2, atI_nat (j := 5) rfl, _, rfl, la, _, 6, x6, rfl, rfl, SqL.of e2, atI_nat (j := 6) rfl, _, rfl, la, _, 7, x7, rfl, rfl, SqL.of e2, atI_nat (j := 7) rfl, _, rfl, la, _, 8, x8, rfl, rfl, SqL.of e2, atI_nat (j := 8) rfl, fin⟩
                      | cons x9 xs =>
                        cases xs with
                        | nil =>
                          refine ⟨_, rfl, l, _, rfl, .inl hS2, _, _, rfl, rfl, _, rfl, ?_⟩
                          refine ite2 (fun h => absurd (show false = true from h) Bool.false_ne_true) (fun _ => ?_)
                          refine ⟨_, rfl, l, _, rfl, .inl hS2, _, _, rfl, rfl, _, rfl, ?_⟩
                          refine ite2 (fun h => absurd (show false = true from h) Bool.false_ne_true) (fun _ => ?_)
                          refine ⟨_, rfl, l, _, rfl, .inl hS2, rfl, _, rfl, ?_⟩
                          refine ite2 (fun h => absurd (show false = true from h) Bool.false_ne_true) (fun _ => ?_)
                          refine ⟨_, rfl, l, _, rfl, .inl hS2, rfl, _, rfl, ?_⟩
                          refine ite2 (fun _ => ?_) (fun h => absurd rfl h)
                          exact ⟨rfl, _, rfl, la, _, 0, x0, rfl, rfl, SqL.of e2, atI_nat (j := 0) rfl, _, rfl, la, _, 1, x1, rfl, rfl, SqL.of e2, atI_nat (j := 1) rfl, _, rfl, la, _, 2, x2, rfl, rfl, SqL.of e2, atI_nat (j := 2) rfl, _, rfl, la, _, 3, x3, rfl, rfl, SqL.of e2, atI_nat (j := 3) rfl, _, rfl, la, _, 4, x4, rfl, rfl, SqL.of e2, atI_nat (j := 4) rfl, _, rfl, la, _, 5, x5, rfl, rfl, SqL.of e2, atI_nat (j := 5) rfl, _, rfl, la, _, 6, x6, rfl, rfl, SqL.of e2, atI_nat (j := 6) rfl, _, rfl, la, _, 7, x7, rfl, rfl, SqL.of e2, atI_nat (j := 7) rfl, _, rfl, la, _, 8, x8, rfl, rfl, SqL.of e2, atI_nat (j := 8) rfl, _, rfl, la, _, 9, x9, rfl, rfl, SqL.of e2, atI_nat (j := 9) rfl, fin⟩
                        | cons x10 xs =>
                          cases xs with
                          | nil =>
                            refine ⟨_, rfl, l, _, rfl, .inl hS2, _, _, rfl, rfl, _, rfl, ?_⟩
                            refine ite2 (fun h => absurd (show false = true from h) Bool.false_ne_true) (fun _ => ?_)
                            refine ⟨_, rfl, l, _, rfl, .inl hS2, _, _, rfl, rfl, _, rfl, ?_⟩
                            refine ite2 (fun h => absurd (show false = true from h) Bool.false_ne_true) (fun _ => ?_)
                            refine ⟨_, rfl, l, _, rfl, .inl hS2, rfl, _, rfl, ?_⟩
                            refine ite2 (fun h => absurd (show false = true from h) Bool.false_ne_true) (fun _ => ?_)
                            refine ⟨_, rfl, l, _, rfl, .inl hS2, rfl, _, rfl, ?_⟩
                            refine ite2 (fun h => absurd (show false = true from h) Bool.false_ne_true) (fun _ => ?_)
                            exact ⟨rfl, _, rfl, la, _, 0, x0, rfl, rfl, SqL.of e2, atI_nat (j := 0) rfl, _, rfl, la, _, 1, x1, rfl, rfl, SqL.of e2, atI_nat (j := 1) rfl, _, rfl, la, _, 2, x2, rfl, rfl, SqL.of e2, atI_nat (j := 2) rfl, _, rfl, la, _, 3, x3, rfl, rfl, SqL.of e2, atI_nat (j := 3) rfl, _, rfl, la, _, 4, x4, rfl, rfl, SqL.of e2, atI_nat (j := 4) rfl, _, rfl, la, _, 5, x5, rfl, rfl, SqL.of e2, atI_nat (j := 5) rfl, _, rfl, la, _, 6, x6, rfl, rfl, SqL.of e2, atI_nat (j := 6) rfl, _, rfl, la, _, 7, x7, rfl, rfl, SqL.of e2, atI_nat (j := 7) rfl, _, rfl, la, _, 8, x8, rfl, rfl, SqL.of e2, atI_nat (j := 8) rfl, _, rfl, la, _, 9, x9, rfl, rfl, SqL.of e2, atI_nat (j := 9) rfl, _, rfl, la, _, 10, x10, rfl, rfl, SqL.of e2, atI_nat (j := 10) rfl, fin⟩
                          | cons x11 xs =>
                            exact absurd hl (by simp)
end
end Gk

set_option Elab.async false
set_option linter.all false
set_option maxRecDepth 100000
set_option maxHeartbeats 8000000
namespace Gk
open PySem PySem.Spec PyProof.Rows L2
abbrev s_met : Stmt := topS 52
theorem sc_met : FnScope ["lines", "error"] ["lines"] (defScope s_met) := ⟨rfl, rfl, rfl, by decide +kernel, rfl, by decide +kernel, by decide +kernel⟩
section
variable {X : Cx}
def tVarSet (i : Nat) : TE := fun σ H Q => ∃ (σ0 : L2.St) (v : V), σ = σ0.set i (some v) ∧ Q v H
theorem pe_varSet {i : Nat} {x : Str} {pos : Pos} (hN : X.N[i]? = some x) (hv : Vis X.env.scope x) (hd : (x == ("__debug__" : Str)) = false := by decide) (hcd : (x == ("__classdict__" : Str)) = false := by decide) : PE X (.Name x pos) (tVarSet i) := by
  refine ⟨fun pins s σ H Q I h => (pe_var hN hv hd hcd).run pins s σ H Q I ?_⟩
  obtain ⟨σ0, v, rfl, q⟩ := h
  have hl := I.len
  rw [List.length_set] at hl
  have hi : i < σ0.length := by
    have := (List.getElem?_eq_some_iff.mp hN).1
    omega
  exact ⟨v, by rw [List.getElem?_set_self hi], q⟩
end
def prT (i : Nat) : Str := Str.ofString "parse " ++ Str.ofString (toString (i : Int))
structure MetQ (K : PySem.W.Frag) (CS CA : Addr) (ts : List (Option Told)) (H : Hp) (Q : VK) : Prop where
  e : ∀ i, runT ts 0 ([], [], []) = .inl i → i ≤ 100 ∧ ∀ H', Same H H' → Q (.str (prT i)) H'
  s : ∀ ag pl as, runT ts 0 ([], [], []) = .inr (ag, pl, as) → ag.length ≤ 5 ∧ pl.length ≤ 3 ∧ as.length ≤ 16 ∧
    ((1 ≤ as.length ∧ (∀ x ∈ as, Fit ag pl x.2) ∧ ∀ (a : Addr) (H' : Hp) (ag' pl' : List Own) (as' : List Act), Same H H' → H a = none → ag'.Perm ag → pl'.Perm pl → as'.Perm as → SysV K H' CS CA a ag' pl' as' → Q (.ref a) H') ∨
      (SysBad ag pl as ∧ ∀ H', Same H H' → Q (.str "system") H'))
def spMetL (K : PySem.W.Frag) (CS CA : Addr) : Sp := fun vs H Q _ => ∃ (l : Addr) (xs : List V) (ts : List (Option Told)), vs = [.ref l] ∧ SqL K H l xs ∧ Paired (LnV K H) xs ts ∧ xs.length ≤ 11 ∧ MetQ K CS CA ts H Q
section
variable {P : Program} {w : World} {K : PySem.W.Frag} {mg : Str → Option Value} {base : Heap}
theorem ok_met {C_System CA CP CI fR fPE f : Addr} {fd fdR dPE : FuncData} (B : Blt mg) (T_ParseError : IniT K mg "ParseError" "line" s_ParseError___init CP fPE dPE) (X_ParseError : XfC K CP) (T_InvalidSystem : OwnT K mg "InvalidSystem" CI)
    (hx2 : PySem.W.exmOne K (.ref CI) (.ref CP) = some false) (hx3 : PySem.W.exmOne K (.ref CI) (.ref CI) = some true)
    (D_read_lines : Df K mg "_law_read_lines" s_read_lines ["lines"] fR fdR) (G_read_lines : FnOk P w K mg base (L2.CX P w) 9 fR fdR ["lines"] (spReadL K C_System CA CP CI))
    (D : Df K mg "_law_met" s_met ["lines"] f fd) : FnOk P w K mg base CX0 10 f fd ["lines"] (spMetL K C_System CA) := by
  refine D.F.ok sc_met (fun vs H Q E h => ?_) (fun cdv A outer s H vs Q E hr h => ?_)
  · obtain ⟨l, xs, ts, rfl, _⟩ := h
    rfl
  · obtain ⟨l, xs, ts, rfl, hS, hL, hl, mq⟩ := h
    refine ⟨_, pss_one (ps_try_asMany (i := 1) (c := .ref CP) (l := [(.ref CI, fun _ _ _ => tRet (tC (.str (Str.ofString "system"))))]) (Wout := fun _ _ _ _ => False)
      rfl rfl sc_met.nd rfl rfl ⟨rfl, by decide, Or.inl T_ParseError.g⟩ L2.takes0
      (fun W pn xe tk _ => pss_one (ps_ret (pe_callS G_read_lines (hr.mono (by decide)) (by rfl) D_read_lines.g D_read_lines.F.kp D_read_lines.b (fun σ => passAt tk σ) (by exact (pa_cons (pv 0) pa_nil)))))
      (fun a oe cls d pn hz hf => pss_one (ps_ret (pe_op op_add_str pe_str (pe_callB SkE.call_repr_int (by rfl) B.repr_ (by decide +kernel) (pa_cons (pe_xf X_ParseError T_ParseError.no hz hf (pe_varSet (i := 1) rfl (.inl rfl))) pa_nil)))))
      (.cons ⟨rfl, by decide, Or.inl T_InvalidSystem.g⟩ (fun a oe cls d pn hz hf => pss_one (ps_ret pe_str)) .nil)), ?_⟩
    refine ⟨_, rfl, l, xs, ts, rfl, hS, hL, hl, ?_⟩
    refine ⟨fun i hi d H' hd s' e => ?_, fun ag pl as hr => ?_⟩
    · obtain ⟨hi100, q⟩ := mq.e i hi
      refine ⟨true, T_ParseError.te, fun _ a ha => ?_, fun h => absurd h (by decide)⟩
      have hlog : ((i : Int)).natAbs.log2 < 1920 := by
        have := PySem.Flt.log2_lt_of (n := ((i : Int)).natAbs) (by decide : 0 < 30) (by
          have e2 : (2 : Nat) ^ 30 = 1073741824 := by decide
          omega)
        omega
      have hlen : (Str.ofString (toString (i : Int))).length ≤ 9 := PyProof.Rows.toString_length_le (k := 9) (by omega) (by decide) (by
        have e : (10 : Int) ^ 9 = 1000000000 := by decide
        omega)
      have e6 : (Str.ofString "parse ").length = 6 := by decide +kernel
      refine ⟨_, .ref a, rfl, rfl, rfl, d, _, .int (i : Nat), rfl, e, rfl, (i : Int), rfl, hlog, _, _, rfl, rfl, ?_, q H' s'⟩
      rw [e6, sizeLine_eq]
      omega
    · obtain ⟨b1, b2, b3, q⟩ := mq.s ag pl as hr
      refine ⟨b1, b2, b3, ?_⟩
      rcases q with ⟨l1, ft, q⟩ | ⟨bad, q⟩
      · exact .inl ⟨l1, ft, q⟩
      · refine .inr ⟨bad, fun H' s' => ?_⟩
        refine ⟨false, hx2, fun h => absurd h (by decide), fun _ => ?_⟩
        exact ⟨true, hx3, fun _ a _ => q H' s', fun h => absurd h (by decide)⟩
end
end Gk

set_option Elab.async false
set_option linter.all false
set_option maxRecDepth 100000
set_option maxHeartbeats 8000000
namespace Gk
open PySem PySem.Spec PyProof.Rows L2
theorem rdL_cut {wd r : Str} (h : 32 ∉ TL.tl wd) : rdL (wd ++ " " ++ r) = if wd = "action" then (rdA r).map .ac else if wd = "agent" then (rdO r).map (.ow true) else if wd = "pool" then (rdO r).map (.ow false) else none := by
  unfold rdL
  rw [TL.partition_app tl_sp h]
theorem owW_w (b : Bool) : isW (owW b) = true := by cases b <;> decide +kernel
theorem owW_ne (b : Bool) : owW b ≠ "action" := by cases b <;> decide +kernel
theorem rdL_owW {b : Bool} {r : Str} : rdL (owW b ++ " " ++ r) = (rdO r).map (.ow b) := by
  rw [rdL_cut (w_nosp (owW_w b)), if_neg (owW_ne b)]
  cases b
  · rw [if_neg (by decide +kernel), if_pos (show owW false = "pool" from rfl)]
  · rw [if_pos (show owW true = "agent" from rfl)]
theorem rdL_act {r : Str} : rdL (Str.ofString "action" ++ " " ++ r) = (rdA r).map .ac := by
  rw [rdL_cut (w_nosp (by decide +kernel)), if_pos rfl]
theorem okStB_of {ss : List Str} (h : OkSt ss) : okStB ss = true := by
  unfold okStB
  rw [okNames_mk (by have := h.l6; omega) h.w h.nd, Bool.true_and]
  exact decide_eq_true ⟨h.l1, h.l6⟩
theorem rdO_jn {o : Own} (h1 : isW o.1 = true) (h2 : OkSt o.2) : rdO (jn (o.1 :: o.2)) = some o := by
  unfold rdO
  rw [split_jn (by simp) (.of fun s hs => by
    rcases List.mem_cons.mp hs with e | e
    · rw [e]; exact h1
    · exact h2.w s e)]
  dsimp only
  rw [h1, okStB_of h2]
  rfl
theorem owL_jn (w : Str) (o : Own) : owL w o = w ++ " " ++ jn (o.1 :: o.2) := jn_cons w (by simp)
theorem rdL_ow {b : Bool} {o : Own} (h1 : isW o.1 = true) (h2 : OkSt o.2) : rdL (owL (owW b) o) = some (.ow b o) := by
  rw [owL_jn, rdL_owW, rdO_jn h1 h2]
  rfl
theorem acL_cut (x : Act) : acL x = Str.ofString "action" ++ " " ++ liA x.1 x.2 := by
  unfold acL
  have e : Str.ofString "action " = Str.ofString "action" ++ " " := by decide +kernel
  rw [e]
theorem rdL_ac {x : Act} (h : rdA (liA x.1 x.2) = some x) : rdL (acL x) = some (.ac x) := by
  rw [acL_cut, rdL_act, h]
  rfl
theorem rdO_some {z : Str} {o : Own} (h : rdO z = some o) : z = jn (o.1 :: o.2) ∧ isW o.1 = true ∧ OkSt o.2 := by
  obtain ⟨g1, g2⟩ := rdO_ok h
  refine ⟨?_, g1, okSt_of g2⟩
  have hb := split_back (x := z) (y := " ") sp_ne sp_asc
  unfold rdO at h
  split at h
  · rename_i n ss e
    split at h
    · cases Option.some.inj h
      rw [e] at hb
      exact hb.symm
    · cases h
  · cases h
theorem rdO_words {z : Str} {o : Own} (h : rdO z = some o) : ∀ s ∈ o.1 :: o.2, isW s = true := fun s hs => by
  obtain ⟨_, g1, g2⟩ := rdO_some h
  rcases List.mem_cons.mp hs with e | e
  · rw [e]; exact g1
  · exact g2.w s e
/-- what is read begins and ends with a letter -/
theorem rdL_ends {z : Str} {u : Told} (h : rdL z = some u) : HeadL (TL.tl z) ∧ EndsL (TL.tl z) := by
  have key : ∀ wd r : Str, isW wd = true → z = wd ++ " " ++ r → EndsL (TL.tl r) → HeadL (TL.tl z) ∧ EndsL (TL.tl z) := fun wd r hw e he => by
    subst e
    rw [TL.tl_append, TL.tl_append]
    exact ⟨((head_w hw).app _).app _, EndsL.app _ he⟩
  have eA : ∀ r x, rdA r = some x → EndsL (TL.tl r) := fun r x hx => by
    obtain ⟨g1, g2, g3, g4, g5, g6⟩ := rdA_some (c := x.1) (ms := x.2) hx
    rw [g6]
    exact ends_li g2 g4
  have eO : ∀ r o, rdO r = some o → EndsL (TL.tl r) := fun r o hx => by
    rw [(rdO_some hx).1]
    exact ends_jn (by simp) (rdO_words hx)
  rcases part_cases z with ⟨a, b, ha, e, hp⟩ | ⟨hn, hp⟩
  · rw [e, rdL_cut ha] at h
    by_cases c1 : a = "action"
    · rw [if_pos c1] at h
      obtain ⟨x, hx, _⟩ := Option.map_eq_some_iff.mp h
      exact key a b (by rw [c1]; decide +kernel) e (eA b x hx)
    · rw [if_neg c1] at h
      by_cases c2 : a = "agent"
      · rw [if_pos c2] at h
        obtain ⟨x, hx, _⟩ := Option.map_eq_some_iff.mp h
        exact key a b (by rw [c2]; decide +kernel) e (eO b x hx)
      · rw [if_neg c2] at h
        by_cases c3 : a = "pool"
        · rw [if_pos c3] at h
          obtain ⟨x, hx, _⟩ := Option.map_eq_some_iff.mp h
          exact key a b (by rw [c3]; decide +kernel) e (eO b x hx)
        · rw [if_neg c3] at h
          cases h
  · unfold rdL at h
    rw [hp] at h
    have n1 : rdA Str.empty = none := none_nosp (by decide +kernel)
    have n2 : rdO Str.empty = none := by
      cases e : rdO Str.empty with
      | none => rfl
      | some o =>
        have := eO _ _ e
        obtain ⟨r, a, e1, _⟩ := this
        have e1 : ([] : List Nat) = r ++ [a] := e1
        exact absurd e1 (by simp)
    dsimp only at h
    rw [n1, n2] at h
    split at h <;> try cases h
    split at h <;> try cases h
    split at h <;> cases h
/-- a line with something after it, or before it -/
theorem rdL_last {z x : Str} {b : Nat} (e : TL.tl x = [b]) (h : ¬ Ltr b) : rdL (z ++ x) = none := by
  cases q : rdL (z ++ x) with
  | none => rfl
  | some u =>
    have := (rdL_ends q).2
    rw [TL.tl_append, e] at this
    exact absurd this.ne h
theorem rdL_head {z : Str} (h : ¬ HeadL (TL.tl z)) : rdL z = none := by
  cases q : rdL z with
  | none => rfl
  | some u => exact absurd (rdL_ends q).1 h
theorem rdO_head {z : Str} (h : ¬ HeadL (TL.tl z)) : rdO z = none := by
  cases q : rdO z with
  | none => rfl
  | some o =>
    refine absurd ?_ h
    rw [(rdO_some q).1, jn_cons o.1 (by
      obtain ⟨_, _, g⟩ := rdO_some q
      exact List.length_pos_iff.mp g.l1), TL.tl_append, TL.tl_append]
    exact ((head_w (rdO_some q).2.1).app _).app _
theorem rdA_head {z : Str} (h : ¬ HeadL (TL.tl z)) : rdA z = none := none_head h
theorem not_head {z : Str} {b : Nat} {l : List Nat} (e : TL.tl z = b :: l) (h : ¬ Ltr b) : ¬ HeadL (TL.tl z) := fun ⟨a, r, e2, ha⟩ => by
  rw [e] at e2
  injection e2 with e2 _
  exact h (e2 ▸ ha)
theorem ln_sp {z : Str} : rdL (z ++ " ") = none := rdL_last (b := 32) tl_sp (by unfold Ltr; omega)
theorem ln_com {z : Str} : rdL (z ++ ",") = none := rdL_last (b := 44) (by decide +kernel) (by unfold Ltr; omega)
theorem ln_pre {z : Str} : rdL (" " ++ z) = none := rdL_head (not_head (b := 32) (l := TL.tl z) (by rw [TL.tl_append, tl_sp]; rfl) (by unfold Ltr; omega))
theorem ln_dbl {wd r : Str} (hw : isW wd = true) : rdL (Txt.replace (wd ++ " " ++ r) " " "  ") = none := by
  have e : Txt.replace (wd ++ " " ++ r) " " "  " = wd ++ " " ++ (" " ++ ⟨(StrLaws.dbl 32 (TL.tl r)).toArray⟩) := TL.ext_tl (by
    have h := StrLaws.replace_double (wd ++ " " ++ r) 32
    have e1 : (⟨#[32]⟩ : Str) = " " := by decide +kernel
    have e2 : (⟨#[32, 32]⟩ : Str) = "  " := by decide +kernel
    rw [e1, e2] at h
    have h : TL.tl (Txt.replace (wd ++ " " ++ r) " " "  ") = StrLaws.dbl 32 (TL.tl (wd ++ " " ++ r)) := h
    rw [h, TL.tl_append, TL.tl_append, StrLaws.dbl_append, StrLaws.dbl_append, dbl_none _ (w_nosp hw), tl_sp, TL.tl_append, TL.tl_append, TL.tl_append, tl_sp]
    show _ = TL.tl wd ++ [32] ++ ([32] ++ StrLaws.dbl 32 (TL.tl r))
    have e3 : StrLaws.dbl 32 [32] = [32, 32] := by decide
    rw [e3]
    simp)
  have hd : ¬ HeadL (TL.tl ((" " : Str) ++ ⟨(StrLaws.dbl 32 (TL.tl r)).toArray⟩)) := not_head (b := 32) (l := StrLaws.dbl 32 (TL.tl r)) (by rw [TL.tl_append, tl_sp]; rfl) (by unfold Ltr; omega)
  rw [e, rdL_cut (w_nosp hw), rdA_head hd, rdO_head hd]
  split <;> try rfl
  split <;> try rfl
  split <;> rfl
theorem ln_word {wd : Str} (hw : isW wd = true) : rdL wd = none := by
  cases q : rdL wd with
  | none => rfl
  | some u =>
    rcases part_cases wd with ⟨a, b, ha, e, hp⟩ | ⟨hn, hp⟩
    · have hm : 32 ∈ TL.tl wd := by
        rw [e, TL.tl_append, TL.tl_append, tl_sp]
        simp
      exact absurd hm (w_nosp hw)
    · unfold rdL at q
      rw [hp] at q
      have hd : ¬ HeadL (TL.tl Str.empty) := fun ⟨a, r, e, _⟩ => by cases e
      dsimp only at q
      rw [rdA_head hd, rdO_head hd] at q
      split at q <;> try cases q
      split at q <;> try cases q
      split at q <;> cases q
theorem ln_upper {z : Str} {u : Told} (h : rdL z = some u) (ha : ∀ a ∈ TL.tl z, a < 128) : rdL (Txt.upper z) = none := by
  obtain ⟨b, q, e3, hb⟩ := (rdL_ends h).1
  have hb : 97 ≤ b ∧ b ≤ 122 := hb
  rw [PyProof.Rows.upper_ascii (x := z) ha]
  have e1 : TL.tl (⟨z.cps.map PyProof.Rows.up1⟩ : Str) = (TL.tl z).map PyProof.Rows.up1 := by
    show (z.cps.map PyProof.Rows.up1).toList = _
    rw [Array.toList_map]
  refine rdL_head (not_head (b := PyProof.Rows.up1 b) (l := q.map PyProof.Rows.up1) (by rw [e1, e3]; rfl) ?_)
  unfold PyProof.Rows.up1 Ltr
  rw [if_pos hb]
  omega
/-- lines that say nothing -/
theorem odd_lines : ∀ z ∈ (["", "agent zz s s", "pool zz", "agent zz a b c d e f g", "agents zz s", "action zz", "action zz s", "zz s t", "pool Zz s", "agent zz s, t", "pool zz s T", "pool zzzzzzzzz s", "agent  zz s", "agent zz s\n"] : List Str), rdL z = none := by
  have h : (["", "agent zz s s", "pool zz", "agent zz a b c d e f g", "agents zz s", "action zz", "action zz s", "zz s t", "pool Zz s", "agent zz s, t", "pool zz s T", "pool zzzzzzzzz s", "agent  zz s", "agent zz s\n"] : List Str).all (fun z => (rdL z).isNone) = true := by decide +kernel
  intro z hz
  have := List.all_eq_true.mp h z hz
  cases q : rdL z with
  | none => rfl
  | some u =>
    rw [q] at this
    cases this
end Gk

set_option Elab.async false
set_option linter.all false
set_option maxRecDepth 100000
set_option maxHeartbeats 8000000
namespace Gk
open PySem PySem.Spec PyProof.Rows L2
def agOf : List Told → List Own
  | [] => []
  | .ow true o :: r => o :: agOf r
  | .ow false _ :: r => agOf r
  | .ac _ :: r => agOf r
def plOf : List Told → List Own
  | [] => []
  | .ow false o :: r => o :: plOf r
  | .ow true _ :: r => plOf r
  | .ac _ :: r => plOf r
def acOf : List Told → List Act
  | [] => []
  | .ac x :: r => x :: acOf r
  | .ow _ _ :: r => acOf r
def ownNm (us : List Told) : List Str := (agOf us).map (·.1) ++ (plOf us).map (·.1)
/-- nothing is taken -/
structure Free (st : Tabs3) (us : List Told) : Prop where
  o : ((st.1.map (·.1) ++ st.2.1.map (·.1)) ++ ownNm us).Nodup
  a : (st.2.2.map (·.1) ++ (acOf us).map (·.1)).Nodup
theorem nd_mid {l r : List Str} {x : Str} (h : (l ++ x :: r).Nodup) : x ∉ l ∧ ((l ++ [x]) ++ r).Nodup := by
  refine ⟨fun hm => ?_, by rw [List.append_assoc]; exact h⟩
  exact (List.nodup_append.mp h).2.2 _ hm _ (List.mem_cons_self ..) rfl
theorem nd_of_perm {a b : List Str} (p : a.Perm b) (h : a.Nodup) : b.Nodup := p.nodup_iff.mp h
theorem perm_ag {a b c d : List Str} {x : Str} : ((a ++ b) ++ (x :: c ++ d)).Perm (((a ++ [x]) ++ b) ++ (c ++ d)) := by
  simp only [List.append_assoc, List.cons_append, List.nil_append]
  refine List.Perm.append_left a ?_
  exact List.perm_middle
theorem perm_pl {a b c d : List Str} {x : Str} : ((a ++ b) ++ (c ++ x :: d)).Perm ((a ++ (b ++ [x])) ++ (c ++ d)) := by
  simp only [List.append_assoc, List.cons_append, List.nil_append]
  refine List.Perm.append_left a (List.Perm.append_left b ?_)
  exact List.perm_middle
theorem free_step {st : Tabs3} {u : Told} {r : List Told} (h : Free st (u :: r)) : takenB st.1 st.2.1 st.2.2 u = false ∧ Free (addT st u) r := by
  cases u with
  | ac x =>
    have ha : (st.2.2.map (·.1) ++ x.1 :: (acOf r).map (·.1)).Nodup := h.a
    obtain ⟨n, nd⟩ := nd_mid ha
    refine ⟨decide_eq_false n, h.o, ?_⟩
    show ((st.2.2 ++ [x]).map (·.1) ++ (acOf r).map (·.1)).Nodup
    rw [List.map_append]
    exact nd
  | ow b o =>
    cases b with
    | true =>
      have ho : ((st.1.map (·.1) ++ st.2.1.map (·.1)) ++ (o.1 :: (agOf r).map (·.1) ++ (plOf r).map (·.1))).Nodup := h.o
      obtain ⟨n, _⟩ := nd_mid (l := st.1.map (·.1) ++ st.2.1.map (·.1)) (x := o.1) (r := (agOf r).map (·.1) ++ (plOf r).map (·.1)) ho
      rw [List.mem_append, not_or] at n
      refine ⟨?_, ?_, h.a⟩
      · show (decide _ || decide _) = false
        rw [decide_eq_false n.1, decide_eq_false n.2]
        rfl
      · show (((st.1 ++ [o]).map (·.1) ++ st.2.1.map (·.1)) ++ ownNm r).Nodup
        rw [List.map_append]
        exact nd_of_perm perm_ag ho
    | false =>
      have ho : ((st.1.map (·.1) ++ st.2.1.map (·.1)) ++ ((agOf r).map (·.1) ++ o.1 :: (plOf r).map (·.1))).Nodup := h.o
      have ho2 := nd_of_perm perm_pl ho
      have n : o.1 ∉ st.1.map (·.1) ++ st.2.1.map (·.1) := fun hm => (List.nodup_append.mp ho).2.2 _ hm _ (List.mem_append_right _ (List.mem_cons_self ..)) rfl
      rw [List.mem_append, not_or] at n
      refine ⟨?_, ?_, h.a⟩
      · show (decide _ || decide _) = false
        rw [decide_eq_false n.1, decide_eq_false n.2]
        rfl
      · show ((st.1.map (·.1) ++ (st.2.1 ++ [o]).map (·.1)) ++ ownNm r).Nodup
        rw [List.map_append]
        exact ho2
def addAll (st : Tabs3) (us : List Told) : Tabs3 := (st.1 ++ agOf us, st.2.1 ++ plOf us, st.2.2 ++ acOf us)
theorem addAll_step (st : Tabs3) (u : Told) (r : List Told) : addAll (addT st u) r = addAll st (u :: r) := by
  unfold addAll
  cases u with
  | ac x =>
    show (st.1 ++ agOf r, st.2.1 ++ plOf r, (st.2.2 ++ [x]) ++ acOf r) = (st.1 ++ agOf r, st.2.1 ++ plOf r, st.2.2 ++ (x :: acOf r))
    rw [List.append_assoc]
    rfl
  | ow b o =>
    cases b with
    | true =>
      show ((st.1 ++ [o]) ++ agOf r, st.2.1 ++ plOf r, st.2.2 ++ acOf r) = (st.1 ++ (o :: agOf r), st.2.1 ++ plOf r, st.2.2 ++ acOf r)
      rw [List.append_assoc]
      rfl
    | false =>
      show (st.1 ++ agOf r, (st.2.1 ++ [o]) ++ plOf r, st.2.2 ++ acOf r) = (st.1 ++ agOf r, st.2.1 ++ (o :: plOf r), st.2.2 ++ acOf r)
      rw [List.append_assoc]
      rfl
/-- free lines are all read, then it goes on -/
theorem run_free : ∀ (us : List Told) (i : Nat) (st : Tabs3) (rest : List (Option Told)), Free st us → runT (us.map some ++ rest) i st = runT rest (i + us.length) (addAll st us)
  | [], i, st, rest, _ => by
    show runT rest i st = runT rest (i + 0) (st.1 ++ [], st.2.1 ++ [], st.2.2 ++ [])
    rw [List.append_nil, List.append_nil, List.append_nil]
    rfl
  | u :: r, i, st, rest, h => by
    obtain ⟨h1, h2⟩ := free_step h
    show (if takenB st.1 st.2.1 st.2.2 u = true then .inl i else runT (r.map some ++ rest) (i + 1) (addT st u)) = _
    rw [h1, if_neg Bool.false_ne_true, run_free r (i + 1) (addT st u) rest h2, addAll_step]
    have e : i + 1 + r.length = i + (u :: r).length := by rw [List.length_cons]; omega
    rw [e]
theorem run_all {us : List Told} (h : Free ([], [], []) us) : runT (us.map some) 0 ([], [], []) = .inr (agOf us, plOf us, acOf us) := by
  have e := run_free us 0 ([], [], []) [] h
  rw [List.append_nil] at e
  rw [e]
  rfl
theorem run_wrong {us : List Told} {rest : List (Option Told)} (h : Free ([], [], []) us) : runT (us.map some ++ none :: rest) 0 ([], [], []) = .inl us.length := by
  rw [run_free us 0 ([], [], []) (none :: rest) h, Nat.zero_add]
  rfl
theorem run_taken {us : List Told} {u : Told} {rest : List (Option Told)} (h : Free ([], [], []) us) (ht : takenB (agOf us) (plOf us) (acOf us) u = true) : runT (us.map some ++ some u :: rest) 0 ([], [], []) = .inl us.length := by
  rw [run_free us 0 ([], [], []) (some u :: rest) h, Nat.zero_add]
  show (if takenB (agOf us) (plOf us) (acOf us) u = true then _ else _) = _
  rw [if_pos ht]
theorem agOf_app : ∀ (a b : List Told), agOf (a ++ b) = agOf a ++ agOf b
  | [], _ => rfl
  | .ow true o :: r, b => by show o :: agOf (r ++ b) = o :: agOf r ++ agOf b; rw [agOf_app r b]; rfl
  | .ow false o :: r, b => agOf_app r b
  | .ac _ :: r, b => agOf_app r b
theorem plOf_app : ∀ (a b : List Told), plOf (a ++ b) = plOf a ++ plOf b
  | [], _ => rfl
  | .ow false o :: r, b => by show o :: plOf (r ++ b) = o :: plOf r ++ plOf b; rw [plOf_app r b]; rfl
  | .ow true o :: r, b => plOf_app r b
  | .ac _ :: r, b => plOf_app r b
theorem acOf_app : ∀ (a b : List Told), acOf (a ++ b) = acOf a ++ acOf b
  | [], _ => rfl
  | .ac x :: r, b => by show x :: acOf (r ++ b) = x :: acOf r ++ acOf b; rw [acOf_app r b]; rfl
  | .ow _ _ :: r, b => acOf_app r b
theorem agOf_perm {a b : List Told} (p : a.Perm b) : (agOf a).Perm (agOf b) := by
  induction p with
  | nil => exact .nil
  | cons x _ ih =>
    cases x with
    | ac x => exact ih
    | ow b o =>
      cases b
      · exact ih
      · exact .cons _ ih
  | swap x y l =>
    rcases x with ⟨b, o⟩ | x <;> rcases y with ⟨b', o'⟩ | y <;> (try cases b) <;> (try cases b') <;> first | exact .refl _ | exact .swap _ _ _
  | trans _ _ h1 h2 => exact h1.trans h2
theorem plOf_perm {a b : List Told} (p : a.Perm b) : (plOf a).Perm (plOf b) := by
  induction p with
  | nil => exact .nil
  | cons x _ ih =>
    cases x with
    | ac x => exact ih
    | ow b o =>
      cases b
      · exact .cons _ ih
      · exact ih
  | swap x y l =>
    rcases x with ⟨b, o⟩ | x <;> rcases y with ⟨b', o'⟩ | y <;> (try cases b) <;> (try cases b') <;> first | exact .refl _ | exact .swap _ _ _
  | trans _ _ h1 h2 => exact h1.trans h2
theorem acOf_perm {a b : List Told} (p : a.Perm b) : (acOf a).Perm (acOf b) := by
  induction p with
  | nil => exact .nil
  | cons x _ ih =>
    cases x with
    | ac x => exact .cons _ ih
    | ow b o => exact ih
  | swap x y l =>
    rcases x with ⟨b, o⟩ | x <;> rcases y with ⟨b', o'⟩ | y <;> (try cases b) <;> (try cases b') <;> first | exact .refl _ | exact .swap _ _ _
  | trans _ _ h1 h2 => exact h1.trans h2
/-- what the lines of a system say -/
def toldOf (ag pl : List Own) (as : List Act) : List Told := ag.map (.ow true) ++ pl.map (.ow false) ++ as.map .ac
theorem told_ag (ag pl : List Own) (as : List Act) : agOf (toldOf ag pl as) = ag ∧ plOf (toldOf ag pl as) = pl ∧ acOf (toldOf ag pl as) = as := by
  have h1 : ∀ l : List Own, agOf (l.map (.ow true)) = l ∧ plOf (l.map (.ow true)) = [] ∧ acOf (l.map (.ow true)) = [] := fun l => by
    induction l with
    | nil => exact ⟨rfl, rfl, rfl⟩
    | cons o r ih => exact ⟨congrArg (o :: ·) ih.1, ih.2.1, ih.2.2⟩
  have h2 : ∀ l : List Own, agOf (l.map (.ow false)) = [] ∧ plOf (l.map (.ow false)) = l ∧ acOf (l.map (.ow false)) = [] := fun l => by
    induction l with
    | nil => exact ⟨rfl, rfl, rfl⟩
    | cons o r ih => exact ⟨ih.1, congrArg (o :: ·) ih.2.1, ih.2.2⟩
  have h3 : ∀ l : List Act, agOf (l.map .ac) = [] ∧ plOf (l.map .ac) = [] ∧ acOf (l.map .ac) = l := fun l => by
    induction l with
    | nil => exact ⟨rfl, rfl, rfl⟩
    | cons o r ih => exact ⟨ih.1, ih.2.1, congrArg (o :: ·) ih.2.2⟩
  unfold toldOf
  refine ⟨?_, ?_, ?_⟩
  · rw [agOf_app, agOf_app, (h1 ag).1, (h2 pl).1, (h3 as).1, List.append_nil, List.append_nil]
  · rw [plOf_app, plOf_app, (h1 ag).2.1, (h2 pl).2.1, (h3 as).2.1, List.nil_append, List.append_nil]
  · rw [acOf_app, acOf_app, (h1 ag).2.2, (h2 pl).2.2, (h3 as).2.2, List.nil_append, List.nil_append]
end Gk

set_option Elab.async false
set_option linter.all false
set_option maxRecDepth 100000
set_option maxHeartbeats 8000000
namespace Gk
open PySem PySem.Spec PyProof.Rows L2
abbrev s_wrong_line : Stmt := topS 53
theorem sc_wrong_line : FnScope ["tape", "line", "odd"] ["tape", "line"] (defScope s_wrong_line) := ⟨rfl, rfl, rfl, by decide +kernel, rfl, by decide +kernel, by decide +kernel⟩
/-- a right line -/
structure LnOk (z : Str) : Prop where
  u : ∃ u, rdL z = some u
  a : ∀ a ∈ TL.tl z, a < 128
  l : z.length ≤ 2000
  w : ∃ wd r, isW wd = true ∧ z = wd ++ " " ++ r
def spWrongL (K : PySem.W.Frag) : Sp := fun vs H Q _ => ∃ (t : Addr) (z : Str), vs = [.ref t, .str z] ∧ Tp H t ∧ LnOk z ∧ ∀ x H', Kt t H H' → LnV K H' x none → Q x H'
theorem ln_nosp {z : Str} (h : 32 ∉ TL.tl z) : rdL z = none := by
  cases q : rdL z with
  | none => rfl
  | some u =>
    rcases part_cases z with ⟨a, b, ha, e, hp⟩ | ⟨hn, hp⟩
    · have hm : 32 ∈ TL.tl z := by
        rw [e, TL.tl_append, TL.tl_append, tl_sp]
        simp
      exact absurd hm h
    · unfold rdL at q
      rw [hp] at q
      have hd : ¬ HeadL (TL.tl Str.empty) := fun ⟨a, r, e, _⟩ => by cases e
      dsimp only at q
      rw [rdA_head hd, rdO_head hd] at q
      split at q <;> try cases q
      split at q <;> try cases q
      split at q <;> cases q
theorem up_len {z : Str} (ha : ∀ a ∈ TL.tl z, a < 128) : (Txt.upper z).length ≤ z.length := by
  rw [PyProof.Rows.upper_ascii (x := z) ha]
  show (z.cps.map PyProof.Rows.up1).size ≤ z.cps.size
  rw [Array.size_map]
  exact Nat.le_refl _
theorem dbl_len : ∀ l : List Nat, (StrLaws.dbl 32 l).length ≤ 2 * l.length
  | [] => Nat.le_refl _
  | c :: r => by
    have e : StrLaws.dbl 32 (c :: r) = StrLaws.dbl 32 [c] ++ StrLaws.dbl 32 r := StrLaws.dbl_append 32 [c] r
    have h := dbl_len r
    rw [e, List.length_append, List.length_cons]
    have h1 : (StrLaws.dbl 32 [c]).length ≤ 2 := by
      by_cases hc : c = 32
      · rw [hc]
        decide
      · rw [dbl_none [c] (fun hm => hc (List.mem_singleton.mp hm).symm)]
        exact Nat.le_succ 1
    omega
theorem rep_len (z : Str) : (Txt.replace z " " "  ").length ≤ 2 * z.length := by
  have h := StrLaws.replace_double z 32
  have e1 : (⟨#[32]⟩ : Str) = " " := by decide +kernel
  have e2 : (⟨#[32, 32]⟩ : Str) = "  " := by decide +kernel
  rw [e1, e2] at h
  have h : TL.tl (Txt.replace z " " "  ") = StrLaws.dbl 32 (TL.tl z) := h
  rw [TL.len_tl, TL.len_tl, h]
  exact dbl_len _
section
variable {P : Program} {w : World} {K : PySem.W.Frag} {mg : Str → Option Value} {base : Heap}
theorem ok_wrong_line {f fP : Addr} {fd fdP : FuncData} (B : Blt mg) (D_pick : Df K mg "_law_pick" s_pick ["tape", "items"] fP fdP) (G_pick : FnOk P w K mg base CX0 2 fP fdP ["tape", "items"] (spPick K))
    (D : Df K mg "_law_wrong_line" s_wrong_line ["tape", "line"] f fd) : FnOk P w K mg base CX0 3 f fd ["tape", "line"] (spWrongL K) := by
  refine D.F.ok sc_wrong_line (fun vs H Q E h => ?_) (fun cdv A outer s H vs Q E hr h => ?_)
  · obtain ⟨t, z, rfl, _⟩ := h
    rfl
  · obtain ⟨t, z, rfl, hT, hz, q⟩ := h
    refine ⟨_, (pss_cons (ps_set (i := 2) sc_wrong_line.nd rfl (Or.inl rfl) (pe_lstN (pa_mark op_add_str (pv 1) (pat_cons (CwR.PET.of (pe_op op_add_str pe_str (pv 1))) (pat_cons (CwR.pet_replC (pv 1)) (pat_of (pa_cons (pe_upper (pv 1)) (pa_cons (pe_op op_add_str (pv 1) pe_str) (pa_cons (pe_ix ix_list (pe_split (pv 1) pe_str) pe_int (fun _ _ => rfl)) (pa_cons pe_str (pa_cons pe_non (pa_cons pe_int pa_nil))))))))))))
    (pss_cons (ps_set (i := 2) sc_wrong_line.nd rfl (Or.inl rfl) (pe_op op_catN (pv 2) (pe_lstN (pa_cons pe_str (pa_cons pe_str (pa_cons pe_str (pa_cons pe_str (pa_cons pe_str (pa_cons pe_str pa_nil)))))))))
    (pss_cons (ps_expr (pe_bm PySem.F.plainAttrs_list PySem.F.slot_list_append PySem.F.type_list_append mt_append (pv 2) (pa_cons pe_str pa_nil)))
    (pss_cons (ps_set (i := 2) sc_wrong_line.nd rfl (Or.inl rfl) (pe_op op_catN (pv 2) (pe_lstN (pa_cons pe_str (pa_cons pe_str (pa_cons pe_str (pa_cons pe_str (pa_cons pe_str pa_nil))))))))
    (pss_one (ps_ret (pe_call G_pick (hr.mono (by decide)) (by rfl) D_pick.g D_pick.F.kp D_pick.b .nil pass0 (pa_cons (pv 0) (pa_cons (pe_op op_catN (pv 2) (pe_lstN (pa_cons (pe_tupN (pa_cons (pv 1) pa_nil)) (pa_cons pe_str (pa_cons pe_str (pa_cons pe_str pa_nil)))))) pa_nil))))))))), ?_⟩
    have sl : ∀ n : Nat, n ≤ 100000 → n ≤ sizeLine := fun n hn => by rw [sizeLine_eq]; omega
    have hzl := hz.l
    have e1 : (Str.ofString " ").length = 1 := by decide +kernel
    have e2 : (Str.ofString "  ").length = 2 := by decide +kernel
    have e3 : (Str.ofString ",").length = 1 := by decide +kernel
    obtain ⟨w0, wr, hw0⟩ : ∃ w0 wr, Txt.split z " " = w0 :: wr := by
      cases e : Txt.split z " " with
      | nil => exact absurd e (split_ne z)
      | cons a r => exact ⟨a, r, rfl⟩
    have n0 : rdL w0 = none := ln_nosp (split_part (z := z) (by rw [hw0]; exact List.mem_cons_self ..)).2
    have l0 : w0.length ≤ 80000 := Nat.le_trans (split_piece (x := z) (y := " ") sp_ne sp_asc (by rw [hw0]; exact List.mem_cons_self ..)) (by omega)
    obtain ⟨u, hu⟩ := hz.u
    obtain ⟨wd, r, hwd, ez⟩ := hz.w
    have m1 : rdL (z ++ " ") = none := ln_sp
    have m2 : rdL (" " ++ z) = none := ln_pre
    have m3 : rdL (Txt.replace z " " "  ") = none := by rw [ez]; exact ln_dbl hwd
    have m4 : rdL (Txt.upper z) = none := ln_upper hu hz.a
    have m5 : rdL (z ++ ",") = none := ln_com
    have k1 : (z ++ (" " : Str)).length ≤ 80000 := by rw [Str.length_append, e1]; omega
    have k2 : ((" " : Str) ++ z).length ≤ 80000 := by rw [Str.length_append, e1]; omega
    have k5 : (z ++ ("," : Str)).length ≤ 80000 := by rw [Str.length_append, e3]; omega
    have k3 : (Txt.replace z " " "  ").length ≤ 80000 := Nat.le_trans (rep_len z) (by omega)
    have k4 : (Txt.upper z).length ≤ 80000 := Nat.le_trans (up_len hz.a) (by omega)
    refine ⟨_, rfl, _, _, rfl, rfl, sl _ (by rw [e1]; omega), _, rfl, _, _, rfl, rfl, sl _ (by rw [e1]; omega), _, rfl, _, rfl, by rw [e2]; omega, ?_⟩
    refine ⟨_, rfl, ⟨_, rfl⟩, z, rfl, rfl, by omega, _, rfl, _, _, rfl, rfl, sl _ (by rw [e3]; omega), _, rfl, ⟨_, rfl⟩, z, _, rfl, rfl, by rw [e1]; rfl, sl _ (by omega), fun p1 np1 => ?_⟩
    rw [hw0]
    refine ⟨p1, _, 0, .str w0, rfl, rfl, SqL.of upd_same, atI_nat (j := 0) rfl, sl 9 (by decide), fun F H2 nF eF sF => ?_⟩
    have t1 := Kt.new (o := .lst ((w0 :: wr).map V.str)) hT np1
    have k02 : Kt t H H2 := t1.trans (Kt.same t1.tp sF)
    generalize upd H p1 (.lst ((w0 :: wr).map V.str)) = H1 at *
    refine ⟨_, rfl, sl 6 (by decide), fun F2 H3 n3 e3' s3 => ⟨F, F2, _, _, rfl, rfl, s3 _ _ eF, e3', sl _ (by show 15 ≤ 100000; decide), fun F3 H4 n4 e4 s4 => ?_⟩⟩
    have k04 := k02.trans ((Kt.same k02.tp s3).trans (Kt.same (Kt.same k02.tp s3).tp s4))
    have nF3 : F3 ≠ t := Kt.ne (k02.trans (Kt.same k02.tp s3)).tp n4
    have nF3H : H F3 = none := (k02.trans (Kt.same k02.tp s3)).free n4
    refine ⟨_, rfl, .inl ⟨rfl, _, SqL.of e4⟩, F3, _, _, rfl, rfl, e4, small1000 (by show 15 ≤ 1000; decide), ?_⟩
    have e5 : (upd H4 F3 (.lst ([V.str (z ++ " "), V.str (" " ++ z), V.str (Txt.replace z " " "  "), V.str (Txt.upper z), V.str (z ++ ","), V.str w0, V.str "", V.non, V.int 5] ++ [V.str "agent zz s s", V.str "pool zz", V.str "agent zz a b c d e f g", V.str "agents zz s", V.str "action zz", V.str "action zz s"] ++ [V.str "zz s t"]))) F3 = some (.lst ([V.str (z ++ " "), V.str (" " ++ z), V.str (Txt.replace z " " "  "), V.str (Txt.upper z), V.str (z ++ ","), V.str w0, V.str "", V.non, V.int 5] ++ [V.str "agent zz s s", V.str "pool zz", V.str "agent zz a b c d e f g", V.str "agents zz s", V.str "action zz", V.str "action zz s"] ++ [V.str "zz s t"])) := upd_same
    have k05 : Kt t H (upd H4 F3 (.lst ([V.str (z ++ " "), V.str (" " ++ z), V.str (Txt.replace z " " "  "), V.str (Txt.upper z), V.str (z ++ ","), V.str w0, V.str "", V.non, V.int 5] ++ [V.str "agent zz s s", V.str "pool zz", V.str "agent zz a b c d e f g", V.str "agents zz s", V.str "action zz", V.str "action zz s"] ++ [V.str "zz s t"]))) := k04.mut nF3H nF3
    generalize upd H4 F3 (.lst ([V.str (z ++ " "), V.str (" " ++ z), V.str (Txt.replace z " " "  "), V.str (Txt.upper z), V.str (z ++ ","), V.str w0, V.str "", V.non, V.int 5] ++ [V.str "agent zz s s", V.str "pool zz", V.str "agent zz a b c d e f g", V.str "agents zz s", V.str "action zz", V.str "action zz s"] ++ [V.str "zz s t"])) = H5 at e5 k05 ⊢
    refine ⟨_, rfl, sl 5 (by decide), fun F6 H6 n6 e6 s6 => ⟨F3, F6, _, _, rfl, rfl, s6 _ _ e5, e6, sl _ (by show 21 ≤ 100000; decide), fun F7 H7 n7 e7 s7 => ?_⟩⟩
    have k07 := k05.trans ((Kt.same k05.tp s6).trans (Kt.same (Kt.same k05.tp s6).tp s7))
    refine ⟨_, rfl, _, rfl, _, rfl, sl 1 (by decide), fun T H8 n8 e8 s8 => ⟨sl 4 (by decide), fun F9 H9 n9 e9 s9 => ?_⟩⟩
    refine ⟨F7, F9, _, _, rfl, rfl, s9 _ _ (s8 _ _ e7), e9, sl _ (by show 25 ≤ 100000; decide), fun F10 H10 n10 e10 s10 => ?_⟩
    have t8 := (Kt.same k07.tp s8).tp
    have t9 := (Kt.same t8 s9).tp
    have k10 := k07.trans ((Kt.same k07.tp s8).trans ((Kt.same t8 s9).trans (Kt.same t9 s10)))
    refine ⟨t, _, _, rfl, k10.tp, .inl ⟨F10, rfl, Kt.ne t9 n10, .inl (SqL.of e10)⟩, by show 0 < 25; decide, by show 25 < 100000; decide, fun y H11 hy k11 => ?_⟩
    refine q y H11 (k10.trans k11) ?_
    have st : ∀ s : Str, s.length ≤ 80000 → rdL s = none → LnV K H11 (.str s) none := fun s h1 h2 => .inl ⟨s, rfl, h1, h2.symm⟩
    have od : ∀ s ∈ (["", "agent zz s s", "pool zz", "agent zz a b c d e f g", "agents zz s", "action zz", "action zz s", "zz s t", "pool Zz s", "agent zz s, t", "pool zz s T", "pool zzzzzzzzz s", "agent  zz s", "agent zz s\n"] : List Str), s.length ≤ 80000 := by decide +kernel
    have o2 : ∀ s ∈ (["", "agent zz s s", "pool zz", "agent zz a b c d e f g", "agents zz s", "action zz", "action zz s", "zz s t", "pool Zz s", "agent zz s, t", "pool zz s T", "pool zzzzzzzzz s", "agent  zz s", "agent zz s\n"] : List Str), LnV K H11 (.str s) none := fun s hs => st s (od s hs) (odd_lines s hs)
    have eT : H11 T = some (.tup [V.str z]) := k11.at k10.tp (s10 _ _ (s9 _ _ e8)) (fun _ _ _ h => by cases h)
    simp only [List.mem_append, List.mem_cons, List.not_mem_nil, or_false] at hy
    have m21 : rdL "action zz kin s t,kin s t" = none := by
      cases q : rdL "action zz kin s t,kin s t" with
      | none => rfl
      | some u =>
        have h : (rdL "action zz kin s t,kin s t").isNone = true := by decide +kernel
        rw [q] at h
        cases h
    have m22 : rdL "action zz kin s t, ann s s" = none := by
      have e : (Str.ofString "action zz kin s t, ann s s") = Str.ofString "action" ++ " " ++ "zz kin s t, ann s s" := by decide +kernel
      rw [e, rdL_act]
      cases q : rdA "zz kin s t, ann s s" with
      | none => rfl
      | some x =>
        obtain ⟨_, _, _, _, hs, _⟩ := rdA_some (c := x.1) (ms := x.2) q
        have e2 : (Str.ofString "zz kin s t, ann s s") = Str.ofString "zz" ++ " " ++ "kin s t, ann s s" := by decide +kernel
        rw [e2, rdA_cut (w_nosp (by decide +kernel))] at q
        have ep : (prs "kin s t, ann s s").map toMv = [(("kin" : Str), ("s" : Str), ("t" : Str)), (("ann" : Str), ("s" : Str), ("s" : Str))] := by decide +kernel
        rw [ep] at q
        split at q
        · cases Option.some.inj q
          have hp := sortM_pw [(("kin" : Str), ("s" : Str), ("t" : Str)), (("ann" : Str), ("s" : Str), ("s" : Str))]
          rw [hs] at hp
          have h1 : mvLe (("kin" : Str), ("s" : Str), ("t" : Str)) (("ann" : Str), ("s" : Str), ("s" : Str)) = true := (List.pairwise_cons.mp hp).1 _ (List.mem_cons_self ..)
          have h2 : mvLe (("kin" : Str), ("s" : Str), ("t" : Str)) (("ann" : Str), ("s" : Str), ("s" : Str)) = false := by decide +kernel
          rw [h2] at h1
          cases h1
        · cases q
    rcases hy with ((((rfl | rfl | rfl | rfl | rfl | rfl | rfl | rfl | rfl) | rfl | rfl | rfl | rfl | rfl | rfl) | rfl) | rfl | rfl | rfl | rfl | rfl) | rfl | rfl | rfl | rfl
    · exact st _ k1 m1
    · exact st _ k2 m2
    · exact st _ k3 m3
    · exact st _ k4 m4
    · exact st _ k5 m5
    · exact st _ l0 n0
    · exact o2 _ (by simp)
    · exact .inr ⟨.type "NoneType", .base .non, kit_ty (by decide +kernel), rfl⟩
    · exact .inr ⟨.type "int", .base (.int _), kit_ty (by decide +kernel), rfl⟩
    · exact o2 _ (by simp)
    · exact o2 _ (by simp)
    · exact o2 _ (by simp)
    · exact o2 _ (by simp)
    · exact o2 _ (by simp)
    · exact o2 _ (by simp)
    · exact o2 _ (by simp)
    · exact o2 _ (by simp)
    · exact o2 _ (by simp)
    · exact st _ (by decide +kernel) m21
    · exact st _ (by decide +kernel) m22
    · exact o2 _ (by simp)
    · exact .inr ⟨.type "tuple", .base (.tup eT), kit_ty (by decide +kernel), rfl⟩
    · exact o2 _ (by simp)
    · exact o2 _ (by simp)
    · exact o2 _ (by simp)
end
end Gk

set_option Elab.async false
set_option linter.all false
set_option maxRecDepth 100000
set_option maxHeartbeats 8000000
namespace Gk
open PySem PySem.Spec PyProof.Rows L2
theorem key_inj {β : Type} : ∀ {l : List (Str × β)}, (l.map (·.1)).Nodup → ∀ {a b : Str × β}, a ∈ l → b ∈ l → a.1 = b.1 → a = b
  | [], _, _, _, h, _, _ => nomatch h
  | c :: r, nd, a, b, ha, hb, e => by
    have nd' := List.nodup_cons.mp (show (c.1 :: r.map (·.1)).Nodup from nd)
    rcases List.mem_cons.mp ha with ha | ha
    · rcases List.mem_cons.mp hb with hb | hb
      · rw [ha, hb]
      · exact absurd (List.mem_map.mpr ⟨b, hb, by rw [← e, ha]⟩) nd'.1
    · rcases List.mem_cons.mp hb with hb | hb
      · exact absurd (List.mem_map.mpr ⟨a, ha, by rw [e, hb]⟩) nd'.1
      · exact key_inj nd'.2 ha hb e
theorem sorted_pwK {β : Type} {l : List (Str × β)} (h : sortedS (l.map (·.1)) = true) : l.Pairwise fun a b => leT a.1 b.1 := List.pairwise_map.mp (sorted_pw h)
/-- what is in order by its names is one -/
theorem keyed_one {β : Type} {l m : List (Str × β)} (hl : sortedS (l.map (·.1)) = true) (hm : sortedS (m.map (·.1)) = true) (p : l.Perm m) (nd : (l.map (·.1)).Nodup) : l = m :=
  p.eq_of_pairwise (fun a b ha hb h1 h2 => key_inj nd ha (p.mem_iff.mpr hb) (leT_anti h1 h2)) (sorted_pwK hl) (sorted_pwK hm)
/-- systems of the same parts are one -/
theorem sys_one {K : PySem.W.Frag} {H H' : Hp} {CS CA a b : Addr} {ag pl ag1 pl1 ag2 pl2 : List Own} {as as1 as2 : List Act} (h1 : SysV K H CS CA a ag1 pl1 as1) (h2 : SysV K H' CS CA b ag2 pl2 as2) (pa1 : ag1.Perm ag) (pp1 : pl1.Perm pl) (px1 : as1.Perm as) (pa2 : ag2.Perm ag) (pp2 : pl2.Perm pl) (px2 : as2.Perm as) : ag1 = ag2 ∧ pl1 = pl2 ∧ as1 = as2 :=
  ⟨keyed_one h1.sA h2.sA (pa1.trans pa2.symm) h1.ok.nda, keyed_one h1.sP h2.sP (pp1.trans pp2.symm) h1.ok.ndp, keyed_one h1.sX h2.sX (px1.trans px2.symm) h1.ok.ndx⟩
/-- the parts of a drawn system -/
structure OkR (ag pl : List Own) (as : List Act) : Prop where
  s : OkSys ag pl as
  x : ∀ x ∈ as, rdA (liA x.1 x.2) = some x
  fit : ∀ x ∈ as, Fit ag pl x.2
theorem OkR.perm {ag pl ag' pl' : List Own} {as as' : List Act} (h : OkR ag pl as) (pa : ag'.Perm ag) (pp : pl'.Perm pl) (px : as'.Perm as) : OkR ag' pl' as' :=
  ⟨h.s.perm pa pp px, fun x hx => h.x x (px.mem_iff.mp hx), fun x hx => (h.fit x (px.mem_iff.mp hx)).perm pa pp⟩
theorem OkR.told {ag pl : List Own} {as : List Act} (h : OkR ag pl as) : (linesOf ag pl as).map rdL = (toldOf ag pl as).map some := by
  unfold linesOf toldOf
  rw [List.map_append, List.map_append, List.map_append, List.map_append, List.map_map, List.map_map, List.map_map, List.map_map, List.map_map, List.map_map]
  congr 1
  · congr 1
    · exact List.map_congr_left fun o ho => rdL_ow (b := true) (h.s.oa o ho).1 (h.s.oa o ho).2
    · exact List.map_congr_left fun o ho => rdL_ow (b := false) (h.s.op o ho).1 (h.s.op o ho).2
  · exact List.map_congr_left fun x hx => rdL_ac (h.x x hx)
theorem told_nm (ag pl : List Own) (as : List Act) : ownNm (toldOf ag pl as) = ag.map (·.1) ++ pl.map (·.1) := by
  unfold ownNm
  rw [(told_ag ag pl as).1, (told_ag ag pl as).2.1]
theorem free_perm {us vs : List Told} (p : us.Perm vs) (h : Free ([], [], []) vs) : Free ([], [], []) us := by
  have ho : (ownNm vs).Nodup := by have := h.o; simpa using this
  have ha : ((acOf vs).map (·.1)).Nodup := by have := h.a; simpa using this
  refine ⟨?_, ?_⟩
  · show (ownNm us).Nodup
    exact nd_of_perm (((agOf_perm p).map _).append ((plOf_perm p).map _)).symm ho
  · show ((acOf us).map (·.1)).Nodup
    exact nd_of_perm ((acOf_perm p).map _).symm ha
theorem OkSys.free {ag pl : List Own} {as : List Act} (h : OkSys ag pl as) : Free ([], [], []) (toldOf ag pl as) := by
  refine ⟨?_, ?_⟩
  · show (ownNm (toldOf ag pl as)).Nodup
    rw [told_nm]
    exact List.nodup_append.mpr ⟨h.nda, h.ndp, fun a ha b hb e => h.dis a ha (e ▸ hb)⟩
  · show ((acOf (toldOf ag pl as)).map (·.1)).Nodup
    rw [(told_ag ag pl as).2.2]
    exact h.ndx
section
variable {K : PySem.W.Frag} {CS CA : Addr} {H : Hp} {Q : VK}
/-- right lines, in any order -/
theorem met_right {us : List Told} {ag pl : List Own} {as : List Act} (ok : OkR ag pl as) (p : us.Perm (toldOf ag pl as))
    (q : ∀ (a : Addr) (H' : Hp) (ag' pl' : List Own) (as' : List Act), Same H H' → H a = none → ag'.Perm ag → pl'.Perm pl → as'.Perm as → SysV K H' CS CA a ag' pl' as' → Q (.ref a) H') : MetQ K CS CA (us.map some) H Q := by
  have fr := free_perm p ok.s.free
  have pa := agOf_perm p
  have pp := plOf_perm p
  have px := acOf_perm p
  rw [(told_ag ag pl as).1] at pa
  rw [(told_ag ag pl as).2.1] at pp
  rw [(told_ag ag pl as).2.2] at px
  refine ⟨fun i hi => ?_, fun ag1 pl1 as1 hr => ?_⟩
  · rw [run_all fr] at hi
    cases hi
  · rw [run_all fr] at hr
    injection hr with hr
    injection hr with h1 hr
    injection hr with h2 h3
    subst h1 h2 h3
    have ok' := ok.perm pa pp px
    exact ⟨ok'.s.la, ok'.s.lp, ok'.s.l16, .inl ⟨ok'.s.l1, ok'.fit, fun a H' ag' pl' as' s n qa qp qx sv => q a H' ag' pl' as' s n (qa.trans pa) (qp.trans pp) (qx.trans px) sv⟩⟩
theorem met_stop {ts : List (Option Told)} {n : Nat} (h : runT ts 0 ([], [], []) = .inl n) (hn : n ≤ 100) (q : ∀ H', Same H H' → Q (.str (prT n)) H') : MetQ K CS CA ts H Q := by
  refine ⟨fun i hi => ?_, fun ag pl as hr => ?_⟩
  · rw [h] at hi
    injection hi with hi
    subst hi
    exact ⟨hn, q⟩
  · rw [h] at hr
    cases hr
/-- the first wrong line -/
theorem met_wrong {us : List Told} {rest : List (Option Told)} (fr : Free ([], [], []) us) (hn : us.length ≤ 100) (q : ∀ H', Same H H' → Q (.str (prT us.length)) H') : MetQ K CS CA (us.map some ++ none :: rest) H Q := met_stop (run_wrong fr) hn q
theorem met_taken {us : List Told} {u : Told} {rest : List (Option Told)} (fr : Free ([], [], []) us) (ht : takenB (agOf us) (plOf us) (acOf us) u = true) (hn : us.length ≤ 100) (q : ∀ H', Same H H' → Q (.str (prT us.length)) H') : MetQ K CS CA (us.map some ++ some u :: rest) H Q := met_stop (run_taken fr ht) hn q
/-- a part of the lines is free as well -/
theorem free_take {us : List Told} (h : Free ([], [], []) us) (n : Nat) : Free ([], [], []) (us.take n) := by
  have ho : ((agOf us).map (·.1) ++ (plOf us).map (·.1)).Nodup := h.o
  have ha : ((acOf us).map (·.1)).Nodup := h.a
  rw [← List.take_append_drop n us, agOf_app, plOf_app, List.map_append, List.map_append] at ho
  rw [← List.take_append_drop n us, acOf_app, List.map_append] at ha
  refine ⟨?_, (List.nodup_append.mp ha).1⟩
  show ((agOf (us.take n)).map (·.1) ++ (plOf (us.take n)).map (·.1)).Nodup
  refine List.Nodup.sublist ?_ ho
  exact List.Sublist.append (List.sublist_append_left _ _) (List.sublist_append_left _ _)
/-- no actions, or an action of none -/
theorem met_sys {us : List Told} {ag pl : List Own} {as : List Act} (fr : Free ([], [], []) us) (e : agOf us = ag ∧ plOf us = pl ∧ acOf us = as) (la : ag.length ≤ 5) (lp : pl.length ≤ 3) (lx : as.length ≤ 16) (b : SysBad ag pl as) (q : ∀ H', Same H H' → Q (.str "system") H') : MetQ K CS CA (us.map some) H Q := by
  obtain ⟨e1, e2, e3⟩ := e
  refine ⟨fun i hi => ?_, fun ag1 pl1 as1 hr => ?_⟩
  · rw [run_all fr] at hi
    cases hi
  · rw [run_all fr, e1, e2, e3] at hr
    injection hr with hr
    injection hr with h1 hr
    injection hr with h2 h3
    subst h1 h2 h3
    exact ⟨la, lp, lx, .inr ⟨b, q⟩⟩
end
end Gk

set_option Elab.async false
set_option linter.all false
set_option maxRecDepth 100000
set_option maxHeartbeats 8000000
namespace Gk
open PySem PySem.Spec PyProof.Rows L2
theorem OkPl.r {ag pl : List Own} {as : List Act} (h : OkPl ag pl as) : OkR ag pl as := by
  have d := okOw_d h.oA h.oP
  obtain ⟨k, k1, k5, e⟩ := h.nX
  have el := congrArg List.length e
  rw [List.length_map, List.length_take] at el
  have el : as.length = min k 5 := el
  have w : ∀ s ∈ (["buy", "go", "hop", "pay", "zip"] : List Str), isW s = true := by decide +kernel
  refine ⟨⟨d.la, d.lp, by omega, by omega, d.oa, d.op, d.nda, d.ndp, ?_, d.dis⟩, fun x hx => ?_, fun x hx => (h.a x hx).fit⟩
  · rw [e]
    exact tk_nd (by decide +kernel) k
  · have a := h.a x hx
    have hm : x.1 ∈ as.map (·.1) := List.mem_map.mpr ⟨x, hx, rfl⟩
    rw [e] at hm
    refine rdA_li (w _ (List.mem_of_mem_take hm)) (fun z => ?_) (by have := a.l3; omega) a.w a.s
    have := a.l1
    rw [z] at this
    simp at this
theorem OkPl.made {ag pl : List Own} {as : List Act} (h : OkPl ag pl as) : OkMade ag pl as := by
  refine ⟨h.r.s, fun x hx => ?_⟩
  have a := h.a x hx
  exact ⟨a.fit, a.l1, by have := a.l3; omega, a.w, (rdA_some (h.r.x x hx)).1⟩
theorem OkPl.sort {ag pl : List Own} {as : List Act} (h : OkPl ag pl as) : sortAs as = as := by
  have e : as.map (fun x => (x.1, sortM x.2)) = as.map id := List.map_congr_left fun x hx => by
    rw [(h.a x hx).s]
    rfl
  exact e.trans (List.map_id _)
theorem ln_ok {z : Str} {u : Told} (e : rdL z = some u) (a : ∀ a ∈ TL.tl z, a < 128) (l : z.length ≤ 2000) (w : ∃ wd r, isW wd = true ∧ z = wd ++ " " ++ r) : LnOk z := ⟨⟨u, e⟩, a, l, w⟩
theorem ow_lnOk {b : Bool} {o : Own} (h1 : isW o.1 = true) (h2 : OkSt o.2) : LnOk (owL (owW b) o) := by
  have hw : ∀ s ∈ owW b :: o.1 :: o.2, isW s = true := fun s hs => by
    rcases List.mem_cons.mp hs with e | hs
    · rw [e]; exact owW_w b
    · rcases List.mem_cons.mp hs with e | hs
      · rw [e]; exact h1
      · exact h2.w s hs
  refine ln_ok (rdL_ow h1 h2) (fun a ha => ?_) ?_ ⟨_, _, owW_w b, owL_jn _ o⟩
  · have := jn_in hw a ha
    omega
  · have := jn_len (owW b :: o.1 :: o.2) fun s hs => (isW_len (hw s hs)).2
    have l6 := h2.l6
    simp only [List.length_cons] at this
    show (jn (owW b :: o.1 :: o.2)).length ≤ 2000
    omega
theorem ac_lnOk {x : Act} (h : rdA (liA x.1 x.2) = some x) : LnOk (acL x) := by
  obtain ⟨h1, h2, h3, h4, h5, h6⟩ := rdA_some h
  refine ln_ok (rdL_ac h) (fun a ha => ?_) ?_ ⟨_, _, by decide +kernel, acL_cut x⟩
  · unfold acL at ha
    rw [TL.tl_append] at ha
    rcases List.mem_append.mp ha with ha | ha
    · have e : ∀ a ∈ TL.tl (Str.ofString "action "), a < 128 := by decide +kernel
      exact e a ha
    · exact li_ascii h1 h4 a ha
  · have := li_len h1 h3 h4
    unfold acL
    rw [Str.length_append, show (Str.ofString "action ").length = 7 by decide +kernel]
    omega
/-- each line of a right system -/
theorem OkR.ln {ag pl : List Own} {as : List Act} (h : OkR ag pl as) : ∀ z ∈ linesOf ag pl as, LnOk z := fun z hz => by
  unfold linesOf at hz
  rcases List.mem_append.mp hz with hz | hz
  · rcases List.mem_append.mp hz with hz | hz
    · obtain ⟨o, ho, rfl⟩ := List.mem_map.mp hz
      exact ow_lnOk (b := true) (h.s.oa o ho).1 (h.s.oa o ho).2
    · obtain ⟨o, ho, rfl⟩ := List.mem_map.mp hz
      exact ow_lnOk (b := false) (h.s.op o ho).1 (h.s.op o ho).2
  · obtain ⟨x, hx, rfl⟩ := List.mem_map.mp hz
    exact ac_lnOk (h.x x hx)
/-- lines in any order, and what each says -/
theorem lines_us {ag pl : List Own} {as : List Act} {ys : List Str} (h : OkR ag pl as) (p : ys.Perm (linesOf ag pl as)) : ∃ us : List Told, us.Perm (toldOf ag pl as) ∧ ys.map rdL = us.map some := by
  have hp := p.map rdL
  rw [h.told] at hp
  have hall : ∀ t ∈ ys.map rdL, ∃ u, t = some u := fun t ht => by
    obtain ⟨u, _, e⟩ := List.mem_map.mp (hp.mem_iff.mp ht)
    exact ⟨u, e.symm⟩
  have back : ∀ ts : List (Option Told), (∀ t ∈ ts, ∃ u, t = some u) → ts = (ts.filterMap id).map some := fun ts => by
    induction ts with
    | nil => intro _; rfl
    | cons t r ih =>
      intro hh
      obtain ⟨u, rfl⟩ := hh t (List.mem_cons_self ..)
      have e := ih fun t ht => hh t (List.mem_cons_of_mem _ ht)
      show some u :: r = some u :: (r.filterMap id).map some
      rw [← e]
  have hb := back _ hall
  refine ⟨(ys.map rdL).filterMap id, ?_, hb⟩
  have h2 := hp.filterMap id
  have e3 : ((toldOf ag pl as).map some).filterMap id = toldOf ag pl as := by
    rw [List.filterMap_map]
    exact List.filterMap_some
  rw [e3] at h2
  exact h2
theorem lnv_all {K : PySem.W.Frag} {H : Hp} : ∀ (ys : List Str), (∀ z ∈ ys, z.length ≤ 80000) → Paired (LnV K H) (ys.map V.str) (ys.map rdL)
  | [], _ => .nil
  | z :: r, h => .cons (.inl ⟨z, rfl, h z (List.mem_cons_self ..), rfl⟩) (lnv_all r fun z hz => h z (List.mem_cons_of_mem _ hz))
theorem sys_ty {K : PySem.W.Frag} {H : Hp} {CS CA a : Addr} {ag pl : List Own} {as : List Act} (IC : C8.InsC K CS) (v : SysV K H CS CA a ag pl as) : TyX K H (.ref a) (.ref CS) := by
  obtain ⟨⟨dx, dA, dP, dX, pL, dPl, dN, kA, kP, kX, h1, _⟩, _⟩ := v
  exact .base (.ins h1 IC.cl IC.ha IC.hn IC.htk IC.hm)
/-- == and != of two systems -/
theorem sys_eq {K : PySem.W.Frag} {H : Hp} {CS CA a b : Addr} {ag pl ag' pl' : List Own} {as as' : List Act} {E : XK} {neg : Bool} {Q : VK} (IC : C8.InsC K CS) (v : SysV K H CS CA a ag pl as) (v' : SysV K H CS CA b ag' pl' as') (q : Q (.bl (neg ^^ decide (linesOf ag pl as = linesOf ag' pl' as'))) H) : rEqO K CS (spEqS K CS CA) E neg (.ref a) (.ref b) H Q := by
  have v1 := v
  obtain ⟨⟨dx, dA, dP, dX, pL, dPl, dN, kA, kP, kX, h1, _⟩, _⟩ := v1
  refine ⟨a, .ref CS, rfl, ⟨dx, _, h1⟩, sys_ty IC v', ?_, a, .ref b, ag, pl, as, rfl, v, .inl ⟨b, ag', pl', as', rfl, v', _, rfl, q⟩⟩
  unfold PySem.W.notFirst
  simp
end Gk

set_option Elab.async false
set_option linter.all false
set_option maxRecDepth 100000
set_option maxHeartbeats 8000000
namespace Gk
open PySem PySem.Spec PyProof.Rows L2
theorem split_cons {wd r : Str} (h : 32 ∉ TL.tl wd) : Txt.split (wd ++ " " ++ r) " " = wd :: Txt.split r " " := by
  have hb := split_back (x := r) (y := " ") sp_ne sp_asc
  have e : wd ++ " " ++ r = jn (wd :: Txt.split r " ") := by
    rw [jn_cons wd (split_ne r)]
    show _ = wd ++ " " ++ Txt.join " " (Txt.split r " ")
    rw [hb]
  rw [e]
  exact split_jn (by simp) fun s hs => by
    rcases List.mem_cons.mp hs with e | hs
    · rw [e]; exact h
    · exact (split_part hs).2
theorem tl_cut (z : Str) (n : Nat) : TL.tl (cutS z none (some (n : Int))) = (TL.tl z).take n := by
  unfold cutS TL.tl
  rw [HT.sIx_nat, HT.sIx_none, List.drop_zero, Nat.sub_zero]
  show List.take _ z.cps.toList = z.cps.toList.take n
  rw [List.take_eq_take_iff]
  have : z.length = z.cps.toList.length := by
    show z.cps.size = _
    exact Array.length_toList.symm
  omega
theorem ta : TL.tl "agent" = [97, 103, 101, 110, 116] := by decide +kernel
theorem tp : TL.tl "pool" = [112, 111, 111, 108] := by decide +kernel
theorem tx : TL.tl "action" = [97, 99, 116, 105, 111, 110] := by decide +kernel
theorem tl_pre (wd r : Str) : TL.tl (wd ++ " " ++ r) = TL.tl wd ++ 32 :: TL.tl r := by
  rw [TL.tl_append, TL.tl_append, tl_sp, List.append_assoc]
  rfl
/-- the kind of a line, and the name in it -/
inductive LnKind (ag pl : List Own) (z nm : Str) : Prop
  | ag : nm ∈ ag.map (·.1) → cutS z none (some ((5 : Nat) : Int)) = "agent" → cutS z none (some ((6 : Nat) : Int)) ≠ "action" → LnKind ag pl z nm
  | pl : nm ∈ pl.map (·.1) → cutS z none (some ((5 : Nat) : Int)) ≠ "agent" → cutS z none (some ((6 : Nat) : Int)) ≠ "action" → LnKind ag pl z nm
  | ac : cutS z none (some ((5 : Nat) : Int)) ≠ "agent" → cutS z none (some ((6 : Nat) : Int)) = "action" → LnKind ag pl z nm
theorem ow_kind (b : Bool) (r : Str) : (b = true → cutS (owW b ++ " " ++ r) none (some ((5 : Nat) : Int)) = "agent") ∧ (b = false → cutS (owW b ++ " " ++ r) none (some ((5 : Nat) : Int)) ≠ "agent") ∧ cutS (owW b ++ " " ++ r) none (some ((6 : Nat) : Int)) ≠ "action" := by
  cases b
  · refine ⟨fun h => (by cases h), fun _ e => ?_, fun e => ?_⟩
    · have h := congrArg TL.tl e
      rw [tl_cut, tl_pre, ta, show owW false = "pool" from rfl, tp] at h
      simp at h
    · have h := congrArg TL.tl e
      rw [tl_cut, tl_pre, tx, show owW false = "pool" from rfl, tp] at h
      simp at h
  · refine ⟨fun _ => ?_, fun h => (by cases h), fun e => ?_⟩
    · refine TL.ext_tl ?_
      rw [tl_cut, tl_pre, show owW true = "agent" from rfl, ta]
      rfl
    · have h := congrArg TL.tl e
      rw [tl_cut, tl_pre, tx, show owW true = "agent" from rfl, ta] at h
      simp at h
theorem ac_kind (r : Str) : cutS (Str.ofString "action" ++ " " ++ r) none (some ((5 : Nat) : Int)) ≠ "agent" ∧ cutS (Str.ofString "action" ++ " " ++ r) none (some ((6 : Nat) : Int)) = "action" := by
  refine ⟨fun e => ?_, ?_⟩
  · have h := congrArg TL.tl e
    rw [tl_cut, tl_pre, ta, tx] at h
    simp at h
  · refine TL.ext_tl ?_
    rw [tl_cut, tl_pre, tx]
    rfl
theorem line_kind {ag pl : List Own} {as : List Act} {z : Str} (ok : OkR ag pl as) (hz : z ∈ linesOf ag pl as) : ∃ (wd nm : Str) (w2 : List Str), isW nm = true ∧ Txt.split z " " = wd :: nm :: w2 ∧ LnKind ag pl z nm := by
  have ow : ∀ (b : Bool) (o : Own), isW o.1 = true → OkSt o.2 → Txt.split (owL (owW b) o) " " = owW b :: o.1 :: o.2 := fun b o h1 h2 => split_jn (ss := owW b :: o.1 :: o.2) (by simp) (.of fun s hs => by
    rcases List.mem_cons.mp hs with e | hs
    · rw [e]; exact owW_w b
    · rcases List.mem_cons.mp hs with e | hs
      · rw [e]; exact h1
      · exact h2.w s hs)
  unfold linesOf at hz
  rcases List.mem_append.mp hz with hz | hz
  · rcases List.mem_append.mp hz with hz | hz
    · obtain ⟨o, ho, rfl⟩ := List.mem_map.mp hz
      have k := ow_kind true (jn (o.1 :: o.2))
      rw [← owL_jn] at k
      exact ⟨_, _, _, (ok.s.oa o ho).1, ow true o (ok.s.oa o ho).1 (ok.s.oa o ho).2, .ag (List.mem_map.mpr ⟨o, ho, rfl⟩) (k.1 rfl) k.2.2⟩
    · obtain ⟨o, ho, rfl⟩ := List.mem_map.mp hz
      have k := ow_kind false (jn (o.1 :: o.2))
      rw [← owL_jn] at k
      exact ⟨_, _, _, (ok.s.op o ho).1, ow false o (ok.s.op o ho).1 (ok.s.op o ho).2, .pl (List.mem_map.mpr ⟨o, ho, rfl⟩) (k.2.1 rfl) k.2.2⟩
  · obtain ⟨x, hx, rfl⟩ := List.mem_map.mp hz
    have k := ac_kind (liA x.1 x.2)
    rw [← acL_cut] at k
    have hc := (rdA_some (ok.x x hx)).1
    refine ⟨"action", x.1, Txt.split (wrM x.2) " ", hc, ?_, .ac k.1 k.2⟩
    rw [acL_cut, split_cons (w_nosp (by decide +kernel))]
    unfold liA
    rw [split_cons (w_nosp hc)]
theorem jn_one (s : Str) : jn [s] = s := by
  rfl
theorem own_text (b : Bool) (nm : Str) : (if b then Str.ofString "agent " else Str.ofString "pool ") ++ nm ++ Str.ofString " s" = owL (owW b) (nm, ["s"]) := by
  rw [owL_jn, jn_cons nm (by simp), jn_one]
  have e1 : Str.ofString " s" = Str.ofString " " ++ Str.ofString "s" := by decide +kernel
  cases b
  · have e2 : Str.ofString "pool " = Str.ofString "pool" ++ Str.ofString " " := by decide +kernel
    show Str.ofString "pool " ++ nm ++ Str.ofString " s" = Str.ofString "pool" ++ Str.ofString " " ++ (nm ++ Str.ofString " " ++ Str.ofString "s")
    rw [e1, e2, app_assoc, app_assoc, app_assoc, app_assoc]
  · have e2 : Str.ofString "agent " = Str.ofString "agent" ++ Str.ofString " " := by decide +kernel
    show Str.ofString "agent " ++ nm ++ Str.ofString " s" = Str.ofString "agent" ++ Str.ofString " " ++ (nm ++ Str.ofString " " ++ Str.ofString "s")
    rw [e1, e2, app_assoc, app_assoc, app_assoc, app_assoc]
theorem own_rd (b : Bool) {nm : Str} (h : isW nm = true) : rdL ((if b then Str.ofString "agent " else Str.ofString "pool ") ++ nm ++ Str.ofString " s") = some (.ow b (nm, ["s"])) := by
  rw [own_text]
  exact rdL_ow h ⟨Nat.le_refl 1, (by decide : 1 ≤ 6), by simp, fun s hs => by
    rw [List.mem_singleton.mp hs]
    decide +kernel⟩
def noA : Told → Bool
  | .ow _ _ => true
  | .ac _ => false
theorem kind_noA {ag pl : List Own} {as : List Act} {z : Str} {u : Told} (ok : OkR ag pl as) (hz : z ∈ linesOf ag pl as) (hu : rdL z = some u) : (!decide (V.str (cutS z none (some 6)) = V.str (Str.ofString "action"))) = noA u := by
  unfold linesOf at hz
  rcases List.mem_append.mp hz with hz | hz
  · rcases List.mem_append.mp hz with hz | hz
    · obtain ⟨o, ho, rfl⟩ := List.mem_map.mp hz
      have k := ow_kind true (jn (o.1 :: o.2))
      rw [← owL_jn] at k
      have e := rdL_ow (b := true) (ok.s.oa o ho).1 (ok.s.oa o ho).2
      rw [show owW true = Str.ofString "agent" from rfl] at k e
      rw [show (owL "agent" o) = owL (Str.ofString "agent") o from rfl] at hu
      rw [hu] at e
      cases Option.some.inj e
      have hd : decide (V.str (cutS (owL "agent" o) none (some 6)) = V.str (Str.ofString "action")) = false := decide_eq_false fun z => k.2.2 (V.str.inj z)
      rw [hd]
      rfl
    · obtain ⟨o, ho, rfl⟩ := List.mem_map.mp hz
      have k := ow_kind false (jn (o.1 :: o.2))
      rw [← owL_jn] at k
      have e := rdL_ow (b := false) (ok.s.op o ho).1 (ok.s.op o ho).2
      rw [show owW false = Str.ofString "pool" from rfl] at k e
      rw [show (owL "pool" o) = owL (Str.ofString "pool") o from rfl] at hu
      rw [hu] at e
      cases Option.some.inj e
      have hd : decide (V.str (cutS (owL "pool" o) none (some 6)) = V.str (Str.ofString "action")) = false := decide_eq_false fun z => k.2.2 (V.str.inj z)
      rw [hd]
      rfl
  · obtain ⟨x, hx, rfl⟩ := List.mem_map.mp hz
    have k := ac_kind (liA x.1 x.2)
    rw [← acL_cut] at k
    have e := rdL_ac (ok.x x hx)
    rw [hu] at e
    cases Option.some.inj e
    have hd : decide (V.str (cutS (acL x) none (some 6)) = V.str (Str.ofString "action")) = true := decide_eq_true (congrArg V.str k.2)
    rw [hd]
    rfl
theorem filt_rd {f : Str → Bool} : ∀ {ys : List Str} {us : List Told}, ys.map rdL = us.map some → (∀ z ∈ ys, ∀ u, rdL z = some u → f z = noA u) → (ys.filter f).map rdL = (us.filter noA).map some
  | [], [], _, _ => rfl
  | [], _ :: _, e, _ => by cases e
  | _ :: _, [], e, _ => by cases e
  | z :: r, u :: v, e, h => by
    have e' : rdL z :: r.map rdL = some u :: v.map some := e
    injection e' with e1 e2
    have ih := filt_rd e2 fun z hz => h z (List.mem_cons_of_mem _ hz)
    have hf := h z (List.mem_cons_self ..) u e1
    rw [List.filter_cons, List.filter_cons, hf]
    cases noA u
    · exact ih
    · show rdL z :: (r.filter f).map rdL = some u :: (v.filter noA).map some
      rw [e1, ih]
theorem noA_of : ∀ (us : List Told), agOf (us.filter noA) = agOf us ∧ plOf (us.filter noA) = plOf us ∧ acOf (us.filter noA) = []
  | [] => ⟨rfl, rfl, rfl⟩
  | .ow true o :: r => ⟨congrArg (o :: ·) (noA_of r).1, (noA_of r).2.1, (noA_of r).2.2⟩
  | .ow false o :: r => ⟨(noA_of r).1, congrArg (o :: ·) (noA_of r).2.1, (noA_of r).2.2⟩
  | .ac _ :: r => noA_of r
theorem free_noA {us : List Told} (h : Free ([], [], []) us) : Free ([], [], []) (us.filter noA) := by
  have ho : ((agOf us).map (·.1) ++ (plOf us).map (·.1)).Nodup := h.o
  obtain ⟨e1, e2, e3⟩ := noA_of us
  refine ⟨?_, ?_⟩
  · show ((agOf (us.filter noA)).map (·.1) ++ (plOf (us.filter noA)).map (·.1)).Nodup
    rw [e1, e2]
    exact ho
  · show ((acOf (us.filter noA)).map (·.1)).Nodup
    rw [e3]
    exact .nil
/-- the action of an owner that is none -/
def zzA : Act := ("zz", [("zzz", "s", "s")])
theorem zz_rd : rdL (Str.ofString "action " ++ Str.ofString "zz zzz s s") = some (.ac zzA) := by
  have e : Str.ofString "action " ++ Str.ofString "zz zzz s s" = acL zzA := by
    have h : Str.ofString "zz zzz s s" = liA zzA.1 zzA.2 := by decide +kernel
    rw [h]
    rfl
  rw [e]
  refine rdL_ac (rdA_li (by decide +kernel) (by unfold zzA; simp) (by decide) (fun m hm => ?_) (sortM_of (.refl _) (List.pairwise_singleton _ _)))
  rw [List.mem_singleton.mp hm]
  have w : ∀ s ∈ (["zzz", "s", "s"] : List Str), isW s = true := by decide +kernel
  exact w
theorem zz_free {us : List Told} (h : Free ([], [], []) us) (n : Str.ofString "zz" ∉ (acOf us).map (·.1)) : Free ([], [], []) (.ac zzA :: us) := by
  refine ⟨h.o, ?_⟩
  show (Str.ofString "zz" :: (acOf us).map (·.1)).Nodup
  exact List.nodup_cons.mpr ⟨n, h.a⟩
end Gk

set_option Elab.async false
set_option linter.all false
set_option maxRecDepth 100000
set_option maxHeartbeats 8000000
namespace Gk
open PySem PySem.Spec PyProof.Rows L2
open SkE (call_repr_int)
abbrev s_right : Stmt := topS 54
theorem sc_right : FnScope ["tape", "plain", "lines", "made", "turn", "at", "wrong", "other", "twice", "name", "owner", "owners", "line"] ["tape"] (defScope s_right) := ⟨rfl, rfl, rfl, by decide +kernel, rfl, by decide +kernel, by decide +kernel⟩
theorem sys_ins {K : PySem.W.Frag} {H : Hp} {CS CA a : Addr} {ag pl : List Own} {as : List Act} (v : SysV K H CS CA a ag pl as) : ∃ dx fs, H a = some (.ins CS dx fs) := by
  obtain ⟨⟨dx, dA, dP, dX, pL, dPl, dN, kA, kP, kX, h1, _⟩, _⟩ := v
  exact ⟨dx, _, h1⟩
theorem lg100 {i : Nat} (h : i ≤ 100) : ((i : Int)).natAbs.log2 < 1920 := by
  have := PySem.Flt.log2_lt_of (n := ((i : Int)).natAbs) (by decide : 0 < 30) (by
    rw [Int.natAbs_natCast]
    exact Nat.lt_of_le_of_lt h (by decide))
  omega
theorem par_ne {j : Nat} {H : Hp} {Q : VK} (q : Q (.bl false) H) : rNe (.str (prT j)) (.str (Str.ofString "parse " ++ Str.ofString (toString (j : Int)))) H Q := by
  refine ⟨rfl, ?_⟩
  unfold prT
  rw [decide_eq_true rfl]
  exact q
theorem cut_toV (xs : List V) (j : Nat) : cutV xs none (some (j : Int)) = xs.take j := by
  have h := cut_to (fun v : V => v) xs j
  rw [List.map_id', List.map_id'] at h
  exact h
theorem cut_fromV (xs : List V) (j : Nat) : cutV xs (some (j : Int)) none = xs.drop j := by
  have h := cut_from (fun v : V => v) xs j
  rw [List.map_id', List.map_id'] at h
  exact h
theorem nm9 {i : Nat} (h : i ≤ 100) : (Str.ofString "parse ").length + (Str.ofString (toString (i : Int))).length ≤ sizeLine := by
  have hlen : (Str.ofString (toString (i : Int))).length ≤ 9 := PyProof.Rows.toString_length_le (k := 9) (by omega) (by decide) (by
    have e : (10 : Int) ^ 9 = 1000000000 := by decide
    omega)
  have e6 : (Str.ofString "parse ").length = 6 := by decide +kernel
  rw [e6, sizeLine_eq]
  omega
theorem ty_kt {K : PySem.W.Frag} {t : Addr} {H H' : Hp} {x : V} {u : Value} (k : Kt t H H') (hT : Tp H t) (h : TyX K H x u) : TyX K H' x u := by
  obtain ⟨a, b, c, q⟩ := hT
  obtain ⟨a', b', c', q'⟩ := k.tp
  have go : ∀ (p : Addr) (o : HO), (∀ zs, o ≠ .lst zs) → H p = some o → H' p = some o := fun p o n e => k.kp p o (fun z => by
    rw [z, q] at e
    exact n _ (Option.some.inj e).symm) e
  cases h with
  | base h =>
    cases h with
    | non => exact .base .non
    | bl b => exact .base (.bl b)
    | int i => exact .base (.int i)
    | str z => exact .base (.str z)
    | flt z => exact .base (.flt z)
    | @lst p xs e =>
      by_cases hp : p = t
      · subst hp
        exact .base (.lst q')
      · exact .base (.lst (k.kp _ _ hp e))
    | frz e => exact .base (.frz (go _ _ (fun _ z => by cases z) e))
    | tup e => exact .base (.tup (go _ _ (fun _ z => by cases z) e))
    | dK e => exact .base (.dK (go _ _ (fun _ z => by cases z) e))
    | dT e => exact .base (.dT (go _ _ (fun _ z => by cases z) e))
    | ins e cl ha hn htk hm => exact .base (.ins (go _ _ (fun _ z => by cases z) e) cl ha hn htk hm)
  | byt b => exact .byt b
  | set e => exact .set (go _ _ (fun _ z => by cases z) e)
  | kList e c => exact .kList e c
  | kTuple e c => exact .kTuple e c
  | kDict e c => exact .kDict e c
  | fTuple e => exact .fTuple (go _ _ (fun _ z => by cases z) e)
  | fDict e => exact .fDict (go _ _ (fun _ z => by cases z) e)
theorem lnv_kt {K : PySem.W.Frag} {t : Addr} {H H' : Hp} {x : V} {u : Option Told} (k : Kt t H H') (hT : Tp H t) (h : LnV K H x u) : LnV K H' x u := by
  rcases h with h | ⟨ty, h1, h2, h3⟩
  · exact .inl h
  · exact .inr ⟨ty, ty_kt k hT h1, h2, h3⟩
theorem taken_mem : ∀ {us : List Told} {u : Told}, u ∈ us → takenB (agOf us) (plOf us) (acOf us) u = true := fun {us u} h => by
  have hA : ∀ {o} {us : List Told}, Told.ow true o ∈ us → o ∈ agOf us := fun {o us} h => by
    induction us with
    | nil => cases h
    | cons c r ih =>
      rcases List.mem_cons.mp h with e | h2
      · subst e
        exact List.mem_cons_self ..
      · rcases c with ⟨b, c⟩ | c
        · cases b
          · exact ih h2
          · exact List.mem_cons_of_mem _ (ih h2)
        · exact ih h2
  have hP : ∀ {o} {us : List Told}, Told.ow false o ∈ us → o ∈ plOf us := fun {o us} h => by
    induction us with
    | nil => cases h
    | cons c r ih =>
      rcases List.mem_cons.mp h with e | h2
      · subst e
        exact List.mem_cons_self ..
      · rcases c with ⟨b, c⟩ | c
        · cases b
          · exact List.mem_cons_of_mem _ (ih h2)
          · exact ih h2
        · exact ih h2
  have hX : ∀ {o} {us : List Told}, Told.ac o ∈ us → o ∈ acOf us := fun {o us} h => by
    induction us with
    | nil => cases h
    | cons c r ih =>
      rcases List.mem_cons.mp h with e | h2
      · subst e
        exact List.mem_cons_self ..
      · rcases c with ⟨b, c⟩ | c
        · cases b
          · exact ih h2
          · exact ih h2
        · exact List.mem_cons_of_mem _ (ih h2)
  rcases u with ⟨b, o⟩ | x
  · cases b
    · show (decide _ || decide _) = true
      rw [decide_eq_true (p := o.1 ∈ (plOf us).map (·.1)) (List.mem_map.mpr ⟨o, hP h, rfl⟩), Bool.or_true]
    · show (decide _ || decide _) = true
      rw [decide_eq_true (p := o.1 ∈ (agOf us).map (·.1)) (List.mem_map.mpr ⟨o, hA h, rfl⟩), Bool.true_or]
  · exact decide_eq_true (List.mem_map.mpr ⟨x, hX h, rfl⟩)
theorem par_ne2 {j : Nat} {n : Int} {H : Hp} {Q : VK} (e : n = (j : Int)) (q : Q (.bl false) H) : rNe (.str (prT j)) (.str (Str.ofString "parse " ++ Str.ofString (toString n))) H Q := by
  subst e
  exact par_ne q
def spRightS : Sp := fun vs H Q _ => ∃ t : Addr, vs = [.ref t] ∧ Tp H t ∧ ∀ H', Kt t H H' → Q (.bl true) H'
section
variable {P : Program} {w : World} {K : PySem.W.Frag} {mg : Str → Option Value} {base : Heap}
theorem ok_right {C_System C_Action fSI fE fL pL : Addr} {dSI dE dL : FuncData} (B : Blt mg) (TS : SysK K mg C_System fSI dSI)
    (TS_OE : OwnD K C_System "__eq__" fE) (TS_NE : PySem.W.findIn K (.ref C_System) "__ne__" = some (some (.builtin "object.__ne__"))) (TS_HO : PySem.W.mroIn K C_System (.type "object") = some true) (TS_BE : Binds K dE ["self", "other"] []) (TS_PL : PropOf K C_System "lines" pL fL) (TS_BL : Binds K dL ["self"] [])
    (G_eqS : FnOk P w K mg base CX0 1 fE dE ["self", "other"] (spEqS K C_System C_Action)) (G_linesP : FnOk P w K mg base CX0 1 fL dL ["self"] (spLinesG K C_System C_Action))
    {f1 f2 f3 f4 f5 f6 f7 f : Addr} {d1 d2 d3 d4 d5 d6 d7 fd : FuncData}
    (D_bare : Df K mg "_law_bare" s_bare ["tape"] f1 d1) (G_bare : FnOk P w K mg base CX0 4 f1 d1 ["tape"] (spBare K))
    (D_few : Df K mg "_law_few" s_few ["tape", "items", "many"] f2 d2) (G_few : FnOk P w K mg base CX0 2 f2 d2 ["tape", "items", "many"] (spFew K))
    (D_lines : Df K mg "_law_lines" s_lines ["plain"] f3 d3) (G_lines : FnOk P w K mg base CX0 2 f3 d3 ["plain"] (spLinesL K))
    (D_made : Df K mg "_law_made" s_made ["plain"] f4 d4) (G_made : FnOk P w K mg base CX0 8 f4 d4 ["plain"] (spMade K C_System C_Action))
    (D_roll : Df K mg "_law_roll" s_roll ["tape", "total"] f5 d5) (G_roll : FnOk P w K mg base CX0 1 f5 d5 ["tape", "total"] spRoll)
    (D_wrong_line : Df K mg "_law_wrong_line" s_wrong_line ["tape", "line"] f6 d6) (G_wrong_line : FnOk P w K mg base CX0 3 f6 d6 ["tape", "line"] (spWrongL K))
    (D_met : Df K mg "_law_met" s_met ["lines"] f7 d7) (G_met : FnOk P w K mg base CX0 10 f7 d7 ["lines"] (spMetL K C_System C_Action))
    (D : Df K mg "_law_right" s_right ["tape"] f fd) : FnOk P w K mg base CX0 11 f fd ["tape"] spRightS := by
  refine D.F.ok sc_right (fun vs H Q E h => ?_) (fun cdv A outer s H vs Q E hr h => ?_)
  · obtain ⟨t, rfl, _⟩ := h
    rfl
  · obtain ⟨t, rfl, hT, q⟩ := h
    refine ⟨_, (pss_cons (ps_set (i := 1) sc_right.nd rfl (Or.inl rfl) (pe_call G_bare (hr.mono (by decide)) (by rfl) D_bare.g D_bare.F.kp D_bare.b .nil pass0 (pa_cons (pv 0) pa_nil)))
    (pss_cons (ps_set (i := 2) sc_right.nd rfl (Or.inl rfl) (pe_call G_few (hr.mono (by decide)) (by rfl) D_few.g D_few.F.kp D_few.b .nil pass0 (pa_cons (pv 0) (pa_cons (pe_call G_lines (hr.mono (by decide)) (by rfl) D_lines.g D_lines.F.kp D_lines.b .nil pass0 (pa_cons (pv 1) pa_nil)) (pa_cons pe_int pa_nil)))))
    (pss_cons (ps_set (i := 3) sc_right.nd rfl (Or.inl rfl) (pe_call G_made (hr.mono (by decide)) (by rfl) D_made.g D_made.F.kp D_made.b .nil pass0 (pa_cons (pv 1) pa_nil)))
    (pss_cons (ps_if (PW.pt (pw_or (pt_cmpR (op_neOK K rfl TS_OE TS_NE TS_HO G_eqS TS_BE pass0 (hr.mono (by decide))) (pe_call G_met (hr.mono (by decide)) (by rfl) D_met.g D_met.F.kp D_met.b .nil pass0 (pa_cons (pv 2) pa_nil)) (pv 3) (nomark _)) (pw_or1 (pt_cmpR (op_neOK K rfl TS_OE TS_NE TS_HO G_eqS TS_BE pass0 (hr.mono (by decide))) (pe_call G_met (hr.mono (by decide)) (by rfl) D_met.g D_met.F.kp D_met.b .nil pass0 (pa_cons (pe_callTy call_lstN (by rfl) B.list_ (by decide +kernel) (pa_cons (pe_prop (pv 3) TS.SC.cl TS_PL G_linesP (hr.mono (by decide)) TS_BL .nil pass0 rfl) pa_nil)) pa_nil)) (pv 3) (nomark _)))))
    (pss_one (ps_ret pe_bl)) pss_nil)
    (pss_cons (ps_for PassesOwn.never rfl (pi_range1 (by rfl) B.range (pa_cons pe_int pa_nil)) (pg_name (i := 4) sc_right.nd rfl (Or.inl rfl))
    (pss_cons (ps_set (i := 5) sc_right.nd rfl (Or.inl rfl) (pe_call G_roll (hr.mono (by decide)) (by rfl) D_roll.g D_roll.F.kp D_roll.b .nil pass0 (pa_cons (pv 0) (pa_cons (pe_callB call_len_seq (by rfl) B.len_ (by decide +kernel) (pa_cons (pv 2) pa_nil)) pa_nil))))
    (pss_cons (ps_set (i := 6) sc_right.nd rfl (Or.inl rfl) (pe_op op_catN (pe_op op_catN (pe_slice sl_listN (pv 2) po_none (po_some (pv 5))) (pe_lstN (pa_cons (pe_call G_wrong_line (hr.mono (by decide)) (by rfl) D_wrong_line.g D_wrong_line.F.kp D_wrong_line.b .nil pass0 (pa_cons (pv 0) (pa_cons (pe_ix ix_list (pv 2) (pv 5) (fun _ _ => rfl)) pa_nil))) pa_nil))) (pe_slice sl_listN (pv 2) (po_some (pe_op op_add (pv 5) pe_int)) po_none)))
    (pss_cons (ps_if (pt_cmpR op_ne (pe_call G_met (hr.mono (by decide)) (by rfl) D_met.g D_met.F.kp D_met.b .nil pass0 (pa_cons (pv 6) pa_nil)) (pe_op op_add_str pe_str (pe_callB call_repr_int (by rfl) B.repr_ (by decide +kernel) (pa_cons (pv 5) pa_nil))) (nomark _))
    (pss_one (ps_ret pe_bl)) pss_nil)
    (pss_cons (ps_set (i := 7) sc_right.nd rfl (Or.inl rfl) (pe_op op_add (pv 5) (pe_call G_roll (hr.mono (by decide)) (by rfl) D_roll.g D_roll.F.kp D_roll.b .nil pass0 (pa_cons (pv 0) (pa_cons (pe_op op_sub (pe_callB call_len_seq (by rfl) B.len_ (by decide +kernel) (pa_cons (pv 2) pa_nil)) (pv 5)) pa_nil)))))
    (pss_cons (ps_set (i := 8) sc_right.nd rfl (Or.inl rfl) (pe_op op_catN (pe_op op_catN (pe_slice sl_listN (pv 6) po_none (po_some (pv 7))) (pe_lstN (pa_cons (pe_ifExp (pt_cmpR op_gt (pv 7) (pv 5) (nomark _)) pe_non (pe_ix ix_list (pv 6) (pv 5) (fun _ _ => rfl))) pa_nil))) (pe_slice sl_listN (pv 6) (po_some (pe_op op_add (pv 7) pe_int)) po_none)))
    (pss_one (ps_if (pt_cmpR op_ne (pe_call G_met (hr.mono (by decide)) (by rfl) D_met.g D_met.F.kp D_met.b .nil pass0 (pa_cons (pv 8) pa_nil)) (pe_op op_add_str pe_str (pe_callB call_repr_int (by rfl) B.repr_ (by decide +kernel) (pa_cons (pv 5) pa_nil))) (nomark _))
    (pss_one (ps_ret pe_bl)) pss_nil))))))))
    (pss_cons (ps_set (i := 5) sc_right.nd rfl (Or.inl rfl) (pe_call G_roll (hr.mono (by decide)) (by rfl) D_roll.g D_roll.F.kp D_roll.b .nil pass0 (pa_cons (pv 0) (pa_cons (pe_callB call_len_seq (by rfl) B.len_ (by decide +kernel) (pa_cons (pv 2) pa_nil)) pa_nil))))
    (pss_cons (ps_if (PW.pt (pw_and (pt_cmpR op_lt (pe_callB call_len_seq (by rfl) B.len_ (by decide +kernel) (pa_cons (pv 2) pa_nil)) pe_int (nomark _)) (pw_and1 (pt_cmpR op_ne (pe_call G_met (hr.mono (by decide)) (by rfl) D_met.g D_met.F.kp D_met.b .nil pass0 (pa_cons (pe_op op_catN (pv 2) (pe_lstN (pa_cons (pe_ix ix_list (pv 2) (pv 5) (fun _ _ => rfl)) pa_nil))) pa_nil)) (pe_op op_add_str pe_str (pe_callB call_repr_int (by rfl) B.repr_ (by decide +kernel) (pa_cons (pe_callB call_len_seq (by rfl) B.len_ (by decide +kernel) (pa_cons (pv 2) pa_nil)) pa_nil))) (nomark _)))))
    (pss_one (ps_ret pe_bl)) pss_nil)
    (pss_cons (ps_set (i := 9) sc_right.nd rfl (Or.inl rfl) (pe_ix ix_list (pe_split (pe_ix ix_list (pv 2) (pv 5) (fun _ _ => rfl)) pe_str) pe_int (fun _ _ => rfl)))
    (pss_cons (ps_set (i := 10) sc_right.nd rfl (Or.inl rfl) (pe_ifExp (pt_cmpR op_eq (pe_slice sl_str (pe_ix ix_list (pv 2) (pv 5) (fun _ _ => rfl)) po_none (po_some pe_int)) pe_str (nomark _)) (pe_op op_add_str (pe_op op_add_str pe_str (pv 9)) pe_str) (pe_op op_add_str (pe_op op_add_str pe_str (pv 9)) pe_str)))
    (pss_cons (ps_if (PW.pt (pw_and (pt_cmpR op_lt (pe_callB call_len_seq (by rfl) B.len_ (by decide +kernel) (pa_cons (pv 2) pa_nil)) pe_int (nomark _)) (pw_and (pt_cmpR op_ne (pe_slice sl_str (pe_ix ix_list (pv 2) (pv 5) (fun _ _ => rfl)) po_none (po_some pe_int)) pe_str (nomark _)) (pw_and1 (pt_cmpR op_ne (pe_call G_met (hr.mono (by decide)) (by rfl) D_met.g D_met.F.kp D_met.b .nil pass0 (pa_cons (pe_op op_catN (pv 2) (pe_lstN (pa_cons (pv 10) pa_nil))) pa_nil)) (pe_op op_add_str pe_str (pe_callB call_repr_int (by rfl) B.repr_ (by decide +kernel) (pa_cons (pe_callB call_len_seq (by rfl) B.len_ (by decide +kernel) (pa_cons (pv 2) pa_nil)) pa_nil))) (nomark _))))))
    (pss_one (ps_ret pe_bl)) pss_nil)
    (pss_cons (ps_setLc (i := 11) (own := [("line", 12)]) (g := gName 12)  (by rfl) sc_right.nd rfl rfl (sw_true rfl rfl rfl (by decide +kernel)) (pi_list (pv 2)) (blkOk_by (N := ["tape", "plain", "lines", "made", "turn", "at", "wrong", "other", "twice", "name", "owner", "owners", "line"]) (sc := defScope s_right) (by decide +kernel)) (fun _ _ _ _ _ => (pg_name (i := 12) sc_right.nd rfl (Or.inl rfl))) (fun _ _ _ _ _ => pts_one (pt_cmpR op_ne (pe_slice sl_str (pv 12) po_none (po_some pe_int)) pe_str (nomark _))) (fun _ _ _ _ _ => (pv 12)))
    (pss_cons (ps_if (PW.pt (pw_or (pt_cmpR op_ne (pe_call G_met (hr.mono (by decide)) (by rfl) D_met.g D_met.F.kp D_met.b .nil pass0 (pa_cons (pv 11) pa_nil)) pe_str (nomark _)) (pw_or1 (pt_cmpR op_ne (pe_call G_met (hr.mono (by decide)) (by rfl) D_met.g D_met.F.kp D_met.b .nil pass0 (pa_cons (pe_slice sl_listN (pv 2) po_none (po_some pe_int)) pa_nil)) pe_str (nomark _)))))
    (pss_one (ps_ret pe_bl)) pss_nil)
    (pss_one (ps_ret (pe_or (pe_cmpR op_gt (pe_callB call_len_seq (by rfl) B.len_ (by decide +kernel) (pa_cons (pv 2) pa_nil)) pe_int (nomark _)) (pe_one (pe_cmpR op_eq (pe_call G_met (hr.mono (by decide)) (by rfl) D_met.g D_met.F.kp D_met.b .nil pass0 (pa_cons (pe_op op_catN (pe_lstN (pa_cons (pe_op op_add_str pe_str pe_str) pa_nil)) (pv 2)) pa_nil)) pe_str (nomark _)))))))))))))))))), ?_⟩
    have sl : ∀ n : Nat, n ≤ 100000 → n ≤ sizeLine := fun n hn => by rw [sizeLine_eq]; omega
    refine ⟨_, rfl, t, rfl, hT, fun p dA dP dX kA kP kX ag pl as H1 k1 pln okp fr => ?_⟩
    refine ⟨_, rfl, _, rfl, p, dA, dP, dX, kA, kP, kX, ag, pl, as, rfl, pln, okp.made, fun l H2 ag2 pl2 as2 s2 n2 e2 pa2 pp2 px2 sA2 sP2 sX2 => ?_⟩
    rw [okp.sort] at px2
    have ok2 := okp.r.perm pa2 pp2 px2
    have hln : (linesOf ag2 pl2 as2).length ≤ 10 := by
      have h1 := okOw_len okp.oA
      have h2 := okOw_len okp.oP
      obtain ⟨k, _, _, e⟩ := okp.nX
      have h3 := congrArg List.length e
      rw [List.length_map, List.length_take] at h3
      have h3 : as.length = min k 5 := h3
      have h1 : ag.length ≤ 3 := h1
      have h2 : pl.length ≤ 2 := h2
      have h4 := pa2.length_eq
      have h5 := pp2.length_eq
      have h6 := px2.length_eq
      unfold linesOf
      rw [List.length_append, List.length_append, List.length_map, List.length_map, List.length_map]
      omega
    have k2 := k1.trans (Kt.same k1.tp s2)
    refine ⟨t, l, linesOf ag2 pl2 as2, 11, rfl, k2.tp, Kt.ne k1.tp n2, SqL.of e2, lines_ok ok2.s (fun x hx => ⟨(rdA_some (ok2.x x hx)).1, (rdA_some (ok2.x x hx)).2.2.2.1⟩), by omega, by decide, fun L ys rest H3 pm lm nL eL k3 => ?_⟩
    have pm : ys.Perm (linesOf ag2 pl2 as2) := by
      have h1 := pm.length_eq
      rw [List.length_append] at h1
      have h2 : ys.length = min 11 (linesOf ag2 pl2 as2).length := lm
      have h3 : rest = [] := List.length_eq_zero_iff.mp (by omega)
      rw [h3, List.append_nil] at pm
      exact pm
    have hly : ys.length ≤ 10 := by rw [pm.length_eq]; exact hln
    obtain ⟨us, pu, eu⟩ := lines_us ok2 pm
    have hlu : us.length = ys.length := by
      have := congrArg List.length eu
      rw [List.length_map, List.length_map] at this
      omega
    have hLn : ∀ z ∈ ys, LnOk z := fun z hz => ok2.ln z (pm.mem_iff.mp hz)
    have h80 : ∀ z ∈ ys, z.length ≤ 80000 := fun z hz => by
      have := (hLn z hz).l
      omega
    have fru := free_perm pu ok2.s.free
    have kk3 := k2.trans k3
    have pln3 : PlnV K H3 p dA dP dX kA kP kX ag pl as := (pln.same s2).kt k3 k2.tp
    have nLt : L ≠ t := Kt.ne k2.tp nL
    -- the system
    refine ⟨_, rfl, p, dA, dP, dX, kA, kP, kX, ag, pl, as, rfl, pln3, okp.made, fun a H4 ag4 pl4 as4 s4 n4 pa4 pp4 px4 sv4 => ?_⟩
    rw [okp.sort] at px4
    have kk4 := kk3.trans (Kt.same kk3.tp s4)
    have eL4 := s4 _ _ eL
    -- read in the drawn order
    refine ⟨_, rfl, L, ys.map V.str, us.map some, rfl, SqL.of eL4, by rw [← eu]; exact lnv_all ys h80, by rw [List.length_map]; omega, met_right ok2 pu fun b H5 ag5 pl5 as5 s5 n5 pa5 pp5 px5 sv5 => ?_⟩
    have sv45 := sv4.same s5
    obtain ⟨q1, q2, q3⟩ := sys_one sv5 sv45 (pa5.trans pa2) (pp5.trans pp2) (px5.trans px2) pa4 pp4 px4
    subst q1 q2 q3
    refine ⟨_, rfl, sys_eq TS.IC sv5 sv45 ?_⟩
    rw [decide_eq_true rfl]
    -- its own lines
    have okA := okp.r.perm pa4 pp4 px4
    have hlA : (linesOf ag5 pl5 as5).length ≤ 10 := by
      have h4 := (pa4.trans pa2.symm).length_eq
      have h5 := (pp4.trans pp2.symm).length_eq
      have h6 := (px4.trans px2.symm).length_eq
      unfold linesOf at hln ⊢
      rw [List.length_append, List.length_append, List.length_map, List.length_map, List.length_map] at hln ⊢
      omega
    obtain ⟨dxA, fsA, eA⟩ := sys_ins sv45
    refine ⟨_, rfl, _, rfl, a, dxA, fsA, rfl, eA, a, ag5, pl5, as5, rfl, sv45, fun pL ePL => ⟨pL, _, rfl, .inr (.inl (.inl ePL)), fun M H6 n6 e6 s6 => ?_⟩⟩
    refine ⟨M, _, _, rfl, SqL.of e6, by rw [← okA.told]; exact lnv_all _ fun z hz => by have := (okA.ln z hz).l; omega, by rw [List.length_map]; omega, met_right okA (.refl _) fun c H7 ag7 pl7 as7 s7 n7 pa7 pp7 px7 sv7 => ?_⟩
    have sv47 := (sv45.same s6).same s7
    obtain ⟨q1, q2, q3⟩ := sys_one sv7 sv47 pa7 pp7 px7 (.refl _) (.refl _) (.refl _)
    subst q1 q2 q3
    refine ⟨_, rfl, sys_eq TS.IC sv7 sv47 ?_⟩
    rw [decide_eq_true rfl]
    refine ⟨_, rfl, ?_⟩
    have s47 := s5.trans (s6.trans s7)
    have kk7 := kk4.trans (Kt.same kk4.tp s47)
    have eL7 := s47 _ _ eL4
    -- wrong lines, one or two
    have h0 : 1 ≤ ys.length := by
      rw [pm.length_eq]
      have := ok2.s.l1
      unfold linesOf
      rw [List.length_append, List.length_map]
      omega
    refine ⟨4, rfl, by decide, by decide, ?_⟩
    refine for_range (lo := 0) (n := (4 : Int).toNat) (fun i σ H8 => ∃ x4 x5 x6 x7 x8 : Option V, σ = [some (.ref t), some (.ref p), some (.ref L), some (.ref a), x4, x5, x6, x7, x8, none, none, none, none] ∧ Kt t H H8 ∧ H8 L = some (.lst (ys.map V.str))) ⟨none, none, none, none, none, rfl, kk7, eL7⟩ (fun i σ H8 hi h8 => ?_) (fun σ H8 h8 => ?_)
    · obtain ⟨x4, x5, x6, x7, x8, rfl, k8, eL8⟩ := h8
      have lst : ((ys.map V.str).length : Int) = (ys.length : Int) := by rw [List.length_map]
      refine ⟨_, rfl, _, rfl, L, _, rfl, .inl (SqL.of eL8), t, _, rfl, k8.tp, by rw [lst]; omega, by rw [lst]; omega, fun r H9 r0 r1 k9 => ?_⟩
      obtain ⟨j, rfl⟩ := Int.eq_ofNat_of_zero_le r0
      have hj : j < ys.length := by rw [lst] at r1; omega
      have eL9 := k9.strs k8.tp eL8
      obtain ⟨z, hz⟩ : ∃ z, ys[j]? = some z := ⟨_, List.getElem?_eq_getElem hj⟩
      have hz2 : (ys.map V.str)[j]? = some (.str z) := by rw [List.getElem?_map, hz]; rfl
      have lz := hLn z (List.mem_of_getElem? hz)
      refine ⟨_, rfl, _, rfl, _, rfl, L, _, rfl, SqL.of eL9, fun S1 HA nA eS1 sA => ?_⟩
      have kA' := Kt.same k9.tp sA
      have eLA := sA _ _ eL9
      rw [cut_to] at eS1
      refine ⟨_, rfl, _, rfl, _, rfl, L, _, (j : Int), .str z, rfl, rfl, SqL.of eLA, atI_nat (j := j) hz2, t, z, rfl, kA'.tp, lz, fun x HB kB lx => ?_⟩
      refine ⟨sl 1 (by decide), fun S2 HC nC eS2 sC => ?_⟩
      have eS1B := kB.strs kA'.tp eS1
      have tC := (Kt.same kB.tp sC).tp
      refine ⟨S1, S2, _, _, rfl, rfl, sC _ _ eS1B, eS2, sl _ (by rw [List.length_map, List.length_take]; show _ + 1 ≤ _; omega), fun S3 HD nD eS3 sD => ?_⟩
      have eLD := sD _ _ (sC _ _ (kB.strs kA'.tp eLA))
      refine ⟨_, rfl, _, rfl, _, _, rfl, rfl, _, rfl, L, _, rfl, SqL.of eLD, fun S4 HE nE eS4 sE => ?_⟩
      have ej : ((j : Int) + 1) = ((j + 1 : Nat) : Int) := by omega
      rw [ej, cut_from] at eS4
      refine ⟨S3, S4, _, _, rfl, rfl, sE _ _ eS3, eS4, sl _ (by rw [List.length_append, List.length_map, List.length_map, List.length_take, List.length_drop]; show _ + 1 + _ ≤ _; omega), fun W HF nF eW sF => ?_⟩
      rw [List.append_assoc, List.singleton_append] at eW
      have sBF : Same HB HF := sC.trans (sD.trans (sE.trans sF))
      have kF := kB.trans (Kt.same kB.tp sBF)
      have lxF := lx.same sBF
      have hTk : (ys.take j).map rdL = (us.take j).map some := by rw [List.map_take, eu, List.map_take]
      have hju : (us.take j).length = j := by rw [List.length_take, hlu]; omega
      have pA : Paired (LnV K HF) ((ys.take j).map V.str) ((us.take j).map some) := by
        rw [← hTk]
        exact lnv_all _ fun z hz => h80 z (List.mem_of_mem_take hz)
      have pB : Paired (LnV K HF) ((ys.drop (j + 1)).map V.str) ((ys.drop (j + 1)).map rdL) := lnv_all _ fun z hz => h80 z (List.mem_of_mem_drop hz)
      have hlW : ((ys.take j).map V.str ++ x :: (ys.drop (j + 1)).map V.str).length ≤ 11 := by
        rw [List.length_append, List.length_cons, List.length_map, List.length_map, List.length_take, List.length_drop]
        omega
      refine ⟨_, rfl, W, _, _, rfl, SqL.of eW, paired_app pA (.cons lxF pB), hlW, met_wrong (free_take fru j) (by omega) fun HG sG => ?_⟩
      rw [hju]
      refine ⟨_, rfl, _, rfl, lg100 (by omega), _, _, rfl, rfl, nm9 (by omega), par_ne ⟨_, rfl, ?_⟩⟩
      have kG := kF.trans (Kt.same kF.tp sG)
      have k9G := k8.trans (k9.trans ((Kt.same k9.tp sA).trans kG))
      have eLG := (k9.trans ((Kt.same k9.tp sA).trans kG)).strs k8.tp eL8
      -- two
      refine ⟨_, rfl, _, rfl, _, rfl, L, _, rfl, .inl (SqL.of eLG), _, rfl, _, _, rfl, rfl, t, _, rfl, kG.tp, by rw [lst]; omega, by rw [lst]; omega, fun r HI r0 r1 kI => ⟨_, _, rfl, rfl, ?_⟩⟩
      obtain ⟨o, rfl⟩ := Int.eq_ofNat_of_zero_le r0
      rw [lst] at r1
      have tE : Tp HE t := (Kt.same (Kt.same tC sD).tp sE).tp
      have nWt : W ≠ t := Kt.ne tE nF
      have eWI := kI.kp _ _ nWt (sG _ _ eW)
      have lenA : ((ys.take j).map V.str).length = j := by rw [List.length_map, List.length_take]; omega
      have lenB : ((ys.drop (j + 1)).map V.str).length = ys.length - (j + 1) := by rw [List.length_map, List.length_drop]
      have kGI := kG.trans kI
      have k9I := k9G.trans kI
      have eLI := kI.strs kG.tp eLG
      have lxI : LnV K HI x none := lnv_kt kI kG.tp (lxF.same sG)
      refine ⟨_, rfl, _, rfl, _, rfl, W, _, rfl, SqL.of eWI, fun S5 HJ nJ eS5 sJ => ⟨_, rfl, _, rfl, _, _, rfl, rfl, _, rfl, ?_⟩⟩
      have ejo : ((j : Int) + (o : Int)) = ((j + o : Nat) : Int) := by omega
      rw [ejo, cut_toV] at eS5
      have eWJ := sJ _ _ eWI
      have hxW : ((ys.take j).map V.str ++ x :: (ys.drop (j + 1)).map V.str)[j]? = some x := by
        rw [List.getElem?_append_right (by omega), lenA, Nat.sub_self]
        rfl
      have hcut : ((ys.take j).map V.str ++ x :: (ys.drop (j + 1)).map V.str).take (j + o) = (ys.take j).map V.str ++ (x :: (ys.drop (j + 1)).map V.str).take o := by
        have h := List.take_length_add_append (l₁ := (ys.take j).map V.str) (l₂ := x :: (ys.drop (j + 1)).map V.str) o
        rw [lenA] at h
        exact h
      have hcut2 : ((ys.take j).map V.str ++ x :: (ys.drop (j + 1)).map V.str).drop (j + o + 1) = (x :: (ys.drop (j + 1)).map V.str).drop (o + 1) := by
        have h := List.drop_length_add_append (l₁ := (ys.take j).map V.str) (l₂ := x :: (ys.drop (j + 1)).map V.str) (o + 1)
        rw [lenA] at h
        exact h
      rw [hcut] at eS5
      have ejo1 : ((j : Int) + (o : Int)) + 1 = ((j + o + 1 : Nat) : Int) := by omega
      rcases o with _ | o
      · have hd : decide ((j : Int) < (j : Int) + ((0 : Nat) : Int)) = false := decide_eq_false (by omega)
        rw [hd]
        refine ⟨_, rfl, _, rfl, W, _, (j : Int), x, rfl, rfl, SqL.of eWJ, atI_nat (j := j) hxW, sl 1 (by decide), fun S6 HK nK eS6 sK => ⟨S5, S6, _, _, rfl, rfl, sK _ _ eS5, eS6, sl _ (by rw [List.length_append, lenA]; show j + 0 + 1 ≤ _; omega), fun S7 HL nL7 eS7 sL => ?_⟩⟩
        refine ⟨_, rfl, _, rfl, _, _, rfl, rfl, _, rfl, W, _, rfl, SqL.of (sL _ _ (sK _ _ eWJ)), fun S8 HM nM eS8 sM => ?_⟩
        rw [ejo1, cut_fromV, hcut2] at eS8
        refine ⟨S7, S8, _, _, rfl, rfl, sM _ _ eS7, eS8, sl _ (by rw [List.length_append, List.length_append, lenA]; show j + 0 + 1 + ((ys.drop (j + 1)).map V.str).length ≤ _; omega), fun Z HN nN eZ sN => ?_⟩
        have sIN : Same HI HN := sJ.trans (sK.trans (sL.trans (sM.trans sN)))
        have eZ2 : HN Z = some (.lst ((ys.take j).map V.str ++ x :: (ys.drop (j + 1)).map V.str)) := by
          rw [eZ]
          show some (HO.lst ((((ys.take j).map V.str ++ []) ++ [x]) ++ (ys.drop (j + 1)).map V.str)) = _
          rw [List.append_nil, List.append_assoc]
          rfl
        refine ⟨_, rfl, Z, _, _, rfl, SqL.of eZ2, paired_app (by rw [← hTk]; exact lnv_all _ fun z hz => h80 z (List.mem_of_mem_take hz)) (.cons (lxI.same sIN) (lnv_all _ fun z hz => h80 z (List.mem_of_mem_drop hz))), hlW, met_wrong (free_take fru j) (by omega) fun HO' sO => ?_⟩
        rw [hju]
        refine ⟨_, rfl, _, rfl, lg100 (by omega), _, _, rfl, rfl, nm9 (by omega), par_ne ⟨_, rfl, ?_⟩⟩
        have kX := Kt.same kI.tp (sIN.trans sO)
        exact ⟨_, _, _, _, _, rfl, (k9I.trans kX), kX.strs kI.tp eLI⟩
      · have hd : decide ((j : Int) < (j : Int) + ((o + 1 : Nat) : Int)) = true := decide_eq_true (by omega)
        rw [hd]
        have lTk : (((ys.drop (j + 1)).take o).map V.str).length ≤ o := by rw [List.length_map, List.length_take]; omega
        have lDr : (((ys.drop (j + 1)).drop (o + 1)).map V.str).length = ys.length - (j + 1) - (o + 1) := by rw [List.length_map, List.length_drop, List.length_drop]
        have eS5 : HJ S5 = some (.lst ((ys.take j).map V.str ++ x :: ((ys.drop (j + 1)).take o).map V.str)) := by
          have e : ((ys.drop (j + 1)).map V.str).take o = ((ys.drop (j + 1)).take o).map V.str := List.map_take.symm
          rw [eS5, ← e]
          rfl
        refine ⟨sl 1 (by decide), fun S6 HK nK eS6 sK => ⟨S5, S6, _, _, rfl, rfl, sK _ _ eS5, eS6, sl _ (by rw [List.length_append, List.length_cons, lenA]; show j + (_ + 1) + 1 ≤ _; omega), fun S7 HL nL7 eS7 sL => ?_⟩⟩
        refine ⟨_, rfl, _, rfl, _, _, rfl, rfl, _, rfl, W, _, rfl, SqL.of (sL _ _ (sK _ _ eWJ)), fun S8 HM nM eS8 sM => ?_⟩
        rw [ejo1, cut_fromV, hcut2] at eS8
        have eS8 : HM S8 = some (.lst (((ys.drop (j + 1)).drop (o + 1)).map V.str)) := by
          have e : ((ys.drop (j + 1)).map V.str).drop (o + 1) = ((ys.drop (j + 1)).drop (o + 1)).map V.str := List.map_drop.symm
          rw [eS8, ← e]
          rfl
        refine ⟨S7, S8, _, _, rfl, rfl, sM _ _ eS7, eS8, sl _ (by rw [List.length_append, List.length_append, List.length_cons, lenA, lDr]; show j + (_ + 1) + 1 + _ ≤ _; omega), fun Z HN nN eZ sN => ?_⟩
        have sIN : Same HI HN := sJ.trans (sK.trans (sL.trans (sM.trans sN)))
        have eZ2 : HN Z = some (.lst ((ys.take j).map V.str ++ x :: (((ys.drop (j + 1)).take o).map V.str ++ V.non :: ((ys.drop (j + 1)).drop (o + 1)).map V.str))) := by
          rw [eZ, List.append_assoc, List.append_assoc]
          rfl
        refine ⟨_, rfl, Z, _, _, rfl, SqL.of eZ2, paired_app (by rw [← hTk]; exact lnv_all _ fun z hz => h80 z (List.mem_of_mem_take hz)) (.cons (lxI.same sIN) (paired_app (lnv_all _ fun z hz => h80 z (List.mem_of_mem_drop (List.mem_of_mem_take hz))) (.cons (.inr ⟨.type "NoneType", .base .non, kit_ty (by decide +kernel), rfl⟩) (lnv_all _ fun z hz => h80 z (List.mem_of_mem_drop (List.mem_of_mem_drop hz)))))), ?_, met_wrong (free_take fru j) (by omega) fun HO' sO => ?_⟩
        · rw [List.length_append, List.length_cons, List.length_append, List.length_cons, lenA, lDr]
          omega
        rw [hju]
        refine ⟨_, rfl, _, rfl, lg100 (by omega), _, _, rfl, rfl, nm9 (by omega), par_ne ⟨_, rfl, ?_⟩⟩
        have kX := Kt.same kI.tp (sIN.trans sO)
        exact ⟨_, _, _, _, _, rfl, (k9I.trans kX), kX.strs kI.tp eLI⟩
    · obtain ⟨x4, x5, x6, x7, x8, rfl, k8, eL8⟩ := h8
      have lst : ((ys.map V.str).length : Int) = (ys.length : Int) := by rw [List.length_map]
      refine ⟨_, rfl, _, rfl, L, _, rfl, .inl (SqL.of eL8), t, _, rfl, k8.tp, by rw [lst]; omega, by rw [lst]; omega, fun r H9 r0 r1 k9 => ?_⟩
      obtain ⟨j, rfl⟩ := Int.eq_ofNat_of_zero_le r0
      have hj : j < ys.length := by rw [lst] at r1; omega
      have eL9 := k9.strs k8.tp eL8
      have kk9 := k8.trans k9
      obtain ⟨z, hz⟩ : ∃ z, ys[j]? = some z := ⟨_, List.getElem?_eq_getElem hj⟩
      have hz2 : (ys.map V.str)[j]? = some (.str z) := by rw [List.getElem?_map, hz]; rfl
      obtain ⟨u, hu⟩ : ∃ u, us[j]? = some u := ⟨_, List.getElem?_eq_getElem (by omega)⟩
      have hzu : rdL z = some u := by
        have h1 : (ys.map rdL)[j]? = some (rdL z) := by rw [List.getElem?_map, hz]; rfl
        rw [eu, List.getElem?_map, hu] at h1
        exact (Option.some.inj h1).symm
      have lz := hLn z (List.mem_of_getElem? hz)
      have pAll : ∀ HH : Hp, Paired (LnV K HH) (ys.map V.str) (us.map some) := fun HH => by
        rw [← eu]
        exact lnv_all ys h80
      -- a line twice
      refine ⟨_, rfl, L, _, rfl, .inl (SqL.of eL9), _, _, rfl, rfl, _, rfl, ?_⟩
      have hd : decide (((ys.map V.str).length : Int) < 11) = true := decide_eq_true (by rw [lst]; omega)
      rw [hd]
      refine ⟨_, rfl, _, rfl, _, rfl, L, _, (j : Int), .str z, rfl, rfl, SqL.of eL9, atI_nat (j := j) hz2, sl 1 (by decide), fun S1 HA nA eS1 sA => ?_⟩
      refine ⟨L, S1, _, _, rfl, rfl, sA _ _ eL9, eS1, sl _ (by rw [List.length_map]; show _ + 1 ≤ _; omega), fun W HB nB eW sB => ?_⟩
      refine ⟨W, _, us.map some ++ some u :: [], rfl, SqL.of eW, paired_app (pAll _) (.cons (.inl ⟨z, rfl, by have := lz.l; omega, hzu.symm⟩) .nil), by rw [List.length_append, List.length_map]; show _ + 1 ≤ _; omega, met_taken fru (taken_mem (List.mem_of_getElem? hu)) (by omega) fun HC sC => ?_⟩
      refine ⟨_, rfl, L, _, rfl, .inl (SqL.of (sC _ _ (sB _ _ (sA _ _ eL9)))), _, rfl, ?_, _, _, rfl, rfl, ?_, par_ne2 (by rw [lst, hlu]) ⟨_, rfl, ?_⟩⟩
      · rw [List.length_map]
        exact lg100 (by omega)
      · rw [List.length_map]
        exact nm9 (by omega)
      have kC := kk9.trans (Kt.same kk9.tp (sA.trans (sB.trans sC)))
      have eLC := (sA.trans (sB.trans sC)) _ _ eL9
      obtain ⟨wd, nm, w2, hnm, hsp, hk⟩ := line_kind ok2 (pm.mem_iff.mp (List.mem_of_getElem? hz))
      have hzl := lz.l
      have ln8 := (isW_len hnm).2
      have eq1 : (Str.ofString " ").length = 1 := by decide +kernel
      have eq6 : (Str.ofString "agent ").length = 6 := by decide +kernel
      have eq5 : (Str.ofString "pool ").length = 5 := by decide +kernel
      have eq2 : (Str.ofString " s").length = 2 := by decide +kernel
      refine ⟨_, rfl, _, rfl, L, _, (j : Int), .str z, rfl, rfl, SqL.of eLC, atI_nat (j := j) hz2, ⟨_, rfl⟩, z, _, rfl, rfl, by rw [eq1]; rfl, sl _ (by omega), fun p1 np1 => ?_⟩
      rw [hsp]
      refine ⟨p1, _, 1, .str nm, rfl, rfl, SqL.of upd_same, atI_nat (j := 1) rfl, ?_⟩
      have kD := kC.trans (Kt.new (o := .lst ((wd :: nm :: w2).map V.str)) kC.tp np1)
      have eLD := (Kt.new (o := .lst ((wd :: nm :: w2).map V.str)) kC.tp np1).strs kC.tp eLC
      generalize upd HC p1 (.lst ((wd :: nm :: w2).map V.str)) = HD at kD eLD ⊢
      refine ⟨_, rfl, _, rfl, L, _, (j : Int), .str z, rfl, rfl, SqL.of eLD, atI_nat (j := j) hz2, _, rfl, z, rfl, sl _ (by omega), rfl, _, rfl, ?_⟩
      have pAg : (agOf us).Perm ag2 := by have := agOf_perm pu; rwa [(told_ag ag2 pl2 as2).1] at this
      have pPl : (plOf us).Perm pl2 := by have := plOf_perm pu; rwa [(told_ag ag2 pl2 as2).2.1] at this
      have pAc : (acOf us).Perm as2 := by have := acOf_perm pu; rwa [(told_ag ag2 pl2 as2).2.2] at this
      rcases hk with ⟨hm, h5, h6⟩ | ⟨hm, h5, h6⟩ | ⟨h5, h6⟩
      case' ag =>
        have hd5 : decide (V.str (cutS z none (some 5)) = V.str (Str.ofString "agent")) = true := decide_eq_true (congrArg V.str h5)
        rw [hd5]
        refine ⟨_, rfl, _, _, rfl, rfl, sl _ (by rw [eq5]; omega), _, _, rfl, rfl, sl _ (by rw [Str.length_append, eq5, eq2]; omega), ?_⟩
        refine ⟨_, rfl, L, _, rfl, .inl (SqL.of eLD), _, _, rfl, rfl, _, rfl, ?_⟩
        rw [hd]
        refine ⟨_, rfl, _, rfl, L, _, (j : Int), .str z, rfl, rfl, SqL.of eLD, atI_nat (j := j) hz2, _, rfl, z, rfl, sl _ (by omega), rfl, _, rfl, ?_⟩
        have hd6 : decide (V.str (cutS z none (some 6)) = V.str (Str.ofString "action")) = false := decide_eq_false fun e => h6 (V.str.inj e)
        rw [hd6]
        refine ⟨_, rfl, _, rfl, sl 1 (by decide), fun S2 HE nE eS2 sE => ⟨L, S2, _, _, rfl, rfl, sE _ _ eLD, eS2, sl _ (by rw [List.length_map]; show _ + 1 ≤ _; omega), fun W2 HF nF eW2 sF => ?_⟩⟩
        refine ⟨W2, _, us.map some ++ some (.ow false (nm, ["s"])) :: [], rfl, SqL.of eW2, paired_app (pAll _) (.cons (.inl ⟨_, rfl, by rw [Str.length_append, Str.length_append, eq5, eq2]; omega, (own_rd false hnm).symm⟩) .nil), by rw [List.length_append, List.length_map]; show _ + 1 ≤ _; omega, met_taken fru ?_ (by omega) fun HG sG => ?_⟩
        · show (decide _ || decide _) = true
          rw [decide_eq_true (p := nm ∈ (agOf us).map (·.1)) ((pAg.map _).mem_iff.mpr hm), Bool.true_or]
        refine ⟨_, rfl, L, _, rfl, .inl (SqL.of (sG _ _ (sF _ _ (sE _ _ eLD)))), _, rfl, ?_, _, _, rfl, rfl, ?_, par_ne2 (by rw [lst, hlu]) ⟨_, rfl, ?_⟩⟩
        · rw [List.length_map]
          exact lg100 (by omega)
        · rw [List.length_map]
          exact nm9 (by omega)
        have kZ := kD.trans (Kt.same kD.tp (sE.trans (sF.trans sG)))
        have eLZ := (sE.trans (sF.trans sG)) _ _ eLD
        generalize HG = HZ at kZ eLZ
      case' pl =>
        have hd5 : decide (V.str (cutS z none (some 5)) = V.str (Str.ofString "agent")) = false := decide_eq_false (fun e => h5 (V.str.inj e))
        rw [hd5]
        refine ⟨_, rfl, _, _, rfl, rfl, sl _ (by rw [eq6]; omega), _, _, rfl, rfl, sl _ (by rw [Str.length_append, eq6, eq2]; omega), ?_⟩
        refine ⟨_, rfl, L, _, rfl, .inl (SqL.of eLD), _, _, rfl, rfl, _, rfl, ?_⟩
        rw [hd]
        refine ⟨_, rfl, _, rfl, L, _, (j : Int), .str z, rfl, rfl, SqL.of eLD, atI_nat (j := j) hz2, _, rfl, z, rfl, sl _ (by omega), rfl, _, rfl, ?_⟩
        have hd6 : decide (V.str (cutS z none (some 6)) = V.str (Str.ofString "action")) = false := decide_eq_false fun e => h6 (V.str.inj e)
        rw [hd6]
        refine ⟨_, rfl, _, rfl, sl 1 (by decide), fun S2 HE nE eS2 sE => ⟨L, S2, _, _, rfl, rfl, sE _ _ eLD, eS2, sl _ (by rw [List.length_map]; show _ + 1 ≤ _; omega), fun W2 HF nF eW2 sF => ?_⟩⟩
        refine ⟨W2, _, us.map some ++ some (.ow true (nm, ["s"])) :: [], rfl, SqL.of eW2, paired_app (pAll _) (.cons (.inl ⟨_, rfl, by rw [Str.length_append, Str.length_append, eq6, eq2]; omega, (own_rd true hnm).symm⟩) .nil), by rw [List.length_append, List.length_map]; show _ + 1 ≤ _; omega, met_taken fru ?_ (by omega) fun HG sG => ?_⟩
        · show (decide _ || decide _) = true
          rw [decide_eq_true (p := nm ∈ (plOf us).map (·.1)) ((pPl.map _).mem_iff.mpr hm), Bool.or_true]
        refine ⟨_, rfl, L, _, rfl, .inl (SqL.of (sG _ _ (sF _ _ (sE _ _ eLD)))), _, rfl, ?_, _, _, rfl, rfl, ?_, par_ne2 (by rw [lst, hlu]) ⟨_, rfl, ?_⟩⟩
        · rw [List.length_map]
          exact lg100 (by omega)
        · rw [List.length_map]
          exact nm9 (by omega)
        have kZ := kD.trans (Kt.same kD.tp (sE.trans (sF.trans sG)))
        have eLZ := (sE.trans (sF.trans sG)) _ _ eLD
        generalize HG = HZ at kZ eLZ
      case' ac =>
        have hd5 : decide (V.str (cutS z none (some 5)) = V.str (Str.ofString "agent")) = false := decide_eq_false (fun e => h5 (V.str.inj e))
        rw [hd5]
        refine ⟨_, rfl, _, _, rfl, rfl, sl _ (by rw [eq6]; omega), _, _, rfl, rfl, sl _ (by rw [Str.length_append, eq6, eq2]; omega), ?_⟩
        refine ⟨_, rfl, L, _, rfl, .inl (SqL.of eLD), _, _, rfl, rfl, _, rfl, ?_⟩
        rw [hd]
        refine ⟨_, rfl, _, rfl, L, _, (j : Int), .str z, rfl, rfl, SqL.of eLD, atI_nat (j := j) hz2, _, rfl, z, rfl, sl _ (by omega), rfl, _, rfl, ?_⟩
        have hd6 : decide (V.str (cutS z none (some 6)) = V.str (Str.ofString "action")) = true := decide_eq_true (congrArg V.str h6)
        rw [hd6]
        have kZ := kD
        have eLZ := eLD
        generalize HD = HZ at kZ eLZ ⊢
      all_goals
        refine ⟨_, rfl, L, rfl, ⟨_, SqL.of eLZ⟩, fun OW nOW => ?_⟩
        refine lc_list (K := K) (a := L) (xs := ys.map V.str) (fun i H5' => Same HZ H5' ∧ H5' OW = some (.lst (((ys.take i).filter fun z => !decide (V.str (cutS z none (some 6)) = V.str (Str.ofString "action"))).map V.str))) ⟨gSame_new nOW, upd_same⟩ (fun i H5' _ h5 => SqL.of (h5.1 _ _ eLZ)) (fun i x H5' hx h5 => ?_) (fun H5' h5 => ?_)
        · obtain ⟨s5', d5⟩ := h5
          rw [List.getElem?_map] at hx
          obtain ⟨zi, hzi, rfl⟩ := Option.map_eq_some_iff.mp hx
          have lzi := (hLn zi (List.mem_of_getElem? hzi)).l
          refine ⟨rfl, _, rfl, _, rfl, zi, rfl, sl _ (by omega), rfl, ?_⟩
          have lfi : (((ys.take i).filter fun z => !decide (V.str (cutS z none (some 6)) = V.str (Str.ofString "action"))).map V.str).length ≤ 11 := by
            rw [List.length_map]
            have h1 := List.length_filter_le (fun z => !decide (V.str (cutS z none (some 6)) = V.str (Str.ofString "action"))) (ys.take i)
            rw [List.length_take] at h1
            omega
          refine ⟨_, rfl, ?_⟩
          refine ite2 (fun hc => ?_) (fun hc => ?_)
          · refine ⟨_, rfl, _, d5, by rw [sizeLine_eq]; omega, gSame_mut s5' nOW, ?_⟩
            rw [upd_same, List.take_add_one, hzi, List.filter_append, List.map_append]
            show _ = some (HO.lst (_ ++ ([zi].filter _).map V.str))
            rw [List.filter_cons, hc]
            rfl
          · refine ⟨s5', ?_⟩
            rw [d5, List.take_add_one, hzi, List.filter_append, List.map_append]
            show _ = some (HO.lst (_ ++ ([zi].filter _).map V.str))
            rw [List.filter_cons, if_neg hc]
            show _ = some (HO.lst (_ ++ []))
            rw [List.append_nil]
        · obtain ⟨s5', d5⟩ := h5
          rw [List.length_map, List.take_length] at d5
          have kY := kZ.trans (Kt.same kZ.tp s5')
          have eLY := s5' _ _ eLZ
          have efr := filt_rd (f := fun z => !decide (V.str (cutS z none (some 6)) = V.str (Str.ofString "action"))) eu fun z hz u hu => kind_noA ok2 (pm.mem_iff.mp hz) hu
          have lfi : ((ys.filter fun z => !decide (V.str (cutS z none (some 6)) = V.str (Str.ofString "action"))).map V.str).length ≤ 11 := by
            rw [List.length_map]
            have h1 := List.length_filter_le (fun z => !decide (V.str (cutS z none (some 6)) = V.str (Str.ofString "action"))) ys
            omega
          have la5 : (agOf us).length ≤ 5 := by rw [pAg.length_eq]; exact ok2.s.la
          have lp3 : (plOf us).length ≤ 3 := by rw [pPl.length_eq]; exact ok2.s.lp
          have dsys : decide (V.str (Str.ofString "system") = V.str (Str.ofString "system")) = true := decide_eq_true rfl
          refine ⟨_, rfl, OW, _, _, rfl, SqL.of d5, by rw [← efr]; exact lnv_all _ fun z hz => h80 z (List.mem_filter.mp hz).1, lfi, met_sys (free_noA fru) ⟨(noA_of us).1, (noA_of us).2.1, (noA_of us).2.2⟩ la5 lp3 (by decide) (.inl rfl) fun H6 s6 => ⟨rfl, ?_⟩⟩
          rw [dsys]
          refine ⟨_, rfl, ?_⟩
          -- no lines
          refine ⟨_, rfl, _, rfl, L, _, rfl, SqL.of (s6 _ _ eLY), fun S3 H7 n7 e7 s7 => ?_⟩
          have ez : cutV (ys.map V.str) none (some 0) = [] := cut_to V.str ys 0
          rw [ez] at e7
          refine ⟨S3, [], ([] : List Told).map some, rfl, SqL.of e7, .nil, by decide, met_sys (us := []) ⟨List.nodup_nil, List.nodup_nil⟩ ⟨rfl, rfl, rfl⟩ (by decide) (by decide) (by decide) (.inl rfl) fun H8 s8 => ⟨rfl, ?_⟩⟩
          rw [dsys]
          refine ⟨_, rfl, ?_⟩
          have s68 := s6.trans (s7.trans s8)
          have kX := kY.trans (Kt.same kY.tp s68)
          have eLX := s68 _ _ eLY
          have d10 : decide ((10 : Int) < ((ys.map V.str).length : Int)) = false := decide_eq_false (by rw [lst]; omega)
          have inA : ∀ n ∈ (agOf us).map (·.1), n ∈ (["ann", "bo", "cy"] : List Str) := fun n hn => by
            obtain ⟨o, ho, rfl⟩ := List.mem_map.mp hn
            exact okOw_in okp.oA (pa2.mem_iff.mp (pAg.mem_iff.mp ho))
          have inP : ∀ n ∈ (plOf us).map (·.1), n ∈ (["kin", "lot"] : List Str) := fun n hn => by
            obtain ⟨o, ho, rfl⟩ := List.mem_map.mp hn
            exact okOw_in okp.oP (pp2.mem_iff.mp (pPl.mem_iff.mp ho))
          have inX : ∀ n ∈ (acOf us).map (·.1), n ∈ (["buy", "go", "hop", "pay", "zip"] : List Str) := fun n hn => by
            obtain ⟨k, _, _, e⟩ := okp.nX
            have h1 := ((pAc.trans px2).map (·.1)).mem_iff.mp hn
            rw [e] at h1
            exact List.mem_of_mem_take h1
          have nzz : Str.ofString "zz" ∉ (acOf us).map (·.1) := fun h => (by decide +kernel : Str.ofString "zz" ∉ (["buy", "go", "hop", "pay", "zip"] : List Str)) (inX _ h)
          have nA : Str.ofString "zzz" ∉ (agOf us).map (·.1) := fun h => (by decide +kernel : Str.ofString "zzz" ∉ (["ann", "bo", "cy"] : List Str)) (inA _ h)
          have nP : Str.ofString "zzz" ∉ (plOf us).map (·.1) := fun h => (by decide +kernel : Str.ofString "zzz" ∉ (["kin", "lot"] : List Str)) (inP _ h)
          have fb : FitBad (agOf us) (plOf us) zzA.2 := .inl ⟨("zzz", "s", "s"), List.mem_singleton.mpr rfl, nA, nP⟩
          have bad : SysBad (agOf us) (plOf us) (zzA :: acOf us) := .inr ⟨⟨zzA, List.mem_cons_self .., fb⟩, fun x hx => by
            rcases List.mem_cons.mp hx with e | hx
            · rw [e]
              exact .inr fb
            · exact .inl ((ok2.fit x (pAc.mem_iff.mp hx)).perm pAg pPl)⟩
          have lx16 : (zzA :: acOf us).length ≤ 16 := by
            rw [List.length_cons, pAc.length_eq, px2.length_eq]
            obtain ⟨k, _, _, e⟩ := okp.nX
            have h3 := congrArg List.length e
            rw [List.length_map, List.length_take] at h3
            have h3 : as.length = min k 5 := h3
            omega
          refine ⟨_, rfl, L, _, rfl, .inl (SqL.of eLX), _, _, rfl, rfl, false, ?_, ?_⟩
          · show V.bl (decide ((10 : Int) < ((ys.map V.str).length : Int))) = _
            rw [d10]
          · refine ⟨_, _, rfl, rfl, sl _ (by decide +kernel), sl 1 (by decide), fun S4 H9 n9 e9 s9 => ⟨_, rfl, S4, L, _, _, rfl, rfl, e9, s9 _ _ eLX, sl _ (by rw [List.length_map]; show 1 + _ ≤ _; omega), fun W9 H10 n10 e10 s10 => ?_⟩⟩
            refine ⟨W9, _, (Told.ac zzA :: us).map some, rfl, SqL.of e10, .cons (.inl ⟨_, rfl, by decide +kernel, zz_rd.symm⟩) (pAll _), by rw [List.length_append, List.length_map]; show 1 + _ ≤ _; omega, met_sys (zz_free fru nzz) ⟨rfl, rfl, rfl⟩ la5 lp3 lx16 bad fun H11 s11 => ⟨rfl, ?_⟩⟩
            rw [dsys]
            exact q H11 (kX.trans (Kt.same kX.tp (s9.trans (s10.trans s11))))
end
end Gk

set_option Elab.async false
set_option linter.all false
set_option maxRecDepth 100000
set_option maxHeartbeats 16000000
namespace Gk
open PySem PySem.Spec PyProof.Rows L2
open SkE (call_repr_int)
abbrev s_law : Stmt := topS 55
theorem sc_law : FnScope ["script", "at", "tape", "lines", "told", "due"] ["script"] (defScope s_law) := ⟨rfl, rfl, rfl, by decide +kernel, rfl, by decide +kernel, by decide +kernel⟩
def spLaw (K : PySem.W.Frag) : Sp := fun vs H Q _ => ∃ (a : Addr) (ns : List Int), vs = [.ref a] ∧ SqL K H a (ns.map V.int) ∧ ns.length ≤ 63 ∧ ∀ H', Q (.bl true) H'
def oAnn : Own := ("ann", ["s"])
def oGo : Own := ("go", ["s"])
def xGo : Act := ("go", [("go", "s", "s")])
def xAt : Act := ("go", [("ann", "s", "t")])
def xAs : Act := ("go", [("ann", "s", "s")])
theorem r_ow (b : Bool) {z : Str} {o : Own} (e : z = owL (owW b) o) (h1 : isW o.1 = true) (h2 : OkSt o.2) : rdL z = some (.ow b o) := by
  rw [e]
  exact rdL_ow h1 h2
theorem r_ac {z : Str} {c : Str} {m : Mv} (e : z = acL (c, [m])) (hc : isW c = true) (hm : ∀ s ∈ [m.1, m.2.1, m.2.2], isW s = true) : rdL z = some (.ac (c, [m])) := by
  rw [e]
  refine rdL_ac (rdA_li hc (by simp) (by decide : 1 ≤ 4) (fun n hn => ?_) (sortM_of (.refl _) (List.pairwise_singleton _ _)))
  rw [List.mem_singleton.mp hn]
  exact hm
theorem ok_s1 : OkSt (["s"] : List Str) := ⟨by decide, by decide, by decide +kernel, by decide +kernel⟩
theorem ok_s2 : OkSt (["s", "t"] : List Str) := ⟨by decide, by decide, by decide +kernel, by decide +kernel⟩
theorem r1 : rdL "agent ann s" = some (.ow true oAnn) := r_ow true (by decide +kernel) (by decide +kernel) ok_s1
theorem r2 : rdL "action go ann s t" = some (.ac xAt) := r_ac (by decide +kernel) (by decide +kernel) (by decide +kernel)
theorem r3 : rdL "agent ann s t" = some (.ow true ("ann", ["s", "t"])) := r_ow true (by decide +kernel) (by decide +kernel) ok_s2
theorem r4 : rdL "pool ann s" = some (.ow false oAnn) := r_ow false (by decide +kernel) (by decide +kernel) ok_s1
theorem r5 : rdL "agent go s" = some (.ow true oGo) := r_ow true (by decide +kernel) (by decide +kernel) ok_s1
theorem r6 : rdL "action go go s s" = some (.ac xGo) := r_ac (by decide +kernel) (by decide +kernel) (by decide +kernel)
theorem r7 : rdL "action go ann s s" = some (.ac xAs) := r_ac (by decide +kernel) (by decide +kernel) (by decide +kernel)
theorem r8 : rdL "action go ann s" = none := by
  cases q : rdL "action go ann s" with
  | none => rfl
  | some u =>
    have h : (rdL "action go ann s").isNone = true := by decide +kernel
    rw [q] at h
    cases h
instance decOwn : DecidableEq Own := inferInstanceAs (DecidableEq (Str × List Str))
instance decAct : DecidableEq Act := inferInstanceAs (DecidableEq (Str × List (Str × Str × Str)))
instance decRun : DecidableEq (Sum Nat Tabs3) := inferInstanceAs (DecidableEq (Sum Nat (List (Str × List Str) × List (Str × List Str) × List (Str × List (Str × Str × Str)))))
theorem run1 : runT [some (.ow true oAnn), some (.ac xAt)] 0 ([], [], []) = .inr ([oAnn], [], [xAt]) := by decide +kernel
theorem run2 : runT [some (.ow true oAnn), some (.ac xAt), some (.ow true ("ann", ["s", "t"]))] 0 ([], [], []) = .inl 2 := by decide +kernel
theorem run3 : runT [some (.ow false oAnn), some (.ow true oAnn), some (.ac xAt)] 0 ([], [], []) = .inl 1 := by decide +kernel
theorem run5 : runT [some (.ow true oGo), some (.ac xGo)] 0 ([], [], []) = .inr ([oGo], [], [xGo]) := by decide +kernel
theorem run6 : runT [some (.ow true oAnn), some (.ac xAs), some (.ac xAs)] 0 ([], [], []) = .inl 2 := by decide +kernel
theorem run7 : runT [some (.ow true oAnn), none] 0 ([], [], []) = .inl 1 := by decide +kernel
theorem bad1 : SysBad [oAnn] [] [xAt] := .inr ⟨⟨xAt, List.mem_singleton.mpr rfl, .inr ⟨by decide +kernel, by decide +kernel, by decide +kernel, by decide +kernel⟩⟩, fun x hx => .inr (by
  rw [List.mem_singleton.mp hx]
  exact .inr ⟨by decide +kernel, by decide +kernel, by decide +kernel, by decide +kernel⟩)⟩
theorem make_act {K : PySem.W.Frag} {C CN CA p : Addr} {c : Str} {ys : List V} {ms : List Mv} {H : Hp} {Q : VK} {E : XK} (hc : isW c = true) (h1 : SqT K H p ys) (h2 : TyX K H (.ref p) (.type "tuple")) (h3 : Paired (MvR K H) ys ms) (l1 : 1 ≤ ms.length) (l4 : ms.length ≤ 4) (hw : OkMv ms)
    (q : ∀ a H', Same H H' → ActV K H' C a c (sortM ms) → Q (.ref a) H') : MakeS C (spAct K C CN CA) E [.str c, .ref p] H Q := fun a dx na ndx ne => by
  have sN : Same H (upd (upd H dx (.own a)) a (.ins C dx [])) := (gSame_new ndx).trans (gSame_new (by rw [upd_ne ne.symm]; exact na))
  refine ⟨a, dx, .str c, .ref p, rfl, upd_same, .inr ⟨c, rfl, hc, .inr ⟨p, ys, ms, rfl, gSeqT sN h1, h2.same sN, paired_mono (fun _ _ h => h.same sN) h3, l1, l4, hw, fun H3 k3 v3 => ⟨rfl, q a H3 (fun b o e => ?_) v3⟩⟩⟩⟩
  have nb : b ≠ a := fun z => by
    rw [z, na] at e
    cases e
  exact k3 b o nb (sN _ _ e)
theorem of_nil {C : Addr} {sp : Sp} {E : XK} {σ : L2.St} {a b : V} {H : Hp} {Q : VK} (h : MakeS C sp E [a, b] H Q) : tNil σ H fun xs H2 => MakeS C sp E (a :: b :: xs) H2 Q := h
theorem okGo : OkR [oGo] [] [xGo] := by
  refine ⟨⟨by decide, by decide, by decide, by decide, fun o ho => ?_, fun o ho => (by cases ho), by decide +kernel, by decide +kernel, by decide +kernel, by decide +kernel⟩, fun x hx => ?_, fun x hx => ?_⟩
  · rw [List.mem_singleton.mp ho]
    exact ⟨by decide +kernel, ok_s1⟩
  · rw [List.mem_singleton.mp hx]
    refine rdA_li (by decide +kernel) (by unfold xGo; simp) (by decide) (fun n hn => ?_) (sortM_of (.refl _) (List.pairwise_singleton _ _))
    rw [List.mem_singleton.mp hn]
    have w : ∀ s ∈ (["go", "s", "s"] : List Str), isW s = true := by decide +kernel
    exact w
  · rw [List.mem_singleton.mp hx]
    exact ⟨by decide +kernel, by decide +kernel, by decide +kernel⟩
section
variable {K : PySem.W.Frag} {CS CA : Addr} {H : Hp} {Q : VK}
theorem met_bad {ts : List (Option Told)} {ag pl : List Own} {as : List Act} (h : runT ts 0 ([], [], []) = .inr (ag, pl, as)) (la : ag.length ≤ 5) (lp : pl.length ≤ 3) (lx : as.length ≤ 16) (b : SysBad ag pl as) (q : ∀ H', Same H H' → Q (.str "system") H') : MetQ K CS CA ts H Q := by
  refine ⟨fun i hi => ?_, fun ag1 pl1 as1 hr => ?_⟩
  · rw [h] at hi
    cases hi
  · rw [h] at hr
    injection hr with hr
    injection hr with h1 hr
    injection hr with h2 h3
    subst h1 h2 h3
    exact ⟨la, lp, lx, .inr ⟨b, q⟩⟩
theorem st_ln {z : Str} {u : Option Told} (l : z.length ≤ 80000) (e : rdL z = u) : LnV K H (.str z) u := .inl ⟨z, rfl, l, e.symm⟩
end
section
variable {P : Program} {w : World} {K : PySem.W.Frag} {mg : Str → Option Value} {base : Heap}
theorem ok_law {C_System C_Action fSI fE' fI fC pC fM pM fL fE fS : Addr} {dSI dE' dI dC dM dL dE dS : FuncData} {CN CA' : Addr} (B : Blt mg) (TA : ActK K mg C_Action fI fC pC fM pM fL fE fS dI dC dM dL dE dS) (TS : SysK K mg C_System fSI dSI)
    (TS_OE : OwnD K C_System "__eq__" fE') (TS_BE : Binds K dE' ["self", "other"] [])
    (G_eqS : FnOk P w K mg base CX0 1 fE' dE' ["self", "other"] (spEqS K C_System C_Action))
    (G_init : FnOk P w K mg base (L2.CX P w) 4 fI dI ["self", "called", "moves"] (spAct K C_Action CN CA'))
    (G_System : FnOk P w K mg base (L2.CX P w) 6 fSI dSI ["self", "agents", "pools", "actions"] (spSysI K C_System C_Action))
    {f1 f2 f3 f : Addr} {d1 d2 d3 fd : FuncData}
    (D_tape : Df K mg "_law_tape" s_tape ["script", "spot"] f1 d1) (G_tape : FnOk P w K mg base CX0 1 f1 d1 ["script", "spot"] (spTape K))
    (D_right : Df K mg "_law_right" s_right ["tape"] f2 d2) (G_right : FnOk P w K mg base CX0 11 f2 d2 ["tape"] spRightS)
    (D_met : Df K mg "_law_met" s_met ["lines"] f3 d3) (G_met : FnOk P w K mg base CX0 10 f3 d3 ["lines"] (spMetL K C_System C_Action))
    (D : Df K mg "law" s_law ["script"] f fd) : FnOk P w K mg base CX0 12 f fd ["script"] (spLaw K) := by
  refine D.F.ok sc_law (fun vs H Q E h => ?_) (fun cdv A outer s H vs Q E hr h => ?_)
  · obtain ⟨a, ns, rfl, _⟩ := h
    rfl
  · obtain ⟨a, ns, rfl, hS, hl, q⟩ := h
    refine ⟨_, (pss_cons (ps_for PassesOwn.never rfl (pi_range1 (by rfl) B.range (pa_cons (pe_callB (call_max2 rfl) (by rfl) B.max_ (by decide +kernel) (pa_cons pe_int (pa_cons (pe_callB (call_min2 rfl) (by rfl) B.min_ (by decide +kernel) (pa_cons pe_int (pa_cons (pe_callB call_len_seq (by rfl) B.len_ (by decide +kernel) (pa_cons (pv 0) pa_nil)) pa_nil))) pa_nil))) pa_nil)) (pg_name (i := 1) sc_law.nd rfl (Or.inl rfl))
    (pss_cons (ps_set (i := 2) sc_law.nd rfl (Or.inl rfl) (pe_call G_tape (hr.mono (by decide)) (by rfl) D_tape.g D_tape.F.kp D_tape.b .nil pass0 (pa_cons (pv 0) (pa_cons (pv 1) pa_nil))))
    (pss_one (ps_if (PW.pt (pw_or (pt_not (pt_val (pe_call G_right (hr.mono (by decide)) (by rfl) D_right.g D_right.F.kp D_right.b .nil pass0 (pa_cons (pv 2) pa_nil)) (by intro _; rfl))) (pw_or1 (pt_not (pt_val (pe_call G_right (hr.mono (by decide)) (by rfl) D_right.g D_right.F.kp D_right.b .nil pass0 (pa_cons (pv 2) pa_nil)) (by intro _; rfl))))))
    (pss_one (ps_ret pe_bl)) pss_nil))))
    (pss_cons (ps_set (i := 3) sc_law.nd rfl (Or.inl rfl) (pe_lstN (pa_cons pe_str (pa_cons pe_str pa_nil))))
    (pss_cons (ps_set (i := 4) sc_law.nd rfl (Or.inl rfl) (pe_lstN (pa_cons (pe_call G_met (hr.mono (by decide)) (by rfl) D_met.g D_met.F.kp D_met.b .nil pass0 (pa_cons (pv 3) pa_nil)) (pa_cons (pe_call G_met (hr.mono (by decide)) (by rfl) D_met.g D_met.F.kp D_met.b .nil pass0 (pa_cons (pe_op op_catN (pv 3) (pe_lstN (pa_cons pe_str pa_nil))) pa_nil)) (pa_cons (pe_call G_met (hr.mono (by decide)) (by rfl) D_met.g D_met.F.kp D_met.b .nil pass0 (pa_cons (pe_op op_catN (pe_lstN (pa_cons pe_str pa_nil)) (pv 3)) pa_nil)) (pa_cons (pe_call G_met (hr.mono (by decide)) (by rfl) D_met.g D_met.F.kp D_met.b .nil pass0 (pa_cons (pe_lstN pa_nil) pa_nil)) pa_nil))))))
    (pss_cons (ps_set (i := 5) sc_law.nd rfl (Or.inl rfl) (pe_makeS TS.M G_System (hr.mono (by decide)) (by rfl) TS.g TS.BI (fun σ pins H s e s' I c => passL0 pins σ H s e s' I c) (pa_cons (pe_disp (pps_cons pe_str (pe_tupN (pa_cons pe_str pa_nil)) pps_nil) (by rfl) (by rfl) (fun z => by cases z) (by decide)) (pa_cons pe_dnewN (pa_cons (pe_tupN (pa_cons (pe_makeS TA.M G_init (hr.mono (by decide)) (by rfl) TA.g TA.BI (fun σ pins H s e s' I c => passL0 pins σ H s e s' I c) (pa_cons pe_str (pa_cons (pe_tupN (pa_cons (pe_tupN (pa_cons pe_str (pa_cons pe_str (pa_cons pe_str pa_nil)))) pa_nil)) pa_nil))) pa_nil)) pa_nil)))))
    (pss_cons (ps_expr (pe_bm PySem.F.plainAttrs_list PySem.F.slot_list_append PySem.F.type_list_append mt_append (pv 4) (pa_cons (pe_cmpR (op_eqOK K rfl TS_OE G_eqS TS_BE pass0 (hr.mono (by decide))) (pe_call G_met (hr.mono (by decide)) (by rfl) D_met.g D_met.F.kp D_met.b .nil pass0 (pa_cons (pe_lstN (pa_cons pe_str (pa_cons pe_str pa_nil))) pa_nil)) (pv 5) (nomark _)) pa_nil)))
    (pss_cons (ps_expr (pe_bm PySem.F.plainAttrs_list PySem.F.slot_list_append PySem.F.type_list_append mt_append (pv 4) (pa_cons (pe_call G_met (hr.mono (by decide)) (by rfl) D_met.g D_met.F.kp D_met.b .nil pass0 (pa_cons (pe_lstN (pa_cons pe_str (pa_cons pe_str (pa_cons pe_str pa_nil)))) pa_nil)) pa_nil)))
    (pss_cons (ps_expr (pe_bm PySem.F.plainAttrs_list PySem.F.slot_list_append PySem.F.type_list_append mt_append (pv 4) (pa_cons (pe_call G_met (hr.mono (by decide)) (by rfl) D_met.g D_met.F.kp D_met.b .nil pass0 (pa_cons (pe_lstN (pa_cons pe_str (pa_cons pe_str pa_nil))) pa_nil)) pa_nil)))
    (pss_one (ps_ret (pe_cmpR (op_eqD hr.units) (pv 4) (pe_lstN (pa_cons pe_str (pa_cons pe_str (pa_cons pe_str (pa_cons pe_str (pa_cons pe_bl (pa_cons pe_str (pa_cons pe_str pa_nil)))))))) (nomark _))))))))))), ?_⟩
    have sl : ∀ n : Nat, n ≤ 100000 → n ≤ sizeLine := fun n hn => by rw [sizeLine_eq]; omega
    refine ⟨_, rfl, a, _, rfl, .inl hS, _, _, rfl, _, _, rfl, _, rfl, ?_, ?_, ?_⟩
    · split <;> split <;> omega
    · split <;> split <;> omega
    · refine for_range (lo := 0) (fun i σ H1 => Same H H1 ∧ ∃ b1 b2 b3 b4 b5 : Option V, σ = [some (.ref a), b1, b2, b3, b4, b5]) ⟨Same.refl H, _, _, _, _, _, rfl⟩ (fun i σ H1 hi hP => ?_) (fun σ H1 hP => ?_)
      · obtain ⟨e1, b1, b2, b3, b4, b5, rfl⟩ := hP
        refine ⟨_, rfl, _, rfl, a, ns, _, rfl, e1.seq hS, by omega, fun t x y z ht => ?_⟩
        have hT2 : Tp (upd H1 t (.lst [.int x, .int y, .int z])) t := ⟨x, y, z, upd_same⟩
        have s2 : Same H1 (upd H1 t (.lst [.int x, .int y, .int z])) := gSame_new ht
        generalize upd H1 t (.lst [.int x, .int y, .int z]) = H2 at hT2 s2
        have back : ∀ H3, Kt t H2 H3 → Same H H3 := fun H3 k b o e => k.kp b o (fun q => by
          have e' := e1 _ _ e
          rw [q, ht] at e'
          cases e') (s2 _ _ (e1 _ _ e))
        refine ⟨_, rfl, t, rfl, hT2, fun H3 k3 => ⟨true, rfl, ?_⟩⟩
        refine ⟨_, rfl, t, rfl, k3.tp, fun H4 k4 => ⟨true, rfl, ?_⟩⟩
        exact ⟨back _ (k3.trans k4), _, _, _, _, _, rfl⟩
      · obtain ⟨e1, b1, b2, b3, b4, b5, rfl⟩ := hP
        refine ⟨sl 2 (by decide), fun l1 H2 n2 e2 s2 => ?_⟩
        refine ⟨_, rfl, l1, _, _, rfl, SqL.of e2, .cons (st_ln (by decide +kernel) r1) (.cons (st_ln (by decide +kernel) r2) .nil), by decide, met_bad run1 (by decide) (by decide) (by decide) bad1 fun H3 s3 => ?_⟩
        refine ⟨_, rfl, sl 1 (by decide), fun l2 H4 n4 e4 s4 => ⟨l1, l2, _, _, rfl, rfl, s4 _ _ (s3 _ _ e2), e4, sl _ (by decide), fun l3 H5 n5 e5 s5 => ?_⟩⟩
        refine ⟨l3, _, _, rfl, SqL.of e5, .cons (st_ln (by decide +kernel) r1) (.cons (st_ln (by decide +kernel) r2) (.cons (st_ln (by decide +kernel) r3) .nil)), by decide, met_stop run2 (by decide) fun H6 s6 => ?_⟩
        have e6 := s6 _ _ (s5 _ _ (s4 _ _ (s3 _ _ e2)))
        refine ⟨sl 1 (by decide), fun l4 H7 n7 e7 s7 => ⟨_, rfl, l4, l1, _, _, rfl, rfl, e7, s7 _ _ e6, sl _ (by decide), fun l5 H8 n8 e8 s8 => ?_⟩⟩
        refine ⟨l5, _, _, rfl, SqL.of e8, .cons (st_ln (by decide +kernel) r4) (.cons (st_ln (by decide +kernel) r1) (.cons (st_ln (by decide +kernel) r2) .nil)), by decide, met_stop run3 (by decide) fun H9 s9 => ?_⟩
        refine ⟨sl 0 (by decide), fun l6 HA nA eA sA => ?_⟩
        refine ⟨l6, [], [], rfl, SqL.of eA, .nil, by decide, met_bad (ag := []) (pl := []) (as := []) rfl (by decide) (by decide) (by decide) (.inl rfl) fun HB sB => ?_⟩
        refine ⟨sl 4 (by decide), fun TL HC nC eC sC => ?_⟩
        refine fun dg ng => ⟨sl 1 (by decide), fun tS HD nD eD sD => ?_⟩
        refine ⟨sD _ _ upd_same, [(Sum.inr "go", .ref tS)], rfl, by show 1 ≤ 15; decide, ?_⟩
        rw [mergeK_nil (by simp), List.nil_append]
        have sE : Same HC (upd HD dg (.dK [(Sum.inr "go", .ref tS)])) := gSame_mut ((gSame_new ng).trans sD) ng
        have nSg : tS ≠ dg := fun z => by rw [z, upd_same] at nD; cases nD
        have eS : (upd HD dg (.dK [(Sum.inr "go", .ref tS)])) tS = some (.tup [.str "s"]) := by rw [upd_ne nSg]; exact eD
        have eg : (upd HD dg (.dK [(Sum.inr "go", .ref tS)])) dg = some (.dK [(Sum.inr "go", .ref tS)]) := upd_same
        generalize upd HD dg (.dK [(Sum.inr "go", .ref tS)]) = HE at sE eS eg ⊢
        refine fun dp HF nF eF sF => ⟨sl 3 (by decide), fun t3 HG nG eG sG => ⟨sl 1 (by decide), fun t1 HH nH eH sH => ?_⟩⟩
        have pm : Paired (MvR K HH) [.ref t3] [(("go" : Str), ("s" : Str), ("s" : Str))] := .cons ⟨t3, rfl, .inl (.inl (sH _ _ eG)), .base (.tup (sH _ _ eG))⟩ .nil
        refine of_nil (make_act (by decide +kernel) (.inl (.inl eH)) (.base (.tup eH)) pm (by decide) (by decide) (fun n hn => ?_) fun aa HI sI vI => ?_)
        · rw [List.mem_singleton.mp hn]
          have w : ∀ s ∈ (["go", "s", "s"] : List Str), isW s = true := by decide +kernel
          exact w
        rw [sortM_of (.refl _) (List.pairwise_singleton _ _)] at vI
        refine ⟨sl 1 (by decide), fun ta HJ nJ eJ sJ => fun x dx hx hdx nx => ?_⟩
        have sN : Same HJ (upd (upd HJ dx (.own x)) x (.ins C_System dx [])) := (gSame_new hdx).trans (gSame_new (by rw [upd_ne nx.symm]; exact hx))
        have hN : (upd (upd HJ dx (.own x)) x (.ins C_System dx [])) x = some (.ins C_System dx []) := upd_same
        generalize upd (upd HJ dx (.own x)) x (.ins C_System dx []) = HK at sN hN ⊢
        have sEK : Same HE HK := sF.trans (sG.trans (sH.trans (sI.trans (sJ.trans sN))))
        have sFK : Same HF HK := sG.trans (sH.trans (sI.trans (sJ.trans sN)))
        have ngp : dg ≠ dp := fun z => by rw [← z, eg] at nF; cases nF
        refine ⟨x, dx, dg, dp, ta, [(Sum.inr "go", .ref tS)], [], [.ref aa], [oGo], [], [xGo], rfl, hN, ⟨sEK _ _ eg, sFK _ _ eF, .inl (.inl (sN _ _ eJ)), .base (.tup (sN _ _ eJ)), .cons ⟨rfl, tS, rfl, .inl (.inl (sEK _ _ eS)), .base (.tup (sEK _ _ eS))⟩ .nil, .nil, .cons ⟨aa, rfl, (vI.same sJ).same sN⟩ .nil, ngp⟩, okGo.s, okGo.fit, fun HL ag' pl' as' bk pa pp px sv => ⟨rfl, ?_⟩⟩
        have sCL : Same HC HL := fun b u e => bk b u (fun z => by
          have e := sJ _ _ (sI _ _ (sH _ _ (sG _ _ (sF _ _ (sE _ _ e)))))
          rw [z, hx] at e
          cases e) (sEK _ _ (sE _ _ e))
        have eTL := sCL _ _ eC
        refine ⟨_, rfl, .inl ⟨rfl, _, SqL.of eTL⟩, sl 2 (by decide), fun l7 HM nM eM sM => ?_⟩
        refine ⟨l7, _, ([Told.ow true oGo, Told.ac xGo] : List Told).map some, rfl, SqL.of eM, .cons (st_ln (by decide +kernel) r5) (.cons (st_ln (by decide +kernel) r6) .nil), by decide, met_right okGo (.refl _) fun b HN ag2 pl2 as2 sN2 n2 pa2 pp2 px2 sv2 => ?_⟩
        have sv3 := (sv.same sM).same sN2
        obtain ⟨q1, q2, q3⟩ := sys_one sv2 sv3 pa2 pp2 px2 pa pp px
        subst q1 q2 q3
        refine ⟨_, rfl, sys_eq TS.IC sv2 sv3 ?_⟩
        rw [decide_eq_true rfl]
        have eTN := sN2 _ _ (sM _ _ eTL)
        refine ⟨TL, _, _, rfl, rfl, eTN, small1000 (by show 4 ≤ 1000; decide), ?_⟩
        generalize hP : upd HN TL _ = HP
        have eT1 : HP TL = some (.lst [V.str "system", V.str (prT 2), V.str (prT 1), V.str "system", V.bl true]) := by
          rw [← hP]
          exact upd_same
        refine ⟨_, rfl, .inl ⟨rfl, _, SqL.of eT1⟩, sl 3 (by decide), fun l8 HQ nQ eQ sQ => ?_⟩
        refine ⟨l8, _, _, rfl, SqL.of eQ, .cons (st_ln (by decide +kernel) r1) (.cons (st_ln (by decide +kernel) r7) (.cons (st_ln (by decide +kernel) r7) .nil)), by decide, met_stop run6 (by decide) fun HR sR => ?_⟩
        refine ⟨TL, _, _, rfl, rfl, sR _ _ (sQ _ _ eT1), small1000 (by show 5 ≤ 1000; decide), ?_⟩
        generalize hP2 : upd HR TL _ = HS
        have eT2 : HS TL = some (.lst [V.str "system", V.str (prT 2), V.str (prT 1), V.str "system", V.bl true, V.str (prT 2)]) := by
          rw [← hP2]
          exact upd_same
        refine ⟨_, rfl, .inl ⟨rfl, _, SqL.of eT2⟩, sl 2 (by decide), fun l9 HT nT eT sT => ?_⟩
        refine ⟨l9, _, _, rfl, SqL.of eT, .cons (st_ln (by decide +kernel) r1) (.cons (st_ln (by decide +kernel) r8) .nil), by decide, met_stop run7 (by decide) fun HU sU => ?_⟩
        refine ⟨TL, _, _, rfl, rfl, sU _ _ (sT _ _ eT2), small1000 (by show 6 ≤ 1000; decide), ?_⟩
        generalize hP3 : upd HU TL _ = HV
        have eT3 : HV TL = some (.lst [V.str "system", V.str (prT 2), V.str (prT 1), V.str "system", V.bl true, V.str (prT 2), V.str (prT 1)]) := by
          rw [← hP3]
          exact upd_same
        have p1 : prT 1 = "parse 1" := by decide +kernel
        have p2 : prT 2 = "parse 2" := by decide +kernel
        rw [p1, p2] at eT3
        refine ⟨_, rfl, sl 7 (by decide), fun L2 HW nW eW sW => ⟨.list [.str "system", .str "parse 2", .str "parse 1", .str "system", .bool true, .str "parse 2", .str "parse 1"], .list [.str "system", .str "parse 2", .str "parse 1", .str "system", .bool true, .str "parse 2", .str "parse 1"],
              .lst (SqL.of (sW _ _ eT3)) (.cons (.str _) (.cons (.str _) (.cons (.str _) (.cons (.str _) (.cons (.bl _) (.cons (.str _) (.cons (.str _) .nil))))))),
              .lst (SqL.of eW) (.cons (.str _) (.cons (.str _) (.cons (.str _) (.cons (.str _) (.cons (.bl _) (.cons (.str _) (.cons (.str _) .nil))))))), by decide +kernel, by decide +kernel, ?_⟩⟩
        have ev : PyData.eqv (.list [.str "system", .str "parse 2", .str "parse 1", .str "system", .bool true, .str "parse 2", .str "parse 1"]) (.list [.str "system", .str "parse 2", .str "parse 1", .str "system", .bool true, .str "parse 2", .str "parse 1"]) = true := by decide +kernel
        rw [ev]
        exact q _
end
end Gk

set_option Elab.async false
set_option linter.all false
set_option maxRecDepth 100000
set_option maxHeartbeats 8000000
namespace Gk
open PySem PySem.Spec PyProof.Rows L2
section
variable {P : Program} {w : World} {K : PySem.W.Frag} {mg : Str → Option Value} {base : Heap}
theorem fr_from_lines {C_System C_Action CP CI CN CA' fSI fI fC pC fM pM fL fE fS f fR fT fPE : Addr} {dSI dI dC dM dL dE dS fd dR dT dPE : FuncData} (B : Blt mg) (m_enumerate : mg "enumerate" = none) (TA : ActK K mg C_Action fI fC pC fM pM fL fE fS dI dC dM dL dE dS) (TS : SysK K mg C_System fSI dSI)
    (T_ParseError : IniT K mg "ParseError" "line" s_ParseError___init CP fPE dPE) (G_ParseError : FnOk P w K mg base CX0 1 fPE dPE ["self", "line"] (spIni CP "line"))
    (G_init : FnOk P w K mg base (L2.CX P w) 4 fI dI ["self", "called", "moves"] (spAct K C_Action CN CA'))
    (G_System : FnOk P w K mg base (L2.CX P w) 6 fSI dSI ["self", "agents", "pools", "actions"] (spSysU K C_System C_Action CI))
    (D_read_line : Df K mg "_read_line" s_read_line ["line"] fR dR) (G_read_line : FnOk P w K mg base CX0 5 fR dR ["line"] (spRdL K))
    (D_is_taken : Df K mg "_is_taken" s_is_taken ["tables", "told"] fT dT) (G_is_taken : FnOk P w K mg base CX0 1 fT dT ["tables", "told"] (spTaken K))
    (F : Fun K "from_lines" "System.from_lines" s_System_from_lines f fd) : FnR P w K mg base (L2.CX P w) 8 f (spFromR K C_System C_Action CP CI) := by
  obtain ⟨oc, od, kV, doc, pm, an, cdv, ct, osl, rfl, lk, hcd⟩ := F.ex
  refine StX.fn_star (k := 7) (ps := ["cls"]) (pv := "lines") (sp := spFromL K C_System C_Action CP CI) lk hcd sc_System_from_lines ?_ (fun us rest hl => ?_) (fun A outer s H vs Q E hr h => ok_from_lines (fd := dSI) B m_enumerate TA TS T_ParseError G_ParseError G_init G_System D_read_line G_read_line D_is_taken G_is_taken hr h)
  · exact StX.cxUp
  · match us, hl, rest with
    | [u], _, [] => rfl
    | [u], _, a :: r => rfl
end
end Gk

set_option Elab.async false
set_option linter.all false
set_option maxRecDepth 100000
set_option maxHeartbeats 8000000
namespace L2
open PySem PySem.Spec PyProof.Rows
section
variable {X : Cx} {o e : Expr} {es : List Expr} {to : TE} {t : TA} {name f : Str} {apos cpos pos : Pos} {T id : String} {r : V → List V → Hp → VK → Prop} {ta : TE}
theorem mt_indexK (K : PySem.W.Frag) (h : X.K = K) : MtR X "list.index" (rIndex K) := by subst h; exact mt_index
theorem pe_fldK (K : PySem.W.Frag) (h : X.K = K) (he : PE X e ta) (hb : attributeBase e f X.env (eval e X.env) = eval e X.env) : PE X (.Attribute e f pos) (tFld K ta f) := by subst h; exact pe_fld he hb
theorem pe_bmK (K : PySem.W.Frag) (h : X.K = K) (pa : PlainAttrs T) (slot : Slot T name id) (hty : typeOf (.builtin id) = pure (.type "method_descriptor")) (hm : MtR X id r) (ho : PE X o to) (ha : PA X (e :: es) t)
    (hbase : attributeBase o name X.env (eval o X.env) = eval o X.env := by rfl)
    (hfew : ((backTo cpos (starEach (e :: es) X.env)).all (fun x => !x.1) && (backToKw cpos (keywordEach [] X.env)).all (fun x => x.1.isSome)
      && decide ((e :: es).length + ([] : List Keyword).length + (if ([] : List Keyword).isEmpty then 0 else 1) < 30)) = true := by rfl)
    (hline : (apos.endLine == cpos.line) = true := by rfl) (hs : starEach (e :: es) X.env = (false, eval e X.env) :: starEach es X.env := by rfl) (hplain : (backTo cpos (starEach es X.env)).any (·.1) = false := by rfl) :
    PE X (.Call (.Attribute o name apos) (e :: es) [] cpos) (tBM K T r to t) := by
  subst h
  exact pe_bm pa slot hty hm ho ha hbase hfew hline hs hplain
end
theorem inV_first {y : V} : ∀ {xs : List V}, inV y xs = true → ∃ j z, xs[j]? = some z ∧ eqV z y = true ∧ ∀ (m : Nat) (z' : V), m < j → xs[m]? = some z' → eqV z' y = false
  | [], h => by cases h
  | x :: r, h => by
    by_cases e : eqV x y = true
    · exact ⟨0, x, rfl, e, fun m _ hm => absurd hm (Nat.not_lt_zero m)⟩
    · have h2 : inV y r = true := by
        unfold inV at h ⊢
        rw [List.any_cons, Bool.eq_false_iff.mpr e, Bool.false_or] at h
        exact h
      obtain ⟨j, z, h3, h4, h5⟩ := inV_first h2
      refine ⟨j + 1, z, h3, h4, fun m z' hm hz => ?_⟩
      cases m with
      | zero =>
        cases Option.some.inj hz
        exact Bool.eq_false_iff.mpr e
      | succ m => exact h5 m z' (by omega) hz
/-- a pair of numbers -/
def PnR (H : Hp) (x : V) (o : Nat × Nat) : Prop := ∃ b, x = .ref b ∧ H b = some (.tup [.int (o.1 : Nat), .int (o.2 : Nat)])
theorem PnR.same {H H' : Hp} {x : V} {o : Nat × Nat} (s : Same H H') (h : PnR H x o) : PnR H' x o := by
  obtain ⟨b, e, h⟩ := h
  exact ⟨b, e, s _ _ h⟩
theorem PnR.lst {H : Hp} {x : V} {o : Nat × Nat} {D : Addr} {us zs : List V} (e : H D = some (.lst us)) (h : PnR H x o) : PnR (upd H D (.lst zs)) x o := by
  obtain ⟨b, ex, h⟩ := h
  refine ⟨b, ex, ?_⟩
  rw [upd_ne fun z => ?_]
  · exact h
  · rw [z, e] at h
    cases h
theorem But.sqL {K : PySem.W.Frag} {H H' : Hp} {a C dx p : Addr} {fs : List (Str × V)} {xs : List V} (k : Gk.But a H H') (ha : H a = some (.ins C dx fs)) (h : SqL K H p xs) : SqL K H' p xs := by
  rcases h with (h | ⟨o, h⟩) | h
  · exact .inl (.inl (k _ _ (fun z => by subst z; rw [ha] at h; cases h) h))
  · exact .inl (.inr ⟨o, k _ _ (fun z => by subst z; rw [ha] at h; cases h) h⟩)
  · exact .inr h
/-- a comprehension's second clause, over any walk -/
theorem lc_in {J1 : It} {n : Nat} {G : Hp → Prop} {Y : Nat → Hp → V → Hp → Prop} (w : Walk J1 n G Y) {g1 : TG} {tt1 : TT} {te : TE} {vs1 : List Nat} {σ2 : St} {H4 : Hp} {D : Addr} {N : Hp → Prop} (Pv : Nat → Hp → Prop) (h0 : Pv 0 H4) (hG : ∀ i H, i ≤ n → Pv i H → G H)
    (hs : ∀ i x H H', i < n → Pv i H → Y i H x H' → g1 x (wipe σ2 vs1) H' fun σ3 H5 => wipe σ3 vs1 = wipe σ2 vs1 ∧ tt1 σ3 H5 fun b H6 =>
      if b = true then te σ3 H6 fun y H7 => ∃ acc, H7 D = some (.lst acc) ∧ acc.length < sizeLine ∧ Pv (i + 1) (upd H7 D (.lst (acc ++ [y]))) else Pv (i + 1) H6) (hd : ∀ H, Pv n H → N H) :
    ∃ W1 : Nat → Nat → Hp → Prop, (∃ m, W1 0 m H4) ∧ ∀ j k H, W1 j k H →
      (J1.stop j H ∧ N H) ∨ (J1.go j H ∧ ∃ Nx1 : Hp → Prop, (∀ H', Nx1 H' → ∃ k', k' < k ∧ W1 (j + 1) k' H') ∧ ∀ x H', J1.yld j H x H' → g1 x (wipe σ2 vs1) H' fun σ3 H5 => wipe σ3 vs1 = wipe σ2 vs1 ∧ tt1 σ3 H5 fun b H6 =>
        if b = true then te σ3 H6 fun y H7 => ∃ acc, H7 D = some (.lst acc) ∧ acc.length < sizeLine ∧ Nx1 (upd H7 D (.lst (acc ++ [y]))) else Nx1 H6) := by
  refine ⟨fun i m H => m = n - i ∧ i ≤ n ∧ Pv i H, ⟨n, by simp, Nat.zero_le _, h0⟩, ?_⟩
  rintro i m H ⟨rfl, hi, p⟩
  have q := hG i H hi p
  by_cases hlt : i < n
  · exact .inr ⟨w.goes i H hlt q, Pv (i + 1), fun H' p' => ⟨n - (i + 1), by omega, rfl, hlt, p'⟩, fun x H' y => hs i x H H' hlt p (w.yields i H x H' hlt q y)⟩
  · have e : i = n := by omega
    subst e
    exact .inl ⟨w.stops H q, hd H p⟩
/-- a comprehension of two clauses, the first over any walk -/
theorem lc_it2 {J : It} {n : Nat} {G : Hp → Prop} {Y : Nat → Hp → V → Hp → Prop} (w : Walk J n G Y) {g g1 : TG} {tt tt1 : TT} {wi1 : TI} {te : TE} {vs vs1 : List Nat} {σ : St} {H1 : Hp} {D : Addr} {Qd : Hp → Prop} (Pv : Nat → Hp → Prop) (h0 : Pv 0 (upd H1 D (.lst []))) (hG : ∀ i H, i ≤ n → Pv i H → G H)
    (hs : ∀ i x H H', i < n → Pv i H → Y i H x H' → g x (wipe σ vs) H' fun σ2 H2 => wipe σ2 vs = wipe σ vs ∧ tt σ2 H2 fun b H3 =>
      if b = true then wi1 σ2 H3 fun J1 H4 => ∃ W1 : Nat → Nat → Hp → Prop, (∃ m, W1 0 m H4) ∧ ∀ j k H, W1 j k H →
        (J1.stop j H ∧ Pv (i + 1) H) ∨ (J1.go j H ∧ ∃ Nx1 : Hp → Prop, (∀ H', Nx1 H' → ∃ k', k' < k ∧ W1 (j + 1) k' H') ∧ ∀ x H', J1.yld j H x H' → g1 x (wipe σ2 vs1) H' fun σ3 H5 => wipe σ3 vs1 = wipe σ2 vs1 ∧ tt1 σ3 H5 fun b H6 =>
          if b = true then te σ3 H6 fun y H7 => ∃ acc, H7 D = some (.lst acc) ∧ acc.length < sizeLine ∧ Nx1 (upd H7 D (.lst (acc ++ [y]))) else Nx1 H6)
      else Pv (i + 1) H3) (hd : ∀ H, Pv n H → Qd H) :
    ∃ W : Nat → Nat → Hp → Prop, (∃ m, W 0 m (upd H1 D (.lst []))) ∧ ∀ i m H, W i m H →
      (J.stop i H ∧ Qd H) ∨ (J.go i H ∧ ∃ Nx : Hp → Prop, (∀ H', Nx H' → ∃ m', m' < m ∧ W (i + 1) m' H') ∧ ∀ x H', J.yld i H x H' → g x (wipe σ vs) H' fun σ2 H2 => wipe σ2 vs = wipe σ vs ∧ tt σ2 H2 fun b H3 =>
        if b = true then wi1 σ2 H3 fun J1 H4 => ∃ W1 : Nat → Nat → Hp → Prop, (∃ m, W1 0 m H4) ∧ ∀ j k H, W1 j k H →
          (J1.stop j H ∧ Nx H) ∨ (J1.go j H ∧ ∃ Nx1 : Hp → Prop, (∀ H', Nx1 H' → ∃ k', k' < k ∧ W1 (j + 1) k' H') ∧ ∀ x H', J1.yld j H x H' → g1 x (wipe σ2 vs1) H' fun σ3 H5 => wipe σ3 vs1 = wipe σ2 vs1 ∧ tt1 σ3 H5 fun b H6 =>
            if b = true then te σ3 H6 fun y H7 => ∃ acc, H7 D = some (.lst acc) ∧ acc.length < sizeLine ∧ Nx1 (upd H7 D (.lst (acc ++ [y]))) else Nx1 H6)
        else Nx H3) := by
  refine ⟨fun i m H => m = n - i ∧ i ≤ n ∧ Pv i H, ⟨n, by simp, Nat.zero_le _, h0⟩, ?_⟩
  rintro i m H ⟨rfl, hi, p⟩
  have q := hG i H hi p
  by_cases hlt : i < n
  · exact .inr ⟨w.goes i H hlt q, Pv (i + 1), fun H' p' => ⟨n - (i + 1), by omega, rfl, hlt, p'⟩, fun x H' y => hs i x H H' hlt p (w.yields i H x H' hlt q y)⟩
  · have e : i = n := by omega
    subst e
    exact .inl ⟨w.stops H q, hd H p⟩
end L2
namespace Gk
open PySem PySem.Spec PyProof.Rows L2
abbrev s_Plan___init : Stmt := inClass (topS 2) 0
theorem sc_Plan___init : FnScope ["self", "moves", "pools", "indices", "pairs", "move", "at", "other", "one"] ["self", "moves", "pools"] (defScope s_Plan___init) := ⟨rfl, rfl, rfl, by decide +kernel, rfl, by decide +kernel, by decide +kernel⟩
section
variable {P : Program} {w : World} {K : PySem.W.Frag} {mg : Str → Option Value} {base : Heap}
theorem ok_Plan___init {C_Plan f : Addr} {fd : FuncData} (B : Blt mg) (m_enumerate : mg "enumerate" = none) (cl : Cls K C_Plan) (n1 : NoAttr K C_Plan "shared") (n2 : NoAttr K C_Plan "_moves") (n3 : NoAttr K C_Plan "places") (n4 : NoAttr K C_Plan "_apart") (n5 : NoAttr K C_Plan "_ascending")
    (F : Fun K "__init__" "Plan.__init__" s_Plan___init f fd) : FnOk P w K mg base CX0 1 f fd ["self", "moves", "pools"] (spPlan K C_Plan) := by
  refine F.ok sc_Plan___init (fun vs H Q E h => ?_) (fun cdv A outer s H vs Q E hr h => ?_)
  · obtain ⟨a, dx, p, l, ys, ms, ns, rfl, _⟩ := h
    rfl
  · obtain ⟨a, dx, p, l, ys, ms, ns, rfl, ha, hp, ht, pm, lm, wm, hl, ln, q⟩ := h
    refine ⟨_, (pss_cons (ps_fld (pv 0) (pe_callTy call_tupN (by rfl) B.tuple_ (by decide +kernel) (pa_cons (pe_lc (own := [("move", 5)]) (g := gName 5)  (by rfl) sc_Plan___init.nd (pi_tup (pv 1)) (blkOk_by (N := ["self", "moves", "pools", "indices", "pairs", "move", "at", "other", "one"]) (sc := defScope s_Plan___init) (by decide +kernel)) (fun _ _ _ _ _ => (pg_name (i := 5) sc_Plan___init.nd rfl (Or.inl rfl))) (fun _ _ _ _ _ => pts_one (pt_cmpR (op_in_seqK K rfl) (pe_ix (ix_tupK K rfl) (pv 5) pe_int (fun _ _ => rfl)) (pv 2) (by rfl))) (fun _ _ _ _ _ => (pv 5))) pa_nil)) rfl)
    (pss_cons (ps_set (i := 3) sc_Plan___init.nd rfl (Or.inr rfl) (pe_lc (own := [("at", 6), ("move", 5)]) (g := gTup K 2 (gCons (gName 6) (gCons (gName 5) gNil)))  (by rfl) sc_Plan___init.nd (pi_enumT (by rfl) m_enumerate (pa_cons (pv 1) pa_nil)) (blkOk_by (N := ["self", "moves", "pools", "indices", "pairs", "move", "at", "other", "one"]) (sc := defScope s_Plan___init) (by decide +kernel)) (fun _ _ _ _ _ => (pg_tup (by rfl) (pgs_cons (pg_name (i := 6) sc_Plan___init.nd rfl (Or.inl rfl)) (pgs_cons (pg_name (i := 5) sc_Plan___init.nd rfl (Or.inl rfl)) pgs_nil)))) (fun _ _ _ _ _ => pts_one (pt_cmpR (op_in_seqK K rfl) (pe_ix (ix_tupK K rfl) (pv 5) pe_int (fun _ _ => rfl)) (pv 2) (by rfl))) (fun _ _ _ _ _ => (pv 6))))
    (pss_cons (ps_fld (pv 0) (pe_lc (own := [("at", 6), ("move", 5)]) (g := gTup K 2 (gCons (gName 6) (gCons (gName 5) gNil))) (tt := tYes) (by rfl) sc_Plan___init.nd (pi_enumT (by rfl) m_enumerate (pa_cons (pv 1) pa_nil)) (blkOk_by (N := ["self", "moves", "pools", "indices", "pairs", "move", "at", "other", "one"]) (sc := defScope s_Plan___init) (by decide +kernel)) (fun _ _ _ _ _ => (pg_tup (by rfl) (pgs_cons (pg_name (i := 6) sc_Plan___init.nd rfl (Or.inl rfl)) (pgs_cons (pg_name (i := 5) sc_Plan___init.nd rfl (Or.inl rfl)) pgs_nil)))) (fun _ _ _ _ _ => pts_nil) (fun _ _ _ _ _ => (pe_tupN (pa_starK K rfl (pv 5) (pa_cons (pe_clo (pe_ifExp (pt_cmpR (op_in_seqK K rfl) (pv 6) (pv 3) (by rfl)) (pe_bmK K rfl PySem.F.plainAttrs_list PySem.F.slot_list_index PySem.F.type_list_index (mt_indexK K rfl) (pv 3) (pa_cons (pv 6) pa_nil)) pe_non)) pa_nil))))) rfl)
    (pss_cons (ps_fld (pv 0) (pe_lc (own := [("move", 5)]) (g := gName 5) (tt := tYes) (by rfl) sc_Plan___init.nd (pi_tup (pe_fld (pv 0) rfl)) (blkOk_by (N := ["self", "moves", "pools", "indices", "pairs", "move", "at", "other", "one"]) (sc := defScope s_Plan___init) (by decide +kernel)) (fun _ _ _ _ _ => (pg_name (i := 5) sc_Plan___init.nd rfl (Or.inl rfl))) (fun _ _ _ _ _ => pts_nil) (fun _ _ _ _ _ => (pe_bmK K rfl PySem.F.plainAttrs_list PySem.F.slot_list_index PySem.F.type_list_index (mt_indexK K rfl) (pv 2) (pa_cons (pe_ix (ix_tupK K rfl) (pv 5) pe_int (fun _ _ => rfl)) pa_nil)))) rfl)
    (pss_cons (ps_setLc2 (i := 4) (own := [("other", 7), ("one", 8)]) (vs1 := [8]) (g := gName 7) (g1 := gName 8) (tt := tYes) (tt1 := tYes) (by rfl) sc_Plan___init.nd rfl rfl (sw_true rfl rfl rfl (by decide +kernel)) (pi_range1 (by rfl) B.range (pa_cons (pe_callB call_len_seq (by rfl) B.len_ (by decide +kernel) (pa_cons (pe_fld (pv 0) rfl) pa_nil)) pa_nil)) (blkOk_by (N := ["self", "moves", "pools", "indices", "pairs", "move", "at", "other", "one"]) (sc := defScope s_Plan___init) (by decide +kernel)) (by decide) (fun _ _ _ _ _ => (pg_name (i := 7) sc_Plan___init.nd rfl (Or.inl rfl))) (fun _ _ _ _ _ => pts_nil) (fun _ _ _ _ _ => (pi_range1 (by rfl) B.range (pa_cons (pv 7) pa_nil))) (fun _ _ _ _ _ => (pg_name (i := 8) sc_Plan___init.nd rfl (Or.inl rfl))) (fun _ _ _ _ _ => pts_nil) (fun _ _ _ _ _ => (pe_tupN (pa_cons (pv 8) (pa_cons (pv 7) pa_nil)))))
    (pss_cons (ps_fld (pv 0) (pe_lc (own := [("one", 8), ("other", 7)]) (g := gTup K 2 (gCons (gName 8) (gCons (gName 7) gNil)))  (by rfl) sc_Plan___init.nd (pi_list (pv 4)) (blkOk_by (N := ["self", "moves", "pools", "indices", "pairs", "move", "at", "other", "one"]) (sc := defScope s_Plan___init) (by decide +kernel)) (fun _ _ _ _ _ => (pg_tup (by rfl) (pgs_cons (pg_name (i := 8) sc_Plan___init.nd rfl (Or.inl rfl)) (pgs_cons (pg_name (i := 7) sc_Plan___init.nd rfl (Or.inl rfl)) pgs_nil)))) (fun _ _ _ _ _ => pts_one (pt_cmpR op_eq (pe_ix (ix_tupK K rfl) (pe_ix (ix_tupK K rfl) (pe_fldK K rfl (pv 0) rfl) (pv 8) (fun _ _ => rfl)) pe_int (fun _ _ => rfl)) (pe_ix (ix_tupK K rfl) (pe_ix (ix_tupK K rfl) (pe_fldK K rfl (pv 0) rfl) (pv 7) (fun _ _ => rfl)) pe_int (fun _ _ => rfl)) (nomark _))) (fun _ _ _ _ _ => (pe_tupN (pa_cons (pv 8) (pa_cons (pv 7) pa_nil))))) rfl)
    (pss_one (ps_fld (pv 0) (pe_lc (own := [("one", 8), ("other", 7)]) (g := gTup K 2 (gCons (gName 8) (gCons (gName 7) gNil)))  (by rfl) sc_Plan___init.nd (pi_list (pv 4)) (blkOk_by (N := ["self", "moves", "pools", "indices", "pairs", "move", "at", "other", "one"]) (sc := defScope s_Plan___init) (by decide +kernel)) (fun _ _ _ _ _ => (pg_tup (by rfl) (pgs_cons (pg_name (i := 8) sc_Plan___init.nd rfl (Or.inl rfl)) (pgs_cons (pg_name (i := 7) sc_Plan___init.nd rfl (Or.inl rfl)) pgs_nil)))) (fun _ _ _ _ _ => pts_one (pt_cmpR (op_eqDK K rfl hr.units) (pe_ix (ix_tupK K rfl) (pe_fldK K rfl (pv 0) rfl) (pv 8) (fun _ _ => rfl)) (pe_ix (ix_tupK K rfl) (pe_fldK K rfl (pv 0) rfl) (pv 7) (fun _ _ => rfl)) (nomark _))) (fun _ _ _ _ _ => (pe_tupN (pa_cons (pv 8) (pa_cons (pv 7) pa_nil))))) rfl)))))))), ?_⟩
    have sl : ∀ n : Nat, n ≤ 100000 → n ≤ sizeLine := fun n hn => by rw [sizeLine_eq]; omega
    have hlS : ∀ {H'}, Same H H' → SqL K H' l (ns.map V.str) := fun s => s.seq hl
    have flN : (ns.map V.str).all flatV = true := by
      rw [List.all_map]
      exact List.all_eq_true.mpr fun s _ => rfl
    have lys := pm.length
    -- the shared moves
    refine ⟨_, rfl, p, rfl, ⟨ys, hp⟩, fun D nD => ?_⟩
    refine lc_tup (K := K) (a := p) (xs := ys) (fun i H5 => Same H H5 ∧ ∃ vs, H5 D = some (.lst vs) ∧ Paired (MvR K H5) vs ((ms.take i).filter fun m => decide (m.1 ∈ ns))) ⟨gSame_new nD, [], upd_same, .nil⟩ (fun i H5 _ h5 => gSeqT h5.1 hp) (fun i x H5 hx h5 => ?_) (fun H5 h5 => ?_)
    · obtain ⟨s5, vs, d5, q5⟩ := h5
      obtain ⟨m, hm, mr⟩ := paired_get pm hx
      obtain ⟨b, rfl, m1, m2⟩ := mr.same s5
      refine ⟨rfl, _, rfl, b, _, 0, .str m.1, rfl, rfl, m1, rfl, _, rfl, l, _, rfl, .inl (hlS s5), rfl, flN, ?_⟩
      rw [if_neg Bool.false_ne_true, inV_strs]
      have ez : ((ms.take (i + 1)).filter fun m => decide (m.1 ∈ ns)) = ((ms.take i).filter fun m => decide (m.1 ∈ ns)) ++ (if decide (m.1 ∈ ns) = true then [m] else []) := by
        rw [List.take_add_one, hm, List.filter_append]
        show _ ++ List.filter _ [m] = _
        rw [List.filter_cons, List.filter_nil]
      refine ⟨_, rfl, ite2 (fun hc => ?_) (fun hc => ?_)⟩
      · have x8 : ExtL H5 (upd H5 D (.lst (vs ++ [.ref b]))) := ExtL.lst d5
        refine ⟨_, rfl, vs, d5, ?_, gSame_mut s5 nD, vs ++ [.ref b], upd_same, ?_⟩
        · have h1 := q5.length
          have h2 := List.length_filter_le (fun m : Mv => decide (m.1 ∈ ns)) (ms.take i)
          rw [List.length_take] at h2
          exact small1000 (by omega)
        · rw [ez, if_pos hc]
          exact paired_app (pr_mono (fun _ _ h => mvR_extL x8 h) q5) (.cons (mvR_extL x8 ⟨b, rfl, m1, m2⟩) .nil)
      · refine ⟨s5, vs, d5, ?_⟩
        rw [ez, if_neg hc, List.append_nil]
        exact q5
    obtain ⟨s5, vs, d5, q5⟩ := h5
    rw [List.take_of_length_le (by omega)] at q5
    have wsh : ∀ m ∈ (ms.filter fun m => decide (m.1 ∈ ns)), m.1 ∈ ns ∧ ∀ s ∈ wds m, isW s = true := fun m hm => by
      obtain ⟨h1, h2⟩ := List.mem_filter.mp hm
      exact ⟨of_decide_eq_true h2, wm m h1⟩
    have lsh := List.length_filter_le (fun m : Mv => decide (m.1 ∈ ns)) ms
    generalize (ms.filter fun m => decide (m.1 ∈ ns)) = sh at q5 wsh lsh
    have lvs := q5.length
    refine ⟨D, vs, rfl, SqL.of d5, fun T H6 n6 e6 s6 => ?_⟩
    have s16 : Same H H6 := s5.trans s6
    have ha6 := s16 _ _ ha
    refine ⟨_, rfl, a, C_Plan, dx, [], rfl, ha6, cl, n1, by decide, ?_⟩
    have b1 : But a H (upd H6 a (.ins C_Plan dx (putF "shared" (.ref T) []))) := (But.of s16).trans But.put
    have c1 : (upd H6 a (.ins C_Plan dx (putF "shared" (.ref T) []))) a = some (.ins C_Plan dx [("shared", .ref T)]) := upd_same
    have eT1 : (upd H6 a (.ins C_Plan dx (putF "shared" (.ref T) []))) T = some (.tup vs) := But.put.at ha6 e6 fun z => by cases z
    have q1 : Paired (MvR K (upd H6 a (.ins C_Plan dx (putF "shared" (.ref T) [])))) vs sh := pr_mono (fun _ _ h => But.put.mvR ha6 (MvR.same s6 h)) q5
    generalize upd H6 a (.ins C_Plan dx (putF "shared" (.ref T) [])) = K1 at b1 c1 eT1 q1 ⊢
    have pm1 := pr_mono (fun _ _ h => b1.mvR ha h) pm
    have hp1 := b1.sqT ha hp
    have hl1 : SqL K K1 l (ns.map V.str) := But.sqL b1 ha hl
    -- the indices of the shared moves
    refine ⟨_, rfl, p, ys, rfl, hp1, fun D2 nD2 => ?_⟩
    refine lc_it (n := ys.length) walk_enumT (fun i H5 => Same K1 H5 ∧ ∃ ix : List Int, H5 D2 = some (.lst (ix.map V.int)) ∧ ix.length ≤ i) ⟨gSame_new nD2, [], upd_same, Nat.le_refl _⟩ (fun i H5 _ h5 => gSeqT h5.1 hp1) (fun i x H5 H' hi h5 hy => ?_) (fun H5 h5 => ?_)
    · obtain ⟨s5, ix, d5, l5⟩ := h5
      obtain ⟨Tp, x', rfl, hT, rfl, hx⟩ := hy
      obtain ⟨m, hm, mr⟩ := paired_get pm1 hx
      have s6' : Same K1 (upd H5 Tp (.tup [.int (i : Nat), x'])) := s5.trans (gSame_new hT)
      have d6 := gSame_new (o := .tup [.int (i : Nat), x']) hT _ _ d5
      have t6 : (upd H5 Tp (.tup [.int (i : Nat), x'])) Tp = some (.tup [.int (i : Nat), x']) := upd_same
      generalize upd H5 Tp (.tup [.int (i : Nat), x']) = H7 at s6' d6 t6 ⊢
      obtain ⟨b, rfl, m1, m2⟩ := mr.same s6'
      refine ⟨Tp, _, rfl, SqT.of t6, rfl, _, _, rfl, _, _, rfl, rfl, rfl, ?_⟩
      refine ⟨_, rfl, b, _, 0, .str m.1, rfl, rfl, m1, rfl, _, rfl, l, _, rfl, .inl (s6'.seq hl1), rfl, flN, ?_⟩
      rw [if_neg Bool.false_ne_true, inV_strs]
      refine ⟨_, rfl, ite2 (fun hc => ?_) (fun hc => ?_)⟩
      · refine ⟨_, rfl, _, d6, by rw [List.length_map]; exact small1000 (by omega), gSame_mut s6' nD2, ix ++ [(i : Int)], by rw [List.map_append]; exact upd_same, ?_⟩
        rw [List.length_append]
        show ix.length + 1 ≤ i + 1
        omega
      · exact ⟨s6', ix, d6, by omega⟩
    obtain ⟨s5', ix, dI, lI⟩ := h5
    have flI : (ix.map V.int).all flatV = true := by
      rw [List.all_map]
      exact List.all_eq_true.mpr fun s _ => rfl
    -- the moves with their indices
    have hp2 := gSeqT s5' hp1
    refine ⟨_, rfl, p, ys, rfl, hp2, fun D3 nD3 => ?_⟩
    refine lc_it (n := ys.length) walk_enumT (fun i H6 => Same H5 H6 ∧ ∃ us, H6 D3 = some (.lst us) ∧ us.length ≤ i) ⟨gSame_new nD3, [], upd_same, Nat.le_refl _⟩ (fun i H6 _ h6 => gSeqT h6.1 hp2) (fun i x H6 H' hi h6 hy => ?_) (fun H6 h6 => ?_)
    · obtain ⟨s6, us, d6, l6⟩ := h6
      obtain ⟨Tp, x', rfl, hT, rfl, hx⟩ := hy
      obtain ⟨m, hm, mr⟩ := paired_get pm1 hx
      have s6' : Same H5 (upd H6 Tp (.tup [.int (i : Nat), x'])) := s6.trans (gSame_new hT)
      have d7 := gSame_new (o := .tup [.int (i : Nat), x']) hT _ _ d6
      have t6 : (upd H6 Tp (.tup [.int (i : Nat), x'])) Tp = some (.tup [.int (i : Nat), x']) := upd_same
      generalize upd H6 Tp (.tup [.int (i : Nat), x']) = H7 at s6' d7 t6 ⊢
      obtain ⟨b, rfl, m1, m2⟩ := (mr.same s5').same s6'
      have dI7 := s6' _ _ dI
      refine ⟨Tp, _, rfl, SqT.of t6, rfl, _, _, rfl, _, _, rfl, rfl, rfl, ?_⟩
      refine ⟨_, rfl, b, _, rfl, .inl m1, fun _ H8 => H8 = H7, ?_, fun v H8 e8 => ?_⟩
      · refine ⟨_, rfl, _, rfl, D2, _, rfl, .inl (SqL.of dI7), rfl, flI, ?_⟩
        rw [if_neg Bool.false_ne_true]
        refine ⟨_, rfl, ite2 (fun hc => ?_) (fun _ => rfl)⟩
        obtain ⟨j, z, hz, hzj, hno⟩ := inV_first hc
        exact ⟨_, rfl, .inl ⟨rfl, _, SqL.of dI7⟩, _, rfl, D2, _, _, j, z, rfl, rfl, SqL.of dI7, rfl, flI, hz, hzj, hno, rfl⟩
      · rw [e8]
        refine ⟨sl 4 (by decide), fun T4 H9 n9 e9 s9 => ⟨_, s9 _ _ d7, small1000 (by omega), gSame_mut (s6'.trans s9) nD3, _, upd_same, ?_⟩⟩
        rw [List.length_append]
        show us.length + 1 ≤ i + 1
        omega
    obtain ⟨s6', us, d6, l6⟩ := h6
    have s56 := s5'.trans s6'
    have ha7 := s56 _ _ c1
    refine ⟨_, rfl, a, C_Plan, dx, _, rfl, ha7, cl, n2, by show 1 < 1000; decide, ?_⟩
    have b2 : But a K1 (upd H6 a (.ins C_Plan dx (putF "_moves" (.ref D3) [("shared", .ref T)]))) := (But.of s56).trans But.put
    have c2 : (upd H6 a (.ins C_Plan dx (putF "_moves" (.ref D3) [("shared", .ref T)]))) a = some (.ins C_Plan dx [("shared", .ref T), ("_moves", .ref D3)]) := upd_same
    generalize upd H6 a (.ins C_Plan dx (putF "_moves" (.ref D3) [("shared", .ref T)])) = K2 at b2 c2 ⊢
    have eT2 : K2 T = some (.tup vs) := b2.at c1 eT1 fun z => by cases z
    have q2 := pr_mono (fun _ _ h => b2.mvR c1 h) q1
    have hl2 : SqL K K2 l (ns.map V.str) := But.sqL b2 c1 hl1
    -- the places
    refine ⟨_, rfl, a, C_Plan, dx, _, _, rfl, c2, cl, n1, rfl, T, rfl, ⟨vs, SqT.of eT2⟩, fun D4 nD4 => ?_⟩
    refine lc_tup (K := K) (a := T) (xs := vs) (fun i H7 => Same K2 H7 ∧ ∃ us, H7 D4 = some (.lst us) ∧ us.length ≤ i) ⟨gSame_new nD4, [], upd_same, Nat.le_refl _⟩ (fun i H7 _ h7 => gSeqT h7.1 (SqT.of eT2)) (fun i x H7 hx h7 => ?_) (fun H7 h7 => ?_)
    · obtain ⟨s7, us, d7, l7⟩ := h7
      obtain ⟨m, hm, mr⟩ := paired_get q2 hx
      obtain ⟨b, rfl, m1, m2⟩ := mr.same s7
      have hin : inV (.str m.1) (ns.map V.str) = true := by
        rw [inV_strs]
        exact decide_eq_true (wsh m (List.mem_of_getElem? hm)).1
      obtain ⟨j, z, hz, hzj, hno⟩ := inV_first hin
      have hi7 := (List.getElem?_eq_some_iff.mp hx).1
      refine ⟨rfl, _, rfl, .inl ⟨rfl, _, s7.seq hl2⟩, _, rfl, b, _, 0, .str m.1, rfl, rfl, m1, rfl, l, _, _, j, z, rfl, rfl, s7.seq hl2, rfl, flN, hz, hzj, hno, us, d7, small1000 (by omega), gSame_mut s7 nD4, _, upd_same, ?_⟩
      rw [List.length_append]
      show us.length + 1 ≤ i + 1
      omega
    obtain ⟨s7, us4, d7, l7⟩ := h7
    have ha8 := s7 _ _ c2
    refine ⟨_, rfl, a, C_Plan, dx, _, rfl, ha8, cl, n3, by show 2 < 1000; decide, ?_⟩
    have b3 : But a K2 (upd H7 a (.ins C_Plan dx (putF "places" (.ref D4) [("shared", .ref T), ("_moves", .ref D3)]))) := (But.of s7).trans But.put
    have c3 : (upd H7 a (.ins C_Plan dx (putF "places" (.ref D4) [("shared", .ref T), ("_moves", .ref D3)]))) a = some (.ins C_Plan dx [("shared", .ref T), ("_moves", .ref D3), ("places", .ref D4)]) := upd_same
    generalize upd H7 a (.ins C_Plan dx (putF "places" (.ref D4) [("shared", .ref T), ("_moves", .ref D3)])) = K3 at b3 c3 ⊢
    have eT3 : K3 T = some (.tup vs) := b3.at c2 eT2 fun z => by cases z
    have q3 := pr_mono (fun _ _ h => b3.mvR c2 h) q2
    -- the pairs
    refine ⟨_, rfl, a, C_Plan, dx, _, _, rfl, c3, cl, n1, rfl, T, _, rfl, .inr (SqT.of eT3), _, rfl, by omega, by omega, fun D5 nD5 => ?_⟩
    rw [Int.toNat_natCast]
    refine lc_it2 walk_range (fun i H8 => Same K3 H8 ∧ ∃ us os, H8 D5 = some (.lst us) ∧ Paired (PnR H8) us os ∧ (∀ o ∈ os, o.1 < vs.length ∧ o.2 < vs.length) ∧ os.length ≤ 4 * i) ⟨gSame_new nD5, [], [], upd_same, .nil, fun o ho => (by cases ho), Nat.le_refl _⟩ (fun _ _ _ _ => trivial) (fun i x H8 H' hi h8 hy => ?_) (fun H8 h8 => ?_)
    · obtain ⟨rfl, rfl⟩ := hy
      obtain ⟨s8, us8, os8, d8, q8, w8, l8⟩ := h8
      refine ⟨rfl, _, rfl, _, rfl, by omega, by omega, ?_⟩
      rw [show ((0 : Int) + (i : Int)).toNat = i by omega]
      refine lc_in walk_range (fun j H9 => Same K3 H9 ∧ ∃ us os, H9 D5 = some (.lst us) ∧ Paired (PnR H9) us os ∧ (∀ o ∈ os, o.1 < vs.length ∧ o.2 < vs.length) ∧ os.length ≤ 4 * i + j) ⟨s8, us8, os8, d8, q8, w8, l8⟩ (fun _ _ _ _ => trivial) (fun j x H9 H' hj h9 hy => ?_) (fun H9 h9 => ?_)
      · obtain ⟨rfl, rfl⟩ := hy
        obtain ⟨s9, us9, os9, d9, q9, w9, l9⟩ := h9
        have l9' := q9.length
        refine ⟨rfl, _, rfl, _, rfl, sl 2 (by decide), fun T2 H10 n10 e10 s10 => ⟨_, s10 _ _ d9, small1000 (by omega), gSame_mut (s9.trans s10) nD5, us9 ++ [.ref T2], os9 ++ [(j, i)], upd_same, ?_, ?_, ?_⟩⟩
        · have nT : T2 ≠ D5 := fun z => by
            rw [z, d9] at n10
            cases n10
          refine paired_app (pr_mono (fun _ _ h => (h.same s10).lst (s10 _ _ d9)) q9) (.cons ⟨T2, rfl, ?_⟩ .nil)
          rw [upd_ne nT, e10]
          show some (HO.tup [V.int (0 + (j : Int)), V.int (0 + (i : Int))]) = some (HO.tup [V.int (j : Int), V.int (i : Int)])
          rw [Int.zero_add, Int.zero_add]
        · intro o ho
          rcases List.mem_append.mp ho with h | h
          · exact w9 o h
          · rw [List.mem_singleton.mp h]
            exact ⟨by show j < _; omega, hi⟩
        · rw [List.length_append]
          show os9.length + 1 ≤ 4 * i + (j + 1)
          omega
      · obtain ⟨s9, us9, os9, d9, q9, w9, l9⟩ := h9
        exact ⟨s9, us9, os9, d9, q9, w9, by omega⟩
    obtain ⟨s8, us8, os8, d8, q8, w8, l8⟩ := h8
    have c8 := s8 _ _ c3
    have eT8 := s8 _ _ eT3
    have q38 := pr_mono (fun _ _ h => MvR.same s8 h) q3
    have l8' := q8.length
    have atS : ∀ {H : Hp} (k : Nat), k < vs.length → Paired (MvR K H) vs sh → ∃ m ∈ sh, ∃ b : Addr, atI vs (k : Int) = some (.ref b) ∧ SqT K H b ((wds m).map V.str) := fun {H} k hk q => by
      have hx : vs[k]? = some vs[k] := List.getElem?_eq_getElem hk
      obtain ⟨m, hm, b, eb, m1, m2⟩ := paired_get q hx
      refine ⟨m, List.mem_of_getElem? hm, b, ?_, m1⟩
      rw [← eb]
      exact atI_nat hx
    -- those that are of one pool
    refine ⟨_, rfl, D5, rfl, ⟨us8, SqL.of d8⟩, fun D6 nD6 => ?_⟩
    refine lc_list (K := K) (a := D5) (xs := us8) (fun i H9 => Same H8 H9 ∧ ∃ us, H9 D6 = some (.lst us) ∧ us.length ≤ i) ⟨gSame_new nD6, [], upd_same, Nat.le_refl _⟩ (fun i H9 _ h9 => SqL.of (h9.1 _ _ d8)) (fun i x H9 hx h9 => ?_) (fun H9 h9 => ?_)
    · obtain ⟨s9, us, d9, l9⟩ := h9
      obtain ⟨o, ho, b, rfl, hb⟩ := paired_get q8 hx
      have wo := w8 o (List.mem_of_getElem? ho)
      have q9 := pr_mono (fun _ _ h => MvR.same s9 h) q38
      obtain ⟨m, hm, b1', at1, m1⟩ := atS o.1 wo.1 q9
      obtain ⟨m', hm', b2', at2, m2⟩ := atS o.2 wo.2 q9
      have hi9 := (List.getElem?_eq_some_iff.mp hx).1
      refine ⟨b, _, rfl, SqT.of (s9 _ _ hb), rfl, _, _, rfl, _, _, rfl, rfl, rfl, ?_⟩
      refine ⟨_, rfl, a, C_Plan, dx, _, _, rfl, s9 _ _ c8, cl, n1, rfl, _, rfl, T, _, _, _, rfl, rfl, SqT.of (s9 _ _ eT8), at1, b1', _, 0, .str m.1, rfl, rfl, m1, rfl, ?_⟩
      refine ⟨_, rfl, a, C_Plan, dx, _, _, rfl, s9 _ _ c8, cl, n1, rfl, _, rfl, T, _, _, _, rfl, rfl, SqT.of (s9 _ _ eT8), at2, b2', _, 0, .str m'.1, rfl, rfl, m2, rfl, rfl, _, rfl, ?_⟩
      refine ite2 (fun _ => ?_) (fun _ => ⟨s9, us, d9, by omega⟩)
      refine ⟨_, rfl, _, rfl, sl 2 (by decide), fun T2 H10 n10 e10 s10 => ⟨_, s10 _ _ d9, small1000 (by omega), gSame_mut (s9.trans s10) nD6, _, upd_same, ?_⟩⟩
      rw [List.length_append]
      show us.length + 1 ≤ i + 1
      omega
    obtain ⟨s9, us6, d9, l9⟩ := h9
    have s89 := s8.trans s9
    have ha9 := s89 _ _ c3
    refine ⟨_, rfl, a, C_Plan, dx, _, rfl, ha9, cl, n4, by show 3 < 1000; decide, ?_⟩
    have b4 : But a K3 (upd H9 a (.ins C_Plan dx (putF "_apart" (.ref D6) [("shared", .ref T), ("_moves", .ref D3), ("places", .ref D4)]))) := (But.of s89).trans But.put
    have b4' : But a H8 (upd H9 a (.ins C_Plan dx (putF "_apart" (.ref D6) [("shared", .ref T), ("_moves", .ref D3), ("places", .ref D4)]))) := (But.of s9).trans But.put
    have c4 : (upd H9 a (.ins C_Plan dx (putF "_apart" (.ref D6) [("shared", .ref T), ("_moves", .ref D3), ("places", .ref D4)]))) a = some (.ins C_Plan dx [("shared", .ref T), ("_moves", .ref D3), ("places", .ref D4), ("_apart", .ref D6)]) := upd_same
    generalize upd H9 a (.ins C_Plan dx (putF "_apart" (.ref D6) [("shared", .ref T), ("_moves", .ref D3), ("places", .ref D4)])) = K4 at b4 b4' c4 ⊢
    have eT4 : K4 T = some (.tup vs) := b4.at c3 eT3 fun z => by cases z
    have q4 := pr_mono (fun _ _ h => b4.mvR c3 h) q3
    have d84 : K4 D5 = some (.lst us8) := b4'.at c8 d8 fun z => by cases z
    have q84 : Paired (PnR K4) us8 os8 := pr_mono (fun _ _ h => by
      obtain ⟨b, e, hb⟩ := h
      exact ⟨b, e, b4'.at c8 hb fun z => by cases z⟩) q8
    -- those that are of one move
    refine ⟨_, rfl, D5, rfl, ⟨us8, SqL.of d84⟩, fun D7 nD7 => ?_⟩
    refine lc_list (K := K) (a := D5) (xs := us8) (fun i H10 => Same K4 H10 ∧ ∃ us, H10 D7 = some (.lst us) ∧ us.length ≤ i) ⟨gSame_new nD7, [], upd_same, Nat.le_refl _⟩ (fun i H10 _ h10 => SqL.of (h10.1 _ _ d84)) (fun i x H10 hx h10 => ?_) (fun H10 h10 => ?_)
    · obtain ⟨s10, us, d10, l10⟩ := h10
      obtain ⟨o, ho, b, rfl, hb⟩ := paired_get q84 hx
      have wo := w8 o (List.mem_of_getElem? ho)
      have q10 := pr_mono (fun _ _ h => MvR.same s10 h) q4
      obtain ⟨m, hm, b1', at1, m1⟩ := atS o.1 wo.1 q10
      obtain ⟨m', hm', b2', at2, m2⟩ := atS o.2 wo.2 q10
      have hi10 := (List.getElem?_eq_some_iff.mp hx).1
      refine ⟨b, _, rfl, SqT.of (s10 _ _ hb), rfl, _, _, rfl, _, _, rfl, rfl, rfl, ?_⟩
      refine ⟨_, rfl, a, C_Plan, dx, _, _, rfl, s10 _ _ c4, cl, n1, rfl, _, rfl, T, _, _, _, rfl, rfl, SqT.of (s10 _ _ eT4), at1, ?_⟩
      refine ⟨_, rfl, a, C_Plan, dx, _, _, rfl, s10 _ _ c4, cl, n1, rfl, _, rfl, T, _, _, _, rfl, rfl, SqT.of (s10 _ _ eT4), at2, ?_⟩
      refine eqTS (OkS.of (wsh m hm).2) (OkS.of (wsh m' hm').2) m1 m2 ⟨_, rfl, ?_⟩
      refine ite2 (fun _ => ?_) (fun _ => ⟨s10, us, d10, by omega⟩)
      refine ⟨_, rfl, _, rfl, sl 2 (by decide), fun T2 H11 n11 e11 s11 => ⟨_, s11 _ _ d10, small1000 (by omega), gSame_mut (s10.trans s11) nD7, _, upd_same, ?_⟩⟩
      rw [List.length_append]
      show us.length + 1 ≤ i + 1
      omega
    obtain ⟨s10, us7, d10, l10⟩ := h10
    refine ⟨_, rfl, a, C_Plan, dx, _, rfl, s10 _ _ c4, cl, n5, by show 4 < 1000; decide, ?_⟩
    exact q _ (((b1.trans b2).trans (b3.trans b4)).trans ((But.of s10).trans But.put))
end
end Gk

set_option Elab.async false
set_option linter.all false
set_option maxRecDepth 1000000
set_option maxHeartbeats 0
namespace Gk
open PySem PySem.Spec PyProof.Rows L2
def xM_Action_called : He5.DefA := ⟨fun K => He5.wf K (He.ga K "Action") "property" "called", "called", "Action.called", defArgs s_Action_called, defBody s_Action_called, defScope s_Action_called, [], []⟩
def xM_Action_moves : He5.DefA := ⟨fun K => He5.wf K (He.ga K "Action") "property" "moves", "moves", "Action.moves", defArgs s_Action_moves, defBody s_Action_moves, defScope s_Action_moves, [], []⟩
def xM_System_lines : He5.DefA := ⟨fun K => He5.wf K (He.ga K "System") "property" "lines", "lines", "System.lines", defArgs s_System_lines, defBody s_System_lines, defScope s_System_lines, [], []⟩
def xM_System_from_lines : He5.DefA := ⟨fun K => He5.wf K (He.ga K "System") "classmethod" "from_lines", "from_lines", "System.from_lines", defArgs s_System_from_lines, defBody s_System_from_lines, defScope s_System_from_lines, [], []⟩
def xFm : List He5.DefA := [xM_Action_called, xM_Action_moves, xM_System_lines, xM_System_from_lines]
def xFn : List He.DefD := [⟨("is_name", none), "is_name", "is_name", defArgs s_is_name, defBody s_is_name, defScope s_is_name, [], []⟩, ⟨("is_names", none), "is_names", "is_names", defArgs s_is_names, defBody s_is_names, defScope s_is_names, [], []⟩, ⟨("_are_moves", none), "_are_moves", "_are_moves", defArgs s_are_moves, defBody s_are_moves, defScope s_are_moves, [], []⟩, ⟨("_are_all_names", none), "_are_all_names", "_are_all_names", defArgs s_are_all_names, defBody s_are_all_names, defScope s_are_all_names, [], []⟩, ⟨("_are_states", none), "_are_states", "_are_states", defArgs s_are_states, defBody s_are_states, defScope s_are_states, [], []⟩, ⟨("_are_owners", none), "_are_owners", "_are_owners", defArgs s_are_owners, defBody s_are_owners, defScope s_are_owners, [], []⟩, ⟨("_are_actions", none), "_are_actions", "_are_actions", defArgs s_are_actions, defBody s_are_actions, defScope s_are_actions, [], []⟩, ⟨("_is_system", none), "_is_system", "_is_system", defArgs s_is_system, defBody s_is_system, defScope s_is_system, [], []⟩, ⟨("_does_fit", none), "_does_fit", "_does_fit", defArgs s_does_fit, defBody s_does_fit, defScope s_does_fit, [], []⟩, ⟨("_ascending", none), "_ascending", "_ascending", defArgs s_ascending, defBody s_ascending, defScope s_ascending, [], []⟩, ⟨("_write_lines", none), "_write_lines", "_write_lines", defArgs s_write_lines, defBody s_write_lines, defScope s_write_lines, [], []⟩, ⟨("_write_moves", none), "_write_moves", "_write_moves", defArgs s_write_moves, defBody s_write_moves, defScope s_write_moves, [], []⟩, ⟨("_read_line", none), "_read_line", "_read_line", defArgs s_read_line, defBody s_read_line, defScope s_read_line, [], []⟩, ⟨("_read_owner", none), "_read_owner", "_read_owner", defArgs s_read_owner, defBody s_read_owner, defScope s_read_owner, [], []⟩, ⟨("_read_action", none), "_read_action", "_read_action", defArgs s_read_action, defBody s_read_action, defScope s_read_action, [], []⟩, ⟨("_is_taken", none), "_is_taken", "_is_taken", defArgs s_is_taken, defBody s_is_taken, defScope s_is_taken, [], []⟩, ⟨("_law_tape", none), "_law_tape", "_law_tape", defArgs s_tape, defBody s_tape, defScope s_tape, [], []⟩, ⟨("_law_roll", none), "_law_roll", "_law_roll", defArgs s_roll, defBody s_roll, defScope s_roll, [], []⟩, ⟨("_law_pick", none), "_law_pick", "_law_pick", defArgs s_pick, defBody s_pick, defScope s_pick, [], []⟩, ⟨("_law_few", none), "_law_few", "_law_few", defArgs s_few, defBody s_few, defScope s_few, [], []⟩, ⟨("_law_owners", none), "_law_owners", "_law_owners", defArgs s_owners, defBody s_owners, defScope s_owners, [], []⟩, ⟨("_law_states", none), "_law_states", "_law_states", defArgs s_states, defBody s_states, defScope s_states, [], []⟩, ⟨("_law_moves", none), "_law_moves", "_law_moves", defArgs s_moves, defBody s_moves, defScope s_moves, [], []⟩, ⟨("_law_bare", none), "_law_bare", "_law_bare", defArgs s_bare, defBody s_bare, defScope s_bare, [], []⟩, ⟨("_law_made", none), "_law_made", "_law_made", defArgs s_made, defBody s_made, defScope s_made, [], []⟩, ⟨("_law_action_line", none), "_law_action_line", "_law_action_line", defArgs s_action_line, defBody s_action_line, defScope s_action_line, [], []⟩, ⟨("_law_lines", none), "_law_lines", "_law_lines", defArgs s_lines, defBody s_lines, defScope s_lines, [], []⟩, ⟨("_law_read_lines", none), "_law_read_lines", "_law_read_lines", defArgs s_read_lines, defBody s_read_lines, defScope s_read_lines, [], []⟩, ⟨("_law_met", none), "_law_met", "_law_met", defArgs s_met, defBody s_met, defScope s_met, [], []⟩, ⟨("_law_wrong_line", none), "_law_wrong_line", "_law_wrong_line", defArgs s_wrong_line, defBody s_wrong_line, defScope s_wrong_line, [], []⟩, ⟨("_law_right", none), "_law_right", "_law_right", defArgs s_right, defBody s_right, defScope s_right, [], []⟩, ⟨("law", none), "law", "law", defArgs s_law, defBody s_law, defScope s_law, [], []⟩, ⟨("ParseError", some "__init__"), "__init__", "ParseError.__init__", defArgs s_ParseError___init, defBody s_ParseError___init, defScope s_ParseError___init, [], []⟩, ⟨("Action", some "__init__"), "__init__", "Action.__init__", defArgs s_Action___init, defBody s_Action___init, defScope s_Action___init, [], []⟩, ⟨("Action", some "__len__"), "__len__", "Action.__len__", defArgs s_Action___len, defBody s_Action___len, defScope s_Action___len, [], []⟩, ⟨("Action", some "__eq__"), "__eq__", "Action.__eq__", defArgs s_Action___eq, defBody s_Action___eq, defScope s_Action___eq, [], []⟩, ⟨("Action", some "__str__"), "__str__", "Action.__str__", defArgs s_Action___str, defBody s_Action___str, defScope s_Action___str, [], []⟩, ⟨("System", some "__init__"), "__init__", "System.__init__", defArgs s_System___init, defBody s_System___init, defScope s_System___init, [], []⟩, ⟨("System", some "__eq__"), "__eq__", "System.__eq__", defArgs s_System___eq, defBody s_System___eq, defScope s_System___eq, [], []⟩, ⟨("Plan", some "__init__"), "__init__", "Plan.__init__", defArgs s_Plan___init, defBody s_Plan___init, defScope s_Plan___init, [], []⟩]
def xFa : List He.Fa := [.glo "is_name", .glo "is_names", .glo "_are_moves", .glo "_are_all_names", .glo "_are_states", .glo "_are_owners", .glo "_are_actions", .glo "_is_system", .glo "_does_fit", .glo "_ascending", .glo "_write_lines", .glo "_write_moves", .glo "_read_line", .glo "_read_owner", .glo "_read_action", .glo "_is_taken", .glo "_law_tape", .glo "_law_roll", .glo "_law_pick", .glo "_law_few", .glo "_law_owners", .glo "_law_states", .glo "_law_moves", .glo "_law_bare", .glo "_law_made", .glo "_law_action_line", .glo "_law_lines", .glo "_law_read_lines", .glo "_law_met", .glo "_law_wrong_line", .glo "_law_right", .glo "law", .glo "ParseError", .glo "ClockError", .glo "InvalidName", .glo "InvalidAction", .glo "InvalidSystem", .glo "Action", .glo "System", .glo "Plan", .exc "InvalidName", .exm "InvalidName" "InvalidName" true, .exc "InvalidAction", .exm "InvalidAction" "InvalidAction" true, .exc "InvalidSystem", .exm "InvalidSystem" "InvalidSystem" true, .exm "InvalidSystem" "ParseError" false, .int "MAX_LETTERS" 8, .int "MAX_NAMES" 16, .int "MAX_AGENTS" 5, .int "MAX_POOLS" 3, .int "MAX_STATES" 6, .int "MAX_ACTIONS" 16, .int "MAX_MOVES" 4, .int "MAX_SHARED" 3, .free "len", .free "int", .free "abs", .free "max", .free "min", .free "range", .free "all", .free "isinstance", .free "str", .free "tuple", .free "list", .free "set", .free "sorted", .free "repr", .free "bool", .free "dict", .free "any", .free "enumerate", .cls "Action", .mkr "Action", .noat "Action" "_called", .noat "Action" "_moves", .meth "Action" "__len__", .meth "Action" "__eq__", .meth "Action" "__str__", .cls "System", .mkr "System", .noat "System" "_agents", .noat "System" "_pools", .noat "System" "_actions", .noat "System" "_lines", .noat "System" "_plans", .noat "System" "notes", .meth "System" "__eq__", .cls "Plan", .mkr "Plan", .noat "Plan" "shared", .noat "Plan" "_moves", .noat "Plan" "places", .noat "Plan" "_apart", .noat "Plan" "_ascending"]
def xTf : List He.Defn := []
def xEx (K : PySem.W.Frag) : Bool := (iniB "ParseError" "line" K && (cinB "ClockError" K && (propB K (He.ga K "Action") "called" && (propB K (He.ga K "Action") "moves" && (insB K (He.ga K "Action") && (He.eqO (PySem.W.findIn K (.ref (He.ga K "Action")) "__format__") (some (some (.builtin "object.__format__"))) && (propB K (He.ga K "System") "lines" && (cmetB K (He.ga K "System") "from_lines" && (insB K (He.ga K "System") && (readB K (He.ga K "System") && (neB K (He.ga K "System") && (decide (He.ga K "Action" ≠ He.ga K "System") && (decide (He.ga K "Plan" ≠ He.ga K "System") && (xM_Action_called.ok K && (xM_Action_moves.ok K && (xM_System_lines.ok K && (xM_System_from_lines.ok K && true)))))))))))))))))
abbrev xR : PySem.W.OpenRow := PySem.W.OpenLaw.row PySem.Challenge.rw_groupclocks_k07_whole_systems_and_their
abbrev xLo : List PySem.Str := "_wall" :: "Plan" :: "ClockError" :: "InvalidName" :: "InvalidAction" :: "InvalidSystem" :: "InvalidOperation" :: "ParseError" :: "UnknownName" :: "MAX_LETTERS" :: "MAX_NAMES" :: "is_name" :: "is_names" :: "MAX_AGENTS" :: "MAX_POOLS" :: "MAX_STATES" :: "MAX_ACTIONS" :: "MAX_MOVES" :: "MAX_SHARED" :: "Action" :: "System" :: "_are_moves" :: "_are_all_names" :: "_are_states" :: "_are_owners" :: "_are_actions" :: "_is_system" :: "_does_fit" :: "_ascending" :: "_write_lines" :: "_write_moves" :: "_read_line" :: "_read_owner" :: "_read_action" :: "_is_taken" :: "_law_tape" :: "_law_roll" :: "_law_pick" :: "_law_few" :: "_law_owners" :: "_law_states" :: "_law_moves" :: "_law_bare" :: "_law_made" :: "_law_action_line" :: "_law_lines" :: "_law_read_lines" :: "_law_met" :: "_law_wrong_line" :: "_law_right" :: []
abbrev xHk : PySem.W.Hook := L2.hookM 5 xFa xFn xTf xEx xFm
def xOb (s : PySem.W.SharedT) : He.AlX × List He5.FnW := L2.obsM 5 xFa xFn xTf xEx xFm (HandSHeadRun.getT s)
theorem xOb_eq (s : PySem.W.SharedT) : xOb s = xHk.obs s.abs := L2.obsM_eq (HandSHeadRun.getT_eq s)
theorem map_pr {α β γ : Type} {o : Option α} {f : α → β} {g : α → γ} {a : β} {b : γ} (h1 : o.map f = some a) (h2 : o.map g = some b) : (o.map fun s => (f s, g s)) = some (a, b) := by
  cases o with
  | none => cases h1
  | some x =>
    cases h1
    cases h2
    rfl
open PySem.W HandSHeadRun in
theorem xRunA (w : World) : ∀ os : OsState, (HandSHeadRun.endF (HandSHeadRun.stepQ (HandSHeadRun.denQ HandSHeadRun.tabQ) xR.prog w) 9000 xR.prog w os).map (fun s => (looksF xR.prog (boot_heap w.params) s.abs, seenQ (PySem.W.view xR.prog [55]) xLo (importedModules xR.prog.main.body) (fun s => xlAt (PySem.W.view xR.prog [55]) [] s && recOk xR.toRowW.records s) s.abs)) = some (true, openGood (PySem.W.view xR.prog [55]) xLo) := by
  intro os
  kernel_rfl
theorem xRunB (w : World) : ∀ os : OsState, (HandSHeadRun.endF (HandSHeadRun.stepQ (HandSHeadRun.denQ HandSHeadRun.tabQ) xR.prog w) 9000 xR.prog w os).map (fun s => (xOb s).1.1) = some (xHk.val w).1.1 := by
  intro os
  kernel_rfl
theorem xRunC (w : World) : ∀ os : OsState, (HandSHeadRun.endF (HandSHeadRun.stepQ (HandSHeadRun.denQ HandSHeadRun.tabQ) xR.prog w) 9000 xR.prog w os).map (fun s => (xOb s).1.2) = some (xHk.val w).1.2 := by
  intro os
  kernel_rfl
theorem xRunD (w : World) : ∀ os : OsState, (HandSHeadRun.endF (HandSHeadRun.stepQ (HandSHeadRun.denQ HandSHeadRun.tabQ) xR.prog w) 9000 xR.prog w os).map (fun s => (xOb s).2) = some (xHk.val w).2 := by
  intro os
  kernel_rfl
theorem xRun (w : World) : HandSHeadRun.RunEq xR (PySem.W.view xR.prog [55]) xHk xOb 9000 xLo w := by
  intro os
  have h := map_pr (xRunA w os) (map_pr (map_pr (xRunB w os) (xRunC w os)) (xRunD w os))
  generalize (HandSHeadRun.endF (HandSHeadRun.stepQ (HandSHeadRun.denQ HandSHeadRun.tabQ) xR.prog w) 9000 xR.prog w os) = r at h ⊢
  cases r with
  | none => cases h
  | some s =>
    injection h with h
    injection h with h1 h2
    injection h1 with h3 h4
    exact congrArg some (Prod.ext h3 (Prod.ext h4 h2))
theorem xFacts {w : World} {K : PySem.W.Frag} {h : Heap} {mg : Str → Option Value} {fl : Addr} (X : K.In h) (G : h.Ns mainGlobals mg) (hfl : mg ("law" : Str) = some (.ref fl)) (c : He.SaysX xFa xFn [] xTf xEx w h K) (m : xFm.map (fun d => He5.fnA K (d.at_ K)) = xFm.map He5.DefA.val) : LamX.LawAtS PySem.Challenge.rw_groupclocks_k07_whole_systems_and_their w K CX0 12 63 "script" mg fl h := by
  have cd := c.t.d
  obtain ⟨d_is_name, F_is_name⟩ := cd.def_ 0 (d := ⟨("is_name", none), "is_name", "is_name", defArgs s_is_name, defBody s_is_name, defScope s_is_name, [], []⟩) rfl
  have D_is_name : Df K mg "is_name" s_is_name ["value"] _ d_is_name := df_he X G F_is_name (cd.fact 0 (f := .glo "is_name") rfl) fun _ _ _ _ _ _ us hl => match us, hl with | [_], _ => rfl
  obtain ⟨d_is_names, F_is_names⟩ := cd.def_ 1 (d := ⟨("is_names", none), "is_names", "is_names", defArgs s_is_names, defBody s_is_names, defScope s_is_names, [], []⟩) rfl
  have D_is_names : Df K mg "is_names" s_is_names ["value"] _ d_is_names := df_he X G F_is_names (cd.fact 1 (f := .glo "is_names") rfl) fun _ _ _ _ _ _ us hl => match us, hl with | [_], _ => rfl
  obtain ⟨d_are_moves, F_are_moves⟩ := cd.def_ 2 (d := ⟨("_are_moves", none), "_are_moves", "_are_moves", defArgs s_are_moves, defBody s_are_moves, defScope s_are_moves, [], []⟩) rfl
  have D_are_moves : Df K mg "_are_moves" s_are_moves ["value"] _ d_are_moves := df_he X G F_are_moves (cd.fact 2 (f := .glo "_are_moves") rfl) fun _ _ _ _ _ _ us hl => match us, hl with | [_], _ => rfl
  obtain ⟨d_are_all_names, F_are_all_names⟩ := cd.def_ 3 (d := ⟨("_are_all_names", none), "_are_all_names", "_are_all_names", defArgs s_are_all_names, defBody s_are_all_names, defScope s_are_all_names, [], []⟩) rfl
  have D_are_all_names : Df K mg "_are_all_names" s_are_all_names ["words"] _ d_are_all_names := df_he X G F_are_all_names (cd.fact 3 (f := .glo "_are_all_names") rfl) fun _ _ _ _ _ _ us hl => match us, hl with | [_], _ => rfl
  obtain ⟨d_are_states, F_are_states⟩ := cd.def_ 4 (d := ⟨("_are_states", none), "_are_states", "_are_states", defArgs s_are_states, defBody s_are_states, defScope s_are_states, [], []⟩) rfl
  have D_are_states : Df K mg "_are_states" s_are_states ["value"] _ d_are_states := df_he X G F_are_states (cd.fact 4 (f := .glo "_are_states") rfl) fun _ _ _ _ _ _ us hl => match us, hl with | [_], _ => rfl
  obtain ⟨d_are_owners, F_are_owners⟩ := cd.def_ 5 (d := ⟨("_are_owners", none), "_are_owners", "_are_owners", defArgs s_are_owners, defBody s_are_owners, defScope s_are_owners, [], []⟩) rfl
  have D_are_owners : Df K mg "_are_owners" s_are_owners ["value", "limit"] _ d_are_owners := df_he X G F_are_owners (cd.fact 5 (f := .glo "_are_owners") rfl) fun _ _ _ _ _ _ us hl => match us, hl with | [_, _], _ => rfl
  obtain ⟨d_are_actions, F_are_actions⟩ := cd.def_ 6 (d := ⟨("_are_actions", none), "_are_actions", "_are_actions", defArgs s_are_actions, defBody s_are_actions, defScope s_are_actions, [], []⟩) rfl
  have D_are_actions : Df K mg "_are_actions" s_are_actions ["value"] _ d_are_actions := df_he X G F_are_actions (cd.fact 6 (f := .glo "_are_actions") rfl) fun _ _ _ _ _ _ us hl => match us, hl with | [_], _ => rfl
  obtain ⟨d_is_system, F_is_system⟩ := cd.def_ 7 (d := ⟨("_is_system", none), "_is_system", "_is_system", defArgs s_is_system, defBody s_is_system, defScope s_is_system, [], []⟩) rfl
  have D_is_system : Df K mg "_is_system" s_is_system ["agents", "pools", "actions"] _ d_is_system := df_he X G F_is_system (cd.fact 7 (f := .glo "_is_system") rfl) fun _ _ _ _ _ _ us hl => match us, hl with | [_, _, _], _ => rfl
  obtain ⟨d_does_fit, F_does_fit⟩ := cd.def_ 8 (d := ⟨("_does_fit", none), "_does_fit", "_does_fit", defArgs s_does_fit, defBody s_does_fit, defScope s_does_fit, [], []⟩) rfl
  have D_does_fit : Df K mg "_does_fit" s_does_fit ["action", "agents", "pools"] _ d_does_fit := df_he X G F_does_fit (cd.fact 8 (f := .glo "_does_fit") rfl) fun _ _ _ _ _ _ us hl => match us, hl with | [_, _, _], _ => rfl
  obtain ⟨d_ascending, F_ascending⟩ := cd.def_ 9 (d := ⟨("_ascending", none), "_ascending", "_ascending", defArgs s_ascending, defBody s_ascending, defScope s_ascending, [], []⟩) rfl
  have D_ascending : Df K mg "_ascending" s_ascending ["table"] _ d_ascending := df_he X G F_ascending (cd.fact 9 (f := .glo "_ascending") rfl) fun _ _ _ _ _ _ us hl => match us, hl with | [_], _ => rfl
  obtain ⟨d_write_lines, F_write_lines⟩ := cd.def_ 10 (d := ⟨("_write_lines", none), "_write_lines", "_write_lines", defArgs s_write_lines, defBody s_write_lines, defScope s_write_lines, [], []⟩) rfl
  have D_write_lines : Df K mg "_write_lines" s_write_lines ["agents", "pools", "actions"] _ d_write_lines := df_he X G F_write_lines (cd.fact 10 (f := .glo "_write_lines") rfl) fun _ _ _ _ _ _ us hl => match us, hl with | [_, _, _], _ => rfl
  obtain ⟨d_write_moves, F_write_moves⟩ := cd.def_ 11 (d := ⟨("_write_moves", none), "_write_moves", "_write_moves", defArgs s_write_moves, defBody s_write_moves, defScope s_write_moves, [], []⟩) rfl
  have D_write_moves : Df K mg "_write_moves" s_write_moves ["moves"] _ d_write_moves := df_he X G F_write_moves (cd.fact 11 (f := .glo "_write_moves") rfl) fun _ _ _ _ _ _ us hl => match us, hl with | [_], _ => rfl
  obtain ⟨d_read_line, F_read_line⟩ := cd.def_ 12 (d := ⟨("_read_line", none), "_read_line", "_read_line", defArgs s_read_line, defBody s_read_line, defScope s_read_line, [], []⟩) rfl
  have D_read_line : Df K mg "_read_line" s_read_line ["line"] _ d_read_line := df_he X G F_read_line (cd.fact 12 (f := .glo "_read_line") rfl) fun _ _ _ _ _ _ us hl => match us, hl with | [_], _ => rfl
  obtain ⟨d_read_owner, F_read_owner⟩ := cd.def_ 13 (d := ⟨("_read_owner", none), "_read_owner", "_read_owner", defArgs s_read_owner, defBody s_read_owner, defScope s_read_owner, [], []⟩) rfl
  have D_read_owner : Df K mg "_read_owner" s_read_owner ["text"] _ d_read_owner := df_he X G F_read_owner (cd.fact 13 (f := .glo "_read_owner") rfl) fun _ _ _ _ _ _ us hl => match us, hl with | [_], _ => rfl
  obtain ⟨d_read_action, F_read_action⟩ := cd.def_ 14 (d := ⟨("_read_action", none), "_read_action", "_read_action", defArgs s_read_action, defBody s_read_action, defScope s_read_action, [], []⟩) rfl
  have D_read_action : Df K mg "_read_action" s_read_action ["line"] _ d_read_action := df_he X G F_read_action (cd.fact 14 (f := .glo "_read_action") rfl) fun _ _ _ _ _ _ us hl => match us, hl with | [_], _ => rfl
  obtain ⟨d_is_taken, F_is_taken⟩ := cd.def_ 15 (d := ⟨("_is_taken", none), "_is_taken", "_is_taken", defArgs s_is_taken, defBody s_is_taken, defScope s_is_taken, [], []⟩) rfl
  have D_is_taken : Df K mg "_is_taken" s_is_taken ["tables", "told"] _ d_is_taken := df_he X G F_is_taken (cd.fact 15 (f := .glo "_is_taken") rfl) fun _ _ _ _ _ _ us hl => match us, hl with | [_, _], _ => rfl
  obtain ⟨d_tape, F_tape⟩ := cd.def_ 16 (d := ⟨("_law_tape", none), "_law_tape", "_law_tape", defArgs s_tape, defBody s_tape, defScope s_tape, [], []⟩) rfl
  have D_tape : Df K mg "_law_tape" s_tape ["script", "spot"] _ d_tape := df_he X G F_tape (cd.fact 16 (f := .glo "_law_tape") rfl) fun _ _ _ _ _ _ us hl => match us, hl with | [_, _], _ => rfl
  obtain ⟨d_roll, F_roll⟩ := cd.def_ 17 (d := ⟨("_law_roll", none), "_law_roll", "_law_roll", defArgs s_roll, defBody s_roll, defScope s_roll, [], []⟩) rfl
  have D_roll : Df K mg "_law_roll" s_roll ["tape", "total"] _ d_roll := df_he X G F_roll (cd.fact 17 (f := .glo "_law_roll") rfl) fun _ _ _ _ _ _ us hl => match us, hl with | [_, _], _ => rfl
  obtain ⟨d_pick, F_pick⟩ := cd.def_ 18 (d := ⟨("_law_pick", none), "_law_pick", "_law_pick", defArgs s_pick, defBody s_pick, defScope s_pick, [], []⟩) rfl
  have D_pick : Df K mg "_law_pick" s_pick ["tape", "items"] _ d_pick := df_he X G F_pick (cd.fact 18 (f := .glo "_law_pick") rfl) fun _ _ _ _ _ _ us hl => match us, hl with | [_, _], _ => rfl
  obtain ⟨d_few, F_few⟩ := cd.def_ 19 (d := ⟨("_law_few", none), "_law_few", "_law_few", defArgs s_few, defBody s_few, defScope s_few, [], []⟩) rfl
  have D_few : Df K mg "_law_few" s_few ["tape", "items", "many"] _ d_few := df_he X G F_few (cd.fact 19 (f := .glo "_law_few") rfl) fun _ _ _ _ _ _ us hl => match us, hl with | [_, _, _], _ => rfl
  obtain ⟨d_owners, F_owners⟩ := cd.def_ 20 (d := ⟨("_law_owners", none), "_law_owners", "_law_owners", defArgs s_owners, defBody s_owners, defScope s_owners, [], []⟩) rfl
  have D_owners : Df K mg "_law_owners" s_owners ["tape"] _ d_owners := df_he X G F_owners (cd.fact 20 (f := .glo "_law_owners") rfl) fun _ _ _ _ _ _ us hl => match us, hl with | [_], _ => rfl
  obtain ⟨d_states, F_states⟩ := cd.def_ 21 (d := ⟨("_law_states", none), "_law_states", "_law_states", defArgs s_states, defBody s_states, defScope s_states, [], []⟩) rfl
  have D_states : Df K mg "_law_states" s_states ["plain", "owner"] _ d_states := df_he X G F_states (cd.fact 21 (f := .glo "_law_states") rfl) fun _ _ _ _ _ _ us hl => match us, hl with | [_, _], _ => rfl
  obtain ⟨d_moves, F_moves⟩ := cd.def_ 22 (d := ⟨("_law_moves", none), "_law_moves", "_law_moves", defArgs s_moves, defBody s_moves, defScope s_moves, [], []⟩) rfl
  have D_moves : Df K mg "_law_moves" s_moves ["tape", "plain", "most"] _ d_moves := df_he X G F_moves (cd.fact 22 (f := .glo "_law_moves") rfl) fun _ _ _ _ _ _ us hl => match us, hl with | [_, _, _], _ => rfl
  obtain ⟨d_bare, F_bare⟩ := cd.def_ 23 (d := ⟨("_law_bare", none), "_law_bare", "_law_bare", defArgs s_bare, defBody s_bare, defScope s_bare, [], []⟩) rfl
  have D_bare : Df K mg "_law_bare" s_bare ["tape"] _ d_bare := df_he X G F_bare (cd.fact 23 (f := .glo "_law_bare") rfl) fun _ _ _ _ _ _ us hl => match us, hl with | [_], _ => rfl
  obtain ⟨d_made, F_made⟩ := cd.def_ 24 (d := ⟨("_law_made", none), "_law_made", "_law_made", defArgs s_made, defBody s_made, defScope s_made, [], []⟩) rfl
  have D_made : Df K mg "_law_made" s_made ["plain"] _ d_made := df_he X G F_made (cd.fact 24 (f := .glo "_law_made") rfl) fun _ _ _ _ _ _ us hl => match us, hl with | [_], _ => rfl
  obtain ⟨d_action_line, F_action_line⟩ := cd.def_ 25 (d := ⟨("_law_action_line", none), "_law_action_line", "_law_action_line", defArgs s_action_line, defBody s_action_line, defScope s_action_line, [], []⟩) rfl
  have D_action_line : Df K mg "_law_action_line" s_action_line ["called", "moves"] _ d_action_line := df_he X G F_action_line (cd.fact 25 (f := .glo "_law_action_line") rfl) fun _ _ _ _ _ _ us hl => match us, hl with | [_, _], _ => rfl
  obtain ⟨d_lines, F_lines⟩ := cd.def_ 26 (d := ⟨("_law_lines", none), "_law_lines", "_law_lines", defArgs s_lines, defBody s_lines, defScope s_lines, [], []⟩) rfl
  have D_lines : Df K mg "_law_lines" s_lines ["plain"] _ d_lines := df_he X G F_lines (cd.fact 26 (f := .glo "_law_lines") rfl) fun _ _ _ _ _ _ us hl => match us, hl with | [_], _ => rfl
  obtain ⟨d_read_lines, F_read_lines⟩ := cd.def_ 27 (d := ⟨("_law_read_lines", none), "_law_read_lines", "_law_read_lines", defArgs s_read_lines, defBody s_read_lines, defScope s_read_lines, [], []⟩) rfl
  have D_read_lines : Df K mg "_law_read_lines" s_read_lines ["lines"] _ d_read_lines := df_he X G F_read_lines (cd.fact 27 (f := .glo "_law_read_lines") rfl) fun _ _ _ _ _ _ us hl => match us, hl with | [_], _ => rfl
  obtain ⟨d_met, F_met⟩ := cd.def_ 28 (d := ⟨("_law_met", none), "_law_met", "_law_met", defArgs s_met, defBody s_met, defScope s_met, [], []⟩) rfl
  have D_met : Df K mg "_law_met" s_met ["lines"] _ d_met := df_he X G F_met (cd.fact 28 (f := .glo "_law_met") rfl) fun _ _ _ _ _ _ us hl => match us, hl with | [_], _ => rfl
  obtain ⟨d_wrong_line, F_wrong_line⟩ := cd.def_ 29 (d := ⟨("_law_wrong_line", none), "_law_wrong_line", "_law_wrong_line", defArgs s_wrong_line, defBody s_wrong_line, defScope s_wrong_line, [], []⟩) rfl
  have D_wrong_line : Df K mg "_law_wrong_line" s_wrong_line ["tape", "line"] _ d_wrong_line := df_he X G F_wrong_line (cd.fact 29 (f := .glo "_law_wrong_line") rfl) fun _ _ _ _ _ _ us hl => match us, hl with | [_, _], _ => rfl
  obtain ⟨d_right, F_right⟩ := cd.def_ 30 (d := ⟨("_law_right", none), "_law_right", "_law_right", defArgs s_right, defBody s_right, defScope s_right, [], []⟩) rfl
  have D_right : Df K mg "_law_right" s_right ["tape"] _ d_right := df_he X G F_right (cd.fact 30 (f := .glo "_law_right") rfl) fun _ _ _ _ _ _ us hl => match us, hl with | [_], _ => rfl
  obtain ⟨d_law, F_law⟩ := cd.def_ 31 (d := ⟨("law", none), "law", "law", defArgs s_law, defBody s_law, defScope s_law, [], []⟩) rfl
  have D_law : Df K mg "law" s_law ["script"] _ d_law := df_he X G F_law (cd.fact 31 (f := .glo "law") rfl) fun _ _ _ _ _ _ us hl => match us, hl with | [_], _ => rfl
  have hex := c.more
  obtain ⟨ex_ini_ParseError, hex⟩ := He.ba (show (iniB "ParseError" "line" K && _) = true from hex)
  obtain ⟨ex_cin_ClockError, hex⟩ := He.ba (show (cinB "ClockError" K && _) = true from hex)
  obtain ⟨ex_pr_Action_called, hex⟩ := He.ba (show (propB K (He.ga K "Action") "called" && _) = true from hex)
  obtain ⟨ex_pr_Action_moves, hex⟩ := He.ba (show (propB K (He.ga K "Action") "moves" && _) = true from hex)
  obtain ⟨ex_ins_Action, hex⟩ := He.ba (show (insB K (He.ga K "Action") && _) = true from hex)
  obtain ⟨ex_fmt_Action, hex⟩ := He.ba (show (He.eqO (PySem.W.findIn K (.ref (He.ga K "Action")) "__format__") (some (some (.builtin "object.__format__"))) && _) = true from hex)
  obtain ⟨ex_pr_System_lines, hex⟩ := He.ba (show (propB K (He.ga K "System") "lines" && _) = true from hex)
  obtain ⟨ex_cm_System_from_lines, hex⟩ := He.ba (show (cmetB K (He.ga K "System") "from_lines" && _) = true from hex)
  obtain ⟨ex_ins_System, hex⟩ := He.ba (show (insB K (He.ga K "System") && _) = true from hex)
  obtain ⟨ex_read_System, hex⟩ := He.ba (show (readB K (He.ga K "System") && _) = true from hex)
  obtain ⟨ex_ne_System, hex⟩ := He.ba (show (neB K (He.ga K "System") && _) = true from hex)
  obtain ⟨ex_dAS, hex⟩ := He.ba (show (decide (He.ga K "Action" ≠ He.ga K "System") && _) = true from hex)
  obtain ⟨ex_dPS, hex⟩ := He.ba (show (decide (He.ga K "Plan" ≠ He.ga K "System") && _) = true from hex)
  obtain ⟨ex_m_Action_called, hex⟩ := He.ba (show (xM_Action_called.ok K && _) = true from hex)
  obtain ⟨ex_m_Action_moves, hex⟩ := He.ba (show (xM_Action_moves.ok K && _) = true from hex)
  obtain ⟨ex_m_System_lines, hex⟩ := He.ba (show (xM_System_lines.ok K && _) = true from hex)
  obtain ⟨ex_m_System_from_lines, hex⟩ := He.ba (show (xM_System_from_lines.ok K && _) = true from hex)
  have B : Blt mg := ⟨He.free_ok X G (cd.fact 55 (f := .free "len") rfl), He.free_ok X G (cd.fact 56 (f := .free "int") rfl), He.free_ok X G (cd.fact 57 (f := .free "abs") rfl), He.free_ok X G (cd.fact 58 (f := .free "max") rfl), He.free_ok X G (cd.fact 59 (f := .free "min") rfl), He.free_ok X G (cd.fact 60 (f := .free "range") rfl), He.free_ok X G (cd.fact 61 (f := .free "all") rfl), He.free_ok X G (cd.fact 62 (f := .free "isinstance") rfl), He.free_ok X G (cd.fact 63 (f := .free "str") rfl), He.free_ok X G (cd.fact 64 (f := .free "tuple") rfl), He.free_ok X G (cd.fact 65 (f := .free "list") rfl), He.free_ok X G (cd.fact 66 (f := .free "set") rfl), He.free_ok X G (cd.fact 67 (f := .free "sorted") rfl), He.free_ok X G (cd.fact 68 (f := .free "repr") rfl), He.free_ok X G (cd.fact 69 (f := .free "bool") rfl), He.free_ok X G (cd.fact 70 (f := .free "dict") rfl)⟩
  have m_any := He.free_ok X G (cd.fact 71 (f := .free "any") rfl)
  have m_enumerate := He.free_ok X G (cd.fact 72 (f := .free "enumerate") rfl)
  obtain ⟨d_ParseError, F_ParseError⟩ := cd.def_ 32 (d := ⟨("ParseError", some "__init__"), "__init__", "ParseError.__init__", defArgs s_ParseError___init, defBody s_ParseError___init, defScope s_ParseError___init, [], []⟩) rfl
  obtain ⟨T_ParseError, X_ParseError⟩ := ini_he X G (x := "ParseError") (fld := "line") (st := s_ParseError___init) (by decide +kernel) ex_ini_ParseError (cd.fact 32 (f := .glo "ParseError") rfl) F_ParseError fun _ _ _ _ _ _ us hl => match us, hl with | [_, _], _ => rfl
  have I_ClockError := cin_he X G (cd.fact 33 (f := .glo "ClockError") rfl) ex_cin_ClockError
  have T_InvalidName := own_he X G (cd.fact 34 (f := .glo "InvalidName") rfl) (cd.fact 40 (f := .exc "InvalidName") rfl) (cd.fact 41 (f := .exm "InvalidName" "InvalidName" true) rfl)
  have T_InvalidAction := own_he X G (cd.fact 35 (f := .glo "InvalidAction") rfl) (cd.fact 42 (f := .exc "InvalidAction") rfl) (cd.fact 43 (f := .exm "InvalidAction" "InvalidAction" true) rfl)
  have T_InvalidSystem := own_he X G (cd.fact 36 (f := .glo "InvalidSystem") rfl) (cd.fact 44 (f := .exc "InvalidSystem") rfl) (cd.fact 45 (f := .exm "InvalidSystem" "InvalidSystem" true) rfl)
  have e_InvalidSystem_ParseError := He.exm_ok (cd.fact 46 (f := .exm "InvalidSystem" "ParseError" false) rfl)
  obtain ⟨t_MAX_LETTERS, C_MAX_LETTERS⟩ := He.int_ok X G (cd.fact 47 (f := .int "MAX_LETTERS" 8) rfl)
  obtain ⟨t_MAX_NAMES, C_MAX_NAMES⟩ := He.int_ok X G (cd.fact 48 (f := .int "MAX_NAMES" 16) rfl)
  obtain ⟨t_MAX_AGENTS, C_MAX_AGENTS⟩ := He.int_ok X G (cd.fact 49 (f := .int "MAX_AGENTS" 5) rfl)
  obtain ⟨t_MAX_POOLS, C_MAX_POOLS⟩ := He.int_ok X G (cd.fact 50 (f := .int "MAX_POOLS" 3) rfl)
  obtain ⟨t_MAX_STATES, C_MAX_STATES⟩ := He.int_ok X G (cd.fact 51 (f := .int "MAX_STATES" 6) rfl)
  obtain ⟨t_MAX_ACTIONS, C_MAX_ACTIONS⟩ := He.int_ok X G (cd.fact 52 (f := .int "MAX_ACTIONS" 16) rfl)
  obtain ⟨t_MAX_MOVES, C_MAX_MOVES⟩ := He.int_ok X G (cd.fact 53 (f := .int "MAX_MOVES" 4) rfl)
  obtain ⟨t_MAX_SHARED, C_MAX_SHARED⟩ := He.int_ok X G (cd.fact 54 (f := .int "MAX_SHARED" 3) rfl)
  have g_Action := He.glo_ok X G (cd.fact 37 (f := .glo "Action") rfl)
  have cl_Action := He.cls_ok (cd.fact 73 (f := .cls "Action") rfl)
  have MK_Action := He.mkr_ok (cd.fact 74 (f := .mkr "Action") rfl)
  have no_Action_called := He.noat_ok (cd.fact 75 (f := .noat "Action" "_called") rfl)
  have no_Action_moves := He.noat_ok (cd.fact 76 (f := .noat "Action" "_moves") rfl)
  have IC_Action := insB_ok cl_Action ex_ins_Action
  obtain ⟨d_Action_init, F_Action_init⟩ := cd.def_ 33 (d := ⟨("Action", some "__init__"), "__init__", "Action.__init__", defArgs s_Action___init, defBody s_Action___init, defScope s_Action___init, [], []⟩) rfl
  have U_Action_init : Fun K "__init__" "Action.__init__" s_Action___init (He.ma K (He.ga K "Action") "__init__") d_Action_init := funD_fun F_Action_init
  have B_Action_init := U_Action_init.binds (ps := ["self", "called", "moves"]) fun _ _ _ _ _ _ us hl => match us, hl with | [_, _, _], _ => rfl
  obtain ⟨d_Action_len, F_Action_len⟩ := cd.def_ 34 (d := ⟨("Action", some "__len__"), "__len__", "Action.__len__", defArgs s_Action___len, defBody s_Action___len, defScope s_Action___len, [], []⟩) rfl
  have U_Action_len : Fun K "__len__" "Action.__len__" s_Action___len (He.ma K (He.ga K "Action") "__len__") d_Action_len := funD_fun F_Action_len
  have B_Action_len := U_Action_len.binds (ps := ["self"]) fun _ _ _ _ _ _ us hl => match us, hl with | [_], _ => rfl
  have O_Action_len := own_meth (He.meth_ok (cd.fact 77 (f := .meth "Action" "__len__") rfl))
  have Me_Action_len := He.meth_ok (cd.fact 77 (f := .meth "Action" "__len__") rfl)
  obtain ⟨d_Action_eq, F_Action_eq⟩ := cd.def_ 35 (d := ⟨("Action", some "__eq__"), "__eq__", "Action.__eq__", defArgs s_Action___eq, defBody s_Action___eq, defScope s_Action___eq, [], []⟩) rfl
  have U_Action_eq : Fun K "__eq__" "Action.__eq__" s_Action___eq (He.ma K (He.ga K "Action") "__eq__") d_Action_eq := funD_fun F_Action_eq
  have B_Action_eq := U_Action_eq.binds (ps := ["self", "other"]) fun _ _ _ _ _ _ us hl => match us, hl with | [_, _], _ => rfl
  have O_Action_eq := own_meth (He.meth_ok (cd.fact 78 (f := .meth "Action" "__eq__") rfl))
  have Me_Action_eq := He.meth_ok (cd.fact 78 (f := .meth "Action" "__eq__") rfl)
  obtain ⟨d_Action_str, F_Action_str⟩ := cd.def_ 36 (d := ⟨("Action", some "__str__"), "__str__", "Action.__str__", defArgs s_Action___str, defBody s_Action___str, defScope s_Action___str, [], []⟩) rfl
  have U_Action_str : Fun K "__str__" "Action.__str__" s_Action___str (He.ma K (He.ga K "Action") "__str__") d_Action_str := funD_fun F_Action_str
  have B_Action_str := U_Action_str.binds (ps := ["self"]) fun _ _ _ _ _ _ us hl => match us, hl with | [_], _ => rfl
  have O_Action_str := own_meth (He.meth_ok (cd.fact 79 (f := .meth "Action" "__str__") rfl))
  have Me_Action_str := He.meth_ok (cd.fact 79 (f := .meth "Action" "__str__") rfl)
  have FM_Action := He.eqO_ok ex_fmt_Action
  have g_System := He.glo_ok X G (cd.fact 38 (f := .glo "System") rfl)
  have cl_System := He.cls_ok (cd.fact 80 (f := .cls "System") rfl)
  have MK_System := He.mkr_ok (cd.fact 81 (f := .mkr "System") rfl)
  have no_System_agents := He.noat_ok (cd.fact 82 (f := .noat "System" "_agents") rfl)
  have no_System_pools := He.noat_ok (cd.fact 83 (f := .noat "System" "_pools") rfl)
  have no_System_actions := He.noat_ok (cd.fact 84 (f := .noat "System" "_actions") rfl)
  have no_System_lines := He.noat_ok (cd.fact 85 (f := .noat "System" "_lines") rfl)
  have no_System_plans := He.noat_ok (cd.fact 86 (f := .noat "System" "_plans") rfl)
  have no_System_notes := He.noat_ok (cd.fact 87 (f := .noat "System" "notes") rfl)
  have IC_System := insB_ok cl_System ex_ins_System
  obtain ⟨d_System_init, F_System_init⟩ := cd.def_ 37 (d := ⟨("System", some "__init__"), "__init__", "System.__init__", defArgs s_System___init, defBody s_System___init, defScope s_System___init, [], []⟩) rfl
  have U_System_init : Fun K "__init__" "System.__init__" s_System___init (He.ma K (He.ga K "System") "__init__") d_System_init := funD_fun F_System_init
  have B_System_init := U_System_init.binds (ps := ["self", "agents", "pools", "actions"]) fun _ _ _ _ _ _ us hl => match us, hl with | [_, _, _, _], _ => rfl
  obtain ⟨d_System_eq, F_System_eq⟩ := cd.def_ 38 (d := ⟨("System", some "__eq__"), "__eq__", "System.__eq__", defArgs s_System___eq, defBody s_System___eq, defScope s_System___eq, [], []⟩) rfl
  have U_System_eq : Fun K "__eq__" "System.__eq__" s_System___eq (He.ma K (He.ga K "System") "__eq__") d_System_eq := funD_fun F_System_eq
  have B_System_eq := U_System_eq.binds (ps := ["self", "other"]) fun _ _ _ _ _ _ us hl => match us, hl with | [_, _], _ => rfl
  have O_System_eq := own_meth (He.meth_ok (cd.fact 88 (f := .meth "System" "__eq__") rfl))
  have Me_System_eq := He.meth_ok (cd.fact 88 (f := .meth "System" "__eq__") rfl)
  have R_System := readB_ok ex_read_System
  have NE_System := He.eqO_ok ex_ne_System
  have g_Plan := He.glo_ok X G (cd.fact 39 (f := .glo "Plan") rfl)
  have cl_Plan := He.cls_ok (cd.fact 89 (f := .cls "Plan") rfl)
  have MK_Plan := He.mkr_ok (cd.fact 90 (f := .mkr "Plan") rfl)
  have no_Plan_shared := He.noat_ok (cd.fact 91 (f := .noat "Plan" "shared") rfl)
  have no_Plan_moves := He.noat_ok (cd.fact 92 (f := .noat "Plan" "_moves") rfl)
  have no_Plan_places := He.noat_ok (cd.fact 93 (f := .noat "Plan" "places") rfl)
  have no_Plan_apart := He.noat_ok (cd.fact 94 (f := .noat "Plan" "_apart") rfl)
  have no_Plan_ascending := He.noat_ok (cd.fact 95 (f := .noat "Plan" "_ascending") rfl)
  obtain ⟨d_Plan_init, F_Plan_init⟩ := cd.def_ 39 (d := ⟨("Plan", some "__init__"), "__init__", "Plan.__init__", defArgs s_Plan___init, defBody s_Plan___init, defScope s_Plan___init, [], []⟩) rfl
  have U_Plan_init : Fun K "__init__" "Plan.__init__" s_Plan___init (He.ma K (He.ga K "Plan") "__init__") d_Plan_init := funD_fun F_Plan_init
  have B_Plan_init := U_Plan_init.binds (ps := ["self", "moves", "pools"]) fun _ _ _ _ _ _ us hl => match us, hl with | [_, _, _], _ => rfl
  obtain ⟨d_Action_called, F_Action_called⟩ := defA_at m 0 (d := xM_Action_called) rfl ex_m_Action_called
  have U_Action_called : Fun K "called" "Action.called" s_Action_called (He5.wf K (He.ga K "Action") "property" "called") d_Action_called := funD_fun F_Action_called
  have B_Action_called := U_Action_called.binds (ps := ["self"]) fun _ _ _ _ _ _ us hl => match us, hl with | [_], _ => rfl
  have P_Action_called := propB_ok ex_pr_Action_called
  obtain ⟨d_Action_moves, F_Action_moves⟩ := defA_at m 1 (d := xM_Action_moves) rfl ex_m_Action_moves
  have U_Action_moves : Fun K "moves" "Action.moves" s_Action_moves (He5.wf K (He.ga K "Action") "property" "moves") d_Action_moves := funD_fun F_Action_moves
  have B_Action_moves := U_Action_moves.binds (ps := ["self"]) fun _ _ _ _ _ _ us hl => match us, hl with | [_], _ => rfl
  have P_Action_moves := propB_ok ex_pr_Action_moves
  obtain ⟨d_System_lines, F_System_lines⟩ := defA_at m 2 (d := xM_System_lines) rfl ex_m_System_lines
  have U_System_lines : Fun K "lines" "System.lines" s_System_lines (He5.wf K (He.ga K "System") "property" "lines") d_System_lines := funD_fun F_System_lines
  have B_System_lines := U_System_lines.binds (ps := ["self"]) fun _ _ _ _ _ _ us hl => match us, hl with | [_], _ => rfl
  have P_System_lines := propB_ok ex_pr_System_lines
  obtain ⟨d_System_from_lines, F_System_from_lines⟩ := defA_at m 3 (d := xM_System_from_lines) rfl ex_m_System_from_lines
  have U_System_from_lines : Fun K "from_lines" "System.from_lines" s_System_from_lines (He5.wf K (He.ga K "System") "classmethod" "from_lines") d_System_from_lines := funD_fun F_System_from_lines
  have P_System_from_lines := cmetB_ok ex_cm_System_from_lines
  have hne : He.ga K "Action" ≠ He.ga K "System" := of_decide_eq_true ex_dAS
  have hnp : He.ga K "Plan" ≠ He.ga K "System" := of_decide_eq_true ex_dPS
  have AC : ActC K (He.ga K "Action") := ⟨cl_Action, no_Action_called, no_Action_moves⟩
  have SC : SysC K (He.ga K "System") := ⟨cl_System, no_System_agents, no_System_pools, no_System_actions, no_System_lines, no_System_plans, no_System_notes⟩
  have TA : ActK K mg _ _ _ _ _ _ _ _ _ d_Action_init d_Action_called d_Action_moves d_Action_len d_Action_eq d_Action_str := ⟨g_Action, AC, IC_Action, MK_Action, B_Action_init, P_Action_called, B_Action_called, P_Action_moves, B_Action_moves, O_Action_len, B_Action_len, O_Action_eq, B_Action_eq, O_Action_str, B_Action_str, FM_Action⟩
  have TS : SysK K mg _ _ d_System_init := ⟨g_System, MK_System, B_System_init, SC, IC_System⟩
  have TP : PlanK K mg _ _ d_Plan_init := ⟨g_Plan, MK_Plan, B_Plan_init⟩
  have el := hfl.symm.trans D_law.g
  cases el
  refine ⟨d_law, [], spLaw K, ?_, ?_, ?_, ?_, ?_, fun base KB GB TB => ?_⟩
  · exact fun p hp => nomatch hp
  · exact fun p hp => nomatch hp
  · exact fun p hp => nomatch hp
  · exact fun s v => FunD.bindsA (ps := ["script"]) F_law (fun _ _ _ _ _ _ us hl => match us, hl with | [_], _ => rfl) s [v] rfl
  · exact fun H a ns hl _ _ hS => ⟨a, ns, rfl, hS, hl, fun _ => rfl⟩
  have G_tape := ok_tape (P := PySem.Challenge.rw_groupclocks_k07_whole_systems_and_their.prog) (w := w) (base := base)  B D_tape
  have G_roll := ok_roll (P := PySem.Challenge.rw_groupclocks_k07_whole_systems_and_their.prog) (w := w) (base := base)  B D_roll
  have G_pick := ok_pick (P := PySem.Challenge.rw_groupclocks_k07_whole_systems_and_their.prog) (w := w) (base := base)  B D_roll D_pick
  have G_few := ok_few (P := PySem.Challenge.rw_groupclocks_k07_whole_systems_and_their.prog) (w := w) (base := base)  B D_roll D_few
  have G_is_name := ok_is_name (P := PySem.Challenge.rw_groupclocks_k07_whole_systems_and_their.prog) (w := w) (base := base)  B C_MAX_LETTERS D_is_name
  have G_is_names := ok_is_names (P := PySem.Challenge.rw_groupclocks_k07_whole_systems_and_their.prog) (w := w) (base := base)  B C_MAX_NAMES D_is_name G_is_name D_is_names
  have G_ParseError := ok_ParseError (P := PySem.Challenge.rw_groupclocks_k07_whole_systems_and_their.prog) (w := w) (base := base)  T_ParseError I_ClockError
  have G_are_all_names := ok_are_all_names (P := PySem.Challenge.rw_groupclocks_k07_whole_systems_and_their.prog) (w := w) (base := base)  B D_is_name G_is_name D_are_all_names
  have G_are_moves := ok_are_moves (P := PySem.Challenge.rw_groupclocks_k07_whole_systems_and_their.prog) (w := w) (base := base)  B C_MAX_MOVES D_are_all_names G_are_all_names D_are_moves
  have G_init := ok_Action___init (P := PySem.Challenge.rw_groupclocks_k07_whole_systems_and_their.prog) (w := w) (base := base)  B T_InvalidName T_InvalidAction AC U_Action_init D_is_name G_is_name D_are_moves G_are_moves
  have G_called := ok_Action_called (P := PySem.Challenge.rw_groupclocks_k07_whole_systems_and_their.prog) (w := w) (base := base)  B AC U_Action_called
  have G_moves := ok_Action_moves (P := PySem.Challenge.rw_groupclocks_k07_whole_systems_and_their.prog) (w := w) (base := base)  B AC U_Action_moves
  have G_len := ok_Action___len (P := PySem.Challenge.rw_groupclocks_k07_whole_systems_and_their.prog) (w := w) (base := base)  B AC U_Action_len
  have G_write_moves := ok_write_moves (P := PySem.Challenge.rw_groupclocks_k07_whole_systems_and_their.prog) (w := w) (base := base)  B D_write_moves
  have G_str := ok_Action___str (P := PySem.Challenge.rw_groupclocks_k07_whole_systems_and_their.prog) (w := w) (base := base)  B AC D_write_moves G_write_moves U_Action_str
  have G_read_action := ok_read_action (P := PySem.Challenge.rw_groupclocks_k07_whole_systems_and_their.prog) (w := w) (base := base)  B D_is_name G_is_name D_are_moves G_are_moves D_read_action
  have G_are_states := ok_are_states (P := PySem.Challenge.rw_groupclocks_k07_whole_systems_and_their.prog) (w := w) (base := base)  B C_MAX_STATES D_is_names G_is_names D_are_states
  have G_are_owners := ok_are_owners (P := PySem.Challenge.rw_groupclocks_k07_whole_systems_and_their.prog) (w := w) (base := base)  B D_is_name G_is_name D_are_states G_are_states D_are_owners
  have G_are_actions := ok_are_actions (P := PySem.Challenge.rw_groupclocks_k07_whole_systems_and_their.prog) (w := w) (base := base)  B TA C_MAX_ACTIONS G_called D_are_actions
  have G_are_actions0 := ok_are_actions0 (P := PySem.Challenge.rw_groupclocks_k07_whole_systems_and_their.prog) (w := w) (base := base)  B TA C_MAX_ACTIONS G_called D_are_actions
  have G_does_fit := ok_does_fit (P := PySem.Challenge.rw_groupclocks_k07_whole_systems_and_their.prog) (w := w) (base := base)  B TA C_MAX_SHARED G_moves G_len D_does_fit
  have G_fit_bad := ok_fit_bad (P := PySem.Challenge.rw_groupclocks_k07_whole_systems_and_their.prog) (w := w) (base := base)  B TA C_MAX_SHARED G_moves G_len D_does_fit
  have G_is_system := ok_is_system (P := PySem.Challenge.rw_groupclocks_k07_whole_systems_and_their.prog) (w := w) (base := base)  B m_any C_MAX_AGENTS C_MAX_POOLS D_are_owners G_are_owners D_are_actions G_are_actions D_does_fit G_does_fit D_is_system
  have G_is_system_bad := ok_is_system_bad (P := PySem.Challenge.rw_groupclocks_k07_whole_systems_and_their.prog) (w := w) (base := base)  B m_any C_MAX_AGENTS C_MAX_POOLS D_are_owners G_are_owners D_are_actions (Gk.FnOk.or G_are_actions G_are_actions0) D_does_fit (Gk.FnOk.or G_does_fit G_fit_bad) D_is_system
  have G_ascending := ok_ascending (P := PySem.Challenge.rw_groupclocks_k07_whole_systems_and_their.prog) (w := w) (base := base)  B D_ascending
  have G_write_lines := ok_write_lines (P := PySem.Challenge.rw_groupclocks_k07_whole_systems_and_their.prog) (w := w) (base := base)  B TA G_str D_write_lines
  have G_Plan := ok_Plan___init (P := PySem.Challenge.rw_groupclocks_k07_whole_systems_and_their.prog) (w := w) (base := base)  B m_enumerate cl_Plan no_Plan_shared no_Plan_moves no_Plan_places no_Plan_apart no_Plan_ascending U_Plan_init
  have G_System := ok_System___init (P := PySem.Challenge.rw_groupclocks_k07_whole_systems_and_their.prog) (w := w) (base := base)  B T_InvalidSystem SC hne TA TP hnp G_called G_moves G_Plan D_is_system G_is_system D_ascending G_ascending D_write_lines G_write_lines U_System_init
  have G_System_bad := ok_System_bad (P := PySem.Challenge.rw_groupclocks_k07_whole_systems_and_their.prog) (w := w) (base := base) (C := He.ga K "System") B T_InvalidSystem TA TP G_called G_moves G_Plan D_is_system G_is_system_bad D_ascending G_ascending D_write_lines G_write_lines U_System_init
  have G_owners := ok_owners (P := PySem.Challenge.rw_groupclocks_k07_whole_systems_and_their.prog) (w := w) (base := base)  B D_pick G_pick D_few G_few D_owners
  have G_states := ok_states (P := PySem.Challenge.rw_groupclocks_k07_whole_systems_and_their.prog) (w := w) (base := base)  B D_states
  have G_lmoves := ok_moves (P := PySem.Challenge.rw_groupclocks_k07_whole_systems_and_their.prog) (w := w) (base := base)  B D_pick G_pick D_roll G_roll D_states G_states D_moves
  have G_bare := ok_bare (P := PySem.Challenge.rw_groupclocks_k07_whole_systems_and_their.prog) (w := w) (base := base)  B D_pick G_pick D_owners G_owners D_moves G_lmoves D_bare
  have G_made := ok_made (P := PySem.Challenge.rw_groupclocks_k07_whole_systems_and_their.prog) (w := w) (base := base)  B TA TS G_init G_System D_made
  have G_action_line := ok_action_line (P := PySem.Challenge.rw_groupclocks_k07_whole_systems_and_their.prog) (w := w) (base := base)  B D_action_line
  have G_lines := ok_lines (P := PySem.Challenge.rw_groupclocks_k07_whole_systems_and_their.prog) (w := w) (base := base)  B D_action_line G_action_line D_lines
  have G_are_statesB := ok_are_statesB (P := PySem.Challenge.rw_groupclocks_k07_whole_systems_and_their.prog) (w := w) (base := base)  B C_MAX_STATES D_is_names G_is_names D_are_states
  have G_read_owner := ok_read_owner (P := PySem.Challenge.rw_groupclocks_k07_whole_systems_and_their.prog) (w := w) (base := base)  B D_is_name G_is_name D_are_states G_are_statesB D_read_owner
  have G_read_line := ok_read_line (P := PySem.Challenge.rw_groupclocks_k07_whole_systems_and_their.prog) (w := w) (base := base)  B D_read_action G_read_action D_read_owner G_read_owner D_read_line
  have G_is_taken := ok_is_taken (P := PySem.Challenge.rw_groupclocks_k07_whole_systems_and_their.prog) (w := w) (base := base)  B D_is_taken
  have G_from_lines := fr_from_lines (P := PySem.Challenge.rw_groupclocks_k07_whole_systems_and_their.prog) (w := w) (base := base)  B m_enumerate TA TS T_ParseError G_ParseError G_init (Gk.FnOk.or G_System G_System_bad) D_read_line G_read_line D_is_taken G_is_taken U_System_from_lines
  have G_linesP := ok_System_lines (P := PySem.Challenge.rw_groupclocks_k07_whole_systems_and_their.prog) (w := w) (base := base) (CA := He.ga K "Action") B SC U_System_lines
  have G_eqS := ok_System___eq (P := PySem.Challenge.rw_groupclocks_k07_whole_systems_and_their.prog) (w := w) (base := base) (CA := He.ga K "Action") B g_System SC IC_System U_System_eq
  have G_read_lines := ok_read_lines (P := PySem.Challenge.rw_groupclocks_k07_whole_systems_and_their.prog) (w := w) (base := base)  B TS R_System P_System_from_lines G_from_lines D_read_lines
  have G_met := ok_met (P := PySem.Challenge.rw_groupclocks_k07_whole_systems_and_their.prog) (w := w) (base := base)  B T_ParseError X_ParseError T_InvalidSystem e_InvalidSystem_ParseError T_InvalidSystem.te D_read_lines G_read_lines D_met
  have G_wrong_line := ok_wrong_line (P := PySem.Challenge.rw_groupclocks_k07_whole_systems_and_their.prog) (w := w) (base := base)  B D_pick G_pick D_wrong_line
  have G_right := ok_right (P := PySem.Challenge.rw_groupclocks_k07_whole_systems_and_their.prog) (w := w) (base := base)  B TS O_System_eq NE_System IC_System.hm B_System_eq P_System_lines B_System_lines G_eqS G_linesP D_bare G_bare D_few G_few D_lines G_lines D_made G_made D_roll G_roll D_wrong_line G_wrong_line D_met G_met D_right
  exact ok_law B TA TS O_System_eq B_System_eq G_eqS G_init G_System D_tape G_tape D_right G_right D_met G_met D_law
end Gk
open PySem PySem.W PySem.Calls PyProof.Rows
set_option maxRecDepth 1000000 in
set_option maxHeartbeats 0 in
theorem PySem.Challenge.cw_groupclocks_k07_whole_systems_and_their_holds : PySem.Challenge.rw_groupclocks_k07_whole_systems_and_their.Holds := by
  w_on; o_law
  refine HandSHeadRun.head_any (r := OpenLaw.row PySem.Challenge.rw_groupclocks_k07_whole_systems_and_their) (q := view (OpenLaw.row PySem.Challenge.rw_groupclocks_k07_whole_systems_and_their).prog [55]) (H := Gk.xHk) (ob := Gk.xOb) (M := 9000) (loose := Gk.xLo) (d := HandSHeadRun.topDef (OpenLaw.row PySem.Challenge.rw_groupclocks_k07_whole_systems_and_their).prog 55) (kwd := []) Gk.xOb_eq
    (by kernel_rfl) (fun s => by kernel_rfl) Gk.xRun (by kernel_rfl) (by kernel_rfl) (by kernel_rfl) (by rfl) (by first | assumption | decide +kernel) (by decide +kernel) ⟨rfl, rfl, rfl, rfl, rfl, by decide +kernel⟩ ?hw ?hc
  case hw => w_witness2
  case hc =>
    refine LamX.walk_ofTsE (l := PySem.Challenge.rw_groupclocks_k07_whole_systems_and_their) (n := 63) (k := 12) (x := "script") (CX := fun _ => L2.CX0) rfl (by decide) (by kernel_rfl) ⟨rfl, by decide, by decide⟩ ?F (fun _ _ _ _ _ z => z)
    intro w mg fa h Y G hmg0
    obtain ⟨K, KX, c, m⟩ := Y
    have hmg : mg ("law" : PySem.Str) = some (.ref fa) := by
      have e : (HandSHeadRun.topDef (OpenLaw.row PySem.Challenge.rw_groupclocks_k07_whole_systems_and_their).prog 55).name = ("law" : PySem.Str) := by kernel_rfl
      rw [← e]
      exact hmg0
    exact ⟨K, KX, Gk.xFacts KX G hmg c m⟩

