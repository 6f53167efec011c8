import PyProof.Rows.All
import PySem.Challenge.RW_groupclocks_k05_actions_and_their_lines
import Wide.All
import OpenK.AllK
import Wide.FinOn
import HandS.Base
import HandS.Call
import HandS.List
import HandS.Comp
import HandS.Ends
import HandS.Dict
import HandS.Iter
import HandS.Text
import HandS.Words
import HandS.WordsList
import HandS.Wide
import HandS.ForMost
import HandS.Walk
import HandS.TupAny
import HandS.Style
import HandS.FStr
import HandS.IsInst
import HandS.ExcInit
import HandS.ExcOwn
import HandS.TryOnly
import HandS.WordsExc
import HandS.Strs
import HandS.RaiseMore
import HandS.Set
import PyProof.Rows.SortShellAny
import PyProof.NeKinds
import PyProof.ListStr
import HandS.TryMany
import HandS.ExcField
import HandS.Lambda
import HandS.EndTab
import HandS.Defaults
import HandS.Head0
import HandS.Head1
import HandS.Head2
import HandS.HeadEnd
import HandS.HeadHook1
import HandS.HeadHook2
import HandS.HeadHook3
import HandS.HeadHook4
import HandS.HeadWalk
import KE.SortData
import HandS.SetBool
import HandS.OwnEq
import HandS.Property
import HandS.ClsMeth
import KE.KCallOwn
import PyProof.InstNe
import HandS.ReplaceLit
import PyProof.Rows.StrCase
import PyProof.StrLawsReplace
import HandS.HeadNt
import KE.DataEq
import Lean
set_option Elab.async false
set_option linter.all false
set_option maxRecDepth 100000
set_option maxHeartbeats 4000000
namespace L2
open PySem PySem.Spec PyProof.Rows

/-! ### heaps: what stays -/
theorem gSame_new {H : Hp} {p : Addr} {o : HO} (h : H p = none) : Same H (upd H p o) := fun b x e => by
  rw [upd_ne (ne_of_none e h)]
  exact e
theorem gSame_back {H H' : Hp} {p : Addr} (e : Same H H') (h : H' p = none) : H p = none := e.free h
theorem gSame_mut {H H' : Hp} {p : Addr} {o : HO} (e : Same H H') (h : H p = none) : Same H (upd H' p o) := fun b u q => by
  rw [upd_ne (ne_of_none q h)]
  exact e b u q
theorem gSeqT {K : PySem.W.Frag} {H H' : Hp} {a : Addr} {xs : List V} (e : Same H H') (h : SqT K H a xs) : SqT K H' a xs := by
  rcases h with (h | ⟨o, h⟩) | h
  · exact .inl (.inl (e _ _ h))
  · exact .inl (.inr ⟨o, e _ _ h⟩)
  · exact .inr h

/-! ### the tape of draws: a list of three ints, the one thing that the drawing defs change -/
def Tp (H : Hp) (t : Addr) : Prop := ∃ a b c : Int, H t = some (.lst [.int a, .int b, .int c])
structure Kt (t : Addr) (H H' : Hp) : Prop where
  tp : Tp H' t
  kp : ∀ b o, b ≠ t → H b = some o → H' b = some o
theorem Kt.refl {t : Addr} {H : Hp} (h : Tp H t) : Kt t H H := ⟨h, fun _ _ _ e => e⟩
theorem Kt.trans {t : Addr} {H H1 H2 : Hp} (a : Kt t H H1) (b : Kt t H1 H2) : Kt t H H2 := ⟨b.tp, fun c o n e => b.kp c o n (a.kp c o n e)⟩
theorem Kt.same {t : Addr} {H H' : Hp} (h : Tp H t) (s : Same H H') : Kt t H H' := by
  obtain ⟨a, b, c, e⟩ := h
  exact ⟨⟨a, b, c, s _ _ e⟩, fun d o _ q => s d o q⟩
theorem Kt.wr {t : Addr} {H : Hp} {a b c : Int} (h : Tp H t) : Kt t H (upd H t (.lst [.int a, .int b, .int c])) := ⟨⟨a, b, c, upd_same⟩, fun d o n q => by
  rw [upd_ne n]
  exact q⟩
theorem Kt.ne {t p : Addr} {H : Hp} (h : Tp H t) (n : H p = none) : p ≠ t := fun z => by
  obtain ⟨a, b, c, e⟩ := h
  rw [z, e] at n
  cases n
theorem Kt.new {t p : Addr} {H : Hp} {o : HO} (h : Tp H t) (n : H p = none) : Kt t H (upd H p o) := Kt.same h (gSame_new n)
/-- a thing made since may change -/
theorem Kt.mut {t p : Addr} {H H' : Hp} {o : HO} (e : Kt t H H') (n : H p = none) (np : p ≠ t) : Kt t H (upd H' p o) := by
  obtain ⟨a, b, c, q⟩ := e.tp
  refine ⟨⟨a, b, c, by rw [upd_ne np.symm]; exact q⟩, fun d u nd r => ?_⟩
  rw [upd_ne (ne_of_none r n)]
  exact e.kp d u nd r
theorem Kt.free {t p : Addr} {H H' : Hp} (e : Kt t H H') (n : H' p = none) : H p = none := by
  have np := Kt.ne e.tp n
  cases q : H p with
  | none => rfl
  | some o =>
    rw [e.kp p o np q] at n
    cases n
theorem Tp.ne_tup {H : Hp} {t a : Addr} {xs : List V} (h : Tp H t) (e : H a = some (.tup xs)) : a ≠ t := by
  obtain ⟨x, y, z, q⟩ := h
  exact ne_of e q (by intro w; cases w)
theorem Tp.ne_frz {H : Hp} {t a : Addr} {o : Obj} {u : HO} (h : Tp H t) (e : H a = some (.frz o u)) : a ≠ t := by
  obtain ⟨x, y, z, q⟩ := h
  exact ne_of e q (by intro w; cases w)
theorem Tp.ne_strs {H : Hp} {t a : Addr} {ss : List Str} (h : Tp H t) (e : H a = some (.lst (ss.map V.str))) : a ≠ t := by
  obtain ⟨x, y, z, q⟩ := h
  refine ne_of e q ?_
  intro w
  cases ss with
  | nil => cases w
  | cons s r => cases w
theorem Kt.tup {t a : Addr} {H H' : Hp} {xs : List V} (k : Kt t H H') (h : Tp H t) (e : H a = some (.tup xs)) : H' a = some (.tup xs) := k.kp _ _ (h.ne_tup e) e
theorem Kt.strs {t a : Addr} {H H' : Hp} {ss : List Str} (k : Kt t H H') (h : Tp H t) (e : H a = some (.lst (ss.map V.str))) : H' a = some (.lst (ss.map V.str)) := k.kp _ _ (h.ne_strs e) e
theorem Kt.sqT {K : PySem.W.Frag} {t a : Addr} {H H' : Hp} {xs : List V} (k : Kt t H H') (h : Tp H t) (e : SqT K H a xs) : SqT K H' a xs := by
  rcases e with (e | ⟨o, e⟩) | e
  · exact .inl (.inl (k.tup h e))
  · exact .inl (.inr ⟨o, k.kp _ _ (h.ne_frz e) e⟩)
  · exact .inr e

/-! ### great powers -/
def CPowW (i j : Int) : Prop := 0 ≤ j ∧ (Builtin.Int.intBits i : Int) * j ≤ 2 ^ 27
section
variable {X : Cx}
theorem op_powW : OpR X (binaryOp .Pow) (rI CPowW fun i j => .int (i ^ j.toNat)) := opI fun _ _ _ _ _ _ _ hc q => pow_int hc.1 hc.2 q
end

theorem p570 : (((10 : Int) ^ Int.toNat 57) ^ Int.toNat 10) ≠ 0 := by decide +kernel
theorem c57 : CPowW 10 57 := ⟨by decide, by decide +kernel⟩
theorem c570 : CPowW ((10 : Int) ^ Int.toNat 57) 10 := ⟨by decide, by decide +kernel⟩
theorem c18 : CPowW 10 18 := ⟨by decide, by decide +kernel⟩
theorem cmL {i j : Int} (h : -(2 ^ 64) < i ∧ i < 2 ^ 64 := by constructor <;> decide) : CMul i j := .inl h
theorem cmR {i j : Int} (h : -(2 ^ 64) < j ∧ j < 2 ^ 64 := by constructor <;> decide) : CMul i j := .inr h
theorem fmod_rng {a n : Int} (h : 0 < n) : 0 ≤ a.fmod n ∧ a.fmod n < n := ⟨Int.fmod_nonneg_of_pos a h, Int.fmod_lt_of_pos a h⟩

/-! ### words -/
/-- a word: one to eight letters a to z -/
def isW (z : Str) : Bool := decide (1 ≤ z.length) && decide (z.length ≤ 8) && (TL.tl z).all fun c => decide (97 ≤ c) && decide (c ≤ 122)
theorem isW_len {z : Str} (h : isW z = true) : 1 ≤ z.length ∧ z.length ≤ 8 := by
  unfold isW at h
  simp only [Bool.and_eq_true, decide_eq_true_eq] at h
  exact h.1
theorem isW_let {z : Str} (h : isW z = true) : ∀ c ∈ TL.tl z, 97 ≤ c ∧ c ≤ 122 := by
  unfold isW at h
  simp only [Bool.and_eq_true, decide_eq_true_eq, List.all_eq_true] at h
  exact h.2
theorem isW_mk {z : Str} (h1 : 1 ≤ z.length) (h2 : z.length ≤ 8) (h3 : ∀ c ∈ TL.tl z, 97 ≤ c ∧ c ≤ 122) : isW z = true := by
  unfold isW
  simp only [Bool.and_eq_true, decide_eq_true_eq, List.all_eq_true]
  exact ⟨⟨h1, h2⟩, h3⟩
end L2

set_option Elab.async false
set_option linter.all false
set_option maxRecDepth 100000
set_option maxHeartbeats 4000000
namespace L2
open PySem PySem.Spec PyProof.Rows

/-! ### the built-in names that the text leaves as they are -/
structure Blt (mg : Str → Option Value) : Prop where
  len_ : mg "len" = none
  int_ : mg "int" = none
  abs_ : mg "abs" = none
  max_ : mg "max" = none
  min_ : mg "min" = none
  range : mg "range" = none
  all_ : mg "all" = none
  isinstance_ : mg "isinstance" = none
  str_ : mg "str" = none
  tuple_ : mg "tuple" = none
  list_ : mg "list" = none
  set_ : mg "set" = none
  sorted_ : mg "sorted" = none
  repr_ : mg "repr" = none
  bool_ : mg "bool" = none
  dict_ : mg "dict" = none
/-- a def of the text: where it stands, how it is called -/
structure Df (K : PySem.W.Frag) (mg : Str → Option Value) (x : Str) (st : Stmt) (ps : List Str) (f : Addr) (fd : FuncData) : Prop where
  F : Fun K x x st f fd
  g : mg x = some (.ref f)
  b : Binds K fd ps []
theorem passL0 {X : Cx} : Passes (L2.CX X.prog X.w) X (fun _ _ _ => False) := passL
/-- a branch that comes to one value -/
theorem meetI {c : Prop} [Decidable c] {A B : VK → Prop} {Q : VK} (H : Hp) (v : V) (h1 : c → ∀ Q : VK, Q v H → A Q) (h2 : ¬ c → ∀ Q : VK, Q v H → B Q) (q : Q v H) : if c then A Q else B Q := by
  by_cases h : c
  · rw [if_pos h]
    exact h1 h Q q
  · rw [if_neg h]
    exact h2 h Q q

/-! ### promises of the drawing defs -/
def spTape (K : PySem.W.Frag) : Sp := fun vs H Q _ => ∃ (a : Addr) (ns : List Int) (n : Int), vs = [.ref a, .int n] ∧ SqL K H a (ns.map V.int) ∧ 0 ≤ n ∧ ∀ t x y z, H t = none → Q (.ref t) (upd H t (.lst [.int x, .int y, .int z]))
def spRoll : Sp := fun vs H Q _ => ∃ (t : Addr) (n : Int), vs = [.ref t, .int n] ∧ Tp H t ∧ 0 < n ∧ n < 1073741824 ∧ ∀ r H', 0 ≤ r → r < n → Kt t H H' → Q (.int r) H'
/-- the items of a list, a tuple, a text -/
def Items (K : PySem.W.Frag) (H : Hp) (t : Addr) (x : V) (xs : List V) : Prop :=
  (∃ p, x = .ref p ∧ p ≠ t ∧ (SqL K H p xs ∨ SqT K H p xs)) ∨ ∃ z : Str, x = .str z ∧ xs = (TL.tl z).map fun c => V.str ⟨#[c]⟩
def spPick (K : PySem.W.Frag) : Sp := fun vs H Q _ => ∃ (t : Addr) (x : V) (xs : List V), vs = [.ref t, x] ∧ Tp H t ∧ Items K H t x xs ∧ 0 < xs.length ∧ xs.length < 100000 ∧ ∀ y H', y ∈ xs → Kt t H H' → Q y H'
end L2

set_option Elab.async false
set_option linter.all false
set_option maxRecDepth 100000
set_option maxHeartbeats 4000000
namespace L2
open PySem PySem.Spec PyProof.Rows
/-! ### texts in rows, as data -/
def OkS (ss : List Str) : Prop := ss.all PyData.strOk = true
theorem OkS.mk {ss : List Str} (h : ∀ s ∈ ss, PyData.strOk s = true) : OkS ss := List.all_eq_true.mpr h
theorem OkS.of {ss : List Str} (h : ∀ s ∈ ss, isW s = true) : OkS ss := OkS.mk fun s hs => by
  have hl := isW_let (h s hs)
  unfold PyData.strOk
  rw [Array.all_eq_true_iff_forall_mem]
  intro c hc
  have := hl c (by unfold TL.tl; exact Array.mem_toList_iff.mpr hc)
  exact decide_eq_true (by omega)
theorem gLayS (ss : List Str) (h : OkS ss) : PyData.canLayAll0 (ss.map PyData.str) = true := by
  rw [PyProof.Rows.canLayAll_strs']
  exact h
theorem gDepS : ∀ ss : List Str, PyData.depthAll (ss.map PyData.str) = 0
  | [] => by simp [PyData.depthAll]
  | s :: r => by
    have ih := gDepS r
    simp [PyData.depthAll, PyData.depth, ih]
theorem gShL (ss : List Str) (h : OkS ss) : SeqAt.shaped (.list (ss.map PyData.str)) = true := by
  simp [SeqAt.shaped, PyData.canLay0, PyData.depth, gLayS ss h, gDepS]
theorem gShT (ss : List Str) (h : OkS ss) : SeqAt.shaped (.tuple (ss.map PyData.str)) = true := by
  simp [SeqAt.shaped, PyData.canLay0, PyData.depth, gLayS ss h, gDepS]
theorem gEqvS : ∀ ss ts : List Str, PyData.eqvAll (ss.map PyData.str) (ts.map PyData.str) = decide (ss = ts)
  | [], [] => by simp [PyData.eqvAll]
  | [], t :: r => by simp [PyData.eqvAll]
  | s :: r, [] => by simp [PyData.eqvAll]
  | s :: r, t :: q => by
    have ih := gEqvS r q
    simp only [List.map_cons, PyData.eqvAll, PyData.eqv, ih]
    by_cases h : s = t
    · subst h
      simp
    · have hb : (s == t) = false := by simpa using h
      simp [hb, h]
theorem gEqvL (ss ts : List Str) : PyData.eqv (.list (ss.map PyData.str)) (.list (ts.map PyData.str)) = decide (ss = ts) := by
  rw [PyData.eqv]
  exact gEqvS ss ts
theorem gEqvT (ss ts : List Str) : PyData.eqv (.tuple (ss.map PyData.str)) (.tuple (ts.map PyData.str)) = decide (ss = ts) := by
  rw [PyData.eqv]
  exact gEqvS ss ts
theorem gDpS {K : PySem.W.Frag} {H : Hp} : ∀ ss : List Str, DpAll K H (ss.map V.str) (ss.map PyData.str)
  | [] => .nil
  | s :: r => .cons (.str s) (gDpS r)
theorem gDpL {K : PySem.W.Frag} {H : Hp} {a : Addr} {ss : List Str} (h : SqL K H a (ss.map V.str)) : Dp K H (.ref a) (.list (ss.map PyData.str)) := .lst h (gDpS ss)
theorem gDpT {K : PySem.W.Frag} {H : Hp} {a : Addr} {ss : List Str} (h : SqT K H a (ss.map V.str)) : Dp K H (.ref a) (.tuple (ss.map PyData.str)) := .tup h (gDpS ss)
/-- == and != of rows of texts: what the rule asks -/
theorem neLS {K : PySem.W.Frag} {H : Hp} {a b : Addr} {ss ts : List Str} {Q : VK} (oa : OkS ss) (ob : OkS ts) (ha : SqL K H a (ss.map V.str)) (hb : SqL K H b (ts.map V.str)) (q : Q (.bl (!decide (ss = ts))) H) : rNeD K (.ref a) (.ref b) H Q :=
  ⟨_, _, gDpL ha, gDpL hb, gShL ss oa, gShL ts ob, by rw [gEqvL]; exact q⟩
theorem neTS {K : PySem.W.Frag} {H : Hp} {a b : Addr} {ss ts : List Str} {Q : VK} (oa : OkS ss) (ob : OkS ts) (ha : SqT K H a (ss.map V.str)) (hb : SqT K H b (ts.map V.str)) (q : Q (.bl (!decide (ss = ts))) H) : rNeD K (.ref a) (.ref b) H Q :=
  ⟨_, _, gDpT ha, gDpT hb, gShT ss oa, gShT ts ob, by rw [gEqvT]; exact q⟩
theorem eqLS {K : PySem.W.Frag} {H : Hp} {a b : Addr} {ss ts : List Str} {Q : VK} (oa : OkS ss) (ob : OkS ts) (ha : SqL K H a (ss.map V.str)) (hb : SqL K H b (ts.map V.str)) (q : Q (.bl (decide (ss = ts))) H) : rEqD K (.ref a) (.ref b) H Q :=
  ⟨_, _, gDpL ha, gDpL hb, gShL ss oa, gShL ts ob, by rw [gEqvL]; exact q⟩
theorem eqTS {K : PySem.W.Frag} {H : Hp} {a b : Addr} {ss ts : List Str} {Q : VK} (oa : OkS ss) (ob : OkS ts) (ha : SqT K H a (ss.map V.str)) (hb : SqT K H b (ts.map V.str)) (q : Q (.bl (decide (ss = ts))) H) : rEqD K (.ref a) (.ref b) H Q :=
  ⟨_, _, gDpT ha, gDpT hb, gShT ss oa, gShT ts ob, by rw [gEqvT]; exact q⟩

/-! ### items -/
theorem Kt.sqL {K : PySem.W.Frag} {t a : Addr} {H H' : Hp} {xs : List V} (k : Kt t H H') (n : a ≠ t) (e : SqL K H a xs) : SqL K H' a xs := by
  rcases e with (e | ⟨o, e⟩) | e
  · exact .inl (.inl (k.kp _ _ n e))
  · exact .inl (.inr ⟨o, k.kp _ _ n e⟩)
  · exact .inr e
theorem Items.kt {K : PySem.W.Frag} {t : Addr} {H H' : Hp} {x : V} {xs : List V} (i : Items K H t x xs) (h : Tp H t) (k : Kt t H H') : Items K H' t x xs := by
  rcases i with ⟨p, e, n, hS | hS⟩ | i
  · exact .inl ⟨p, e, n, .inl (k.sqL n hS)⟩
  · exact .inl ⟨p, e, n, .inr (k.sqT h hS)⟩
  · exact .inr i
theorem Items.len {K : PySem.W.Frag} {t : Addr} {H : Hp} {x : V} {xs : List V} (i : Items K H t x xs) (h : xs.length < 100000) : LenV K x H xs.length := by
  rcases i with ⟨p, rfl, n, hS | hS⟩ | ⟨z, rfl, rfl⟩
  · exact .inl ⟨_, hS, rfl⟩
  · exact .inr ⟨_, hS, rfl⟩
  · rw [List.length_map] at h ⊢
    refine ⟨?_, (TL.len_tl z).symm⟩
    rw [TL.len_tl, sizeLine_eq]
    omega
theorem Items.ix {K : PySem.W.Frag} {t : Addr} {H : Hp} {x y : V} {xs : List V} {r : Int} {Q : VK} (i : Items K H t x xs) (h : xs.length < 100000) (ha : atI xs r = some y) (q : Q y H) : rIx K x (.int r) H Q := by
  rcases i with ⟨p, rfl, n, hS | hS⟩ | ⟨z, rfl, rfl⟩
  · exact .inl ⟨p, _, r, y, rfl, rfl, hS, ha, q⟩
  · exact .inr (.inl ⟨p, _, r, y, rfl, rfl, hS, ha, q⟩)
  · unfold atI at ha
    rw [List.length_map] at ha h
    cases hj : ixN (TL.tl z).length r with
    | none =>
      rw [hj] at ha
      cases ha
    | some j =>
      rw [hj] at ha
      have ha' : ((TL.tl z).map fun c => V.str ⟨#[c]⟩)[j]? = some y := ha
      rw [List.getElem?_map] at ha'
      cases hc : (TL.tl z)[j]? with
      | none =>
        rw [hc] at ha'
        cases ha'
      | some c =>
        rw [hc] at ha'
        have e : V.str ⟨#[c]⟩ = y := Option.some.inj ha'
        refine .inr (.inr ⟨z, r, c, rfl, rfl, by rw [TL.len_tl, sizeLine_eq]; omega, ?_, by rw [e]; exact q⟩)
        show (ixN (TL.tl z).length r).bind _ = _
        rw [hj]
        exact hc
theorem at_int {α : Type} {xs : List α} {r : Int} (h0 : 0 ≤ r) (h1 : r < xs.length) : ∃ y, atI xs r = some y ∧ y ∈ xs := by
  have hj : r.toNat < xs.length := by omega
  refine ⟨xs[r.toNat], ?_, List.getElem_mem hj⟩
  obtain ⟨k, rfl⟩ : ∃ k : Nat, r = (k : Int) := ⟨r.toNat, by omega⟩
  exact atI_nat (by rw [List.getElem?_eq_getElem]; rfl)

/-! ### few -/
def spFew (K : PySem.W.Frag) : Sp := fun vs H Q _ => ∃ (t a : Addr) (ss : List Str) (many : Int), vs = [.ref t, .ref a, .int many] ∧ Tp H t ∧ a ≠ t ∧ SqL K H a (ss.map V.str) ∧ OkS ss ∧ ss.length ≤ 1000 ∧ 0 ≤ many ∧
  ∀ (p : Addr) (ys rest : List Str) (H' : Hp), (ys ++ rest).Perm ss → ys.length = min many.toNat ss.length → H p = none → H' p = some (.lst (ys.map V.str)) → Kt t H H' → Q (.ref p) H'
theorem OkS.sub {ss ts : List Str} (h : OkS ss) (hs : ∀ x ∈ ts, x ∈ ss) : OkS ts := OkS.mk fun s hm => List.all_eq_true.mp h s (hs s hm)
theorem perm_pick {ys xs ss : List Str} {k : Nat} {x : Str} (h : (ys ++ xs).Perm ss) (hk : xs[k]? = some x) : ((ys ++ [x]) ++ xs.eraseIdx k).Perm ss := by
  refine List.Perm.trans ?_ h
  rw [List.append_assoc]
  refine List.Perm.append_left ys ?_
  exact erase_perm _ _ _ hk
theorem seqIx {r : Int} {n : Nat} (h0 : 0 ≤ r) (h1 : r < n) : seqIndex? r n = some r.toNat := PySem.StrLaws.seqIndex_nonneg h0 h1
theorem erase_len {α : Type} {l : List α} {k : Nat} (h : k < l.length) : (l.eraseIdx k).length + 1 = l.length := by
  rw [List.length_eraseIdx, if_pos h]
  omega
theorem map_erase {α β : Type} (f : α → β) : ∀ (l : List α) (k : Nat), (l.map f).eraseIdx k = (l.eraseIdx k).map f
  | [], k => by simp
  | a :: r, 0 => by simp
  | a :: r, k + 1 => by simp [map_erase f r k]

/-! ### signs and words -/
def sg (c : Nat) : Str := ⟨#[c]⟩
theorem sg_inj {a b : Nat} (h : sg a = sg b) : a = b := by
  have := congrArg TL.tl h
  have e : ([a] : List Nat) = [b] := this
  cases e
  rfl
theorem sg_W {c : Nat} (h : 97 ≤ c ∧ c ≤ 122) : isW (sg c) = true := isW_mk (by show 1 ≤ 1; decide) (by show 1 ≤ 8; decide) fun d hd => by
  have e : TL.tl (sg c) = [c] := rfl
  rw [e] at hd
  rw [List.mem_singleton.mp hd]
  exact h
abbrev abc : Str := "abcdefghijklmnopqrstuvwxyz"
theorem abc_rng : ∀ c ∈ TL.tl abc, 97 ≤ c ∧ c ≤ 122 := by decide +kernel
theorem abc_nd : (TL.tl abc).Nodup := by decide +kernel
theorem abc_len : (TL.tl abc).length = 26 := by decide +kernel
theorem joinL_nil : ∀ cs : List Nat, TL.joinL [] (cs.map fun c => [c]) = cs
  | [] => rfl
  | [c] => rfl
  | c :: d :: r => by
    have ih := joinL_nil (d :: r)
    show [c] ++ ([] ++ TL.joinL [] ((d :: r).map fun c => [c])) = c :: d :: r
    rw [ih]
    rfl
theorem tl_join0 (cs : List Nat) : TL.tl (Txt.join "" (cs.map sg)) = cs := by
  rw [TL.join_eq, TL.tl_join, List.map_map]
  exact joinL_nil cs
theorem join0_W {cs : List Nat} (h1 : 1 ≤ cs.length) (h2 : cs.length ≤ 8) (h : ∀ c ∈ cs, 97 ≤ c ∧ c ≤ 122) : isW (Txt.join "" (cs.map sg)) = true := by
  refine isW_mk ?_ ?_ ?_
  · rw [TL.len_tl, tl_join0]
    exact h1
  · rw [TL.len_tl, tl_join0]
    exact h2
  · rw [tl_join0]
    exact h
theorem inV_strs (s : Str) : ∀ ws : List Str, inV (.str s) (ws.map V.str) = decide (s ∈ ws)
  | [] => by simp [inV]
  | x :: r => by
    have ih := inV_strs s r
    unfold inV at ih ⊢
    rw [List.map_cons, List.any_cons, ih]
    by_cases h : s = x
    · subst h
      simp [eqV]
    · have hb : eqV (.str x) (.str s) = false := by
        show (x == s) = false
        simpa using fun z : x = s => h z.symm
      rw [hb]
      simp [h]
theorem nodup_sub_len {α : Type} [DecidableEq α] : ∀ (l m : List α), l.Nodup → (∀ x ∈ l, x ∈ m) → l.length ≤ m.length
  | [], _, _, _ => Nat.zero_le _
  | a :: r, m, hd, hs => by
    have ha : a ∈ m := hs a (List.mem_cons_self ..)
    have hn := List.nodup_cons.mp hd
    have ih := nodup_sub_len r (m.erase a) hn.2 fun x hx => by
      refine (List.mem_erase_of_ne ?_).mpr (hs x (List.mem_cons_of_mem _ hx))
      intro z
      exact hn.1 (z ▸ hx)
    rw [List.length_erase_of_mem ha] at ih
    have : 0 < m.length := List.length_pos_iff.mpr (List.ne_nil_of_mem ha)
    show r.length + 1 ≤ m.length
    omega
/-- a sign that is none of fewer than 26 words -/
theorem left_ne {ws : List Str} (h : ws.length < 26) : ((TL.tl abc).map sg).filter (fun s => decide (s ∉ ws)) ≠ [] := by
  intro z
  have h2 := nodup_sub_len ((TL.tl abc).map sg) ws (by
    rw [List.nodup_iff_pairwise_ne, List.pairwise_map]
    exact abc_nd.imp fun {a b} n e => n (sg_inj e)) fun x hx => by
      have := List.filter_eq_nil_iff.mp z x hx
      simpa using this
  rw [List.length_map, abc_len] at h2
  omega
def spWord : Sp := fun vs H Q _ => ∃ t : Addr, vs = [.ref t] ∧ Tp H t ∧ ∀ (x : Str) (H' : Hp), isW x = true → Kt t H H' → Q (.str x) H'
def spWords : Sp := fun vs H Q _ => ∃ (t : Addr) (n : Int), vs = [.ref t, .int n] ∧ Tp H t ∧ 0 ≤ n ∧ n ≤ 25 ∧
  ∀ (p : Addr) (ws : List Str) (H' : Hp), ws.length = n.toNat → (∀ x ∈ ws, isW x = true) → ws.Nodup → H p = none → H' p = some (.lst (ws.map V.str)) → Kt t H H' → Q (.ref p) H'
theorem lots6 {y : V} (h : y ∈ [V.int 1, .int 1, .int 2, .int 3, .int 5, .int 8]) : ∃ n : Nat, y = .int n ∧ 1 ≤ n ∧ n ≤ 8 := by
  simp only [List.mem_cons, List.not_mem_nil, or_false] at h
  rcases h with h | h | h | h | h | h
  · exact ⟨1, h, by decide, by decide⟩
  · exact ⟨1, h, by decide, by decide⟩
  · exact ⟨2, h, by decide, by decide⟩
  · exact ⟨3, h, by decide, by decide⟩
  · exact ⟨5, h, by decide, by decide⟩
  · exact ⟨8, h, by decide, by decide⟩

/-! ### rules with the written part told (within a comprehension) -/
section
variable {X : Cx} (K : PySem.W.Frag)
theorem op_in_seqK (h : X.K = K) : OpR X (compareOp .In) (rIn K false) := by subst h; exact op_in_seq
theorem op_notIn_seqK (h : X.K = K) : OpR X (compareOp .NotIn) (rIn K true) := by subst h; exact op_notIn_seq
theorem ix_listK (h : X.K = K) : IxR X (rIxL K) := by subst h; exact ix_list
theorem ix_tupK (h : X.K = K) : IxR X (rIxT K) := by subst h; exact ix_tup
theorem ix_seqK (h : X.K = K) : IxR X (rIx K) := by subst h; exact ix_seq
theorem sl_listK (h : X.K = K) : SlR X (rSlL K) := by subst h; exact sl_list
theorem sl_tupAK (h : X.K = K) : SlR X (rSlA K) := by subst h; exact sl_tupA
theorem op_catAK (h : X.K = K) : OpR X (binaryOp .Add) (rCatA K) := by subst h; exact op_catA
theorem op_eqDK (h : X.K = K) (hu : X.A.units + 64 < cLine) : OpR X (compareOp .Eq) (rEqD K) := by subst h; exact op_eqD hu
theorem op_neDK (h : X.K = K) (hu : X.A.units + 64 < cLine) : OpR X (compareOp .NotEq) (rNeD K) := by subst h; exact op_neD hu
theorem call_isiK' (h : X.K = K) : CallR X (.builtin "isinstance") (rIsi K) := by subst h; exact call_isi
theorem call_len_seqK (h : X.K = K) : CallR X (.builtin "len") (fun xs H Q => ∃ p ys, xs = [.ref p] ∧ (SqL K H p ys ∨ SqT K H p ys) ∧ Q (.int ys.length) H) := by subst h; exact call_len_seq
theorem call_lenK (h : X.K = K) : CallR X (.builtin "len") (fun xs H Q => ∃ x n, xs = [x] ∧ LenV K x H n ∧ Q (.int n) H) := by subst h; exact call_len
end
end L2

set_option Elab.async false
set_option linter.all false
set_option maxRecDepth 100000
set_option maxHeartbeats 6400000
/-! set(xs) of a list or a tuple of texts, of any length, equal ones among them: how many different ones there are -/
namespace Gs
open PySem PySem.Spec PyProof.Rows
/-- how many different ones stand among the first i -/
def dst (xs : List Str) : Nat → Nat
  | 0 => 0
  | i + 1 => if decide (xs.getD i Str.empty ∈ xs.take i) = true then dst xs i else dst xs i + 1
theorem dst_le (xs : List Str) : ∀ i, dst xs i ≤ i
  | 0 => Nat.le_refl _
  | i + 1 => by
    have := dst_le xs i
    unfold dst
    split <;> omega
theorem getD_at {xs : List Str} {i : Nat} (h : i < xs.length) : xs.getD i Str.empty = xs[i] := by
  rw [List.getD_eq_getElem?_getD, List.getElem?_eq_getElem h]
  rfl
theorem dst_nd {xs : List Str} : ∀ i, i ≤ xs.length → (dst xs i = i ↔ (xs.take i).Nodup)
  | 0, _ => by simp [dst]
  | i + 1, h => by
    have ih := dst_nd (xs := xs) i (by omega)
    have le := dst_le xs i
    have e : xs.take (i + 1) = xs.take i ++ [xs[i]] := by
      rw [List.take_add_one, List.getElem?_eq_getElem (show i < xs.length by omega)]
      rfl
    unfold dst
    rw [getD_at (show i < xs.length by omega), e, List.nodup_append]
    by_cases hm : xs[i] ∈ xs.take i
    · rw [if_pos (decide_eq_true hm)]
      constructor
      · intro z
        omega
      · intro z
        exact absurd rfl (z.2.2 _ hm _ (List.mem_singleton.mpr rfl))
    · rw [if_neg (by rw [decide_eq_false hm]; exact Bool.false_ne_true)]
      constructor
      · intro z
        refine ⟨ih.mp (by omega), by simp, fun a ha b hb => ?_⟩
        rw [List.mem_singleton.mp hb]
        exact fun q => hm (q ▸ ha)
      · intro z
        have := ih.mpr z.1
        omega
theorem dst_all (xs : List Str) : decide (dst xs xs.length = xs.length) = decide xs.Nodup := by
  have h := dst_nd (xs := xs) xs.length (Nat.le_refl _)
  rw [List.take_length] at h
  exact decide_eq_decide.mpr h
/-- the members behind i turns -/
def mem (xs : List Str) (i : Nat) : Str → Bool := fun k => decide (k ∈ xs.take i)
section
variable {prog : Program} {w : World} {A : Around} {R : Result → Shared → Prop} {I : Addr} {fp wr : List Addr} {G : Array GenState → Array GenState → Prop} {n : Nat} {P : Nat → Value → Prop} {St : Nat → Shared → Prop}
theorem setOf_same {S : Addr} {f : Str → Bool} {c : Nat} {h h' : Heap} (k : ∀ o, h.get? S = some o → h'.get? S = some o) (x : h.SetOf (PySem.strKind prog w) S f c) : h'.SetOf (PySem.strKind prog w) S f c := by
  obtain ⟨o, es, ep, tb, ho, r⟩ := x
  exact ⟨o, es, ep, tb, k o ho, r⟩
/-- the loop of set.update over m turns still to come -/
theorem upd_loop (W : WalksS prog w A.in1 I fp wr G n P St) (S : Addr) (nS : S ∉ fp) (xs : List Str) (len : xs.length = n) (few : n + 1 < scanBound) (val : ∀ i v, P i v → ∃ t, v = .str (xs.getD i Str.empty) t)
    (m : Nat) : ∀ (i : Nat) (s : Shared), i + m = n → St i s → s.heap.SetOf (PySem.strKind prog w) S (mem xs i) (dst xs i) →
      (∀ s', Moved (S :: wr) G s s' → s'.heap.SetOf (PySem.strKind prog w) S (mem xs n) (dst xs n) → R (.ok (.ret .none)) s') → codeAny (model prog w) A (.builtin "set.update.loop" ⟨[.ref S, .ref I], []⟩) R s := by
  have nW : S ∉ wr := fun z => nS (W.sub S z)
  have more : ∀ b, b ∈ wr → b ∈ S :: wr := fun b z => .tail _ z
  induction m with
  | zero =>
    intro i s e st hS fin
    obtain rfl : i = n := e
    refine codeAny_builtin F.entry_set_update_loop (by
      rw [Around.under_plainId F.plain_set_update_loop]
      exact wpAny_bind (W.done s _ _ st fun s2 mv => wpAny_pure (fin s2 (mv.mono more) (setOf_same (fun o q => mv.heap S o nW q) hS))))
  | succ m ih =>
    intro i s e st hS fin
    have lt : i < n := by omega
    refine codeAny_builtin F.entry_set_update_loop (by
      rw [Around.under_plainId F.plain_set_update_loop]
      refine wpAny_bind (W.item i s _ _ lt st fun v s2 pv st2 mv => ?_)
      obtain ⟨t, rfl⟩ := val i v pv
      have hS2 := setOf_same (fun o q => mv.heap S o nW q) hS
      have le := dst_le xs i
      refine wpAny_bind (wpAny_holding (wpAny_holding (wpAny_bind ((PySem.strKind prog w).pyHash (k := xs.getD i Str.empty) (strKind_is _ _ _ _) ?_))))
      refine wpAny_setAddHashed_of (knd := PySem.strKind prog w) (s := { s2 with toks := s2.toks + 1 }) (strKind_is _ _ _ _) rfl hS2 (by omega) fun h3 sb hS3 => ?_
      have nx : h3.SetOf (PySem.strKind prog w) S (mem xs (i + 1)) (dst xs (i + 1)) := by
        have lx : i < xs.length := by omega
        refine SetOf_congr hS3 (fun k => ?_) rfl
        have tk : xs.take (i + 1) = xs.take i ++ [xs[i]] := by
          rw [List.take_add_one, List.getElem?_eq_getElem lx]
          rfl
        unfold mem
        rw [getD_at lx, tk]
        rw [Bool.eq_iff_iff]
        simp only [Bool.or_eq_true, decide_eq_true_eq, List.mem_append, List.mem_singleton]
      refine wpAny_pure ⟨plainId_quiet F.plain_set_update_loop _, ih (i + 1) _ (by omega) (W.frame _ s2 _ _ st2 (Nat.le_succ _) fun b hb o q => ?_) nx fun s4 mv4 hS4 => fin s4 (Moved.trans W.gtrans ((mv.mono more).then_heap (Nat.le_succ _) fun b o nb q => ?_) mv4) hS4⟩
      · exact (sb.2 b (fun z => nS (z ▸ hb))).trans q
      · exact (sb.2 b (fun z => nb (z ▸ List.mem_cons_self))).trans q)
end
/-! ### the call -/
theorem off2 {a j l : Nat} (h1 : a < j) (h2 : l < a) : a ∉ [j, l] := by
  simp
  omega
theorem off2' {b a j : Nat} (h1 : b < a) (h2 : a < j) : b ∉ [a, j] := by
  simp
  omega
/-- what is asked of the row at l: of kind T, walked by an iterator that is laid next -/
structure Row (prog : Program) (w : World) (T : String) (l : Addr) (n : Nat) (Pv : Nat → Value → Prop) (hp : Heap) (St : Addr → Nat → Heap → Prop) : Prop where
  at_ : ∃ dd dt sl, hp.get? l = some { cls := .type T, dict := dd, data := dt, slots := sl }
  s1 : isSubtype (.type T) (.type "set") = pure false
  s2 : isSubtype (.type T) (.type "frozenset") = pure false
  nd : (Value.type T == Value.type "dict") = false
  iter : ∀ (A : Around) (E : Value → Shared → Prop) (Q : Value → Shared → Prop) (s : Shared), (∀ o, hp.get? l = some o → s.heap.get? l = some o) →
    (∀ o : Obj, St s.heap.objs.size 0 (s.heap.push o) → Q (.ref s.heap.objs.size) { s with heap := s.heap.push o }) → wpAny (model prog w) A (pyIter (.ref l)) Q E s
  walk : ∀ (A : Around) (J : Addr), A.handled = none → l ≠ J → Walks prog w A J [J, l] [J] n Pv (St J)
section
variable {prog : Program} {w : World} {A : Around} {E : Value → Shared → Prop} {s : Shared}
abbrev bare (led : Bool) : Obj := { cls := .type "set", dict := none, data := .set #[] 0 (.fresh 0 0 led) }
theorem set_init {T : String} {l : Addr} {n : Nat} {Pv : Nat → Value → Prop} {St : Addr → Nat → Heap → Prop} {xs : List Str} {led : Bool} {hp : Heap} {g : Array GenState} {d : Drawn} {tk : Nat} {os : OsState} (hh : A.handled = none) (r : Row prog w T l n Pv hp St)
    (len : xs.length = n) (few : n + 1 < scanBound) (val : ∀ i v, Pv i v → ∃ t, v = .str (xs.getD i Str.empty) t) :
    codeAny (model prog w) A (.call (.builtin "set.__init__") ⟨[.ref hp.objs.size, .ref l], []⟩)
      (wants (fun v s2 => v = .none ∧ ∃ h2 t2, s2 = ⟨h2, g, d, t2, os⟩ ∧ h2.SetOf (PySem.strKind prog w) hp.objs.size (mem xs n) (dst xs n) ∧ ∀ b o, hp.get? b = some o → h2.get? b = some o) E) ⟨hp.push (bare led), g, d, tk, os⟩ := by
  have oS : (hp.push (bare led)).get? hp.objs.size = some (bare led) := Heap.get?_push_size _ rfl
  have tS : Shared.TypeIs ⟨hp.push (bare led), g, d, tk, os⟩ (.ref hp.objs.size) "set" := ⟨_, oS, rfl⟩
  refine codeAny_call_builtin PySem.F.called_set.init.plain PySem.F.entry_set_init (check_set_init_1 tS ?_)
  obtain ⟨dd, dt, sl, ol⟩ := r.at_
  have ol2 : (hp.push (bare led)).get? l = some { cls := .type T, dict := dd, data := dt, slots := sl } := Heap.get?_push_of_some _ ol
  have q1 := r.s1
  have q2 := r.s2
  have q3 := r.nd
  unfold Builtin.«set.__init__» noKeywords Builtin.Frozenset.updateFrom
  generalize hI : pyIter = PI
  wp_walk
  subst hI
  have lt : l < hp.objs.size := Heap.lt_size ol
  refine r.iter _ _ _ _ (fun o q => Heap.get?_push_of_some _ q) fun o st => ?_
  have z1 : (hp.push (bare led)).objs.size = hp.objs.size + 1 := Heap.size_push ..
  have z2 : ∀ b u, hp.get? b = some u → ((hp.push (bare led)).push o).get? b = some u := fun b u q => Heap.get?_push_of_some _ (Heap.get?_push_of_some _ q)
  refine wpAny_bind (wpAny_runValue ?_)
  have W := (r.walk A.in1.in1 (hp.push (bare led)).objs.size (by simp [hh]) (by rw [z1]; exact Nat.ne_of_lt (Nat.lt_succ_of_lt lt))).toS
  refine upd_loop W hp.objs.size (off2 (by rw [z1]; exact Nat.lt_succ_self _) lt) xs len few val n 0 ⟨(hp.push (bare led)).push o, g, d, tk, os⟩ (by omega) st ?_ fun s3 mv hS => ?_
  · exact SetOf_congr ((setObjOf_fresh (knd := PySem.strKind prog w) led).setOf (Heap.get?_push_of_some _ oS) (by unfold scanBound; omega)) (fun k => by simp [mem]) rfl
  · obtain ⟨h3, g3, d3, t3, os3⟩ := s3
    obtain rfl : g3 = g := mv.gens
    obtain rfl : d3 = d := mv.drawn
    obtain rfl : os3 = os := mv.os
    refine wpAny_pure (wpAny_pure ⟨rfl, h3, t3, rfl, hS, fun b u q => mv.heap b u ?_ (z2 b u q)⟩)
    have lb : b < hp.objs.size := Heap.lt_size q
    exact off2' lb (by rw [z1]; exact Nat.lt_succ_self _)
/-- set(x) of such a row -/
theorem set_call {T : String} {l : Addr} {n : Nat} {Pv : Nat → Value → Prop} {St : Addr → Nat → Heap → Prop} {xs : List Str} {Q : Value → Shared → Prop} (hh : A.handled = none) (r : Row prog w T l n Pv s.heap St)
    (len : xs.length = n) (few : n + 1 < scanBound) (val : ∀ i v, Pv i v → ∃ t, v = .str (xs.getD i Str.empty) t)
    (q : ∀ h2 t2, h2.SetOf (PySem.strKind prog w) s.heap.objs.size (mem xs n) (dst xs n) → (∀ b o, s.heap.get? b = some o → h2.get? b = some o) → Q (.ref s.heap.objs.size) { s with heap := h2, toks := t2 }) :
    wpAny (model prog w) A (call (.type "set") [.ref l]) Q E s := by
  obtain ⟨hp, g, d, tk, os⟩ := s
  obtain ⟨c, tl, m1⟩ := PySem.F.called_set.mro
  have m2 := PySem.F.called_set.made
  have m3 := PySem.F.called_set.sub
  have m4 := PySem.F.called_set.notType
  have m5 := PySem.F.called_set.canCreate
  have m6 := PySem.F.typeCall_set_1 (.ref l)
  refine wpAny_call (codeAny_of_tree (wpAny_pure ⟨Code.quiet_builtin _ (by decide +kernel), codeAny_builtin PySem.F.entry_type_call ?_⟩))
  rw [Around.under_plain (weight_type_call_type "set" [.ref l] []) rfl]
  repeat (any_goals (first | assumption | wp_step))
  refine codeAny_mono (code_set_new_1 (.ref l) (E := E) (Q₁ := fun v s2 => ∃ led : Bool, v = .ref hp.objs.size ∧ s2 = ⟨hp.push (bare led), g, d, tk, os⟩) fun led => ⟨led, rfl, rfl⟩) fun a s2 h2 => ?_
  match a, h2 with
  | .error e, h2 => exact h2
  | .ok .next, h2 => exact h2.elim
  | .ok .brk, h2 => exact h2.elim
  | .ok .cont, h2 => exact h2.elim
  | .ok (.ret v), h2 =>
    obtain ⟨led, rfl, rfl⟩ := h2
    have m7 := PySem.F.called_set.init.lookup
    have m8 := PySem.F.called_set.init.bind (.ref hp.objs.size)
    have oS : (hp.push (bare led)).get? hp.objs.size = some (bare led) := Heap.get?_push_size _ rfl
    have tS : Shared.TypeIs ⟨hp.push (bare led), g, d, tk, os⟩ (.ref hp.objs.size) "set" := ⟨_, oS, rfl⟩
    repeat (any_goals (first | assumption | wp_step))
    refine codeAny_mono (set_init (E := E) ?_ r len few val) fun b s3 h3 => ?_
    · simp [hh]
    · match b, h3 with
      | .error e, h3 => exact h3
      | .ok .next, h3 => exact h3.elim
      | .ok .brk, h3 => exact h3.elim
      | .ok .cont, h3 => exact h3.elim
      | .ok (.ret v), h3 =>
        obtain ⟨rfl, h4, t4, rfl, hS, keep⟩ := h3
        repeat (any_goals (first | assumption | wp_step))
        exact q h4 t4 hS keep
theorem row_list {prog : Program} {w : World} {hp : Heap} {l : Addr} {items : Array Value} (h : hp.IsList l items) : Row prog w "list" l items.size (fun i v => items[i]? = some v) hp (fun J i h => h.IsListIter J l i ∧ h.IsList l items) := by
  obtain ⟨o, ho, hc, k, hd⟩ := id h
  refine ⟨?_, PySem.F.sub_list_set, PySem.F.sub_list_frozenset, by decide, fun A E Q s keep q => ?_, fun A J hh ne => Walks.list hh J l ne items⟩
  · obtain ⟨c, dd, dt, sl⟩ := o
    obtain rfl : c = Value.type "list" := hc
    exact ⟨dd, dt, sl, ho⟩
  · have h2 : s.heap.IsList l items := ⟨o, keep o ho, hc, k, hd⟩
    exact wpAny_pyIter_list h2 (q _ ⟨⟨_, Heap.get?_push_size _ rfl, rfl, rfl⟩, h2.push _⟩)
theorem row_tuple {prog : Program} {w : World} {hp : Heap} {l : Addr} {items : Array Value} (h : hp.IsTuple l items) : Row prog w "tuple" l items.size (fun i v => items[i]? = some v) hp (fun J i h => h.IsTupleIter J l i ∧ h.IsTuple l items) := by
  obtain ⟨o, ho, hc, k, hd⟩ := id h
  refine ⟨?_, PySem.F.sub_tuple_set, PySem.F.sub_tuple_frozenset, by decide, fun A E Q s keep q => ?_, fun A J hh ne => Walks.tuple hh J l ne items⟩
  · obtain ⟨c, dd, dt, sl⟩ := o
    obtain rfl : c = Value.type "tuple" := hc
    exact ⟨dd, dt, sl, ho⟩
  · have h2 : s.heap.IsTuple l items := ⟨o, keep o ho, hc, k, hd⟩
    exact wpAny_pyIter_tuple h2 (q _ ⟨⟨_, Heap.get?_push_size _ rfl, rfl, rfl⟩, h2.push _⟩)
end
end Gs
namespace L2
open PySem PySem.Spec PyProof.Rows
/-- len(set(xs)), xs a list or a tuple of texts -/
def tLenSetA (K : PySem.W.Frag) (ta : TE) : TE := fun σ H Q => ta σ H fun x H1 => ∃ (l : Addr) (xs : List Str), x = .ref l ∧ (SqL K H1 l (xs.map V.str) ∨ SqT K H1 l (xs.map V.str)) ∧ xs.length ≤ 1000 ∧ Q (.int (Gs.dst xs xs.length)) H1
theorem pe_lenSetA {X : Cx} {a : Expr} {ta : TE} {p p2 q pos : Pos} (hc : X.calm = true) (hg : Gl X "len") (hm : X.mg "len" = none) (hg2 : Gl X "set") (hm2 : X.mg "set" = none) (ha : PE X a ta)
    (na : starEach [a] X.env = (false, eval a X.env) :: starEach [] X.env := by rfl) : PE X (.Call (.Name "len" p) [.Call (.Name "set" p2) [a] [] q] [] pos) (tLenSetA X.K ta) := by
  refine ⟨fun pins s σ H Q I h => ?_⟩
  refine Call_ (ld_blt I hg hm boot_len (PyProof.Rows.callWith_builtin1 (PyProof.Rows.args_cons ?_ rfl) rfl rfl))
  refine Call_ (ld_blt I hg2 hm2 boot_set (PyProof.Rows.callWith_type1 (PyProof.Rows.args_cons (thn (ha.run pins s σ H _ I h) fun v s1 hv => PyProof.Rows.args_nil ?_) na) na rfl))
  obtain ⟨x, H1, I1, r1, l, xs, rfl, hq, h1, q1⟩ := hv
  cases r1
  have sb : (1001 : Nat) < scanBound := by unfold scanBound; decide
  have back : ∀ (h2 : Heap) (t2 : Nat), h2.SetOf (PySem.strKind X.prog X.w) s1.heap.objs.size (Gs.mem xs xs.length) (Gs.dst xs xs.length) → (∀ b o, s1.heap.get? b = some o → h2.get? b = some o) →
      wpAny (model X.prog X.w) X.A (spliced (backTo pos (starEach [] X.env))) (fun vs s2 => wpAny (model X.prog X.w) X.A (call (.builtin "len") (Value.ref s1.heap.objs.size :: vs)) (EP X pins σ Q) X.xe s2) X.xe { s1 with heap := h2, toks := t2 } := fun h2 t2 hS keep => by
    refine PyProof.Rows.args_nil ?_
    have le := Gs.dst_le xs xs.length
    obtain ⟨o, es, ep, t, ho, hex, hd, _, _, _, hf, hn⟩ := hS
    have I2 : Inv X pins σ H1 { s1 with heap := h2, toks := t2 } := I1.kept keep
    refine call_len_set ho hex hd hf (by rw [hn]; omega) ⟨.int (Gs.dst xs xs.length), H1, I2.tok _, ⟨_, by rw [hn]⟩, q1⟩
  have at_ : ∀ {its : List Value}, Vals (xs.map V.str) its → ∀ (i : Nat) (v : Value), its.toArray[i]? = some v → ∃ t, v = .str (xs.getD i Str.empty) t := fun {its} r i v hv => by
    have hv2 : its[i]? = some v := by simpa using hv
    have lx : i < xs.length := by
      obtain ⟨h3, _⟩ := List.getElem?_eq_some_iff.mp hv2
      have := r.length
      rw [List.length_map] at this
      omega
    obtain ⟨u, hu, ru⟩ := r.get (i := i) (x := .str xs[i]) (by rw [List.getElem?_map, List.getElem?_eq_getElem lx]; rfl)
    rw [hv2] at hu
    obtain rfl := Option.some.inj hu
    rw [Gs.getD_at lx]
    exact ru
  rcases hq with hq | hq
  · obtain ⟨its, r, pl, hz⟩ := I1.list hq
    have hl : xs.length = its.toArray.size := by rw [List.size_toArray, ← r.length, List.length_map]
    refine Gs.set_call (I1.ok.hd hc) (Gs.row_list pl.isList) hl (by omega) (at_ r) fun h2 t2 hS keep => back h2 t2 (by rw [hl]; exact hS) keep
  · obtain ⟨its, r, pl, hz⟩ := I1.tuple hq
    have hl : xs.length = its.toArray.size := by rw [List.size_toArray, ← r.length, List.length_map]
    refine Gs.set_call (I1.ok.hd hc) (Gs.row_tuple pl) hl (by omega) (at_ r) fun h2 t2 hS keep => back h2 t2 (by rw [hl]; exact hS) keep
end L2

set_option Elab.async false
set_option linter.all false
set_option maxRecDepth 100000
set_option maxHeartbeats 4000000
namespace L2
open PySem PySem.Spec PyProof.Rows
section
variable {X : Cx}
/-- {x!r} of None, a text, an int -/
def tFmtA (te : TE) : TE := fun σ H Q => te σ H fun x H1 => (x = .non ∧ Q (.str "None") H1) ∨ (∃ y : Str, x = .str y ∧ (reprText y).length ≤ sizeLine ∧ Q (.str (reprText y)) H1) ∨ ∃ i : Int, x = .int i ∧ i.natAbs.log2 < 1920 ∧ Q (.str (toString i)) H1
theorem pe_fmtA {e : Expr} {te : TE} {pos : Pos} (he : PE X e te) : PE X (.FormattedValue e 114 none pos) (tFmtA te) := by
  refine ⟨fun pins s σ H Q I h => wpAny_FormattedValue_repr (thn (he.run pins s σ H _ I h) fun v s1 hv => ?_)⟩
  obtain ⟨x, H1, I1, r1, q⟩ := hv
  have sn : (Str.ofString "None").length ≤ sizeLine := by decide +kernel
  rcases q with ⟨rfl, q⟩ | ⟨y, rfl, hz, q⟩ | ⟨i, rfl, hz, q⟩
  · cases r1
    exact pyReprObj_none (wpAny_formatField_str ⟨.str "None", H1, I1.tok _, ⟨_, rfl⟩, q⟩ ⟨.str "None", H1, I1.tok _, ⟨_, rfl⟩, q⟩ sn)
  · obtain ⟨t, rfl⟩ := r1
    exact pyReprObj_str (wpAny_formatField_str ⟨.str (reprText y), H1, I1.tok _, ⟨_, rfl⟩, q⟩ ⟨.str (reprText y), H1, I1.tok _, ⟨_, rfl⟩, q⟩ hz) hz
  · obtain ⟨t, rfl⟩ := r1
    exact pyReprObj_int hz (wpAny_formatField_str ⟨.str (toString i), H1, I1.tok _, ⟨_, rfl⟩, q⟩ ⟨.str (toString i), H1, I1.tok _, ⟨_, rfl⟩, q⟩ (int_text_fits hz))
end
/-- an exception class of the text whose __init__ is ValueError's, read off by its name -/
structure CIn (K : PySem.W.Frag) (mg : Str → Option Value) (n : Str) (CB : Addr) : Prop where
  g : mg n = some (.ref CB)
  ga : PySem.W.specialIn K (.ref CB) "__getattribute__" = some (some (.builtin "type.__getattribute__"))
  rd : PySem.W.readsIn K CB (.type "type") = true
  fi : PySem.W.findCls K (.ref CB) (.type "type") "__init__" = some (.val (.builtin "ValueError.__init__"))
section
variable {X : Cx} {e : Expr} {es : List Expr} {ta : TA} {p1 p2 pos : Pos} {n : Str} {CB : Addr}
theorem pe_cinit {pl : Sem Bool} (T : CIn X.K X.mg n CB) (hg : Gl X n) (ha : PA X (e :: es) ta)
    (hc : eval (.Call (.Attribute (.Name n p1) "__init__" p2) (e :: es) [] pos) X.env = (do
      let ov ← eval (.Name n p1) X.env
      standAt p2.atName
      let (f, first) ← holding [ov] (getMethod ov "__init__" pl)
      callWith pos f first (backTo pos (starEach (e :: es) X.env)) (backToKw pos (keywordEach [] X.env))) := by rfl)
    (hdb : (n == ("__debug__" : Str)) = false := by decide) (he : starEach (e :: es) X.env = (false, eval e X.env) :: starEach es X.env := by rfl) (hpl : (backTo pos (starEach es X.env)).any (·.1) = false := by rfl) :
    PE X (.Call (.Attribute (.Name n p1) "__init__" p2) (e :: es) [] pos) (tVeI X.K ta) := by
  refine ⟨fun pins s σ H Q I h => ?_⟩
  refine PySem.W.methodCall_KW (ld_glob I hg T.g ?_ hdb) hc
  refine PySem.W.method_cls I.kIn T.ga (PySem.W.cls_value I.kIn T.rd T.fi (by decide +kernel) ?_)
  show wpAny _ _ (callWith pos (Value.builtin "ValueError.__init__") [] (backTo pos (starEach (e :: es) X.env)) []) _ _ _
  refine PyProof.Rows.callWith_method1 (thn (ha.run pos pins _ σ H _ (I.tok _) h) fun us s1 hu => ?_) he hpl
  obtain ⟨vs, H1, I1, r1, a, C, ws, rfl, hl, oc, ea, q⟩ := hu
  match us, r1 with
  | _ :: ur, .cons ra rw' =>
    obtain rfl := ra
    exact oinit_ok oc I1 ea (by rw [← Paired.length rw', sizeLine_eq]; omega) fun s2 J => ⟨.non, H1, J, rfl, q⟩
end
/-- an exception class over ClockError with an own __init__ that keeps one field -/
structure IniT (K : PySem.W.Frag) (mg : Str → Option Value) (n fld : Str) (st : Stmt) (C fI : Addr) (fd : FuncData) : Prop where
  g : mg n = some (.ref C)
  o : OexC K C
  i : PySem.W.findIn K (.ref C) "__init__" = some (some (.ref fI))
  ti : PySem.W.typeIn K (.ref fI) = some (.type "function")
  te : PySem.W.exmOne K (.ref C) (.ref C) = some true
  no : PySem.W.findIn K (.ref C) fld = some none
  F : Fun K "__init__" (n ++ ".__init__") st fI fd
  bi : Binds K fd ["self", fld] []
/-- an exception class over ClockError without more -/
structure OwnT (K : PySem.W.Frag) (mg : Str → Option Value) (n : Str) (C : Addr) : Prop where
  g : mg n = some (.ref C)
  x : PySem.W.excIn K C [.type "ValueError", .type "Exception", .type "BaseException", .type "object"] "ValueError.__new__" = true
  k : PySem.W.keepIn K (.ref C) = true
  b : PySem.W.subIn K (.ref C) (.type "BaseException") = some true
  t : PySem.W.typeIn K (.ref C) = some (.type "type")
  te : PySem.W.exmOne K (.ref C) (.ref C) = some true
def spIni (C : Addr) (fld : Str) : Sp := fun vs H Q _ => ∃ (a : Addr) (v : V), vs = [.ref a, v] ∧ H a = some (exo a C none) ∧ (v = .non ∨ ∃ i : Int, v = .int i ∧ 0 ≤ i ∧ i < 10 ^ 9) ∧
  ∀ dx, H dx = none → dx ≠ a → Q .non (upd (upd H dx (exd dx [(fld, v)])) a (exo a C (some dx)))
/-- what the making of such an exception asks, from what is wished of it -/
theorem ini_mk {C : Addr} {fld : Str} {v : V} {σ : St} {H : Hp} {Q : XK} {ta : TE} (hv : v = .non ∨ ∃ i : Int, v = .int i ∧ 0 ≤ i ∧ i < 10 ^ 9) (ht : ∀ q : VK, q v H → ta σ H q)
    (q : ∀ d H', H d = none → Same H H' → H' d = some (.xd [(fld, v)]) → Q (.ref C) (some d) H') : tMkO C (spIni C fld) [] (tCons ta tNil) σ H Q := by
  refine ht _ ⟨by show 1 ≤ 1000; decide, fun a ha => ⟨a, v, rfl, upd_same, hv, fun dx hd ne => ⟨rfl, dx, [(fld, v)], upd_same, ?_, ?_, ?_⟩⟩⟩
  · rw [upd_ne ne, upd_same]
  · rw [upd_ne ne] at hd
    exact hd
  · have hd' : H dx = none := by
      rw [upd_ne ne] at hd
      exact hd
    refine q dx _ hd' (fun b o e => ?_) upd_same
    have nb : b ≠ dx := ne_of_none e hd'
    have na : b ≠ a := ne_of_none e ha
    rw [upd_ne nb, del_ne na, upd_ne na, upd_ne nb, upd_ne na]
    exact e

/-! ### what is a name, what are names -/
theorem TyOf.same {K : PySem.W.Frag} {H H' : Hp} {x : V} {t : Value} (s : Same H H') (h : TyOf K H x t) : TyOf K H' x t := by
  cases h with
  | non => exact .non
  | bl b => exact .bl b
  | int i => exact .int i
  | str z => exact .str z
  | flt z => exact .flt z
  | lst e => exact .lst (s _ _ e)
  | frz e => exact .frz (s _ _ e)
  | tup e => exact .tup (s _ _ e)
  | dK e => exact .dK (s _ _ e)
  | dT e => exact .dT (s _ _ e)
  | ins e cl ha hn htk hm => exact .ins (s _ _ e) cl ha hn htk hm
theorem TyX.same {K : PySem.W.Frag} {H H' : Hp} {x : V} {t : Value} (s : Same H H') (h : TyX K H x t) : TyX K H' x t := by
  cases h with
  | base b => exact .base (b.same s)
  | byt b => exact .byt b
  | set e => exact .set (s _ _ e)
  | kList e c => exact .kList e c
  | kTuple e c => exact .kTuple e c
  | kDict e c => exact .kDict e c
  | fTuple e => exact .fTuple (s _ _ e)
  | fDict e => exact .fDict (s _ _ e)
/-- x is a name or is none, as b says -/
def NmV (K : PySem.W.Frag) (H : Hp) (x : V) (b : Bool) : Prop :=
  (∃ z : Str, x = .str z ∧ z.length ≤ 100000 ∧ b = isW z) ∨ (b = false ∧ ∃ t, TyX K H x t ∧ PySem.W.kitOne K t (.type "str") = some false)
theorem NmV.same {K : PySem.W.Frag} {H H' : Hp} {x : V} {b : Bool} (s : Same H H') (h : NmV K H x b) : NmV K H' x b := by
  rcases h with h | ⟨e, t, ht, hk⟩
  · exact .inl h
  · exact .inr ⟨e, t, ht.same s, hk⟩
theorem NmV.yes {K : PySem.W.Frag} {H : Hp} {x : V} (h : NmV K H x true) : ∃ z : Str, x = .str z ∧ isW z = true := by
  rcases h with ⟨z, e, _, hw⟩ | ⟨e, _⟩
  · exact ⟨z, e, hw.symm⟩
  · cases e
theorem NmV.of {K : PySem.W.Frag} {H : Hp} {z : Str} (h : z.length ≤ 100000) : NmV K H (.str z) (isW z) := .inl ⟨z, rfl, h, rfl⟩
def spIsName (K : PySem.W.Frag) : Sp := fun vs H Q _ => ∃ (x : V) (b : Bool), vs = [x] ∧ NmV K H x b ∧ ∀ H', Same H H' → Q (.bl b) H'
/-- x is a row of names or is none, as b says -/
def NmsV (K : PySem.W.Frag) (H : Hp) (x : V) (b : Bool) : Prop :=
  (∃ (a : Addr) (xs : List V) (bs : List Bool), x = .ref a ∧ SqT K H a xs ∧ TyX K H x (.type "tuple") ∧ Paired (NmV K H) xs bs ∧ b = (decide (xs.length ≤ 16) && (bs.all id && decide xs.Nodup))) ∨
    (b = false ∧ ∃ t, TyX K H x t ∧ PySem.W.kitOne K t (.type "tuple") = some false)
def spIsNames (K : PySem.W.Frag) : Sp := fun vs H Q _ => ∃ (x : V) (b : Bool), vs = [x] ∧ NmsV K H x b ∧ ∀ H', Same H H' → Q (.bl b) H'
theorem nms_strs {K : PySem.W.Frag} {H : Hp} : ∀ {xs : List V} {bs : List Bool}, Paired (NmV K H) xs bs → bs.all id = true → ∃ ss : List Str, xs = ss.map V.str ∧ ∀ s ∈ ss, isW s = true
  | _, _, .nil, _ => ⟨[], rfl, by simp⟩
  | _, _, .cons (b := b) h t, e => by
    rw [List.all_cons, Bool.and_eq_true] at e
    obtain ⟨e1, e2⟩ := e
    have e1 : b = true := e1
    subst e1
    obtain ⟨z, rfl, hz⟩ := h.yes
    obtain ⟨ss, rfl, hs⟩ := nms_strs t e2
    refine ⟨z :: ss, rfl, fun s hm => ?_⟩
    rcases List.mem_cons.mp hm with rfl | hm
    · exact hz
    · exact hs s hm
theorem nd_strs (ss : List Str) : (ss.map V.str).Nodup ↔ ss.Nodup := by
  rw [List.nodup_iff_pairwise_ne, List.nodup_iff_pairwise_ne, List.pairwise_map]
  constructor
  · intro h
    exact h.imp fun {a b} n e => n (congrArg V.str e)
  · intro h
    exact h.imp fun {a b} n e => n (V.str.inj e)
/-- rows of texts -/
def okNames (ss : List Str) : Bool := decide (ss.length ≤ 16) && ((ss.map isW).all id && decide ss.Nodup)
theorem pair_strs {K : PySem.W.Frag} {H : Hp} : ∀ {ss : List Str}, (∀ s ∈ ss, s.length ≤ 100000) → Paired (NmV K H) (ss.map V.str) (ss.map isW)
  | [], _ => .nil
  | s :: r, h => .cons (.of (h s (List.mem_cons_self ..))) (pair_strs fun x hx => h x (List.mem_cons_of_mem _ hx))
theorem NmsV.strs {K : PySem.W.Frag} {H : Hp} {a : Addr} {ss : List Str} (h : H a = some (.tup (ss.map V.str))) (hl : ∀ s ∈ ss, s.length ≤ 100000) : NmsV K H (.ref a) (okNames ss) := by
  refine .inl ⟨a, _, ss.map isW, rfl, .inl (.inl h), .base (.tup h), pair_strs hl, ?_⟩
  unfold okNames
  rw [List.length_map, decide_eq_decide.mpr (nd_strs ss)]
theorem okNames_mk {ss : List Str} (h1 : ss.length ≤ 16) (h2 : ∀ s ∈ ss, isW s = true) (h3 : ss.Nodup) : okNames ss = true := by
  unfold okNames
  simp only [Bool.and_eq_true, decide_eq_true_eq, List.all_map, List.all_eq_true]
  exact ⟨h1, h2, h3⟩
theorem okNames_of {ss : List Str} (h : okNames ss = true) : ss.length ≤ 16 ∧ (∀ s ∈ ss, isW s = true) ∧ ss.Nodup := by
  unfold okNames at h
  simp only [Bool.and_eq_true, decide_eq_true_eq, List.all_map, List.all_eq_true] at h
  exact h
theorem lt_abc {a c : Nat} : decide (([a] : List Nat) < [c]) = decide (a < c) := by
  by_cases h : a < c
  · rw [decide_eq_true h]
    exact decide_eq_true (List.Lex.rel h)
  · rw [decide_eq_false h]
    refine decide_eq_false fun z => ?_
    cases z with
    | rel q => exact h q
    | cons q => cases q
theorem sum_names : ∀ (ss : List Str), ss.length ≤ 16 → (∀ s ∈ ss, isW s = true) → (ss.map (·.length)).sum + ss.length * (Str.ofString " ").length ≤ 16777216 := by
  have key : ∀ ss : List Str, (∀ s ∈ ss, isW s = true) → (ss.map (·.length)).sum ≤ ss.length * 8 := by
    intro ss
    induction ss with
    | nil => intro _; exact Nat.le_refl _
    | cons s r ih =>
      intro h
      have h1 := (isW_len (h s (List.mem_cons_self ..))).2
      have h2 := ih fun x hx => h x (List.mem_cons_of_mem _ hx)
      rw [List.map_cons, List.sum_cons, List.length_cons]
      omega
  intro ss hl hw
  have e : (Str.ofString " ").length = 1 := by decide +kernel
  have := key ss hw
  rw [e]
  omega
theorem spl_part_len (S : List Nat) : ∀ (l : List Nat) (k : Nat) (acc p : List Nat), p ∈ TL.spl S k acc l → p.length ≤ acc.length + l.length
  | [], k, acc, p, h => by
    rw [TL.spl_nil] at h
    rw [List.mem_singleton.mp h]
    exact Nat.le_add_right _ _
  | c :: r, k + 1, acc, p, h => by
    have h2 : p ∈ TL.spl S k acc r := h
    have := spl_part_len S r k acc p h2
    rw [List.length_cons]
    omega
  | c :: r, 0, acc, p, h => by
    rw [List.length_cons]
    cases hp : TL.pre S (c :: r) with
    | true =>
      rw [TL.spl_hit hp] at h
      rcases List.mem_cons.mp h with rfl | h
      · omega
      · have := spl_part_len S r _ [] p h
        rw [List.length_nil] at this
        omega
    | false =>
      rw [TL.spl_miss hp] at h
      have := spl_part_len S r 0 (acc ++ [c]) p h
      rw [List.length_append] at this
      have e : [c].length = 1 := rfl
      omega
/-- two ways that meet -/
theorem meetR {c : Prop} [Decidable c] {A B : VK → Prop} {Q : VK} (P : V → Hp → Prop) (h1 : c → ∀ Q : VK, (∀ v H, P v H → Q v H) → A Q) (h2 : ¬ c → ∀ Q : VK, (∀ v H, P v H → Q v H) → B Q) (q : ∀ v H, P v H → Q v H) : if c then A Q else B Q := by
  by_cases h : c
  · rw [if_pos h]
    exact h1 h Q q
  · rw [if_neg h]
    exact h2 h Q q
end L2

set_option Elab.async false
set_option linter.all false
set_option maxRecDepth 100000
set_option maxHeartbeats 4000000
namespace L2
open PySem PySem.Spec PyProof.Rows
/-! ### texts of names -/
abbrev dash : Str := "-"
abbrev jn (ss : List Str) : Str := Txt.join " " ss
def wr (ss : List Str) : Str := if ss = [] then "-" else jn ss
def rd (z : Str) : List Str := if z = "-" then [] else Txt.split z " "
theorem tl_sp : TL.tl " " = [32] := by decide +kernel
theorem tl_dash : TL.tl "-" = [45] := by decide +kernel
def NoSp (ss : List Str) : Prop := ∀ s ∈ ss, 32 ∉ TL.tl s
theorem NoSp.of {ss : List Str} (h : ∀ s ∈ ss, isW s = true) : NoSp ss := fun s hs hm => by
  have := isW_let (h s hs) 32 hm
  omega
theorem NoSp.app {ss ts : List Str} (a : NoSp ss) (b : NoSp ts) : NoSp (ss ++ ts) := fun s hs => (List.mem_append.mp hs).elim (a s) (b s)
theorem split_jn {ss : List Str} (h : ss ≠ []) (n : NoSp ss) : Txt.split (jn ss) " " = ss := TL.split_join tl_sp (by decide +kernel) h n
theorem rd_jn {ss : List Str} (h : ss ≠ []) (n : NoSp ss) : rd (jn ss) = if ss = [dash] then [] else ss := by
  by_cases e : ss = [dash]
  · subst e
    rw [if_pos rfl]
    unfold rd
    exact if_pos rfl
  · rw [if_neg e]
    unfold rd
    rw [if_neg, split_jn h n]
    intro z
    have h1 := split_jn h n
    rw [z] at h1
    have h2 : Txt.split "-" " " = [dash] := split_jn (ss := [dash]) (by simp) (by
      intro s hs
      rw [List.mem_singleton.mp hs, tl_dash]
      decide)
    exact e (h1.symm.trans h2)
theorem isW_dash : isW "-" = false := by decide +kernel
theorem ne_dash {ss : List Str} (h : ∀ s ∈ ss, isW s = true) : ss ≠ [dash] := fun e => by
  have := h dash (by rw [e]; exact List.mem_singleton.mpr rfl)
  rw [isW_dash] at this
  cases this
theorem rd_wr {ss : List Str} (h : ∀ s ∈ ss, isW s = true) : rd (wr ss) = ss := by
  unfold wr
  by_cases e : ss = []
  · subst e
    rw [if_pos rfl]
    exact if_pos rfl
  · rw [if_neg e, rd_jn e (.of h), if_neg (ne_dash h)]
theorem joinL_app (S : List Nat) : ∀ xs ys : List (List Nat), xs ≠ [] → ys ≠ [] → TL.joinL S (xs ++ ys) = TL.joinL S xs ++ (S ++ TL.joinL S ys)
  | [], _, h, _ => absurd rfl h
  | [x], [], _, h => absurd rfl h
  | [x], y :: r, _, _ => rfl
  | x :: z :: r, ys, _, h => by
    have ih := joinL_app S (z :: r) ys (by simp) h
    show x ++ (S ++ TL.joinL S ((z :: r) ++ ys)) = (x ++ (S ++ TL.joinL S (z :: r))) ++ (S ++ TL.joinL S ys)
    rw [ih]
    simp [List.append_assoc]
theorem jn_app {xs ys : List Str} (hx : xs ≠ []) (hy : ys ≠ []) : jn (xs ++ ys) = jn xs ++ " " ++ jn ys := by
  refine TL.ext_tl ?_
  rw [TL.tl_append, TL.tl_append]
  unfold jn
  rw [TL.join_eq, TL.join_eq, TL.join_eq, TL.tl_join, TL.tl_join, TL.tl_join, List.map_append, joinL_app _ _ _ (by simpa using hx) (by simpa using hy), List.append_assoc]
theorem wr_jn {ss : List Str} (h : ss ≠ []) : wr ss = jn ss := if_neg h
theorem jn_len : ∀ (ss : List Str), (∀ s ∈ ss, s.length ≤ 8) → (jn ss).length ≤ ss.length * 9
  | [], _ => Nat.zero_le _
  | [s], h => by
    have := h s (List.mem_cons_self ..)
    have e : jn [s] = s := TL.ext_tl (by
      unfold jn
      rw [TL.join_eq, TL.tl_join]
      rfl)
    rw [e]
    show s.length ≤ 1 * 9
    omega
  | s :: t :: r, h => by
    have h1 := h s (List.mem_cons_self ..)
    have ih := jn_len (t :: r) fun x hx => h x (List.mem_cons_of_mem _ hx)
    have e := jn_app (xs := [s]) (ys := t :: r) (by simp) (by simp)
    have e1 : jn [s] = s := TL.ext_tl (by
      unfold jn
      rw [TL.join_eq, TL.tl_join]
      rfl)
    have e2 : s :: t :: r = [s] ++ (t :: r) := rfl
    have e3 : (Str.ofString " ").length = 1 := by decide +kernel
    rw [e2, e, e1, Str.length_append, Str.length_append, e3]
    rw [List.length_append]
    have e4 : [s].length = 1 := rfl
    omega
theorem wr_len {ss : List Str} (h : ∀ s ∈ ss, isW s = true) (l : ss.length ≤ 16) : (wr ss).length ≤ 200 := by
  unfold wr
  split
  · decide +kernel
  · have := jn_len ss fun s hs => (isW_len (h s hs)).2
    omega
theorem okNames_perm {ss ts : List Str} (p : ss.Perm ts) (h : okNames ss = true) : okNames ts = true := by
  obtain ⟨h1, h2, h3⟩ := okNames_of h
  exact okNames_mk (by rw [← p.length_eq]; exact h1) (fun s hs => h2 s (p.mem_iff.mpr hs)) (p.nodup_iff.mp h3)
/-- two rows behind one another -/
theorem okNames_app {xs ys : List Str} (hx : okNames xs = true) (hy : okNames ys = true) : okNames (xs ++ ys) = (decide (xs.filter (fun s => decide (s ∈ ys)) = []) && decide ((xs ++ ys).length < 17)) := by
  obtain ⟨a1, a2, a3⟩ := okNames_of hx
  obtain ⟨b1, b2, b3⟩ := okNames_of hy
  have hd : xs.filter (fun s => decide (s ∈ ys)) = [] ↔ (xs ++ ys).Nodup := by
    rw [List.nodup_append]
    constructor
    · intro h
      refine ⟨a3, b3, fun a ha b hb e => ?_⟩
      have := List.filter_eq_nil_iff.mp h a ha
      exact this (decide_eq_true (e ▸ hb))
    · intro h
      refine List.filter_eq_nil_iff.mpr fun a ha e => ?_
      exact h.2.2 a ha a (of_decide_eq_true e) rfl
  rw [Bool.eq_iff_iff]
  constructor
  · intro h
    obtain ⟨h1, _, h3⟩ := okNames_of h
    rw [Bool.and_eq_true]
    exact ⟨decide_eq_true (hd.mpr h3), decide_eq_true (by omega)⟩
  · intro h
    rw [Bool.and_eq_true] at h
    have h1 := of_decide_eq_true h.1
    have h2 := of_decide_eq_true h.2
    refine okNames_mk (by omega) (fun s hs => (List.mem_append.mp hs).elim (a2 s) (b2 s)) (hd.mp h1)
theorem okNames_dash1 {ss : List Str} : okNames (dash :: ss) = false := by
  cases e : okNames (dash :: ss) with
  | false => rfl
  | true =>
    have := (okNames_of e).2.1 dash (List.mem_cons_self ..)
    rw [isW_dash] at this
    cases this
theorem okNames_dash2 {ss : List Str} : okNames (ss ++ [dash]) = false := by
  cases e : okNames (ss ++ [dash]) with
  | false => rfl
  | true =>
    have := (okNames_of e).2.1 dash (List.mem_append_right _ (List.mem_singleton.mpr rfl))
    rw [isW_dash] at this
    cases this
theorem NmsV.strsB {K : PySem.W.Frag} {H : Hp} {a : Addr} {ss : List Str} (h : SqT K H a (ss.map V.str)) (t : TyX K H (.ref a) (.type "tuple")) (hl : ∀ s ∈ ss, s.length ≤ 100000) : NmsV K H (.ref a) (okNames ss) := by
  refine .inl ⟨a, _, ss.map isW, rfl, h, t, pair_strs hl, ?_⟩
  unfold okNames
  rw [List.length_map, decide_eq_decide.mpr (nd_strs ss)]
theorem NmsV.strsT {K : PySem.W.Frag} {H : Hp} {a : Addr} {ss : List Str} (h : SqT K H a (ss.map V.str)) (t : TyX K H (.ref a) (.type "tuple")) (ok : okNames ss = true) : NmsV K H (.ref a) true := by
  have z := NmsV.strsB h t fun s hs => Nat.le_trans (isW_len ((okNames_of ok).2.1 s hs)).2 (by decide)
  rw [ok] at z
  exact z
theorem cut_from {α : Type} (f : α → V) (ws : List α) (j : Nat) : cutV (ws.map f) (some (j : Int)) none = (ws.drop j).map f := by
  unfold cutV
  rw [HT.sIx_nat, HT.sIx_none, List.length_map, ← List.map_drop, ← List.map_take]
  congr 1
  by_cases h : j ≤ ws.length
  · rw [Nat.min_eq_left h]
    exact List.take_of_length_le (by rw [List.length_drop]; exact Nat.le_refl _)
  · rw [Nat.min_eq_right (by omega), Nat.sub_self, List.take_zero, List.drop_of_length_le (by omega)]
theorem cut_to {α : Type} (f : α → V) (ws : List α) (j : Nat) : cutV (ws.map f) none (some (j : Int)) = (ws.take j).map f := by
  unfold cutV
  rw [HT.sIx_nat, HT.sIx_none, List.length_map, List.drop_zero, Nat.sub_zero, ← List.map_take]
  congr 1
  by_cases h : j ≤ ws.length
  · rw [Nat.min_eq_left h]
  · rw [Nat.min_eq_right (by omega), List.take_of_length_le (Nat.le_refl _), List.take_of_length_le (by omega)]
theorem rot_ok {ws : List Str} (j : Nat) (h : okNames ws = true) : okNames (ws.drop j ++ ws.take j) = true := okNames_perm (ss := ws) (by
  have p : (ws.take j ++ ws.drop j).Perm (ws.drop j ++ ws.take j) := List.perm_append_comm
  rw [List.take_append_drop] at p
  exact p) h
theorem take_ok {ws : List Str} (j : Nat) (h : okNames ws = true) : okNames (ws.take j) = true := by
  obtain ⟨h1, h2, h3⟩ := okNames_of h
  refine okNames_mk (by rw [List.length_take]; omega) (fun s hs => h2 s (List.mem_of_mem_take hs)) (h3.sublist (List.take_sublist j ws))
theorem drop_ok {ws : List Str} (j : Nat) (h : okNames ws = true) : okNames (ws.drop j) = true := by
  obtain ⟨h1, h2, h3⟩ := okNames_of h
  refine okNames_mk (by rw [List.length_drop]; omega) (fun s hs => h2 s (List.mem_of_mem_drop hs)) (h3.sublist (List.drop_sublist j ws))
/-- a statement whose ways meet -/
theorem seq_meet {t u : TS} {D : Ends} {σ : St} {H : Hp} (P : St → Hp → Prop) (h : ∀ N : St → Hp → Prop, (∀ σ' H', P σ' H' → N σ' H') → t { D with nx := N } σ H) (q : ∀ σ' H', P σ' H' → u D σ' H') : tSeq t u D σ H := h (u D) q
theorem slA_to {K : PySem.W.Frag} {H : Hp} {a : Addr} {ss : List Str} {j : Nat} {Q : VK} (h : H a = some (.tup (ss.map V.str))) (q : ∀ p H', Same H H' → H' p = some (.tup ((ss.take j).map V.str)) → Q (.ref p) H') : rSlA K (.ref a) none (some (j : Int)) H Q := by
  refine ⟨a, _, rfl, SqT.of h, fun hw => ?_, fun _ p hp => ?_⟩
  · have h2 := hw.2
    rw [HT.sIx_nat, List.length_map] at h2
    refine q a H (Same.refl H) ?_
    rw [List.take_of_length_le (by omega)]
    exact h
  · rw [cut_to]
    exact q p _ (gSame_new hp) upd_same
theorem slA_from {K : PySem.W.Frag} {H : Hp} {a : Addr} {ss : List Str} {j : Nat} {Q : VK} (h : H a = some (.tup (ss.map V.str))) (q : ∀ p H', Same H H' → H' p = some (.tup ((ss.drop j).map V.str)) → Q (.ref p) H') : rSlA K (.ref a) (some (j : Int)) none H Q := by
  refine ⟨a, _, rfl, SqT.of h, fun hw => ?_, fun _ p hp => ?_⟩
  · have h1 := hw.1
    rw [HT.sIx_nat, List.length_map] at h1
    refine q a H (Same.refl H) ?_
    have e : ss.drop j = ss := by
      cases j with
      | zero => rfl
      | succ j =>
        have : ss.length = 0 := by omega
        rw [List.length_eq_zero_iff.mp this]
        rfl
    rw [e]
    exact h
  · rw [cut_from]
    exact q p _ (gSame_new hp) upd_same
theorem catA_strs {K : PySem.W.Frag} {H : Hp} {a b : Addr} {xs ys : List Str} {Q : VK} (ha : H a = some (.tup (xs.map V.str))) (hb : H b = some (.tup (ys.map V.str))) (hl : xs.length + ys.length ≤ 1000) (q : ∀ p H', Same H H' → H' p = some (.tup ((xs ++ ys).map V.str)) → Q (.ref p) H') : rCatA K (.ref a) (.ref b) H Q := by
  refine ⟨a, b, _, _, rfl, rfl, SqT.of ha, SqT.of hb, by rw [List.length_map, List.length_map, sizeLine_eq]; omega, fun e => ?_, fun _ e => ?_, fun _ _ p hp => ?_⟩
  · refine q b H (Same.refl H) ?_
    rw [List.map_append, e]
    exact hb
  · refine q a H (Same.refl H) ?_
    rw [List.map_append, e, List.append_nil]
    exact ha
  · refine q p _ (gSame_new hp) ?_
    rw [upd_same, List.map_append]
end L2

set_option Elab.async false
set_option linter.all false
set_option maxRecDepth 100000
set_option maxHeartbeats 4000000
namespace L2
open PySem PySem.Spec PyProof.Rows
/-! ### what the text's top has written -/
/-- an error of the class at S is what «except S» names -/
theorem exm_self {K : PySem.W.Frag} {S : Addr} (h1 : PySem.W.subIn K (.ref S) (.type "BaseException") = some true) (h2 : PySem.W.isClsIn K S = true) (h3 : PySem.W.typeIn K (.ref S) = some (.type "type")) (h4 : PySem.W.subIn K (.ref S) (.ref S) = some true) :
    PySem.W.exmOne K (.ref S) (.ref S) = some true := by
  have e1 : (PySem.W.subIn K (.ref S) (.type "BaseException") == some true) = true := by rw [h1] <;> rfl
  have e2 : ((PySem.W.clsIn K S).isSome && PySem.W.typeIn K (.ref S) == some (.type "type")) = true := by
    have h2' : (PySem.W.clsIn K S).isSome = true := h2
    rw [h2', h3] <;> rfl
  show (if (PySem.W.subIn K (.ref S) (.type "BaseException") == some true) = true then (if ((PySem.W.clsIn K S).isSome && PySem.W.typeIn K (.ref S) == some (.type "type")) = true then PySem.W.subIn K (.ref S) (.ref S) else none) else none) = some true
  rw [if_pos e1, if_pos e2]
  exact h4
section
variable {K : PySem.W.Frag} {h : Heap} {mg : Str → Option Value} (X : K.In h) (G : h.Ns mainGlobals mg)
include X G
theorem blt_mk (z1 : PySem.W.nsIn K mainGlobals "len" = some none) (z2 : PySem.W.nsIn K mainGlobals "int" = some none) (z3 : PySem.W.nsIn K mainGlobals "abs" = some none) (z4 : PySem.W.nsIn K mainGlobals "max" = some none)
    (z5 : PySem.W.nsIn K mainGlobals "min" = some none) (z6 : PySem.W.nsIn K mainGlobals "range" = some none) (z7 : PySem.W.nsIn K mainGlobals "all" = some none) (z8 : PySem.W.nsIn K mainGlobals "isinstance" = some none)
    (z9 : PySem.W.nsIn K mainGlobals "str" = some none) (z10 : PySem.W.nsIn K mainGlobals "tuple" = some none) (z11 : PySem.W.nsIn K mainGlobals "list" = some none) (z12 : PySem.W.nsIn K mainGlobals "set" = some none)
    (z13 : PySem.W.nsIn K mainGlobals "sorted" = some none) (z14 : PySem.W.nsIn K mainGlobals "repr" = some none) (z15 : PySem.W.nsIn K mainGlobals "bool" = some none) (z16 : PySem.W.nsIn K mainGlobals "dict" = some none) : Blt mg :=
  ⟨PySem.W.mg_none_of X G z1, PySem.W.mg_none_of X G z2, PySem.W.mg_none_of X G z3, PySem.W.mg_none_of X G z4, PySem.W.mg_none_of X G z5, PySem.W.mg_none_of X G z6, PySem.W.mg_none_of X G z7, PySem.W.mg_none_of X G z8,
    PySem.W.mg_none_of X G z9, PySem.W.mg_none_of X G z10, PySem.W.mg_none_of X G z11, PySem.W.mg_none_of X G z12, PySem.W.mg_none_of X G z13, PySem.W.mg_none_of X G z14, PySem.W.mg_none_of X G z15, PySem.W.mg_none_of X G z16⟩
theorem df_mk {x : Str} {st : Stmt} {ps : List Str} {f : Addr} {oc : Value} {od an : Option Addr} {osl : Array (Option Value)} {kV doc pm cdv ct : Value} (a : PySem.W.nsIn K mainGlobals x = some (some (.ref f)))
    (l : K.lookup f = some ⟨oc, od, .func (PySem.W.fnOf x x (defArgs st) (defBody st) (defScope st) .none kV doc pm an cdv ct), osl⟩) (c : PySem.W.codeIn K cdv x = true) (k : PySem.W.keepIn K (.ref f) = true)
    (hb : ∀ (kV doc pm : Value) (an : Option Addr) (cdv ct : Value) (us : List Value), us.length = ps.length → bindArgs (PySem.W.fnOf x x (defArgs st) (defBody st) (defScope st) .none kV doc pm an cdv ct) ⟨us, []⟩ = pure (ps.zip us)) :
    Df K mg x st ps f (PySem.W.fnOf x x (defArgs st) (defBody st) (defScope st) .none kV doc pm an cdv ct) :=
  have F := fun_mk (st := st) l c k
  ⟨F, PySem.W.mg_of X G a, F.binds hb⟩
theorem iniT_mk {n fld q : Str} {st : Stmt} {C f : Addr} {nm q0 : Str} {N : Addr} {bs bm : List Value} {sn : List Str} {sub : List Value} {ab : Bool} {col : Option Bool} {dd : Option Addr} {m0 m1 m2 m3 m5 : Option Value}
    {oc : Value} {od an : Option Addr} {osl : Array (Option Value)} {kV doc pm cdv ct : Value} (hq : n ++ ".__init__" = q)
    (aC : PySem.W.nsIn K mainGlobals n = some (some (.ref C))) (xL : K.lookup C = some (excClassObj nm q0 C N bs bm true sn sub ab col dd m0 m1 m2 m3 m5 "ValueError.__new__")) (hbm : PySem.HandSPX.refsVE bm = true)
    (sa : PySem.W.findIn K (.ref C) "__setattr__" = some (some (.builtin "object.__setattr__"))) (nb : PySem.W.findIn K (.ref C) fld = some none)
    (a1 : PySem.W.findIn K (.ref C) "__init__" = some (some (.ref f))) (t1 : PySem.W.typeIn K (.ref f) = some (.type "function"))
    (l : K.lookup f = some ⟨oc, od, .func (PySem.W.fnOf "__init__" q (defArgs st) (defBody st) (defScope st) .none kV doc pm an cdv ct), osl⟩) (c : PySem.W.codeIn K cdv q = true) (k : PySem.W.keepIn K (.ref f) = true)
    (kC : PySem.W.keepIn K (.ref C) = true) (eC : PySem.W.subIn K (.ref C) (.type "BaseException") = some true) (tC : PySem.W.typeIn K (.ref C) = some (.type "type")) (iC : PySem.W.isClsIn K C = true) (sC : PySem.W.subIn K (.ref C) (.ref C) = some true)
    (hb : ∀ (kV doc pm : Value) (an : Option Addr) (cdv ct : Value) (us : List Value), us.length = (["self", fld] : List Str).length → bindArgs (PySem.W.fnOf "__init__" q (defArgs st) (defBody st) (defScope st) .none kV doc pm an cdv ct) ⟨us, []⟩ = pure ((["self", fld] : List Str).zip us)) :
    IniT K mg n fld st C f (PySem.W.fnOf "__init__" q (defArgs st) (defBody st) (defScope st) .none kV doc pm an cdv ct) := by
  subst hq
  have F := fun_mk (st := st) l c k
  exact ⟨PySem.W.mg_of X G aC, ⟨⟨nm, q0, N, bs, bm, sn, sub, ab, col, dd, m0, m1, m2, m3, m5, xL, hbm⟩, sa, eC, tC, kC⟩, a1, t1, exm_self eC iC tC sC, nb, F, F.binds hb⟩
theorem ownT_mk {n : Str} {C : Addr} (aC : PySem.W.nsIn K mainGlobals n = some (some (.ref C))) (xC : PySem.W.excIn K C [.type "ValueError", .type "Exception", .type "BaseException", .type "object"] "ValueError.__new__" = true)
    (kC : PySem.W.keepIn K (.ref C) = true) (eC : PySem.W.subIn K (.ref C) (.type "BaseException") = some true) (tC : PySem.W.typeIn K (.ref C) = some (.type "type")) (iC : PySem.W.isClsIn K C = true) (sC : PySem.W.subIn K (.ref C) (.ref C) = some true) : OwnT K mg n C :=
  ⟨PySem.W.mg_of X G aC, xC, kC, eC, tC, exm_self eC iC tC sC⟩
theorem cin_mk {n : Str} {C : Addr} (aC : PySem.W.nsIn K mainGlobals n = some (some (.ref C))) (ga : PySem.W.specialIn K (.ref C) "__getattribute__" = some (some (.builtin "type.__getattribute__")))
    (rd : PySem.W.readsIn K C (.type "type") = true) (fi : PySem.W.findCls K (.ref C) (.type "type") "__init__" = some (.val (.builtin "ValueError.__init__"))) : CIn K mg n C := ⟨PySem.W.mg_of X G aC, ga, rd, fi⟩
end
end L2

set_option Elab.async false
set_option linter.all false
set_option maxRecDepth 100000
set_option maxHeartbeats 6400000
/-! sets of texts at their places: set(xs), sorted(set(xs)), sorted(xs) of tuples -/
namespace Gt
open PySem PySem.Spec PyProof.Rows L2
def keyOf (e : Int × Value) : Str := match e.2 with | .str k _ => k | _ => Str.empty
def GoodE (P : Program) (w : World) (e : Int × Value) : Prop := ∃ k tk, e.2 = Value.str k tk ∧ e.1 = (PySem.strKind P w).hash k
def SetS (P : Program) (w : World) (h : Heap) (a : Addr) (S : Str → Bool) (n : Nat) : Prop :=
  ∃ o es ep t, h.get? a = some o ∧ o.ExactSet ∧ o.data = .set es ep t ∧ (∀ e ∈ es.toList, GoodE P w e) ∧ (es.toList.map keyOf).Nodup ∧ (∀ k, S k = true ↔ k ∈ es.toList.map keyOf) ∧
    es.size < scanBound ∧ t.fits es.size = true ∧ es.size = n ∧ Ris t.place.toList ∧ (w.params.followText "set-order" = true ∨ t.led = true)
section
variable {P : Program} {w : World} {h h' : Heap} {a : Addr} {S : Str → Bool} {n : Nat}
theorem SetS.at (R : SetS P w h a S n) (k : ∀ o, h.get? a = some o → h'.get? a = some o) : SetS P w h' a S n := by
  obtain ⟨o, es, ep, t, ho, r⟩ := R
  exact ⟨o, es, ep, t, k o ho, r⟩
theorem SetS.congr {S' : Str → Bool} (R : SetS P w h a S n) (e : ∀ k, S' k = S k) : SetS P w h a S' n := by
  have q : S' = S := funext e
  rw [q]; exact R
theorem good_elems {l : List (Int × Value)} (g : ∀ e ∈ l, GoodE P w e) : ElemsOf (PySem.strKind P w) l := fun e he => by
  obtain ⟨k, tk, h1, h2⟩ := g e he
  exact ⟨⟨k, by rw [h1]; exact strKind_is P w k tk, h2⟩, by rw [h1] <;> rfl⟩
theorem good_is {e : Int × Value} (g : GoodE P w e) (k : Str) : (PySem.strKind P w).is k e.2 = true ↔ keyOf e = k := by
  obtain ⟨k0, tk, h1, _⟩ := g
  unfold keyOf
  rw [h1]
  show (Value.isStrOf k (.str k0 tk) = true) ↔ k0 = k
  simp [Value.isStrOf]
theorem good_mem {l : List (Int × Value)} (g : ∀ e ∈ l, GoodE P w e) (k : Str) : k ∈ l.map keyOf ↔ ∃ e ∈ l, (PySem.strKind P w).is k e.2 = true := by
  rw [List.mem_map]
  constructor
  · rintro ⟨e, he, q⟩
    exact ⟨e, he, (good_is (g e he) k).2 q⟩
  · rintro ⟨e, he, q⟩
    exact ⟨e, he, (good_is (g e he) k).1 q⟩
end
section
variable {P : Program} {w : World} {A : Around} {E : Value → Shared → Prop} {s : Shared} {a : Addr} {S : Str → Bool} {n : Nat}
theorem add_tail {g : Bool → Sem Unit} (hg : ∀ (b : Bool) (s₁ : Shared) (Q' : Unit → Shared → Prop), Q' () s₁ → wpAny (model P w) A (g b) Q' E s₁)
    {o : Obj} {es : Array (Int × Value)} {ep : Nat} {t : SetTable} (ho : s.heap.get? a = some o) (hex : o.ExactSet) (hd : o.data = .set es ep t)
    {es1 : Array (Int × Value)} {t2 : SetTable} {S' : Str → Bool} (g1 : ∀ e ∈ es1.toList, GoodE P w e) (nd1 : (es1.toList.map keyOf).Nodup) (m1 : ∀ k, S' k = true ↔ k ∈ es1.toList.map keyOf)
    (hb1 : es1.size < scanBound) (hf2 : t2.fits es1.size = true) (hr : Ris t2.place.toList) (hl : w.params.followText "set-order" = true ∨ t2.led = true) {wasDummy : Bool} {R : Option Bool → Shared → Prop}
    (hR : ∀ h', Heap.SameBut a s.heap h' → SetS P w h' a S' es1.size → R (some true) { s with heap := h' }) :
    wpAny (model P w) A (do
        storeSet a es1 t2
        if (!wasDummy && t2.tooFull) = true then do
            g (relayAll t2 es1 (SetTable.grown es1.size)).2.2
            storeSet a (relayAll t2 es1 (SetTable.grown es1.size)).1 (relayAll t2 es1 (SetTable.grown es1.size)).2.1
            pure (some true)
          else pure (some true)) R E s := by
  refine wpAny_bind (wpAny_storeSet_of ho hd ?_ (fits_of_scanBound hb1))
  have ho1 := store_at (es' := es1) (t' := t2) ho hd
  have sb1 := Heap.SameBut.update s.heap a (Obj.putSet es1 t2)
  split
  · have pm := relayAll_perm t2 es1 (SetTable.grown es1.size)
    have hf3 := relayAll_fits t2 es1 (SetTable.grown es1.size)
    have hr3 := relayAll_ris t2 es1 (SetTable.grown es1.size)
    have hl3 := relayAll_led t2 es1 (SetTable.grown es1.size)
    generalize relayAll t2 es1 (SetTable.grown es1.size) = Z at pm hf3 hr3 hl3 ⊢
    obtain ⟨es2, t3, gave⟩ := Z
    dsimp only at pm hf3 hr3 hl3 ⊢
    have hsz : es2.size = es1.size := by rw [← Array.length_toList, pm.length_eq, Array.length_toList]
    have hb2 : es2.size < scanBound := by rw [hsz]; exact hb1
    refine wpAny_bind (hg _ _ _ ?_)
    refine wpAny_bind (wpAny_storeSet_of ho1 rfl ?_ (fits_of_scanBound hb2))
    have ho2 := store_at (es' := es2) (t' := t3) ho1 rfl
    refine wpAny_pure (hR _ (sb1.trans (Heap.SameBut.update _ a _)) ?_)
    exact ⟨_, es2, _, t3, ho2, hex, rfl, fun e he => g1 e (pm.mem_iff.mp he), (pm.map keyOf).nodup_iff.mpr nd1, fun k => (m1 k).trans (pm.map keyOf).mem_iff.symm, hb2, hf3, hsz, hr3,
      hl.imp id fun z => by rw [hl3]; exact z⟩
  · exact wpAny_pure (hR _ sb1 ⟨_, es1, _, t2, ho1, hex, rfl, g1, nd1, m1, hb1, hf2, rfl, hr, hl⟩)
theorem add_hashed {k : Str} {tk : Tok} {Q : Bool → Shared → Prop} (R : SetS P w s.heap a S n) (room : n + 1 < scanBound)
    (hQ : ∀ h', Heap.SameBut a s.heap h' → SetS P w h' a (fun j => S j || decide (j = k)) (if S k = true then n else n + 1) → Q (!S k) { s with heap := h' }) :
    wpAny (model P w) A (setAddHashed a (.str k tk) ((PySem.strKind P w).hash k)) Q E s := by
  obtain ⟨o, es, ep, t, ho, hex, hd, g, nd, hm, hb, hf, hn, hr, hl⟩ := R
  have hkey : (PySem.strKind P w).is k (.str k tk) = true := strKind_is P w k tk
  have hsc : (Value.str k tk).scannable = true := rfl
  have hel : ElemsOf (PySem.strKind P w) es.toList := good_elems g
  unfold setAddHashed setAddHashedIn
  refine wpAny_holding (wpAny_bind (wpAny_setState_of ho hd hf ?_))
  dsimp only
  rw [byScan_of hsc hb hel]
  simp only [↓reduceIte]
  unfold setAddByScan
  refine wpAny_bind ?_
  refine wpAny_bind (wpAny_rule ?_)
  refine wpAny_bind (wpAny_setScan_of hkey ho hd hf hel ?_)
  cases hfi : List.findIdx? (fun e => (PySem.strKind P w).is k e.2) es.toList with
  | some j =>
    dsimp only
    obtain ⟨hj, pj, _⟩ := List.findIdx?_eq_some_iff_getElem.mp hfi
    have hSk : S k = true := (hm k).2 ((good_mem (P := P) (w := w) g k).2 ⟨es.toList[j], List.getElem_mem hj, pj⟩)
    refine wpAny_pure (wpAny_pure ?_)
    have q := hQ s.heap (Heap.SameBut.refl a s.heap) ⟨o, es, ep, t, ho, hex, hd, g, nd, fun i => by
      rw [Bool.or_eq_true, decide_eq_true_eq, ← hm i]
      exact ⟨fun z => z.elim id (fun e => e ▸ hSk), .inl⟩, hb, hf, by rw [if_pos hSk]; exact hn, hr, hl⟩
    rw [hSk] at q
    exact q
  | none =>
    dsimp only
    have hnk : k ∉ es.toList.map keyOf := fun z => by
      obtain ⟨e, he, q⟩ := (good_mem (P := P) (w := w) g k).1 z
      have c := List.findIdx?_eq_none_iff.mp hfi e he
      rw [q] at c
      cases c
    have hSk : S k = false := by
      cases q : S k with
      | false => rfl
      | true => exact absurd ((hm k).1 q) hnk
    have hgw : ∀ (b : Bool) {s₁ : Shared} {Q' : Unit → Shared → Prop}, Q' () s₁ → wpAny (model P w) A (match b with | true => rule "set.scan.the-table-gave-way" | false => pure ()) Q' E s₁ :=
      fun b s₁ Q' q => by cases b <;> first | exact wpAny_pure q | exact wpAny_rule q
    have pm := layNew_perm t es ((PySem.strKind P w).hash k) (.str k tk)
    have hf1 := layNew_fits t es ((PySem.strKind P w).hash k) (.str k tk)
    have hr1 := layNew_ris t es ((PySem.strKind P w).hash k) (.str k tk) hr
    have hl1 := layNew_led t es ((PySem.strKind P w).hash k) (.str k tk)
    generalize layNew t es ((PySem.strKind P w).hash k) (.str k tk) = Z at pm hf1 hr1 hl1 ⊢
    obtain ⟨es1, t1, wasDummy, gave⟩ := Z
    dsimp only at pm hf1 hr1 hl1 ⊢
    rw [Array.toList_push] at pm
    have pc : es1.toList.Perm (((PySem.strKind P w).hash k, Value.str k tk) :: es.toList) := pm.trans (List.perm_append_singleton _ _)
    have pk : (es1.toList.map keyOf).Perm (k :: es.toList.map keyOf) := pc.map keyOf
    have g1 : ∀ e ∈ es1.toList, GoodE P w e := fun e he => by
      rcases List.mem_cons.mp (pc.mem_iff.mp he) with z | z
      · rw [z]; exact ⟨k, tk, rfl, rfl⟩
      · exact g e z
    have nd1 : (es1.toList.map keyOf).Nodup := pk.nodup_iff.mpr (List.nodup_cons.mpr ⟨hnk, nd⟩)
    have m1 : ∀ i, (S i || decide (i = k)) = true ↔ i ∈ es1.toList.map keyOf := fun i => by
      rw [Bool.or_eq_true, decide_eq_true_eq, hm i, pk.mem_iff, List.mem_cons]
      exact Or.comm
    have hsz : es1.size = n + 1 := by rw [← Array.length_toList, pc.length_eq, List.length_cons, Array.length_toList, hn]
    have hb1 : es1.size < scanBound := by rw [hsz]; exact room
    have hled : w.params.followText "set-order" = true ∨ t1.led = true := hl.imp id fun z => by rw [hl1]; exact z
    have fin : ∀ h', Heap.SameBut a s.heap h' → SetS P w h' a (fun j => S j || decide (j = k)) es1.size → Q true { s with heap := h' } := fun h' sb r => by
      have q := hQ h' sb
      rw [hSk] at q
      rw [hsz] at r
      exact q r
    refine wpAny_bind (hgw _ ?_)
    split
    · refine wpAny_bind ?_
      rw [hashByValue_scannable 8 hsc]
      refine wpAny_pure ?_
      refine add_tail ?_ ho hex hd g1 nd1 m1 hb1 ?_ ?_ ?_ ?_
      · intro b s₁ Q' q; cases b <;> first | exact wpAny_pure q | exact wpAny_rule q
      · first | (split <;> first | exact hf1 | exact SetTable.fits_plain_off hf1) | exact hf1
      · first | (split <;> exact hr1) | exact hr1
      · first | (split <;> exact hled) | exact hled
      · intro h' sb r; dsimp only; exact wpAny_pure (fin h' sb r)
    · refine wpAny_bind (wpAny_pure ?_)
      simp only [↓reduceIte]
      refine add_tail ?_ ho hex hd g1 nd1 m1 hb1 hf1 hr1 hled ?_
      · intro b s₁ Q' q; cases b <;> first | exact wpAny_pure q | exact wpAny_rule q
      · intro h' sb r; dsimp only; exact wpAny_pure (fin h' sb r)
end
section
variable {prog : Program} {w : World} {A : Around} {R : Result → Shared → Prop} {I : Addr} {fp wr : List Addr} {G : Array GenState → Array GenState → Prop} {n : Nat} {P : Nat → Value → Prop} {St : Nat → Shared → Prop}
/-- the loop of set.update over m turns still to come -/
theorem upd_loop (W : WalksS prog w A.in1 I fp wr G n P St) (S : Addr) (nS : S ∉ fp) (xs : List Str) (len : xs.length = n) (few : n + 1 < scanBound) (val : ∀ i v, P i v → ∃ t, v = .str (xs.getD i Str.empty) t)
    (m : Nat) : ∀ (i : Nat) (s : Shared), i + m = n → St i s → SetS prog w s.heap S (Gs.mem xs i) (Gs.dst xs i) →
      (∀ s', Moved (S :: wr) G s s' → SetS prog w s'.heap S (Gs.mem xs n) (Gs.dst xs n) → R (.ok (.ret .none)) s') → codeAny (model prog w) A (.builtin "set.update.loop" ⟨[.ref S, .ref I], []⟩) R s := by
  have nW : S ∉ wr := fun z => nS (W.sub S z)
  have more : ∀ b, b ∈ wr → b ∈ S :: wr := fun b z => .tail _ z
  induction m with
  | zero =>
    intro i s e st hS fin
    obtain rfl : i = n := e
    refine codeAny_builtin F.entry_set_update_loop (by
      rw [Around.under_plainId F.plain_set_update_loop]
      exact wpAny_bind (W.done s _ _ st fun s2 mv => wpAny_pure (fin s2 (mv.mono more) (hS.at fun o q => mv.heap S o nW q))))
  | succ m ih =>
    intro i s e st hS fin
    have lt : i < n := by omega
    refine codeAny_builtin F.entry_set_update_loop (by
      rw [Around.under_plainId F.plain_set_update_loop]
      refine wpAny_bind (W.item i s _ _ lt st fun v s2 pv st2 mv => ?_)
      obtain ⟨t, rfl⟩ := val i v pv
      have hS2 := hS.at (h' := s2.heap) fun o q => mv.heap S o nW q
      have le := Gs.dst_le xs i
      refine wpAny_bind (wpAny_holding (wpAny_holding (wpAny_bind ((PySem.strKind prog w).pyHash (k := xs.getD i Str.empty) (strKind_is _ _ _ _) ?_))))
      refine add_hashed (s := { s2 with toks := s2.toks + 1 }) hS2 (by omega) fun h3 sb hS3 => ?_
      have nx : SetS prog w h3 S (Gs.mem xs (i + 1)) (Gs.dst xs (i + 1)) := by
        have lx : i < xs.length := by omega
        refine SetS.congr hS3 (fun k => ?_)
        have tk : xs.take (i + 1) = xs.take i ++ [xs[i]] := by
          rw [List.take_add_one, List.getElem?_eq_getElem lx]
          rfl
        unfold Gs.mem
        rw [Gs.getD_at lx, tk]
        rw [Bool.eq_iff_iff]
        simp only [Bool.or_eq_true, decide_eq_true_eq, List.mem_append, List.mem_singleton]
      refine wpAny_pure ⟨plainId_quiet F.plain_set_update_loop _, ih (i + 1) _ (by omega) (W.frame _ s2 _ _ st2 (Nat.le_succ _) fun b hb o q => ?_) nx fun s4 mv4 hS4 => fin s4 (Moved.trans W.gtrans ((mv.mono more).then_heap (Nat.le_succ _) fun b o nb q => ?_) mv4) hS4⟩
      · exact (sb.2 b (fun z => nS (z ▸ hb))).trans q
      · exact (sb.2 b (fun z => nb (z ▸ List.mem_cons_self))).trans q)
end
section
variable {prog : Program} {w : World} {A : Around} {E : Value → Shared → Prop} {s : Shared}
abbrev bareW (w : World) : Obj := { cls := .type "set", dict := none, data := .set #[] 0 (.fresh 0 0 (!w.params.followText "set-order")) }
theorem fresh_at {h : Heap} {a : Addr} (w : World) (ho : h.get? a = some (bareW w)) : SetS prog w h a (fun _ => false) 0 :=
  ⟨_, #[], 0, _, ho, ⟨rfl, rfl, rfl⟩, rfl, (fun e he => by simp at he), (by simp), (fun k => by simp), (by decide), (by rfl), rfl, List.Pairwise.nil, by
    show _ ∨ (!w.params.followText "set-order") = true
    cases w.params.followText "set-order"
    · exact .inr rfl
    · exact .inl rfl⟩
theorem code_new1 (a : Value) {Q₁ : Value → Shared → Prop}
    (h : Q₁ (.ref s.heap.objs.size) { s with heap := s.heap.push (bareW w) }) :
    codeAny (model prog w) A (.call (.builtin "set.__new__") ⟨[.type "set", a], []⟩) (wants Q₁ E) s := by
  refine codeAny_of_tree ?_
  show wpAny _ A.in1 (do checkBuiltinCall "set.__new__" ⟨[.type "set", a], []⟩; again (.builtin "set.__new__" ⟨[.type "set", a], []⟩)) _ _ s
  refine wpAny_bind (wpAny_of_eq (F.newCall_set_1 a) (wpAny_pure ⟨plainId_quiet F.plain_set_new _, codeAny_builtin F.entry_set_new ?_⟩))
  rw [Around.under_plainId F.plain_set_new _]
  unfold Builtin.«set.__new__» Builtin.Frozenset.newClass
  have hsub := sub_set_self
  obtain ⟨hp, g, d, tk, os⟩ := s
  dsimp only
  wp_walk
  refine wpAny_askSetting (wpAny_pure ?_)
  dsimp only
  simp only [newObj]
  refine wpAny_bind (wpAny_alloc (wpAny_pure ?_))
  exact wpAny_pure h
theorem set_init {T : String} {l : Addr} {n : Nat} {Pv : Nat → Value → Prop} {St : Addr → Nat → Heap → Prop} {xs : List Str} {hp : Heap} {g : Array GenState} {d : Drawn} {tk : Nat} {os : OsState} (hh : A.handled = none) (r : Gs.Row prog w T l n Pv hp St)
    (len : xs.length = n) (few : n + 1 < scanBound) (val : ∀ i v, Pv i v → ∃ t, v = .str (xs.getD i Str.empty) t) :
    codeAny (model prog w) A (.call (.builtin "set.__init__") ⟨[.ref hp.objs.size, .ref l], []⟩)
      (wants (fun v s2 => v = .none ∧ ∃ h2 t2, s2 = ⟨h2, g, d, t2, os⟩ ∧ SetS prog w h2 hp.objs.size (Gs.mem xs n) (Gs.dst xs n) ∧ ∀ b o, hp.get? b = some o → h2.get? b = some o) E) ⟨hp.push (bareW w), g, d, tk, os⟩ := by
  have oS : (hp.push (bareW w)).get? hp.objs.size = some (bareW w) := Heap.get?_push_size _ rfl
  have tS : Shared.TypeIs ⟨hp.push (bareW w), g, d, tk, os⟩ (.ref hp.objs.size) "set" := ⟨_, oS, rfl⟩
  refine codeAny_call_builtin PySem.F.called_set.init.plain PySem.F.entry_set_init (check_set_init_1 tS ?_)
  obtain ⟨dd, dt, sl, ol⟩ := r.at_
  have ol2 : (hp.push (bareW w)).get? l = some { cls := .type T, dict := dd, data := dt, slots := sl } := Heap.get?_push_of_some _ ol
  have q1 := r.s1
  have q2 := r.s2
  have q3 := r.nd
  unfold Builtin.«set.__init__» noKeywords Builtin.Frozenset.updateFrom
  generalize hI : pyIter = PI
  wp_walk
  subst hI
  have lt : l < hp.objs.size := Heap.lt_size ol
  refine r.iter _ _ _ _ (fun o q => Heap.get?_push_of_some _ q) fun o st => ?_
  have z1 : (hp.push (bareW w)).objs.size = hp.objs.size + 1 := Heap.size_push ..
  have z2 : ∀ b u, hp.get? b = some u → ((hp.push (bareW w)).push o).get? b = some u := fun b u q => Heap.get?_push_of_some _ (Heap.get?_push_of_some _ q)
  refine wpAny_bind (wpAny_runValue ?_)
  have W := (r.walk A.in1.in1 (hp.push (bareW w)).objs.size (by simp [hh]) (by rw [z1]; exact Nat.ne_of_lt (Nat.lt_succ_of_lt lt))).toS
  refine upd_loop W hp.objs.size (Gs.off2 (by rw [z1]; exact Nat.lt_succ_self _) lt) xs len few val n 0 ⟨(hp.push (bareW w)).push o, g, d, tk, os⟩ (by omega) st ?_ fun s3 mv hS => ?_
  · exact SetS.congr (fresh_at w (Heap.get?_push_of_some _ oS)) (fun k => by simp [Gs.mem])
  · obtain ⟨h3, g3, d3, t3, os3⟩ := s3
    obtain rfl : g3 = g := mv.gens
    obtain rfl : d3 = d := mv.drawn
    obtain rfl : os3 = os := mv.os
    refine wpAny_pure (wpAny_pure ⟨rfl, h3, t3, rfl, hS, fun b u q => mv.heap b u ?_ (z2 b u q)⟩)
    have lb : b < hp.objs.size := Heap.lt_size q
    exact Gs.off2' lb (by rw [z1]; exact Nat.lt_succ_self _)
/-- set(x) of such a row -/
theorem set_call {T : String} {l : Addr} {n : Nat} {Pv : Nat → Value → Prop} {St : Addr → Nat → Heap → Prop} {xs : List Str} {Q : Value → Shared → Prop} (hh : A.handled = none) (r : Gs.Row prog w T l n Pv s.heap St)
    (len : xs.length = n) (few : n + 1 < scanBound) (val : ∀ i v, Pv i v → ∃ t, v = .str (xs.getD i Str.empty) t)
    (q : ∀ h2 t2, SetS prog w h2 s.heap.objs.size (Gs.mem xs n) (Gs.dst xs n) → (∀ b o, s.heap.get? b = some o → h2.get? b = some o) → Q (.ref s.heap.objs.size) { s with heap := h2, toks := t2 }) :
    wpAny (model prog w) A (call (.type "set") [.ref l]) Q E s := by
  obtain ⟨hp, g, d, tk, os⟩ := s
  obtain ⟨c, tl, m1⟩ := PySem.F.called_set.mro
  have m2 := PySem.F.called_set.made
  have m3 := PySem.F.called_set.sub
  have m4 := PySem.F.called_set.notType
  have m5 := PySem.F.called_set.canCreate
  have m6 := PySem.F.typeCall_set_1 (.ref l)
  refine wpAny_call (codeAny_of_tree (wpAny_pure ⟨Code.quiet_builtin _ (by decide +kernel), codeAny_builtin PySem.F.entry_type_call ?_⟩))
  rw [Around.under_plain (weight_type_call_type "set" [.ref l] []) rfl]
  repeat (any_goals (first | assumption | wp_step))
  refine codeAny_mono (code_new1 (.ref l) (E := E) (Q₁ := fun v s2 => v = .ref hp.objs.size ∧ s2 = ⟨hp.push (bareW w), g, d, tk, os⟩) ⟨rfl, rfl⟩) fun a s2 h2 => ?_
  match a, h2 with
  | .error e, h2 => exact h2
  | .ok .next, h2 => exact h2.elim
  | .ok .brk, h2 => exact h2.elim
  | .ok .cont, h2 => exact h2.elim
  | .ok (.ret v), h2 =>
    obtain ⟨rfl, rfl⟩ := h2
    have m7 := PySem.F.called_set.init.lookup
    have m8 := PySem.F.called_set.init.bind (.ref hp.objs.size)
    have oS : (hp.push (bareW w)).get? hp.objs.size = some (bareW w) := Heap.get?_push_size _ rfl
    have tS : Shared.TypeIs ⟨hp.push (bareW w), g, d, tk, os⟩ (.ref hp.objs.size) "set" := ⟨_, oS, rfl⟩
    repeat (any_goals (first | assumption | wp_step))
    refine codeAny_mono (set_init (E := E) ?_ r len few val) fun b s3 h3 => ?_
    · simp [hh]
    · match b, h3 with
      | .error e, h3 => exact h3
      | .ok .next, h3 => exact h3.elim
      | .ok .brk, h3 => exact h3.elim
      | .ok .cont, h3 => exact h3.elim
      | .ok (.ret v), h3 =>
        obtain ⟨rfl, h4, t4, rfl, hS, keep⟩ := h3
        repeat (any_goals (first | assumption | wp_step))
        exact q h4 t4 hS keep
theorem strs_of : ∀ (l : List Value), (∀ v ∈ l, ∃ k tk, v = Value.str k tk) → StrsAre l (l.map fun v => keyOf (0, v))
  | [], _ => .nil
  | v :: r, h => by
    obtain ⟨k, tk, rfl⟩ := h v (List.mem_cons_self ..)
    exact .cons k tk (strs_of r fun x hx => h x (List.mem_cons_of_mem _ hx))
/-- sorted(s) of a set of texts -/
theorem sorted_set {a : Addr} {S : Str → Bool} {n : Nat} {Q : Value → Shared → Prop} (R : SetS prog w s.heap a S n) (hh : A.handled = none) (h64 : n < 64)
    (hQ : ∀ s' p (out : Array Value) (c : Nat) (ys : List Str), (∀ b o, s.heap.get? b = some o → s'.heap.get? b = some o) → s'.gens = s.gens → s'.os = s.os → s.heap.objs.size ≤ p →
      s'.heap.get? p = some (seqObj "list" out c) → StrsAre out.toList ys → sortedS ys = true → ys.Nodup → (∀ k, k ∈ ys ↔ S k = true) → Q (.ref p) s') :
    wpAny (model prog w) A (call (.builtin "sorted") [.ref a]) Q E s := by
  obtain ⟨o, es, ep, t, ho, hex, hd, g, nd, hm, hb, hf, hn, hr, hl⟩ := R
  refine Calls.call_function_entry kind_sorted plain_sorted entry_sorted (args_sorted1 _) ?_
  unfold Builtin.«sorted»
  refine wpAny_bind (m := checkCount "sorted" 1 1 _) (wpAny_pure ?_)
  refine wpAny_bind (collect_set (A := A.in1) hh ⟨o, ho, hex.1, hd⟩ hf hb hr hl fun s1 vs k1 hz g1 o1 pm => ?_)
  have hvl : vs.length = n := by rw [pm.length_eq, List.length_map, Array.length_toList]; exact hn
  have hI : StrsAre vs (vs.map fun v => keyOf (0, v)) := strs_of vs fun v hv => by
    obtain ⟨e, he, q⟩ := List.mem_map.mp (pm.mem_iff.mp hv)
    obtain ⟨k, tk, h1, _⟩ := g e he
    exact ⟨k, tk, by rw [← q]; exact h1⟩
  have pk : (vs.map fun v => keyOf (0, v)).Perm (es.toList.map keyOf) := by
    have q := pm.map fun v => keyOf (0, v)
    rw [List.map_map] at q
    exact q
  refine wpAny_bind (wpAny_newList ?_ (by rw [hvl, sizeLine_eq]; omega))
  have hoL : (s1.heap.push (seqObj "list" vs.toArray 0)).get? s1.heap.objs.size = some (seqObj "list" vs.toArray 0) := Heap.get?_push_size _ rfl
  refine wpAny_bind (wpAny_holding (wpAny_call_entry slot_list_sort ⟨_, hoL, rfl⟩ entry_list_sort (list_sort_treeKAny strKind_oneLt hoL hI.keysOf (fun v₁ v₂ rest e => keyKind_strs (by rw [← e]; exact hI)) (by rw [hvl, sizeLine_eq]; omega) fun st' a1 a2 => ⟨_, rfl, ?_⟩) (args_list_sort _)))
  obtain ⟨ys, b1, b2, b3⟩ := sorted_out_str hI a1 a2
  obtain ⟨c, hc⟩ := sortedHeap_at (vs := vs) (out := (arrOf st').map (·.2)) hoL
  have pn : ys.Perm (es.toList.map keyOf) := b2.trans pk
  refine wpAny_pure ⟨_, rfl, hQ _ s1.heap.objs.size _ c ys (fun b u e => ?_) g1 o1 hz hc b1 b3 (pn.nodup_iff.mpr nd) (fun k => by rw [pn.mem_iff, ← hm k])⟩
  have q := k1 b u e
  have hlt := Heap.lt_size q
  show (sortedHeap (s1.heap.push (seqObj "list" vs.toArray 0)) s1.heap.objs.size vs _).get? b = some u
  rw [sortedHeap_old (Nat.ne_of_lt hlt) (by rw [size_push']; exact Nat.lt_succ_of_lt hlt)]
  exact Heap.get?_push_of_some _ q
end
end Gt

set_option Elab.async false
set_option linter.all false
set_option maxRecDepth 100000
set_option maxHeartbeats 4000000
namespace L2
open PySem PySem.Spec PyProof.Rows
/-! ### sorted texts -/
def leT (a b : Str) : Prop := ¬ (TL.tl b < TL.tl a)
theorem leT_trans {a b c : Str} (h1 : leT a b) (h2 : leT b c) : leT a c := by
  unfold leT at *
  exact List.not_lt.mpr (List.le_trans (List.not_lt.mp h1) (List.not_lt.mp h2))
theorem leT_anti {a b : Str} (h1 : leT a b) (h2 : leT b a) : a = b := TL.ext_tl (List.le_antisymm (List.not_lt.mp h1) (List.not_lt.mp h2))
theorem rising_pw : ∀ (p : Str) (l : List Str), risingS p l = true → (p :: l).Pairwise leT
  | p, [], _ => by simp
  | p, x :: r, h => by
    have h' : (!ltCps x.cps.toList p.cps.toList && risingS x r) = true := h
    rw [Bool.and_eq_true] at h'
    obtain ⟨h1, h2⟩ := h'
    have ih := rising_pw x r h2
    have px : leT p x := by
      rw [ltCps_eq] at h1
      unfold leT TL.tl
      simpa using h1
    refine List.pairwise_cons.mpr ⟨fun y hy => ?_, ih⟩
    rcases List.mem_cons.mp hy with rfl | hy
    · exact px
    · exact leT_trans px ((List.pairwise_cons.mp ih).1 y hy)
theorem sorted_pw : ∀ {l : List Str}, sortedS l = true → l.Pairwise leT
  | [], _ => List.Pairwise.nil
  | x :: r, h => rising_pw x r h
theorem sorted_one {l m : List Str} (hl : sortedS l = true) (hm : sortedS m = true) (p : l.Perm m) : l = m := p.eq_of_pairwise (fun a b _ _ h1 h2 => leT_anti h1 h2) (sorted_pw hl) (sorted_pw hm)
/-- sorted(set(xs)) == sorted(xs) -/
theorem set_sorted {xs ys zs : List Str} (h1 : sortedS ys = true) (n1 : ys.Nodup) (m1 : ∀ k, k ∈ ys ↔ k ∈ xs) (h2 : sortedS zs = true) (p2 : zs.Perm xs) : decide (ys = zs) = decide xs.Nodup := by
  refine decide_eq_decide.mpr ⟨fun e => ?_, fun hn => ?_⟩
  · subst e
    exact p2.nodup_iff.mp n1
  · refine sorted_one h1 h2 ?_
    refine (List.perm_ext_iff_of_nodup n1 (p2.nodup_iff.mpr hn)).mpr fun k => ?_
    rw [m1 k, p2.mem_iff]
section
variable {prog : Program} {w : World} {A : Around} {E : Value → Shared → Prop} {s : Shared}
theorem collect_tup {l : Addr} {vs : List Value} {Q : List Value → Shared → Prop} (hl : s.heap.IsTuple l vs.toArray)
    (h : Q vs { s with heap := (s.heap.push (seqObj "list" #[] 0)).update s.heap.objs.size (Obj.mapSeq (· ++ vs.toArray)) }) (hsz : vs.length ≤ sizeLine) :
    wpAny (model prog w) A (collect (.ref l)) Q E s := by
  obtain ⟨o, ho, hc, n, hd⟩ := id hl
  unfold collect
  refine wpAny_bind (wpAny_runValue (codeAny_builtin entry_proto_collect' ?_))
  show wpAny _ _ (do again (.builtin "list.__iadd__" ⟨[← newList [], .ref l], []⟩)) _ _ s
  refine wpAny_bind (wpAny_newList (wpAny_pure ⟨Code.quiet_builtin _ (by decide +kernel), codeAny_builtin entry_list_iadd' ?_⟩))
  show wpAny _ _ (Builtin.List.listExtendWith (.ref s.heap.objs.size) (.ref l) (.ref s.heap.objs.size)) _ _ { s with heap := s.heap.push (seqObj "list" #[] 0) }
  unfold Builtin.List.listExtendWith
  have ho' : (s.heap.push (seqObj "list" #[] 0)).get? l = some o := Heap.get?_push_of_some _ ho
  refine wpAny_bind (wpAny_typeOf (T := "tuple") ⟨o, ho', hc⟩ ?_)
  have ht : (Value.type "tuple" == Value.type "tuple") = true := by rfl
  rw [if_pos (by rw [ht]; simp)]
  refine wpAny_bind (listItems_at ho' hd ?_)
  refine wpAny_bind (listItems_at (xs := #[]) (n := 0) (Heap.get?_push_size _ rfl) rfl ?_)
  rw [if_neg (by simp)]
  refine wpAny_bind (listUpdate_at (xs := #[]) (n := 0) (Heap.get?_push_size _ rfl) rfl ?_ (Nat.zero_le _) (by show (#[] ++ vs.toArray).size ≤ sizeLine + 1; simp only [Array.size_append, List.size_toArray, List.length_nil]; omega))
  refine wpAny_pure ?_
  show wpAny (model prog w) A (do
      let o ← load s.heap.objs.size
      match o.data with
      | .seq xs _ => pure xs.toList
      | _ => unsupported "internal:collect") Q E { s with heap := (s.heap.push (seqObj "list" #[] 0)).update s.heap.objs.size (Obj.mapSeq (· ++ vs.toArray)) }
  refine wpAny_bind (wpAny_load (get?_update_seq (Heap.get?_push_size _ rfl) _) ?_)
  show wpAny _ _ (pure ((#[] : Array Value) ++ vs.toArray).toList) Q E _
  rw [show ((#[] : Array Value) ++ vs.toArray).toList = vs by simp]
  exact wpAny_pure h
theorem sorted_strsT {l : Addr} {vs : List Value} {ss : List Str} {Q : Value → Shared → Prop} (hl : s.heap.IsTuple l vs.toArray) (hS : StrsAre vs ss) (hL : vs.length ≤ sizeLine)
    (h : ∀ (out : Array Value) (ss' : List Str), StrsAre out.toList ss' → ss'.Perm ss → sortedS ss' = true → Q (.ref (s.heap.objs.size + 1)) { s with heap := sortedAll s.heap vs out }) :
    wpAny (model prog w) A (call (.builtin "sorted") [.ref l]) Q E s := by
  refine Calls.call_function_entry kind_sorted plain_sorted entry_sorted (args_sorted1 _) ?_
  unfold Builtin.«sorted»
  refine wpAny_bind (m := checkCount "sorted" 1 1 _) (wpAny_pure ?_)
  refine wpAny_bind (collect_tup hl ?_ hL)
  refine wpAny_bind (wpAny_newList ?_ hL)
  have hsz : ((s.heap.push (seqObj "list" #[] 0)).update s.heap.objs.size (Obj.mapSeq (· ++ vs.toArray))).objs.size = s.heap.objs.size + 1 := by
    rw [Heap.size_update, size_push']
  have hoL : (((s.heap.push (seqObj "list" #[] 0)).update s.heap.objs.size (Obj.mapSeq (· ++ vs.toArray))).push (seqObj "list" vs.toArray 0)).get? (s.heap.objs.size + 1) = some (seqObj "list" vs.toArray 0) := by
    rw [← hsz]; exact Heap.get?_push_size _ rfl
  show wpAny _ _ _ _ _ { s with heap := ((s.heap.push (seqObj "list" #[] 0)).update s.heap.objs.size (Obj.mapSeq (· ++ vs.toArray))).push (seqObj "list" vs.toArray 0) }
  rw [hsz]
  refine wpAny_bind (wpAny_holding (wpAny_call_entry slot_list_sort ⟨_, hoL, rfl⟩ entry_list_sort (list_sort_treeKAny strKind_oneLt hoL hS.keysOf (fun v₁ v₂ rest e => keyKind_strs (by rw [← e]; exact hS)) hL fun st' a1 a2 => ⟨_, rfl, ?_⟩) (args_list_sort _)))
  obtain ⟨ys, b1, b2, b3⟩ := sorted_out_str hS a1 a2
  exact wpAny_pure ⟨_, rfl, h _ ys b1 b2 b3⟩
end
section
variable {X : Cx}
/-- sorted(t), a tuple of texts -/
def rSortTS (K : PySem.W.Frag) : List V → Hp → VK → Prop := fun vs H Q => ∃ (a : Addr) (xs : List Str), vs = [V.ref a] ∧ SqT K H a (xs.map V.str) ∧
  ∀ (ys : List Str) (p : Addr), ys.Perm xs → sortedS ys = true → H p = none → Q (.ref p) (upd H p (.lst (ys.map V.str)))
theorem cr_sortTS : CallR X (.builtin "sorted") (rSortTS X.K) := by
  intro pins s σ H vs us Q I r h
  obtain ⟨a, xs, rfl, hs, q⟩ := h
  obtain ⟨its, rv, hl, hz⟩ := I.tuple hs
  rw [Vals.ref1 r]
  have hlen0 := rv.length
  refine sorted_strsT hl rv.strs (by rw [← hlen0]; exact hz) fun out ys h1 h2 h3 => ?_
  obtain ⟨ep, he'⟩ := PyProof.Rows.sortedAll_at s.heap its out
  have hlen : (ys.map V.str).length ≤ sizeLine := by
    rw [List.length_map, h2.length_eq]
    rw [List.length_map] at hz
    exact hz
  exact ⟨.ref _, upd H (s.heap.objs.size + 1) (.lst (ys.map V.str)), I.laid (t' := s.toks) (fun _ _ => PyProof.Rows.sortedAll_old) (Nat.le_succ _) ⟨hlen, out.toList, ep, vals_of_strs h1, he'⟩, rfl, q ys _ h2 h3 (I.hok.fresh (Nat.le_succ _))⟩
/-- sorted(set(xs)), xs a list or a tuple of texts -/
def tSortSet (K : PySem.W.Frag) (ta : TE) : TE := fun σ H Q => ta σ H fun x H1 => ∃ (l : Addr) (xs : List Str), x = .ref l ∧ (SqL K H1 l (xs.map V.str) ∨ SqT K H1 l (xs.map V.str)) ∧ xs.length < 60 ∧
  ∀ (ys : List Str) (p : Addr), sortedS ys = true → ys.Nodup → (∀ k, k ∈ ys ↔ k ∈ xs) → H1 p = none → Q (.ref p) (upd H1 p (.lst (ys.map V.str)))
theorem pe_sortSet {a : Expr} {ta : TE} {p p2 q pos : Pos} (hc : X.calm = true) (hg : Gl X "sorted") (hm : X.mg "sorted" = none) (hg2 : Gl X "set") (hm2 : X.mg "set" = none) (ha : PE X a ta)
    (na : starEach [a] X.env = (false, eval a X.env) :: starEach [] X.env := by rfl) : PE X (.Call (.Name "sorted" p) [.Call (.Name "set" p2) [a] [] q] [] pos) (tSortSet X.K ta) := by
  refine ⟨fun pins s σ H Q I h => ?_⟩
  refine Call_ (ld_blt I hg hm (show bootBuiltins "sorted" = some (.builtin "sorted") from by decide +kernel) (PyProof.Rows.callWith_builtin1 (PyProof.Rows.args_cons ?_ rfl) rfl rfl))
  refine Call_ (ld_blt I hg2 hm2 boot_set (PyProof.Rows.callWith_type1 (PyProof.Rows.args_cons (thn (ha.run pins s σ H _ I h) fun v s1 hv => PyProof.Rows.args_nil ?_) na) na rfl))
  obtain ⟨x, H1, I1, r1, l, xs, rfl, hq, h1, q1⟩ := hv
  cases r1
  have sb : (61 : Nat) < scanBound := by unfold scanBound; decide
  have back : ∀ (h2 : Heap) (t2 : Nat), Gt.SetS X.prog X.w h2 s1.heap.objs.size (Gs.mem xs xs.length) (Gs.dst xs xs.length) → (∀ b o, s1.heap.get? b = some o → h2.get? b = some o) →
      wpAny (model X.prog X.w) X.A (spliced (backTo pos (starEach [] X.env))) (fun vs s2 => wpAny (model X.prog X.w) X.A (call (.builtin "sorted") (Value.ref s1.heap.objs.size :: vs)) (EP X pins σ Q) X.xe s2) X.xe { s1 with heap := h2, toks := t2 } := fun h2 t2 hS keep => by
    refine PyProof.Rows.args_nil ?_
    have le := Gs.dst_le xs xs.length
    have I2 : Inv X pins σ H1 { s1 with heap := h2, toks := t2 } := I1.kept keep
    refine Gt.sorted_set hS (I1.ok.hd hc) (by omega) fun s' p out c ys k2 g2 o2 hz hp hI hs hn hmem => ?_
    have hsz : s1.heap.objs.size ≤ h2.objs.size := by
      obtain ⟨o, es, ep, t, ho, _⟩ := hS
      exact Nat.le_of_lt (Heap.lt_size ho)
    have fr : H1 p = none := I2.hok.fresh hz
    have hlen : (ys.map V.str).length ≤ sizeLine := by
      rw [List.length_map]
      have sub := nodup_sub_len ys xs hn fun k hk => (hmem k).mp hk |> fun z => by
        unfold Gs.mem at z
        have z := of_decide_eq_true z
        exact List.mem_of_mem_take z
      rw [sizeLine_eq]
      omega
    have J : Inv X pins σ (upd H1 p (.lst (ys.map V.str))) { { s1 with heap := h2, toks := t2 } with heap := s'.heap, gens := s'.gens, drawn := s'.drawn, toks := s'.toks } :=
      I2.call (ch := []) (Un.laid k2 hz fr) (I2.hok.laid k2 hz ⟨hlen, out.toList, c, vals_of_strs hI, hp⟩) (by rw [g2]; exact I2.bare) (fun _ z => nomatch z)
    have e : s' = { { s1 with heap := h2, toks := t2 } with heap := s'.heap, gens := s'.gens, drawn := s'.drawn, toks := s'.toks } := by
      cases s'
      cases s1
      cases o2
      rfl
    rw [e]
    refine ⟨.ref p, _, J, rfl, q1 ys p hs hn (fun k => ?_) fr⟩
    rw [hmem k]
    unfold Gs.mem
    rw [decide_eq_true_eq, List.take_length]
  have at_ : ∀ {its : List Value}, Vals (xs.map V.str) its → ∀ (i : Nat) (v : Value), its.toArray[i]? = some v → ∃ t, v = .str (xs.getD i Str.empty) t := fun {its} r i v hv => by
    have hv2 : its[i]? = some v := by simpa using hv
    have lx : i < xs.length := by
      obtain ⟨h3, _⟩ := List.getElem?_eq_some_iff.mp hv2
      have := r.length
      rw [List.length_map] at this
      omega
    obtain ⟨u, hu, ru⟩ := r.get (i := i) (x := .str xs[i]) (by rw [List.getElem?_map, List.getElem?_eq_getElem lx]; rfl)
    rw [hv2] at hu
    obtain rfl := Option.some.inj hu
    rw [Gs.getD_at lx]
    exact ru
  rcases hq with hq | hq
  · obtain ⟨its, r, pl, hz⟩ := I1.list hq
    have hl : xs.length = its.toArray.size := by rw [List.size_toArray, ← r.length, List.length_map]
    refine Gt.set_call (I1.ok.hd hc) (Gs.row_list pl.isList) hl (by omega) (at_ r) fun h2 t2 hS keep => back h2 t2 (by rw [hl]; exact hS) keep
  · obtain ⟨its, r, pl, hz⟩ := I1.tuple hq
    have hl : xs.length = its.toArray.size := by rw [List.size_toArray, ← r.length, List.length_map]
    refine Gt.set_call (I1.ok.hd hc) (Gs.row_tuple pl) hl (by omega) (at_ r) fun h2 t2 hS keep => back h2 t2 (by rw [hl]; exact hS) keep
theorem call_repr_bl : CallR X (.builtin "repr") (fun xs H Q => ∃ b : Bool, xs = [.bl b] ∧ Q (.str (if b then "True" else "False")) H) := by
  intro pins s σ H xs us Q I r h
  obtain ⟨b, rfl, q⟩ := h
  obtain ⟨u, rfl, r1⟩ := vals1 r
  cases r1
  exact PySem.P.repr_of_bool ⟨.str _, H, I.tok _, ⟨_, rfl⟩, q⟩
/-- != of lists, where one of them is empty -/
def rNeE (K : PySem.W.Frag) : R2 := fun x y H Q => ∃ (a b : Addr) (xs : List V), x = .ref a ∧ y = .ref b ∧ SqL K H a xs ∧ SqL K H b [] ∧ Q (.bl (!xs.isEmpty)) H
theorem op_neE (hu : X.A.units + 64 < cLine) : OpR X (compareOp .NotEq) (rNeE X.K) := by
  intro pins s σ H x y v u Q I rx ry h
  obtain ⟨a, b, xs, rfl, rfl, ha, hb, q⟩ := h
  cases xs with
  | nil => exact op_neD hu pins s σ H _ _ v u Q I rx ry ⟨.list [], .list [], .lst ha .nil, .lst hb .nil, rfl, rfl, q⟩
  | cons z r =>
    cases rx
    cases ry
    obtain ⟨its, r1, pl, hz⟩ := I.list ha
    obtain ⟨its2, r2, pl2, hz2⟩ := I.list hb
    have e1 := r1.length
    have e2 := r2.length
    refine PySem.SeqAt.RcNeAt.lists_lengths pl.isList pl2.isList ?_ (by omega) X.prog X.w X.xe _ ⟨.bl _, H, I, rfl, q⟩
    have e3 : its.length = r.length + 1 := e1.symm
    have e4 : its2.length = 0 := e2.symm
    simp [e3, e4]
/-- == of lists, where one of them is empty -/
def rEqE (K : PySem.W.Frag) : R2 := fun x y H Q => ∃ (a b : Addr) (xs : List V), x = .ref a ∧ y = .ref b ∧ SqL K H a xs ∧ SqL K H b [] ∧ Q (.bl xs.isEmpty) H
theorem op_eqE (hu : X.A.units + 64 < cLine) : OpR X (compareOp .Eq) (rEqE X.K) := by
  intro pins s σ H x y v u Q I rx ry h
  obtain ⟨a, b, xs, rfl, rfl, ha, hb, q⟩ := h
  cases xs with
  | nil => exact op_eqD hu pins s σ H _ _ v u Q I rx ry ⟨.list [], .list [], .lst ha .nil, .lst hb .nil, rfl, rfl, q⟩
  | cons z r =>
    cases rx
    cases ry
    obtain ⟨its, r1, pl, hz⟩ := I.list ha
    obtain ⟨its2, r2, pl2, hz2⟩ := I.list hb
    have e1 := r1.length
    have e2 := r2.length
    refine PySem.SeqAt.RcAt.lists_lengths pl.isList pl2.isList ?_ (by omega) X.prog X.w X.xe _ ⟨.bl _, H, I, rfl, q⟩
    have e3 : its.length = r.length + 1 := e1.symm
    have e4 : its2.length = 0 := e2.symm
    simp [e3, e4]
end
end L2

set_option Elab.async false
set_option linter.all false
set_option maxRecDepth 100000
set_option maxHeartbeats 4000000
namespace L2
open PySem PySem.Spec PyProof.Rows
abbrev signs (z : Str) : List V := (TL.tl z).map fun c => V.str (sg c)
theorem signs_strs (z : Str) : signs z = ((TL.tl z).map sg).map V.str := by rw [List.map_map]; rfl
theorem vals_signs {z : Str} : ∀ {k : Nat} {vs : List Value} {cs : List Nat}, vs.length = cs.length → (∀ (j : Nat) (v : Value), vs[j]? = some v → ∃ (c : Nat) (u : Tok), cs[j]? = some c ∧ v = Value.str ⟨#[c]⟩ u) → Vals (cs.map fun c => V.str (sg c)) vs
  | _, [], [], _, _ => .nil
  | _, [], c :: r, h, _ => by cases h
  | _, v :: r, [], h, _ => by cases h
  | k, v :: r, c :: cs, h, hs => by
    obtain ⟨c', u, h1, h2⟩ := hs 0 v rfl
    have e : c = c' := Option.some.inj h1
    subst e
    refine .cons ⟨u, h2⟩ (vals_signs (z := z) (k := k) (Nat.succ.inj h) fun j w hw => hs (j + 1) w hw)
section
variable {X : Cx}
/-- list(z) of a text -/
def rListS : List V → Hp → VK → Prop := fun xs H Q => ∃ z : Str, xs = [.str z] ∧ z.length ≤ 100000 ∧ ∀ l, H l = none → Q (.ref l) (upd H l (.lst (signs z)))
theorem call_listS (hc : X.calm = true) : CallR X (.type "list") rListS := by
  intro pins s σ H xs us Q I r h
  obtain ⟨z, rfl, hz, q⟩ := h
  obtain ⟨u, rfl, t, rfl⟩ := vals1 r
  have hz' : z.cps.size ≤ sizeLine := by
    rw [sizeLine_eq]
    have e : z.cps.size = z.length := rfl
    omega
  refine call_list_str (I.ok.hd hc) z t (fun h' tk acc' c' kp e hi => ?_) hz'
  obtain ⟨h1, h2⟩ := hi
  have rv : Vals (signs z) acc'.toList := vals_signs (z := z) (k := 0) (by rw [Array.length_toList, h1]; rfl) fun j v hv => by
    obtain ⟨c, u, hc2, rfl⟩ := h2 j v (by simpa using hv)
    refine ⟨c, u, ?_, rfl⟩
    show z.cps.toList[j]? = some c
    rw [Array.getElem?_toList]
    exact hc2
  have hlen : (signs z).length ≤ sizeLine := by
    rw [List.length_map, TL.len_tl z |>.symm]
    exact hz'
  exact ⟨.ref s.heap.objs.size, _, I.laid (t' := tk) kp (Nat.le_refl _) (show ObjOk X.prog X.w _ h' _ (.lst (signs z)) from ⟨hlen, acc'.toList, c', rv, e⟩), rfl, q _ (I.hok.fresh (Nat.le_refl _))⟩
end
/-! ### values of other kinds -/
section
variable {K : PySem.W.Frag} {H : Hp}
theorem NmV.non : NmV K H .non false := .inr ⟨rfl, _, .base .non, kit_ty (by decide +kernel)⟩
theorem NmV.int (i : Int) : NmV K H (.int i) false := .inr ⟨rfl, _, .base (.int i), kit_ty (by decide +kernel)⟩
theorem NmV.lst {a : Addr} {xs : List V} (e : H a = some (.lst xs)) : NmV K H (.ref a) false := .inr ⟨rfl, _, .base (.lst e), kit_ty (by decide +kernel)⟩
theorem NmV.tup {a : Addr} {xs : List V} (e : H a = some (.tup xs)) : NmV K H (.ref a) false := .inr ⟨rfl, _, .base (.tup e), kit_ty (by decide +kernel)⟩
theorem NmV.dK {a : Addr} {kvs : List (Key × V)} (e : H a = some (.dK kvs)) : NmV K H (.ref a) false := .inr ⟨rfl, _, .base (.dK e), kit_ty (by decide +kernel)⟩
theorem NmsV.non : NmsV K H .non false := .inr ⟨rfl, _, .base .non, kit_ty (by decide +kernel)⟩
theorem NmsV.int (i : Int) : NmsV K H (.int i) false := .inr ⟨rfl, _, .base (.int i), kit_ty (by decide +kernel)⟩
theorem NmsV.txt (z : Str) : NmsV K H (.str z) false := .inr ⟨rfl, _, .base (.str z), kit_ty (by decide +kernel)⟩
theorem NmsV.lst {a : Addr} {xs : List V} (e : H a = some (.lst xs)) : NmsV K H (.ref a) false := .inr ⟨rfl, _, .base (.lst e), kit_ty (by decide +kernel)⟩
theorem NmsV.dK {a : Addr} {kvs : List (Key × V)} (e : H a = some (.dK kvs)) : NmsV K H (.ref a) false := .inr ⟨rfl, _, .base (.dK e), kit_ty (by decide +kernel)⟩
theorem pairedImp {α β : Type} {R S : α → β → Prop} (h : ∀ a b, R a b → S a b) : ∀ {xs : List α} {ys : List β}, Paired R xs ys → Paired S xs ys
  | _, _, .nil => .nil
  | _, _, .cons r t => .cons (h _ _ r) (pairedImp h t)
theorem NmsV.same {H' : Hp} {x : V} {b : Bool} (s : Same H H') (h : NmsV K H x b) : NmsV K H' x b := by
  rcases h with ⟨a, xs, bs, e, hS, hT, hP, hb⟩ | ⟨e, t, ht, hk⟩
  · exact .inl ⟨a, xs, bs, e, gSeqT s hS, hT.same s, pairedImp (fun _ _ q => q.same s) hP, hb⟩
  · exact .inr ⟨e, t, ht.same s, hk⟩
end
/-! ### what an integer is -/
def IntV (K : PySem.W.Frag) (H : Hp) (x : V) (b : Bool) : Prop :=
  (∃ i : Int, x = .int i ∧ b = (decide (-(10 ^ 60) < i) && decide (i < 10 ^ 60))) ∨ ((∃ c, x = .bl c) ∧ b = false) ∨ (b = false ∧ ∃ t, TyX K H x t ∧ PySem.W.kitOne K t (.type "int") = some false)
def spIsInt (K : PySem.W.Frag) : Sp := fun vs H Q _ => ∃ (x : V) (b : Bool), vs = [x] ∧ IntV K H x b ∧ Q (.bl b) H
section
variable {K : PySem.W.Frag} {H : Hp}
theorem IntV.non : IntV K H .non false := .inr (.inr ⟨rfl, _, .base .non, kit_ty (by decide +kernel)⟩)
theorem IntV.txt (z : Str) : IntV K H (.str z) false := .inr (.inr ⟨rfl, _, .base (.str z), kit_ty (by decide +kernel)⟩)
theorem IntV.lst {a : Addr} {xs : List V} (e : H a = some (.lst xs)) : IntV K H (.ref a) false := .inr (.inr ⟨rfl, _, .base (.lst e), kit_ty (by decide +kernel)⟩)
theorem IntV.tup {a : Addr} {xs : List V} (e : H a = some (.tup xs)) : IntV K H (.ref a) false := .inr (.inr ⟨rfl, _, .base (.tup e), kit_ty (by decide +kernel)⟩)
theorem IntV.dK {a : Addr} {kvs : List (Key × V)} (e : H a = some (.dK kvs)) : IntV K H (.ref a) false := .inr (.inr ⟨rfl, _, .base (.dK e), kit_ty (by decide +kernel)⟩)
theorem IntV.bl (c : Bool) : IntV K H (.bl c) false := .inr (.inl ⟨⟨c, rfl⟩, rfl⟩)
end
/-- what is laid anew, without its heap's words -/
theorem newO {H : Hp} {o : HO} {Q : VK} (h : ∀ (p : Addr) (H' : Hp), H p = none → H' p = some o → Same H H' → Q (.ref p) H') : ∀ p, H p = none → Q (.ref p) (upd H p o) := fun p hp => h p _ hp upd_same (gSame_new hp)
theorem sum8 : ∀ ss : List Str, (∀ s ∈ ss, isW s = true) → (ss.map (·.length)).sum ≤ ss.length * 8
  | [], _ => Nat.le_refl _
  | s :: r, h => by
    have h1 := (isW_len (h s (List.mem_cons_self ..))).2
    have h2 := sum8 r fun x hx => h x (List.mem_cons_of_mem _ hx)
    rw [List.map_cons, List.sum_cons, List.length_cons]
    omega
theorem IntV.same {K : PySem.W.Frag} {H H' : Hp} {x : V} {b : Bool} (s : Same H H') (h : IntV K H x b) : IntV K H' x b := by
  rcases h with h | h | ⟨e, t, ht, hk⟩
  · exact .inl h
  · exact .inr (.inl h)
  · exact .inr (.inr ⟨e, t, ht.same s, hk⟩)
theorem c60 : CPowW 10 60 := ⟨by decide, by decide +kernel⟩
theorem c54 : CPowW 10 54 := ⟨by decide, by decide +kernel⟩
theorem c55 : CPowW 10 55 := ⟨by decide, by decide +kernel⟩
theorem c39 : CPowW 10 39 := ⟨by decide, by decide +kernel⟩
theorem c6 : CPowW 10 6 := ⟨by decide, by decide +kernel⟩
end L2

set_option Elab.async false
set_option linter.all false
set_option maxRecDepth 100000
set_option maxHeartbeats 4000000
/-! what is laid anew stands in a heap of which only that is told -/
namespace L2
open PySem PySem.Spec PyProof.Rows
def New (H : Hp) (o : HO) (Q : VK) : Prop := ∀ (p : Addr) (H' : Hp), H p = none → H' p = some o → Same H H' → Q (.ref p) H'
theorem New.go {H : Hp} {o : HO} {Q : VK} (h : New H o Q) (p : Addr) (hp : H p = none) : Q (.ref p) (upd H p o) := h p _ hp upd_same (gSame_new hp)
def tTupN (t : TA) : TE := fun σ H Q => t σ H fun xs H1 => xs.length ≤ sizeLine ∧ New H1 (.tup xs) Q
def tLstN (t : TA) : TE := fun σ H Q => t σ H fun xs H1 => xs.length ≤ sizeLine ∧ New H1 (.lst xs) Q
section
variable {X : Cx} {es : List Expr} {t : TA} {pos : Pos}
theorem pe_tupN {x1} (h : PA X es t) : PE X (.Tuple es x1 pos) (tTupN t) := by
  refine ⟨fun pins s σ H Q I hq => ?_⟩
  refine wpAny_Tuple_spliced (thn (h.run pos pins s σ H _ I hq) fun us s1 ⟨xs, H1, I1, r, z, q⟩ => ⟨by rw [← r.length]; exact z, ?_⟩)
  have hf : H1 s1.heap.objs.size = none := I1.hok.fresh (Nat.le_refl _)
  refine ⟨.ref s1.heap.objs.size, upd H1 s1.heap.objs.size (.tup xs), I1.laid (t' := s1.toks) (fun b u e => Heap.get?_push_of_some _ e) (Nat.le_refl _) ?_, rfl, q.go _ hf⟩
  exact ⟨z, us, r, ⟨_, Heap.get?_push_size _ rfl, rfl, _, rfl⟩⟩
theorem pe_lstN (h : PA X es t) : PE X (.List es pos) (tLstN t) := by
  refine ⟨fun pins s σ H Q I hq => ?_⟩
  refine wpAny_List_spliced (thn (h.run pos pins s σ H _ I hq) fun us s1 ⟨xs, H1, I1, r, z, q⟩ => ⟨by rw [← r.length]; exact z, ?_⟩)
  have hf : H1 s1.heap.objs.size = none := I1.hok.fresh (Nat.le_refl _)
  refine ⟨.ref s1.heap.objs.size, upd H1 s1.heap.objs.size (.lst xs), I1.laid (t' := s1.toks) (fun b u e => Heap.get?_push_of_some _ e) (Nat.le_refl _) ?_, rfl, q.go _ hf⟩
  exact ⟨z, us, 0, r, Heap.get?_push_size _ rfl⟩
def rCatN : R2 := fun x y H Q => ∃ l b xs zs, x = .ref l ∧ y = .ref b ∧ H l = some (.lst xs) ∧ H b = some (.lst zs) ∧ xs.length + zs.length ≤ sizeLine ∧ New H (.lst (xs ++ zs)) Q
theorem op_catN : OpR X (binaryOp .Add) rCatN := fun pins s σ H x y v u Q I rx ry ⟨l, b, xs, zs, e1, e2, h1, h2, hl, q⟩ => op_cat pins s σ H x y v u Q I rx ry ⟨l, b, xs, zs, e1, e2, h1, h2, hl, q.go⟩
def rSlLN (K : PySem.W.Frag) : V → Option Int → Option Int → Hp → VK → Prop := fun x lo hi H Q => ∃ a xs, x = .ref a ∧ SqL K H a xs ∧ New H (.lst (cutV xs lo hi)) Q
theorem sl_listN : SlR X (rSlLN X.K) := fun pins s σ H x v vl vu lo hi sl Q I rx hs pl pu ⟨a, xs, e, hq, q⟩ => sl_list pins s σ H x v vl vu lo hi sl Q I rx hs pl pu ⟨a, xs, e, hq, q.go⟩
def rTupN (K : PySem.W.Frag) : List V → Hp → VK → Prop := fun xs H Q => ∃ p ys, xs = [.ref p] ∧ SqL K H p ys ∧ New H (.tup ys) Q
theorem call_tupN : CallR X (.type "tuple") (rTupN X.K) := fun pins s σ H xs us Q I r ⟨p, ys, e, h, q⟩ => call_tuple_of pins s σ H xs us Q I r ⟨p, ys, e, .inl ⟨h, q.go⟩⟩
def rLstN (K : PySem.W.Frag) : List V → Hp → VK → Prop := fun xs H Q => ∃ p ys, xs = [.ref p] ∧ (SqL K H p ys ∨ SqT K H p ys) ∧ New H (.lst ys) Q
theorem call_lstN : CallR X (.type "list") (rLstN X.K) := fun pins s σ H xs us Q I r ⟨p, ys, e, h, q⟩ => call_list_of pins s σ H xs us Q I r ⟨p, ys, e, h, q.go⟩
def rListSN : List V → Hp → VK → Prop := fun xs H Q => ∃ z : Str, xs = [.str z] ∧ z.length ≤ 100000 ∧ New H (.lst (signs z)) Q
theorem call_listSN (hc : X.calm = true) : CallR X (.type "list") rListSN := fun pins s σ H xs us Q I r ⟨z, e, h, q⟩ => call_listS hc pins s σ H xs us Q I r ⟨z, e, h, q.go⟩
def tDNewTN : TE := fun _ H Q => New H (.dT []) Q
theorem pe_dnewTN : PE X (.Dict [] [] pos) tDNewTN := ⟨fun pins s σ H Q I h => pe_dnewT.run pins s σ H Q I h.go⟩
def tDNewN : TE := fun _ H Q => New H (.dK []) Q
theorem pe_dnewN : PE X (.Dict [] [] pos) tDNewN := ⟨fun pins s σ H Q I h => pe_dnewK.run pins s σ H Q I h.go⟩
end
theorem New.kt {H : Hp} {o : HO} {Q : VK} {t : Addr} (hT : Tp H t) (h : ∀ (p : Addr) (H' : Hp), H' p = some o → Same H H' → Tp H' t → Q (.ref p) H') : New H o Q := fun p H' _ e s => h p H' e s (by
  obtain ⟨a, b, c, q⟩ := hT
  exact ⟨a, b, c, s _ _ q⟩)
end L2

set_option Elab.async false
set_option linter.all false
set_option maxRecDepth 100000
set_option maxHeartbeats 4000000
/-! texts of few signs; texts split and put together -/
namespace L2
open PySem PySem.Spec PyProof.Rows
def lev (cs : List Nat) : Nat → List Str
  | 0 => [Str.ofString ""]
  | n + 1 => (lev cs n).flatMap fun z => cs.map fun c => z ++ sg c
def allT (cs : List Nat) : Nat → List Str
  | 0 => [Str.ofString ""]
  | n + 1 => allT cs n ++ lev cs (n + 1)
theorem tl_sg (z : Str) (c : Nat) : TL.tl (z ++ sg c) = TL.tl z ++ [c] := by
  rw [TL.tl_append]
  rfl
theorem tl_empty : TL.tl (Str.ofString "") = [] := by decide +kernel
theorem fm_len {α β : Type} (f : α → List β) (k : Nat) : ∀ l : List α, (∀ a ∈ l, (f a).length = k) → (l.flatMap f).length = l.length * k
  | [], _ => by simp
  | a :: r, h => by
    have ih := fm_len f k r fun x hx => h x (List.mem_cons_of_mem _ hx)
    rw [List.flatMap_cons, List.length_append, h a (List.mem_cons_self ..), ih, List.length_cons, Nat.succ_mul]
    omega
theorem lev_len (cs : List Nat) : ∀ n, (lev cs n).length = cs.length ^ n
  | 0 => by simp [lev]
  | n + 1 => by
    unfold lev
    rw [fm_len _ cs.length _ (fun a _ => List.length_map ..), lev_len cs n, Nat.pow_succ]
theorem lev_of {cs : List Nat} : ∀ {n : Nat} {z : Str}, z ∈ lev cs n → (TL.tl z).length = n ∧ ∀ c ∈ TL.tl z, c ∈ cs
  | 0, z, h => by
    rw [List.mem_singleton.mp h, tl_empty]
    exact ⟨rfl, by simp⟩
  | n + 1, z, h => by
    obtain ⟨y, hy, hz⟩ := List.mem_flatMap.mp h
    obtain ⟨c, hc, rfl⟩ := List.mem_map.mp hz
    obtain ⟨h1, h2⟩ := lev_of hy
    rw [tl_sg]
    refine ⟨by rw [List.length_append, h1]; rfl, fun d hd => ?_⟩
    rcases List.mem_append.mp hd with h | h
    · exact h2 d h
    · rw [List.mem_singleton.mp h]
      exact hc
theorem app_sg {a b : Str} {c d : Nat} (h : a ++ sg c = b ++ sg d) : a = b ∧ c = d := by
  have e := congrArg TL.tl h
  rw [tl_sg, tl_sg] at e
  have e1 := List.append_inj_left' e rfl
  have e2 := List.append_inj_right' e rfl
  cases e2
  exact ⟨TL.ext_tl e1, rfl⟩
theorem lev_nd {cs : List Nat} (hc : cs.Nodup) : ∀ n, (lev cs n).Nodup
  | 0 => by simp [lev]
  | n + 1 => by
    unfold lev
    rw [List.nodup_iff_pairwise_ne, List.pairwise_flatMap]
    refine ⟨fun z _ => ?_, ?_⟩
    · rw [List.pairwise_map]
      exact (List.nodup_iff_pairwise_ne.mp hc).imp fun {a b} ne e => ne (app_sg e).2
    · refine (List.nodup_iff_pairwise_ne.mp (lev_nd hc n)).imp fun {a b} ne x hx y hy e => ?_
      obtain ⟨c, _, rfl⟩ := List.mem_map.mp hx
      obtain ⟨d, _, rfl⟩ := List.mem_map.mp hy
      exact ne (app_sg e).1
theorem allT_of {cs : List Nat} : ∀ {n : Nat} {z : Str}, z ∈ allT cs n → (TL.tl z).length ≤ n ∧ ∀ c ∈ TL.tl z, c ∈ cs
  | 0, z, h => by
    rw [List.mem_singleton.mp h, tl_empty]
    exact ⟨Nat.le_refl _, by simp⟩
  | n + 1, z, h => by
    rcases List.mem_append.mp h with h | h
    · obtain ⟨h1, h2⟩ := allT_of h
      exact ⟨by omega, h2⟩
    · obtain ⟨h1, h2⟩ := lev_of h
      exact ⟨by omega, h2⟩
theorem allT_nd {cs : List Nat} (hc : cs.Nodup) : ∀ n, (allT cs n).Nodup
  | 0 => by simp [allT]
  | n + 1 => by
    unfold allT
    rw [List.nodup_append]
    refine ⟨allT_nd hc n, lev_nd hc (n + 1), fun a ha b hb e => ?_⟩
    subst e
    have h1 := (allT_of ha).1
    have h2 := (lev_of hb).1
    omega
theorem lev_few {cs : List Nat} (h : cs.length = 4) {n : Nat} (hn : n ≤ 4) : (lev cs n).length ≤ 256 := by
  rw [lev_len, h]
  exact Nat.pow_le_pow_right (by decide) hn
theorem allT_few {cs : List Nat} (h : cs.length = 4) : ∀ {n : Nat}, n ≤ 4 → (allT cs n).length ≤ (n + 1) * 256
  | 0, _ => by show 1 ≤ 256; decide
  | n + 1, hn => by
    have h1 := allT_few h (n := n) (by omega)
    have h2 := lev_few h hn
    unfold allT
    rw [List.length_append]
    omega
/-! ### split -/
theorem spl_ne (S : List Nat) : ∀ (l : List Nat) (k : Nat) (acc : List Nat), TL.spl S k acc l ≠ []
  | [], k, acc => by rw [TL.spl_nil]; simp
  | c :: r, k + 1, acc => spl_ne S r k acc
  | c :: r, 0, acc => by
    cases hp : TL.pre S (c :: r) with
    | true => rw [TL.spl_hit hp]; simp
    | false => rw [TL.spl_miss hp]; exact spl_ne S r 0 _
theorem spl_sub (S : List Nat) : ∀ (l : List Nat) (k : Nat) (acc p : List Nat), p ∈ TL.spl S k acc l → ∀ c ∈ p, c ∈ acc ∨ c ∈ l
  | [], k, acc, p, h, c, hc => by
    rw [TL.spl_nil] at h
    rw [List.mem_singleton.mp h] at hc
    exact .inl hc
  | d :: r, k + 1, acc, p, h, c, hc => (spl_sub S r k acc p h c hc).imp id (List.mem_cons_of_mem _)
  | d :: r, 0, acc, p, h, c, hc => by
    cases hp : TL.pre S (d :: r) with
    | true =>
      rw [TL.spl_hit hp] at h
      rcases List.mem_cons.mp h with rfl | h
      · exact .inl hc
      · rcases spl_sub S r _ [] p h c hc with z | z
        · cases z
        · exact .inr (List.mem_cons_of_mem _ z)
    | false =>
      rw [TL.spl_miss hp] at h
      rcases spl_sub S r 0 _ p h c hc with z | z
      · rcases List.mem_append.mp z with z | z
        · exact .inl z
        · rw [List.mem_singleton.mp z]
          exact .inr (List.mem_cons_self ..)
      · exact .inr (List.mem_cons_of_mem _ z)
theorem spl_no (s : Nat) : ∀ (l : List Nat) (acc p : List Nat), s ∉ acc → p ∈ TL.spl [s] 0 acc l → s ∉ p
  | [], acc, p, ha, h => by
    rw [TL.spl_nil] at h
    rw [List.mem_singleton.mp h]
    exact ha
  | d :: r, acc, p, ha, h => by
    cases hp : TL.pre [s] (d :: r) with
    | true =>
      rw [TL.spl_hit hp] at h
      rcases List.mem_cons.mp h with rfl | h
      · exact ha
      · exact spl_no s r [] p (by simp) h
    | false =>
      rw [TL.spl_miss hp] at h
      refine spl_no s r _ p (fun z => ?_) h
      rcases List.mem_append.mp z with z | z
      · exact ha z
      · have e := List.mem_singleton.mp z
        rw [e] at hp
        simp [TL.pre] at hp
theorem split_tl (z : Str) : (Txt.split z " ").map TL.tl = TL.spl [32] 0 [] (TL.tl z) := by
  have h := TL.split_spl z " " (by decide +kernel) (TL.kind_ok (by decide +kernel))
  rw [tl_sp] at h
  exact h
theorem split_ne (z : Str) : Txt.split z " " ≠ [] := fun h => by
  have e := split_tl z
  rw [h] at e
  exact spl_ne _ _ _ _ e.symm
theorem split_part {z p : Str} (h : p ∈ Txt.split z " ") : (∀ c ∈ TL.tl p, c ∈ TL.tl z) ∧ 32 ∉ TL.tl p := by
  have hm : TL.tl p ∈ (Txt.split z " ").map TL.tl := List.mem_map.mpr ⟨p, h, rfl⟩
  rw [split_tl] at hm
  exact ⟨fun c hc => (spl_sub _ _ _ _ _ hm c hc).elim (fun z => nomatch z) id, spl_no 32 _ _ _ (by simp) hm⟩
theorem jn_split (z : Str) : jn (Txt.split z " ") = z := by
  unfold jn
  rw [TL.join_eq]
  exact StrLaws.join_split z " "
theorem wr_rd {z : Str} : wr (rd z) = z := by
  unfold rd
  by_cases e : z = "-"
  · rw [if_pos e, e]
    rfl
  · rw [if_neg e, wr_jn (split_ne z), jn_split]
end L2

set_option Elab.async false
set_option linter.all false
set_option maxRecDepth 100000
set_option maxHeartbeats 4000000
/-! except A as n, then more clauses -/
namespace L2
open PySem PySem.Spec PyProof.Rows
def wAsMany (K : PySem.W.Frag) (c : Value) (i : Nat) (ts : Addr → Value → Option Addr → TS) (l : List (Value × (Addr → Value → Option Addr → TS))) (Wout : WX) (D : Ends) : WX := fun cls d σ H =>
  ∃ b, PySem.W.exmOne K cls c = some b ∧ (b = true → ∀ a, H a = none → ts a cls d { nx := fun σ' H' => D.nx (σ'.set i none) H', rt := D.rt, bk := fun σ' H' => D.bk (σ'.set i none) H', ct := fun σ' H' => D.ct (σ'.set i none) H' } (σ.set i (some (.ref a))) H) ∧
    (b = false → wMany K Wout D l cls d σ H)
section
variable {X : Cx} {x n : Str} {c : Value} {i : Nat} {body suite : List Stmt} {b₀ : Stmt} {np pos pos' : Pos} {tb : WX → TS} {ts : Addr → Value → Option Addr → TS} {Wout : WX} {hds : List ExceptHandler} {l : List (Value × (Addr → Value → Option Addr → TS))}
theorem ps_try_asMany (hs : X.stack = X.env :: X.outer) (hf : X.env.frame = some X.env.locals) (hN : X.N.Nodup) (hi : X.N[i]? = some n) (hln : X.env.kindOf n = some .local) (hc : Names X x c) (tk : Takes X Wout)
    (hb : ∀ (W : WX) (pn : List (Addr × Obj)) (xe : Value → Shared → Prop), Takes (X.tr pn xe) W → PassesOwn (model X.prog X.w) X.A X.env xe → PSs (X.tr pn xe) body (tb W))
    (hsu : ∀ (a : Addr) (oe : Obj) (cls : Value) (d : Option Addr) (pn : List (Addr × Obj)), Zc cls d oe → (∃ vs, oe.data = .fields vs) → PSs (X.suite a ((a, oe) :: pn)) (b₀ :: suite) (ts a cls d)) (hh : HdsOk X hds l) :
    PS X (.Try body (.ExceptHandler (some (.Name x np)) (some n) (b₀ :: suite) pos' :: hds) [] [] pos) (fun D σ H => tb (wAsMany X.K c i ts l Wout D) D σ H) := by
  refine ⟨fun pins s σ H D I h => ?_⟩
  have ok := I.ok
  have hfr : X.A.frames = some (X.env :: X.outer) := by rw [ok.frames, hs]
  have hloc : Loc X.env.scope n := .inl hln
  refine wpAny_Try_except (wpAny_mono ((hb (wAsMany X.K c i ts l Wout D) (X.pn ++ pins) _ (fun u s' xx => ?_) PassesOwn.looking).run [] s σ H D (I.toTry _) h) (fun f s1 hsp => ?_) (fun e s1 he => he))
  · obtain ⟨a, B, sI, pins', σ', H', cls, d, rfl, J', nb, up, sky, na, os, ag, b, hb1, hyes, hno⟩ := xx
    have J : Inv X pins σ' H' sI := J'.ofTry ok
    have sky' : Sky B (X.env :: X.outer) a (Zc cls d) X.env.locals s'.heap := by rw [← hs]; exact sky
    show wpAny (model X.prog X.w) X.A (noteFrame (.ref a) X.env) _ _ _
    refine Sky.land Zc.steady hfr hf sky' fun h3 fl3 up3 => ?_
    have J3 : Inv X pins σ' H' { s' with heap := h3 } := J.landed nb fl3.1 (up.trans up3) os ag
    obtain ⟨oe3, vs3, he3, hz3, hd3⟩ := fl3.there
    have nfr : a ∉ frs (X.env :: X.outer) := fun hm => by
      obtain ⟨_, o', e', hnf⟩ := fl3.2.2.1.mem hm
      rw [he3] at e'
      cases e'
      exact hnf _ hd3
    have nL : a ≠ X.env.locals := fun z => nfr (List.mem_filterMap.mpr ⟨X.env, List.mem_cons_self, by rw [hf, z]⟩)
    have nF : a ∉ X.fs := fun hm => by
      obtain ⟨e, he, q⟩ := List.mem_filterMap.mp hm
      exact nfr (List.mem_filterMap.mpr ⟨e, List.mem_cons_of_mem _ he, q⟩)
    have S3 := J3.suite he3 hd3 na nL nF
    have LT : PySem.W.Looks (model X.prog X.w) h3 (typeOf (.ref a)) cls := fun A Q E s k q => wpAny_typeOf_ref (k _ _ he3) (by rw [hz3.1]; exact q)
    have test : ∀ {x : Str} {c : Value} {np : Pos} {Q : Value → Shared → Prop} {E : Value → Shared → Prop}, Names X x c → Q c { s' with heap := h3 } → wpAny (model X.prog X.w) (X.A.mark (some (.ref a))) (eval (.Name x np) X.env) Q E { s' with heap := h3 } := fun {x c np Q E} hc q => by
      obtain ⟨hg, hdbg, hm | ⟨hm, hv, hnn⟩⟩ := hc
      · exact ld_glob (X := X.suite a ((a, oe3) :: (X.pn ++ pins))) S3 hg hm q hdbg
      · exact ld_blt (X := X.suite a ((a, oe3) :: (X.pn ++ pins))) S3 hg hm hv q hnn hdbg
    have go : ∀ {hds' : List ExceptHandler} {l' : List (Value × (Addr → Value → Option Addr → TS))}, HdsOk X hds' l' → wMany X.K Wout D l' cls d σ' H' →
        wpAny (model X.prog X.w) X.A (handleBy (.ref a) X.env hds') (SP X pins D) X.xe { s' with heap := h3 } := by
      intro hds' l' hk
      induction hk with
      | nil =>
        intro w
        refine wpAny_handleBy_nil ?_
        obtain ⟨k1, k2, k3, oe, vs, T, oT, ts', he, hz, hd, h1, hr⟩ := id fl3
        unfold PySem.passOn
        refine wpAny_bind (wpAny_field he hd h1 ?_)
        rw [if_neg (show ¬ ((Value.ref T == Value.none) = true) from by simp)]
        have fin : wpAny (model X.prog X.w) X.A (setFlight (.ref a) X.env.frame) (fun _ s4 => wpAny (model X.prog X.w) X.A (throw (.ref a) : Sem Flow) (SP X pins D) X.xe s4) X.xe { s' with heap := h3 } := by
          rw [hf]
          refine HandSPX.setFlight_upZ fl3 fun h4 hh4 up4 => wpAny_throw (tk _ _ ?_)
          exact ⟨a, B, sI, pins, σ', H', cls, d, rfl, J, nb, (up.trans up3).trans up4, .inr (.inr (by rw [hs]; exact hh4)), na, os, ag, w⟩
        first
          | exact wpAny_bind (wpAny_pure (wpAny_bind fin))
          | exact wpAny_bind fin
      | @cons x2 c2 ts2 b2 suite2 np2 pos2 hds2 l2 hc2 hsu2 r2 ih =>
        intro w
        obtain ⟨b', hb', hyes', hno'⟩ := w
        refine wpAny_handleBy_cons (codeAny_handlers_test ?_) (by intro q; cases q)
        refine test hc2 ((PySem.W.exm_one (M := model X.prog X.w) (J3.kIn) LT hb').here ?_)
        cases b' with
        | true =>
          refine codeAny_handlers_suite ?_
          refine HandSPX.lands_againZ fl3 fun h4 fl4 up4 => ?_
          have J4 : Inv X pins σ' H' { s' with heap := h4 } := J.landed nb fl4.1 ((up.trans up3).trans up4) os ag
          obtain ⟨oe4, vs4, he4, hz4, hd4⟩ := fl4.there
          have S4 := J4.suite he4 hd4 na nL nF
          refine wpAny_mono ((hsu2 a oe4 cls d (X.pn ++ pins) hz4 ⟨_, hd4⟩).run [] _ _ H' _ S4 (hyes' rfl a na)) (fun f s6 hsp => ?_) (fun _ _ z => False.elim z)
          cases f with
          | next =>
            obtain ⟨σ6, H6, S6, q6⟩ := hsp
            exact ⟨_, _, S6.unsuite ok, q6⟩
          | brk =>
            obtain ⟨σ6, H6, S6, q6⟩ := hsp
            exact ⟨_, _, S6.unsuite ok, q6⟩
          | cont =>
            obtain ⟨σ6, H6, S6, q6⟩ := hsp
            exact ⟨_, _, S6.unsuite ok, q6⟩
          | ret u =>
            obtain ⟨v6, σ6, H6, S6, r6, q6⟩ := hsp
            exact ⟨_, _, _, S6.unsuite ok, r6, q6⟩
        | false =>
          show wpAny _ X.A (handleBy (.ref a) X.env hds2) _ _ _
          exact ih (hno' rfl)
    refine wpAny_handleBy_cons (codeAny_handlers_test ?_) (by intro q; cases q)
    refine test hc ((PySem.W.exm_one (M := model X.prog X.w) (J3.kIn) LT hb1).here ?_)
    cases b with
    | false =>
      show wpAny _ X.A (handleBy (.ref a) X.env hds) _ _ _
      exact go hh (hno rfl)
    | true =>
      refine codeAny_handlers_suite_as ?_
      refine HandSPX.lands_againZ fl3 fun h4 fl4 up4 => ?_
      have J4 : Inv X pins σ' H' { s' with heap := h4 } := J.landed nb fl4.1 ((up.trans up3).trans up4) os ag
      obtain ⟨oe4, vs4, he4, hz4, hd4⟩ := fl4.there
      have S4 := J4.suite he4 hd4 na nL nF
      refine store_ok (X := X.suite a ((a, oe4) :: (X.pn ++ pins))) (v := .ref a) S4 hN hi hloc rfl (fun s5 S5 => ?_) (.inr hln)
      refine wpAny_mono ((hsu a oe4 cls d (X.pn ++ pins) hz4 ⟨_, hd4⟩).run [] s5 _ H' _ S5 (hyes rfl a na)) (fun f s6 hsp => ?_) (fun _ _ z => False.elim z)
      have end_ : ∀ {σ6 : St} {H6 : Hp} {Q : Shared → Prop}, Inv (X.suite a ((a, oe4) :: (X.pn ++ pins))) [] σ6 H6 s6 → (∀ s7, Inv X pins (σ6.set i none) H6 s7 → Q s7) →
          wpAny (model X.prog X.w) X.A (do bindName X.env n .none; unbindBehindTheSuite X.env n pos') (fun _ s7 => Q s7) X.xe s6 := fun {σ6 H6 Q} S6 hq => gone_ok (S6.unsuite ok) hN hi hln hq
      cases f with
      | next =>
        obtain ⟨σ6, H6, S6, q6⟩ := hsp
        exact end_ S6 fun s7 J7 => ⟨_, _, J7, q6⟩
      | brk =>
        obtain ⟨σ6, H6, S6, q6⟩ := hsp
        exact end_ S6 fun s7 J7 => ⟨_, _, J7, q6⟩
      | cont =>
        obtain ⟨σ6, H6, S6, q6⟩ := hsp
        exact end_ S6 fun s7 J7 => ⟨_, _, J7, q6⟩
      | ret u =>
        obtain ⟨v6, σ6, H6, S6, r6, q6⟩ := hsp
        exact end_ S6 fun s7 J7 => ⟨_, _, _, J7, r6, q6⟩
  · cases f with
    | next =>
      obtain ⟨σ', H', J', q⟩ := hsp
      exact wpAny_execs_nil ⟨σ', H', J'.ofTry ok, q⟩
    | brk =>
      obtain ⟨σ', H', J', q⟩ := hsp
      exact ⟨σ', H', J'.ofTry ok, q⟩
    | cont =>
      obtain ⟨σ', H', J', q⟩ := hsp
      exact ⟨σ', H', J'.ofTry ok, q⟩
    | ret u =>
      obtain ⟨v, σ', H', J', r, q⟩ := hsp
      exact ⟨v, σ', H', J'.ofTry ok, r, q⟩
end
end L2

set_option Elab.async false
set_option linter.all false
set_option maxRecDepth 100000
set_option maxHeartbeats 4000000
/-! what a Hook tells, as the texts before want it -/
namespace L2
open PySem PySem.Spec PyProof.Rows
section
variable {K : PySem.W.Frag} {h : Heap} {mg : Str → Option Value}
theorem funD_fun {x q : Str} {st : Stmt} {f : Addr} {fd : FuncData} (F : FunD K x q (defArgs st) (defBody st) (defScope st) [] [] f fd) : Fun K x q st f fd := by
  obtain ⟨oc, od, dV, kV, doc, pm, an, cdv, ct, osl, rfl, lk, hcd, hD, hK⟩ := F.ex
  rcases hD with ⟨_, rfl⟩ | ⟨e, _⟩
  · exact ⟨⟨oc, od, kV, doc, pm, an, cdv, ct, osl, rfl, lk, hcd⟩, F.kp⟩
  · exact absurd rfl e
theorem df_he (X : K.In h) (G : h.Ns mainGlobals mg) {x : Str} {st : Stmt} {ps : List Str} {fd : FuncData} (F : FunD K x x (defArgs st) (defBody st) (defScope st) [] [] (He.ga K x) fd) (c : (He.Fa.glo x).ok K = true)
    (hb : ∀ (kV doc pm : Value) (an : Option Addr) (cdv ct : Value) (us : List Value), us.length = ps.length → bindArgs (PySem.W.fnOf x x (defArgs st) (defBody st) (defScope st) .none kV doc pm an cdv ct) ⟨us, []⟩ = pure (ps.zip us)) :
    Df K mg x st ps (He.ga K x) fd :=
  have F' := funD_fun F
  ⟨F', He.glo_ok X G c, F'.binds hb⟩
/-- an exception class with an own __init__, told by a Bool -/
def oexB (K : PySem.W.Frag) (C : Addr) : Bool := match K.lookup C with
  | some ⟨.type t, dd, .cls cd, sl⟩ => (match cd.mro, sl.toList with
    | .ref C' :: bm, [_, _, _, _, some (.builtin n), _] => decide (t = "type") && (decide (C' = C) && (decide (n = "ValueError.__new__") && (cd.hasDict && (!cd.hasDel && PySem.HandSPX.refsVE bm))))
    | _, _ => false)
  | _ => false
theorem oexB_ok {C : Addr} (e : oexB K C = true) : ∃ nm q N bs bm sn sub ab col dd k0 k1 k2 k3 k5, K.lookup C = some (excClassObj nm q C N bs bm true sn sub ab col dd k0 k1 k2 k3 k5 "ValueError.__new__") ∧ PySem.HandSPX.refsVE bm = true := by
  unfold oexB at e
  split at e
  · rename_i t dd cd sl ho
    split at e
    · rename_i C' bm k0 k1 k2 k3 n k5 hm hs
      simp only [Bool.and_eq_true, decide_eq_true_eq, Bool.not_eq_true'] at e
      obtain ⟨rfl, rfl, rfl, hd, hdel, hr⟩ := e
      obtain ⟨nm, bs, mro, N, q, hdct, sn, sub, ab, col, hdl⟩ := cd
      obtain ⟨l⟩ := sl
      subst hm hd hdel hs
      exact ⟨nm, q, N, bs, bm, sn, sub, ab, col, dd, k0, k1, k2, k3, k5, ho, hr⟩
    · cases e
  · cases e
def iniB (x fld : Str) (K : PySem.W.Frag) : Bool := oexB K (He.ga K x) && (He.eqO (PySem.W.findIn K (.ref (He.ga K x)) "__setattr__") (some (some (.builtin "object.__setattr__"))) && (decide (PySem.W.subIn K (.ref (He.ga K x)) (.type "BaseException") = some true) &&
  (decide (PySem.W.typeIn K (.ref (He.ga K x)) = some (.type "type")) && (PySem.W.keepIn K (.ref (He.ga K x)) && (He.eqO (PySem.W.findIn K (.ref (He.ga K x)) "__init__") (some (some (.ref (He.ma K (He.ga K x) "__init__")))) &&
  (decide (PySem.W.typeIn K (.ref (He.ma K (He.ga K x) "__init__")) = some (.type "function")) && (decide (PySem.W.exmOne K (.ref (He.ga K x)) (.ref (He.ga K x)) = some true) && (He.eqO (PySem.W.findIn K (.ref (He.ga K x)) fld) (some none) && xfB K (He.ga K x)))))))))
theorem ini_he (X : K.In h) (G : h.Ns mainGlobals mg) {x fld q : Str} {st : Stmt} {fd : FuncData} (hq : x ++ ".__init__" = q) (e : iniB x fld K = true) (c : (He.Fa.glo x).ok K = true)
    (F : FunD K "__init__" q (defArgs st) (defBody st) (defScope st) [] [] (He.ma K (He.ga K x) "__init__") fd)
    (hb : ∀ (kV doc pm : Value) (an : Option Addr) (cdv ct : Value) (us : List Value), us.length = (["self", fld] : List Str).length → bindArgs (PySem.W.fnOf "__init__" q (defArgs st) (defBody st) (defScope st) .none kV doc pm an cdv ct) ⟨us, []⟩ = pure ((["self", fld] : List Str).zip us)) :
    IniT K mg x fld st (He.ga K x) (He.ma K (He.ga K x) "__init__") fd ∧ XfC K (He.ga K x) := by
  subst hq
  obtain ⟨e1, e⟩ := He.ba e
  obtain ⟨e2, e⟩ := He.ba e
  obtain ⟨e3, e⟩ := He.ba e
  obtain ⟨e4, e⟩ := He.ba e
  obtain ⟨e5, e⟩ := He.ba e
  obtain ⟨e6, e⟩ := He.ba e
  obtain ⟨e7, e⟩ := He.ba e
  obtain ⟨e8, e⟩ := He.ba e
  obtain ⟨e9, e10⟩ := He.ba e
  have F' := funD_fun F
  exact ⟨⟨He.glo_ok X G c, ⟨oexB_ok e1, He.eqO_ok e2, of_decide_eq_true e3, of_decide_eq_true e4, e5⟩, He.eqO_ok e6, of_decide_eq_true e7, of_decide_eq_true e8, He.eqO_ok e9, F', F'.binds hb⟩, xfB_ok e10⟩
theorem own_he (X : K.In h) (G : h.Ns mainGlobals mg) {x : Str} (c : (He.Fa.glo x).ok K = true) (e : (He.Fa.exc x).ok K = true) (m : (He.Fa.exm x x true).ok K = true) : OwnT K mg x (He.ga K x) := by
  obtain ⟨e1, e2, e3, e4⟩ := He.exc_ok e
  exact ⟨He.glo_ok X G c, e1, e2, e3, e4, He.exm_ok m⟩
def cinB (x : Str) (K : PySem.W.Frag) : Bool := He.eqO (PySem.W.specialIn K (.ref (He.ga K x)) "__getattribute__") (some (some (.builtin "type.__getattribute__"))) && (PySem.W.readsIn K (He.ga K x) (.type "type") &&
  (match PySem.W.findCls K (.ref (He.ga K x)) (.type "type") "__init__" with
  | some (.val (.builtin n)) => decide (n = "ValueError.__init__")
  | _ => false))
theorem cin_he (X : K.In h) (G : h.Ns mainGlobals mg) {x : Str} (c : (He.Fa.glo x).ok K = true) (e : cinB x K = true) : CIn K mg x (He.ga K x) := by
  obtain ⟨e1, e⟩ := He.ba e
  obtain ⟨e2, e3⟩ := He.ba e
  refine ⟨He.glo_ok X G c, He.eqO_ok e1, e2, ?_⟩
  split at e3
  · rename_i n hn
    rw [of_decide_eq_true e3] at hn
    exact hn
  · cases e3
end
end L2

set_option Elab.async false
set_option linter.all false
set_option maxRecDepth 100000
set_option maxHeartbeats 4000000
/-! the Hook that looks at one more object: where the model keeps its own names -/
namespace L2
open PySem PySem.Spec PyProof.Rows
def asL (n : Nat) (g : Addr → Option Obj) : List Addr := cStatics :: He.asD g n
abbrev frL (n : Nat) (g : Addr → Option Obj) : PySem.W.Frag := He.frT g (asL n g)
def obsL (n : Nat) (fa : List He.Fa) (fn : List He.DefD) (tf : List He.Defn) (ex : PySem.W.Frag → Bool) (g : Addr → Option Obj) : He.AlX := (He.obsT fa fn [] (frL n g), ex (frL n g) && He.tabsB g tf (frL n g))
theorem tabsB_at {g : Addr → Option Obj} {tf : List He.Defn} {K : PySem.W.Frag} (e : He.tabsB g tf K = true) {p : He.Defn} (hp : p ∈ tf) : PySem.W.codeHdIn K (He.cT K p).1 (He.cT K p).2 = true ∧ ∃ o, g (He.cT K p).2 = some o ∧ He.emptyTab o = true := by
  obtain ⟨h1, h2⟩ := He.ba (List.all_eq_true.mp e p hp)
  cases q : g (He.cT K p).2 with
  | none =>
    rw [q] at h2
    cases h2
  | some o =>
    rw [q] at h2
    exact ⟨h1, o, rfl, h2⟩
theorem saysL_of {n : Nat} {fa : List He.Fa} {fn : List He.DefD} {tf : List He.Defn} {ex : PySem.W.Frag → Bool} {w : World} {h : Heap} (e : obsL n fa fn tf ex h.get? = He.valX fn [] w) : He.SaysX fa fn [] tf ex w h (frL n h.get?) := by
  obtain ⟨h1, h2⟩ := He.ba (show (ex (frL n h.get?) && He.tabsB h.get? tf (frL n h.get?)) = true from congrArg (fun z : He.AlX => z.2) e)
  refine ⟨congrArg (fun z : He.AlX => z.1) e, h1, fun p hp => (tabsB_at h2 hp).1, fun p hp => ?_, fun p hp => ?_⟩
  · obtain ⟨_, o, q, z⟩ := tabsB_at h2 hp
    exact He.frT_none q z
  · obtain ⟨_, o, q, z⟩ := tabsB_at h2 hp
    rw [q, He.emptyTab_eq z]
def hookL (n : Nat) (fa : List He.Fa) (fn : List He.DefD) (tf : List He.Defn) (ex : PySem.W.Frag → Bool) : PySem.W.Hook where
  α := He.AlX
  obs := fun s => obsL n fa fn tf ex s.heap.get?
  val := fun w => He.valX fn [] w
  says := fun w h => ∃ K : PySem.W.Frag, K.In h ∧ He.SaysX fa fn [] tf ex w h K
  of := fun _ _ e => ⟨_, He.frT_in, saysL_of e⟩
  keeps := fun _ _ _ ⟨K, hK, c⟩ k => ⟨K, PySem.W.Frag.In.keeps hK k, ⟨c.t, c.more, c.hd, c.out, fun p hp => k _ _ (c.empty p hp)⟩⟩
theorem obsL_eq {n : Nat} {fa : List He.Fa} {fn : List He.DefD} {tf : List He.Defn} {ex : PySem.W.Frag → Bool} {g : Addr → Option Obj} {s : Shared} (h : ∀ a, g a = s.heap.get? a) : obsL n fa fn tf ex g = (hookL n fa fn tf ex).obs s := by
  have e : g = s.heap.get? := funext h
  rw [e] <;> rfl
end L2

set_option Elab.async false
set_option linter.all false
set_option maxRecDepth 100000
set_option maxHeartbeats 4000000
/-! a def whose code object is known; lambdas in it -/
namespace L2
open PySem PySem.Spec PyProof.Rows LamX
section
variable {P : Program} {w : World} {K : PySem.W.Frag} {mg : Str → Option Value} {base : Heap}
theorem fun_okC {x qual : Str} {st : Stmt} {p : He.Defn} {f : Addr} {fd : FuncData} {N ps : List Str} {k : Nat} {sp : Sp} (hf : f = He.fAd K p) (F : Fun K x qual st f fd) (S : FnScope N ps (defScope st)) (len : ∀ vs H Q E, sp vs H Q E → vs.length = ps.length)
    (hbody : ∀ (A : Around) (outer : List Env) (s : Shared) (H : Hp) (vs : List V) (Q : VK) (E : XK), Room k (A.deeper (envOfC qual (defScope st) s.heap.objs.size f (.ref (He.cT K p).1))) → sp vs H Q E →
      ∃ t, PSs (cxOf CX0 P w K mg base N qual (defScope st) f (.ref (He.cT K p).1) A outer s H E).nox (defBody st) t ∧ t { nx := fun _ H' => Q .non H', rt := Q } (L2.start N vs) H) : FnOk P w K mg base CX0 (k + 1) f fd ps sp := by
  subst hf
  obtain ⟨oc, od, kV, doc, pm, an, cdv, ct, osl, rfl, lk, hcd⟩ := F.ex
  obtain ⟨c, rfl⟩ := He.codeIn_ref hcd
  have e : (He.cT K p).1 = c := He.codeOf_eq lk rfl
  rw [e] at hbody
  refine fn_of lk hcd S len fun A outer s H vs Q E hr hsp => ?_
  obtain ⟨t, h, q⟩ := hbody A outer s H vs Q E hr hsp
  exact ⟨t, h.nox, q⟩
end
section
variable {X : Cx} (K : PySem.W.Frag)
theorem call_tupNK (h : X.K = K) : CallR X (.type "tuple") (rTupN K) := by subst h; exact call_tupN
theorem call_lstNK (h : X.K = K) : CallR X (.type "list") (rLstN K) := by subst h; exact call_lstN
theorem pe_joinK {o e : Expr} {to te : TE} {apos pos : Pos} (h : X.K = K) (ho : PE X o to) (he : PE X e te) (hs : starEach [e] X.env = [(false, eval e X.env)] := by rfl) (hbase : attributeBase o "join" X.env (eval o X.env) = eval o X.env := by rfl) (hline : (apos.endLine == pos.line) = true := by rfl) :
    PE X (.Call (.Attribute o "join" apos) [e] [] pos) (tM1 (fun x xs H Q => ∃ a p, ∃ ys : List Str, x = .str a ∧ xs = [.ref p] ∧ (SqL K H p (ys.map V.str) ∨ SqT K H p (ys.map V.str)) ∧
      (ys.map (·.length)).sum + ys.length * a.length ≤ 16777216 ∧ Q (.str (Txt.join a ys)) H) to te) := by
  subst h
  exact pe_join ho he hs hbase hline
theorem sl_listNK (h : X.K = K) : SlR X (rSlLN K) := by subst h; exact sl_listN
end
section
variable {X : Cx}
/-- a captured name -/
theorem pvF {x : Str} {pos : Pos} (i : Nat) (hN : X.N[i]? = some x := by rfl) (hv : Vis X.env.scope x := by exact .inr (.inr rfl)) (hd : (x == ("__debug__" : Str)) = false := by decide) (hcd : (x == ("__classdict__" : Str)) = false := by decide) : PE X (.Name x pos) (tVar i) := pe_var hN hv hd hcd
/-- a def of one parameter that calls a lambda without parameters -/
theorem pe_met {x a : Str} {st : Stmt} {g c P : Addr} {k : Nat} {fd : FuncData} {Ng : List Str} {TT : (XK → Hp → VK → Prop) → Hp → VK → Prop} {params : Arguments} {body : Expr} {scope : Scope} {t : XK → TE} {p lpos pos : Pos} (hg : Gl X x) (D : Df X.K X.mg x st [a] g fd) (Sg : FnScope Ng [a] (defScope st)) (hNg : Ng[0]? = some a) (hva : Vis (defScope st) a)
    (hG : ∀ cdg : Value, GivesTo X Ng x (defScope st) g cdg (defBody st) a (X.env.qual ++ "<lambda>") TT) (TB : LamX.TabB X.base X.mg c P) (hcode : X.env.code = .ref c) (hr : Room (k + 2) X.A) (L : LamS X.env.scope scope) (hdef : defaultsOf params X.env = ([], []))
    (hbind : ∀ (q : Str) (cl : List (Str × Addr)) (pm cv ctv : Value), bindArgs (PySem.W.kla_fn "<lambda>" q params body scope cl pm cv ctv) ⟨[], []⟩ = pure [])
    (hbody : ∀ (A : Around) (outer : List Env) (s : Shared) (H : Hp) (E : XK) (f c' : Addr), Room k (A.deeper (lamEnv X scope s.heap.objs.size f c')) → PE (lamCx X A outer s H E scope f c') body (t E))
    (hdb : (x == ("__debug__" : Str)) = false := by decide) (hd : (a == ("__debug__" : Str)) = false := by decide) (hcd : (a == ("__classdict__" : Str)) = false := by decide) :
    PE X (.Call (.Name x p) [.Lambda params body scope lpos] [] pos) (tLam [(P, X.env.qual ++ "<lambda>")] TT t) := by
  have hb := D.b
  obtain ⟨oc, od, kV, doc, pm, an, cdv, ct, osl, rfl, lk, hcg⟩ := D.F.ex
  exact pe_lamcall hg D.g D.F.kp lk hcg hb Sg hNg hva (hG cdv) TB hcode (List.mem_singleton.mpr rfl) (fun q hq _ => by rw [List.mem_singleton.mp hq]) hr L hdef hbind hbody hdb hd hcd
end
end L2

set_option Elab.async false
set_option linter.all false
set_option maxRecDepth 100000
set_option maxHeartbeats 4000000
/-! sorted of rows whose items are data, lists and tuples -/
namespace L2
open PySem PySem.Spec PyProof.Rows
section
variable {prog : Program} {w : World} {A : Around} {E : Value → Shared → Prop} {s : Shared}
theorem sorted_bodyT {l : Addr} {vs : List Value} {Q : Value → Shared → Prop} (hl : s.heap.IsTuple l vs.toArray) (hL : vs.length ≤ sizeLine)
    (bd : ∀ E' : Value → Shared → Prop, wpAny (model prog w) A.in1.in1 (Builtin.«list.sort» ⟨[.ref (s.heap.objs.size + 1)], []⟩) (fun f s' => f = .done (.ret .none) ∧ Q (.ref (s.heap.objs.size + 1)) s') E' { s with heap := PySem.W.copyHeap s.heap vs }) :
    wpAny (model prog w) A (call (.builtin "sorted") [.ref l]) Q E s := by
  refine PyProof.Rows.call_function_entry_kw kind_sorted plain_sorted entry_sorted (args_sorted1 _) ?_
  unfold Builtin.«sorted»
  refine wpAny_bind (m := checkCount "sorted" 1 1 _) (wpAny_pure ?_)
  refine wpAny_bind (collect_tup hl ?_ hL)
  refine wpAny_bind (wpAny_newList ?_ hL)
  have sz : ((s.heap.push (seqObj "list" #[] 0)).update s.heap.objs.size (Obj.mapSeq (· ++ vs.toArray))).objs.size = s.heap.objs.size + 1 := by
    rw [Heap.size_update, size_push']
  show wpAny _ _ _ _ _ { s with heap := PySem.W.copyHeap s.heap vs }
  rw [sz]
  refine wpAny_bind (wpAny_holding (PyProof.Rows.wpAny_call_entry_kw slot_list_sort ⟨_, PySem.W.copyHeap_at s.heap vs, rfl⟩ entry_list_sort ?body (args_list_sort _)))
  case body =>
    show wpAny (model prog w) A.in1.in1 (Builtin.«list.sort» ⟨[.ref (s.heap.objs.size + 1)], []⟩) _ _ _
    refine wpAny_mono (bd _) (fun f s' hf => ?_) fun _ _ z => z
    obtain ⟨rfl, hq⟩ := hf
    exact ⟨_, rfl, wpAny_pure ⟨_, rfl, hq⟩⟩
end
section
variable {X : Cx} {β : Type}
theorem r_each {R : V → β → Prop} {pins : List (Addr × Obj)} {σ : St} {H : Hp} {s : Shared} {enc : β → PyData} (I : Inv X pins σ H s) (hR : ∀ x b, R x b → Dp X.K H x (enc b)) : ∀ (xs : List V) (its : List Value) (bs : List β), Vals xs its → Paired R xs bs →
    PySem.W.EachIs (fun v b => ∃ x, RelV x v ∧ R x b) its bs ∧ PySem.W.EachIs (fun v b => ∃ as, Reads s.heap v (enc b) as) its bs
  | _, _, _, .nil, .nil => ⟨.nil, .nil⟩
  | _, _, _, .cons r1 r2, .cons d1 d2 =>
    let ⟨h1, h2⟩ := r_each I hR _ _ _ r2 d2
    ⟨.cons ⟨_, r1, d1⟩ h1, .cons (Dp.reads I _ _ _ (hR _ _ d1) r1) h2⟩
theorem each_vals {R : V → β → Prop} : ∀ (out : List Value) (bs : List β), PySem.W.EachIs (fun v b => ∃ x, RelV x v ∧ R x b) out bs → ∃ ys : List V, Vals ys out ∧ Paired R ys bs
  | [], [], _ => ⟨[], .nil, .nil⟩
  | v :: out, b :: bs, h => by
    cases h with
    | cons h1 h2 =>
      obtain ⟨x, r, i⟩ := h1
      obtain ⟨ys, r2, p⟩ := each_vals out bs h2
      exact ⟨x :: ys, .cons r r2, .cons i p⟩
  | [], _ :: _, h => by cases h
  | _ :: _, [], h => by cases h
/-- sorted of a list or tuple whose items stand for bs, as R says of each -/
def rSortD (K : PySem.W.Frag) (enc : β → PyData) (R : Hp → V → β → Prop) : List V → Hp → VK → Prop := fun vs H Q => ∃ (a : Addr) (xs : List V) (bs : List β), vs = [.ref a] ∧ (SqL K H a xs ∨ SqT K H a xs) ∧ Paired (R H) xs bs ∧ (∀ x b, R H x b → Dp K H x (enc b)) ∧
  PySem.W.AllAlike (bs.map enc) ∧ PySem.W.Sortable (bs.map enc) ∧ (∀ b ∈ bs, (enc b).depth ≤ 20) ∧ bs.length ≤ 100000 ∧ ∀ ys, Paired (R H) ys (bs.mergeSort (PySem.W.dataLe false enc)) → New H (.lst ys) Q
theorem cr_sortD (enc : β → PyData) (R : Hp → V → β → Prop) {k : Nat} (hr : Room k X.A) : CallR X (.builtin "sorted") (rSortD X.K enc R) := by
  intro pins s σ H vs us Q I r h
  obtain ⟨a, xs, bs, rfl, hq, hd, hR, hal, hk, hdep, hlen, q⟩ := h
  rw [Vals.ref1 r]
  have hu := hr.un
  have room : ∀ b, b ∈ bs → X.A.units + 2 + (enc b).depth < cLine := fun b hb => by
    have := hdep b hb
    omega
  have fin : ∀ (its : List Value), Vals xs its → ∀ out, out.length = bs.length → PySem.W.EachIs (fun v b => ∃ x, RelV x v ∧ R H x b) out (bs.mergeSort (PySem.W.dataLe false enc)) → EP X pins σ Q (.ref (s.heap.objs.size + 1)) { s with heap := sortedAll s.heap its (List.toArray out) } := by
    intro its rv out hl he
    obtain ⟨ys, ry, py⟩ := each_vals out _ he
    obtain ⟨ep, he'⟩ := PyProof.Rows.sortedAll_at s.heap its out.toArray
    have ly : ys.length = out.length := ry.length
    have hn : H (s.heap.objs.size + 1) = none := I.hok.fresh (Nat.le_succ _)
    refine ⟨.ref _, upd H (s.heap.objs.size + 1) (.lst ys), I.laid (t' := s.toks) (fun _ _ => PyProof.Rows.sortedAll_old) (Nat.le_succ _) ⟨?_, out, ep, ry, he'⟩, rfl, (q ys py).go _ hn⟩
    rw [ly, hl, sizeLine_eq]
    omega
  rcases hq with hq | hq
  · obtain ⟨its, rv, hl, hz⟩ := I.list hq
    obtain ⟨e1, e2⟩ := r_each I hR xs its bs rv hd
    exact PySem.W.sorted_data hl.isList e1 e2 hal hk (by rw [sizeLine_eq]; omega) room (fin its rv)
  · obtain ⟨its, rv, hl, hz⟩ := I.tuple hq
    obtain ⟨e1, e2⟩ := r_each I hR xs its bs rv hd
    have e3 := e2.mono (fun v b ⟨as, z⟩ => (⟨as, PyProof.Rows.Reads.keeps (fun _ _ => PySem.W.sorting_copy_old) z⟩ : ∃ as, Reads (PySem.W.sortingHeap (PySem.W.copyHeap s.heap its) (s.heap.objs.size + 1) its) v (enc b) as))
    have il : its.length = bs.length := e1.length
    refine sorted_bodyT hl (by rw [il, sizeLine_eq]; omega) fun E' => ?_
    refine PySem.W.list_sort_vals (s := { s with heap := PySem.W.copyHeap s.heap its }) (PySem.W.copyHeap_at s.heap its) (PySem.W.SortsAt.data (s := { s with heap := PySem.W.sortingHeap (PySem.W.copyHeap s.heap its) (s.heap.objs.size + 1) its }) (PySem.W.each_map (R := fun v d => ∃ as, Reads (PySem.W.sortingHeap (PySem.W.copyHeap s.heap its) (s.heap.objs.size + 1) its) v d as) enc e3) hal hk (PySem.W.bound_map room)) (by rw [il, sizeLine_eq]; omega) ⟨rfl, ?_⟩
    exact fin its rv _ (by rw [PySem.W.sortVals_length false rfl]; exact il) (PySem.W.sortVals_data false e1 e3 hal)
end
end L2

set_option Elab.async false
set_option linter.all false
set_option maxRecDepth 100000
set_option maxHeartbeats 4000000
/-! a set comprehension whatever its members are: what set.add does with a member is told from outside; then of texts -/
namespace L2
open PySem PySem.Spec PyProof.Rows PpSet
/-- at D a set stands as f tells of its members so far; Ad says what an item adds -/
abbrev Adds := Addr → V → Hp → (Hp → Prop) → Prop
def tSetC (ini : Addr → HO) (Ad : Adds) (wi : TI) (g : TG) (tt : TT) (te : TE) (vs : List Nat) : TE := fun σ H Q => wi σ H fun J H1 => ∀ D, H1 D = none → ∃ W : Nat → Nat → Hp → Prop, (∃ m, W 0 m (upd H1 D (ini D))) ∧ ∀ i m H, W i m H →
  (J.stop i H ∧ Q (.ref D) H) ∨ (J.go i H ∧ ∃ Nx : Hp → Prop, (∀ H', Nx H' → ∃ m', m' < m ∧ W (i + 1) m' H') ∧ ∀ x H', J.yld i H x H' → g x (wipe σ vs) H' fun σ2 H2 => wipe σ2 vs = wipe σ vs ∧ tt σ2 H2 fun b H3 =>
    if b = true then te σ2 H3 fun y H4 => Ad D y H4 Nx else Nx H3)
def AddsOk (P : Program) (w : World) (Ad : Adds) : Prop := ∀ (X : Cx) (pins : List (Addr × Obj)) (σ : St) (H : Hp) (s : Shared) (D : Addr) (y : V) (u : Value) (Nx : Hp → Prop) (Q : Value → Shared → Prop) (E : Value → Shared → Prop), X.prog = P → X.w = w → Inv X pins σ H s → RelV y u → Ad D y H Nx →
  (∀ v s' H', Inv X pins σ H' s' → Nx H' → Q v s') → wpAny (model P w) X.A (call (.builtin "set.add") [.ref D, u]) Q E s
section
variable {X : Cx}
theorem setc_core {pins : List (Addr × Obj)} {s : Shared} {σ : St} {H : Hp} {Q : VK} {elt tg iter : Expr} {ifs : List Expr} {scope : Scope} {own : List (PySem.Str × Nat)} {pos pos' : Pos} {wi : TI} {g : TG} {tt : TT} {te : TE} {ini : Addr → HO} {Ad : Adds}
    (hini : ∀ (H : Hp) (h : Heap), ObjOk X.prog X.w H (h.push { cls := .type "set", dict := none, data := .set #[] 0 (.fresh 0 0 (!X.w.params.followText "set-order")) }) h.objs.size (ini h.objs.size)) (had : AddsOk X.prog X.w Ad)
    (hc : X.calm = true) (hN : X.N.Nodup) (I : Inv X pins σ H s) (hi : PI X tg iter wi) (ok : BlkOk X.N X.env.scope scope own)
    (hg : ∀ (s : Shared) (H : Hp) (C : Addr) (cl : List (PySem.Str × Addr)) (fp : List Addr), PG (X.blk s H scope (compEnvC scope cl C X.env) fp) tg g) (ht : ∀ (s : Shared) (H : Hp) (C : Addr) (cl : List (PySem.Str × Addr)) (fp : List Addr), PTs (X.blk s H scope (compEnvC scope cl C X.env) fp) ifs tt)
    (he : ∀ (s : Shared) (H : Hp) (C : Addr) (cl : List (PySem.Str × Addr)) (fp : List Addr), PE (X.blk s H scope (compEnvC scope cl C X.env) fp) elt te) (hs : ∀ x, foldedSetIterable iter X.env x = pure x)
    (h : tSetC ini Ad wi g tt te (own.map (·.2)) σ H Q) :
    wpAny (model X.prog X.w) X.A (comprehension (.SetComp elt [⟨tg, iter, ifs, 0⟩] scope pos) scope X.env pos' (newSet (.type "set")) false (eval iter X.env)) (EP X pins σ Q) X.xe s := by
  have hfree : ∀ y ∈ scope.names, y.2 = .free → ∃ c, X.env.cells.lookup y.1 = some c := fun y hy e => (ok.free y hy e).elim (fun k => I.ok.has _ (.inl k)) fun k => I.ok.has _ (.inr k)
  refine wpAny_comprehension_free rfl hs (closure_ok hfree) ok.kind (fun y hy e => by rw [ok.uniq y hy, e]) (thn (hi.run pins s σ H _ I h) fun xv s1 hx => thn hx fun itv s2 h2 => ?_)
  obtain ⟨it, fp, tn, J, H2, e, I2, T, st2, f2, q⟩ := h2
  subst e
  refine newSet_ok (newEnv_comp ?_)
  have I3 := I2.laid (t' := s2.toks) (fun b o e => Heap.get?_push_of_some _ e) (Nat.le_refl _) (hini _ s2.heap)
  obtain ⟨W, ⟨m0, w0⟩, turn⟩ := q s2.heap.objs.size (I2.hok.fresh (Nat.le_refl _))
  have sz : ∀ b ∈ fp, b < s2.heap.objs.size := fun b hb => let ⟨o, e, _⟩ := T.obj _ _ st2 b hb; Heap.lt_size e
  have f3 : ∀ b ∈ fp, FpOk X pins (upd H2 s2.heap.objs.size (ini s2.heap.objs.size)) b ∧ b < s2.heap.objs.size + 1 := fun b hb =>
    ⟨⟨by rw [upd_ne (Nat.ne_of_lt (sz b hb))]; exact (f2 b hb).1, (f2 b hb).2⟩, Nat.lt_succ_of_lt (sz b hb)⟩
  have st3 := T.keep _ _ (s2.heap.push { cls := .type "set", dict := none, data := .set #[] 0 (.fresh 0 0 (!X.w.params.followText "set-order")) }) st2 fun b _ o e => Heap.get?_push_of_some _ e
  have z3 : (s2.heap.push { cls := .type "set", dict := none, data := .set #[] 0 (.fresh 0 0 (!X.w.params.followText "set-order")) }).objs.size = s2.heap.objs.size + 1 := Heap.size_push ..
  generalize hDD : s2.heap.objs.size = D at I3 w0 turn f3 z3 ⊢
  rw [← z3] at f3
  generalize hs3 : ({ s2 with heap := s2.heap.push { cls := .type "set", dict := none, data := .set #[] 0 (.fresh 0 0 (!X.w.params.followText "set-order")) } } : Shared) = s3 at I3
  have h3 : s2.heap.push { cls := .type "set", dict := none, data := .set #[] 0 (.fresh 0 0 (!X.w.params.followText "set-order")) } = s3.heap := by rw [← hs3]
  rw [h3] at f3 st3
  have I4 := block_start I3 ok hN f3
  have pg := hg s3 (upd H2 D (ini D)) s3.heap.objs.size (cellsFrom (s3.heap.objs.size + 1) scope.names (cloFrom X.env.cells scope.names [])) fp
  have pt := ht s3 (upd H2 D (ini D)) s3.heap.objs.size (cellsFrom (s3.heap.objs.size + 1) scope.names (cloFrom X.env.cells scope.names [])) fp
  have pe := he s3 (upd H2 D (ini D)) s3.heap.objs.size (cellsFrom (s3.heap.objs.size + 1) scope.names (cloFrom X.env.cells scope.names [])) fp
  have goal_at : codeAny (model X.prog X.w) X.A (.compStart (.SetComp elt [⟨tg, iter, ifs, 0⟩] scope pos) 0 (.ref it) (.ref D) (compEnvC scope (cellsFrom (s3.heap.objs.size + 1) scope.names (cloFrom X.env.cells scope.names [])) s3.heap.objs.size X.env)) (compPost (model X.prog X.w) X.A X.xe none (EP X pins σ Q) (.ref D) s3.heap.objs.size) { s3 with heap := pushCells (s3.heap.push { cls := .type "dict", data := .dict #[] }) scope.names } := by
    have nfp : ∀ b ∈ fp, (upd H2 D (ini D)) b = none := fun b hb => (f3 b hb).1.1
    generalize hce : compEnvC scope (cellsFrom (s3.heap.objs.size + 1) scope.names (cloFrom X.env.cells scope.names [])) s3.heap.objs.size X.env = ce at I4 pg pt pe ⊢
    have cL : ce.locals = s3.heap.objs.size := by subst hce; rfl
    generalize hH3 : upd H2 D (ini D) = H3 at I3 I4 pg pt pe w0 nfp f3
    generalize hs4 : ({ s3 with heap := pushCells (s3.heap.push { cls := .type "dict", data := .dict #[] }) scope.names } : Shared) = s4 at I4 ⊢
    have st4 : tn 0 s4.heap := T.keep _ _ _ st3 fun b _ o e => by rw [← hs4]; exact pushCells_keeps _ _ _ _ (Heap.get?_push_of_some _ e)
    have stat : ∀ {σ' : St} {H' : Hp} {s' : Shared}, Inv (X.blk s3 H3 scope ce fp) [] σ' H' s' → (∀ b ∈ fp, H' b = none) → ∀ b ∈ fp, FpOk (X.blk s3 H3 scope ce fp) [] H' b := fun {σ' H' s'} I' hn b hb =>
      ⟨hn b hb, (I'.ok.exf b hb).1, I'.ok.exfs b hb, .inl hb, fun x c e => (I'.ok.exf b hb).2 x c e, fun p hp => absurd (show p ∈ ([] : List (Addr × Obj)) ++ [] from hp) (by simp)⟩
    have loop : codeAny (model X.prog X.w) X.A (.compLoop (.SetComp elt [⟨tg, iter, ifs, 0⟩] scope pos) 0 (.ref it) (.ref D) ce) (compPost (model X.prog X.w) X.A X.xe none (EP X pins σ Q) (.ref D) s3.heap.objs.size) s4 := by
      refine compLoopS_any (fun n s' => ∃ i H', Inv (X.blk s3 H3 scope ce fp) [] (wipe σ (own.map (·.2))) H' s' ∧ tn i s'.heap ∧ (∀ b ∈ fp, H' b = none) ∧ W i n H') ?_ m0 ⟨0, H3, I4, st4, nfp, w0⟩
      rintro n s5 ⟨i, H5, I5, st5, n5, w5⟩
      rcases turn i n H5 w5 with ⟨stop, qq⟩ | ⟨go, Nx, hNx, step⟩
      · refine thnF (T.done (X.blk s3 H3 scope ce fp) rfl rfl rfl hc i [] s5 _ H5 (fun _ _ => False) I5 (stat I5 n5) st5 stop) fun r s6 ⟨hr, I6⟩ => ?_
        subst hr
        have I7 : Inv X pins σ H5 s6 := I3.call' (ch := fp) I6.os I6.base I6.hok I6.bare fun b hb => ⟨(f3 b hb).1.2.2.2.1, (f3 b hb).1.2.1, (f3 b hb).1.2.2.2.2.1, (f3 b hb).1.2.2.2.2.2⟩
        have nC : H5 s3.heap.objs.size = none := by
          have z : H5 ce.locals = none := I6.free
          rw [cL] at z
          exact z
        obtain ⟨m, hn, _⟩ := I6.loc
        have hn : s6.heap.Ns ce.locals m := hn
        rw [cL] at hn
        refine ⟨m, hn, fun h'' sb => ?_⟩
        obtain ⟨f0, f1, f2', f3', f4, f5⟩ := I3.fpOk (Nat.le_refl _) nC
        exact ⟨.ref D, H5, I7.turned (t' := s6.toks) (fun b o hb e => (sb.2 b hb).trans e) f0 f1 f3' f4 f5, rfl, qq⟩
      · refine thnF (T.item (X.blk s3 H3 scope ce fp) rfl rfl rfl hc i [] s5 _ H5 (fun _ _ => False) I5 (stat I5 n5) st5 go) fun r s6 ⟨u, hr, h6⟩ => ?_
        subst hr
        refine thnF h6 fun _ s7 ⟨x, H7, I7, r7, y7, st7, n7⟩ => ?_
        have I7' := I7.pinned (stat I7 n7) (T.obj _ _ st7)
        refine thnF (pg.run _ s7 _ H7 x u _ I7' r7 (step x H7 y7)) fun _ s8 ⟨σ8, H8, I8, hw8, q8⟩ => ?_
        refine thnF (pt.run _ s8 σ8 H8 _ I8 q8) fun b s9 ⟨H9, I9, q9⟩ => ?_
        have fin : ∀ {s' : Shared} {H' : Hp}, Inv (X.blk s3 H3 scope ce fp) ([] ++ pinsAt fp s7.heap) σ8 H' s' → Nx H' → ∃ m, m < n ∧ ∃ i H', Inv (X.blk s3 H3 scope ce fp) [] (wipe σ (own.map (·.2))) H' s' ∧ tn i s'.heap ∧ (∀ b ∈ fp, H' b = none) ∧ W i m H' := fun {s' H'} I' nx => by
          obtain ⟨m', hm, w'⟩ := hNx H' nx
          have pin' : ∀ b ∈ fp, ∀ o, s7.heap.get? b = some o → s'.heap.get? b = some o ∧ H' b = none := fun b hb o e =>
            let z := I'.pin (b, o) (List.mem_append_right _ (List.mem_append_right _ (mem_pinsAt hb e)))
            ⟨z.1, z.2.1⟩
          have hl : (wipe σ (own.map (·.2))).length = σ8.length := by rw [← hw8, wipe_length]
          refine ⟨m', hm, i + 1, H', (I'.unpinned (pins := [])).weak hl (fun j v e => ?_), T.keep _ _ _ st7 fun b hb o e => (pin' b hb o e).1, fun b hb => ?_, w'⟩
          · rw [← hw8] at e
            exact (wipe_some e).1
          · obtain ⟨o, e, _⟩ := T.obj _ _ st7 b hb
            exact (pin' b hb o e).2
        cases b with
        | false =>
          simp only [Bool.false_eq_true, if_false] at q9 ⊢
          exact fin I9 q9
        | true =>
          simp only [if_true] at q9 ⊢
          refine thnF (pe.run _ s9 σ8 H9 _ I9 q9) fun z s10 ⟨yv, H10, I10, r10, ad⟩ => ?_
          exact had (X.blk s3 H3 scope ce fp) _ _ _ _ _ _ _ _ _ _ rfl rfl I10 r10 ad fun _ s11 H11 I11 nx => fin I11 nx
    exact codeAny_compStart_set loop (T.self X.A 0 _ _ _ st4 loop)
  exact goal_at
theorem pe_setc {elt tg iter : Expr} {ifs : List Expr} {scope : Scope} {own : List (PySem.Str × Nat)} {pos : Pos} {wi : TI} {g : TG} {tt : TT} {te : TE} {ini : Addr → HO} {Ad : Adds}
    (hini : ∀ (H : Hp) (h : Heap), ObjOk X.prog X.w H (h.push { cls := .type "set", dict := none, data := .set #[] 0 (.fresh 0 0 (!X.w.params.followText "set-order")) }) h.objs.size (ini h.objs.size)) (had : AddsOk X.prog X.w Ad)
    (hc : X.calm = true) (hN : X.N.Nodup) (hi : PI X tg iter wi) (ok : BlkOk X.N X.env.scope scope own)
    (hg : ∀ (s : Shared) (H : Hp) (C : Addr) (cl : List (PySem.Str × Addr)) (fp : List Addr), PG (X.blk s H scope (compEnvC scope cl C X.env) fp) tg g) (ht : ∀ (s : Shared) (H : Hp) (C : Addr) (cl : List (PySem.Str × Addr)) (fp : List Addr), PTs (X.blk s H scope (compEnvC scope cl C X.env) fp) ifs tt)
    (he : ∀ (s : Shared) (H : Hp) (C : Addr) (cl : List (PySem.Str × Addr)) (fp : List Addr), PE (X.blk s H scope (compEnvC scope cl C X.env) fp) elt te) (hs : ∀ x, foldedSetIterable iter X.env x = pure x := by intro _; rfl) :
    PE X (.SetComp elt [⟨tg, iter, ifs, 0⟩] scope pos) (tSetC ini Ad wi g tt te (own.map (·.2))) :=
  ⟨fun pins s σ H Q I h => by rw [eval_SetComp]; exact setc_core hini had hc hN I hi ok hg ht he hs h⟩
end
/-- over a tuple that stays as it is -/
theorem setc_tup {K : PySem.W.Frag} {a : Addr} {xs : List V} {g : TG} {tt : TT} {te : TE} {vs : List Nat} {σ : St} {H1 : Hp} {D : Addr} {Qd : Hp → Prop} {ini : Addr → HO} {Ad : Adds} (Pv : Nat → Hp → Prop) (h0 : Pv 0 (upd H1 D (ini D))) (hl : ∀ i H, i ≤ xs.length → Pv i H → SqT K H a xs)
    (hs : ∀ i x H, xs[i]? = some x → Pv i H → g x (wipe σ vs) H fun σ2 H2 => wipe σ2 vs = wipe σ vs ∧ tt σ2 H2 fun b H3 => if b = true then te σ2 H3 fun y H4 => Ad D y H4 (Pv (i + 1)) else Pv (i + 1) H3) (hd : ∀ H, Pv xs.length H → Qd H) :
    ∃ W : Nat → Nat → Hp → Prop, (∃ m, W 0 m (upd H1 D (ini D))) ∧ ∀ i m H, W i m H →
      ((Itt K a).stop i H ∧ Qd H) ∨ ((Itt K a).go i H ∧ ∃ Nx : Hp → Prop, (∀ H', Nx H' → ∃ m', m' < m ∧ W (i + 1) m' H') ∧ ∀ x H', (Itt K a).yld i H x H' → g x (wipe σ vs) H' fun σ2 H2 => wipe σ2 vs = wipe σ vs ∧ tt σ2 H2 fun b H3 =>
        if b = true then te σ2 H3 fun y H4 => Ad D y H4 Nx else Nx H3) := by
  refine ⟨fun i m H => m + i = xs.length ∧ Pv i H, ⟨xs.length, rfl, h0⟩, ?_⟩
  rintro i m H ⟨hm, p⟩
  have q := hl i H (by omega) p
  by_cases hlt : i < xs.length
  · refine .inr ⟨⟨xs, xs[i], q, by simp [hlt]⟩, Pv (i + 1), fun H' p' => ⟨m - 1, by omega, by omega, p'⟩, fun x H' y => ?_⟩
    obtain ⟨e, y⟩ := y
    subst e
    exact hs i x _ (y xs q) p
  · obtain rfl : i = xs.length := by omega
    exact .inl ⟨⟨xs, q, Nat.le_refl _⟩, hd H p⟩
/-! ### of texts -/
def SetSO (P : Program) (w : World) (a : Addr) (S : Str → Bool) (n : Nat) : HO := .ext fun h => Gt.SetS P w h a S n
theorem setSO_new {w : World} {P : Program} {H : Hp} {h : Heap} {a : Addr} {S : Str → Bool} {n : Nat} (R : Gt.SetS P w h a S n) : ObjOk P w H h a (SetSO P w a S n) := by
  have ⟨o, _, _, _, ho, _⟩ := R
  exact ⟨R, ⟨o, ho⟩, fun h1 h2 p k => Gt.SetS.at p k⟩
def iniS (P : Program) (w : World) : Addr → HO := fun a => SetSO P w a (fun _ => false) 0
theorem iniS_ok {P : Program} {w : World} (H : Hp) (h : Heap) : ObjOk P w H (h.push { cls := .type "set", dict := none, data := .set #[] 0 (.fresh 0 0 (!w.params.followText "set-order")) }) h.objs.size (iniS P w h.objs.size) :=
  setSO_new (Gt.fresh_at w (Heap.get?_push_size _ rfl))
def addS (P : Program) (w : World) : Adds := fun D y H Nx => ∃ (c : Str) (S : Str → Bool) (n : Nat), y = .str c ∧ H D = some (SetSO P w D S n) ∧ n + 1 < scanBound ∧ Nx (upd H D (SetSO P w D (fun j => S j || decide (j = c)) (if S c = true then n else n + 1)))
theorem SetS.typ {P : Program} {w : World} {s : Shared} {a : Addr} {S : Str → Bool} {n : Nat} (R : Gt.SetS P w s.heap a S n) : s.TypeIs (.ref a) "set" := by
  obtain ⟨o, _, _, _, ho, hx, _⟩ := R
  exact ⟨o, ho, hx.1⟩
theorem addS_ok {P : Program} {w : World} : AddsOk P w (addS P w) := by
  intro X pins σ H s D y u Nx Q E hP hw I r ad q
  obtain ⟨c, S, n, rfl, hD, room, nx⟩ := ad
  obtain ⟨tk, rfl⟩ := r
  subst hP hw
  have R : Gt.SetS X.prog X.w s.heap D S n := (I.hok D _ hD).1
  refine wpAny_call_entry F.slot_set_add (SetS.typ R) F.entry_set_add ?_ (F.args_set_add_2 _ _)
  unfold Builtin.«set.add» Builtin.Frozenset.oneOther
  simp only [List.isEmpty_nil, bind_assoc]
  unfold Builtin.Frozenset.addrOf setAdd
  refine wpAny_bind (wpAny_pure ?_)
  try dsimp only
  refine wpAny_bind (wpAny_pure ?_)
  try dsimp only
  refine wpAny_bind (wpAny_holding (wpAny_bind ((PySem.strKind X.prog X.w).pyHash (k := c) (strKind_is _ _ _ _) ?_)))
  refine Gt.add_hashed (s := { s with toks := s.toks + 1 }) R room fun h' sb new => ?_
  have he : ∃ u, h'.get? D = some u := by
    have ⟨o, _, _, _, ho, _⟩ := new
    exact ⟨o, ho⟩
  show wpAny _ _ (ret Value.none) _ _ _
  exact wpAny_pure ⟨_, rfl, q _ _ _ (I.write (e := D) (t' := s.toks + 1) (by rw [hD]; trivial) (.inl rfl) (fun b u hb hu => (sb.2 b hb).trans hu) he (setSO_new new)) nx⟩
/-- sorted of such a set -/
def rSortSS (P : Program) (w : World) : List V → Hp → VK → Prop := fun vs H Q => ∃ (a : Addr) (S : Str → Bool) (n : Nat), vs = [.ref a] ∧ H a = some (SetSO P w a S n) ∧ n < 64 ∧ ∀ ys : List Str, sortedS ys = true → ys.Nodup → (∀ k, k ∈ ys ↔ S k = true) → New H (.lst (ys.map V.str)) Q
section
variable {X : Cx}
theorem cr_sortSS (hc : X.calm = true) : CallR X (.builtin "sorted") (rSortSS X.prog X.w) := by
  intro pins s σ H vs us Q I r h
  obtain ⟨a, S, n, rfl, ha, hn, q⟩ := h
  rw [Vals.ref1 r]
  have R : Gt.SetS X.prog X.w s.heap a S n := (I.hok a _ ha).1
  refine Gt.sorted_set R (I.ok.hd hc) hn fun s' p out c ys k2 g2 o2 hz hp hI hs hnd hmem => ?_
  have fr : H p = none := I.hok.fresh hz
  have hlen : (ys.map V.str).length ≤ sizeLine := by
    obtain ⟨o, es, ep, t, ho, hex, hd, g, nd, hm, hb, hf, hsz, _⟩ := R
    rw [List.length_map]
    have sub := nodup_sub_len ys (es.toList.map Gt.keyOf) hnd fun k hk => (hm k).mp ((hmem k).mp hk)
    rw [List.length_map] at sub
    have es1 : es.toList.length = es.size := Array.length_toList
    rw [sizeLine_eq]
    omega
  have J : Inv X pins σ (upd H p (.lst (ys.map V.str))) { s with heap := s'.heap, gens := s'.gens, drawn := s'.drawn, toks := s'.toks } :=
    I.call (ch := []) (Un.laid k2 hz fr) (I.hok.laid k2 hz ⟨hlen, out.toList, c, vals_of_strs hI, hp⟩) (by rw [g2]; exact I.bare) (fun _ z => nomatch z)
  have e : s' = { s with heap := s'.heap, gens := s'.gens, drawn := s'.drawn, toks := s'.toks } := by
    cases s'
    cases s
    cases o2
    rfl
  rw [e]
  exact ⟨.ref p, _, J, rfl, (q ys hs hnd hmem).go p fr⟩
end
end L2

set_option Elab.async false
set_option linter.all false
set_option maxRecDepth 100000
set_option maxHeartbeats 4000000
/-! an own class's len, str, == and !=; making one by a local name, or where it may raise -/
namespace L2
open PySem PySem.Spec PyProof.Rows
/-- the class at C has the def at f under the name -/
structure OwnD (K : PySem.W.Frag) (C : Addr) (nm : Str) (f : Addr) : Prop where
  at_ : PySem.W.findIn K (.ref C) nm = some (some (.ref f))
  fn : PySem.W.isFn K (.ref f) = true
section
variable {X : Cx} {CX : CXT} {n : Nat} {C f : Addr} {fd : FuncData} {ps : List Str} {sp : Sp} {E : XK}
theorem run_in {A : Around} {pins : List (Addr × Obj)} {σ : St} {H : Hp} {s : Shared} {Q : VK} {us : List Value} {vs : List V} (F : FnOk X.prog X.w X.K X.mg X.base CX n f fd ps sp) (hb : Binds X.K fd ps []) (hx : Passes CX X E) (sb : Sub X n A) (I : Inv X pins σ H s) (r : Vals vs us) (h : sp vs H Q E) :
    wpAny (model X.prog X.w) A (call (.ref f) us) (EP X pins σ Q) X.xe s := by
  have e0 : Env0 X.prog X.w X.K X.mg X.base A X.stack s H := by
    have e := I.env0
    exact ⟨by rw [sb.fr]; exact e.frames, e.mod, e.bs, e.bsz, e.funs, e.frf, e.hok, e.bare⟩
  have hl : us.length = ps.length := by rw [← r.length]; exact F.len _ _ _ _ h
  have b := hb s us I.kIn (by rw [List.append_nil]; exact hl)
  rw [List.append_nil] at b
  refine wpAny_call (codeAny_mono (F.run A X.stack s H ⟨us, []⟩ us vs Q E sb.room e0 b r h) fun o s' hq => ?_)
  cases o with
  | error e => exact hx pins σ H s e s' I hq
  | ok fl =>
    cases fl with
    | ret w => exact I.after hq
    | next => exact False.elim hq
    | brk => exact False.elim hq
    | cont => exact False.elim hq
def InsAt (C : Addr) (H : Hp) (a : Addr) : Prop := ∃ dx fs, H a = some (.ins C dx fs)
/-- len(x) -/
def rLenO (C : Addr) (sp : Sp) (E : XK) : List V → Hp → VK → Prop := fun vs H Q => ∃ a, vs = [.ref a] ∧ InsAt C H a ∧ sp [.ref a] H (fun v H' => ∃ n : Int, v = .int n ∧ 0 ≤ n ∧ n < 2 ^ 63 ∧ Q v H') E
theorem cr_lenO (O : OwnD X.K C "__len__" f) (F : FnOk X.prog X.w X.K X.mg X.base CX n f fd ps sp) (hb : Binds X.K fd ps []) (hx : Passes CX X E) (hr : Room (n + 1) X.A) : CallR X (.builtin "len") (rLenO C sp E) := by
  intro pins s σ H vs us Q I r h
  obtain ⟨a, rfl, ⟨dx, fs, ea⟩, q⟩ := h
  rw [Vals.ref1 r]
  obtain ⟨mA, J, _⟩ := ins_get I.hok ea
  obtain ⟨od, J, _⟩ := J.look
  obtain ⟨m, hF⟩ := I.fr
  refine PySem.W.len_K hF I.ok.mod.kin J O.at_ O.fn (thn (run_in (vs := [.ref a]) F hb hx ⟨hr.in1, rfl⟩ I (.cons rfl .nil) q) fun u s1 ⟨x, H1, I1, rx, k, ex, h0, h1, q1⟩ => ?_)
  subst ex
  obtain ⟨t, rfl⟩ := rx
  exact ⟨⟨h0, h1⟩, .int k, H1, I1.tok _, ⟨_, rfl⟩, q1⟩
/-- str(x) -/
def rStrO (C : Addr) (sp : Sp) (E : XK) : List V → Hp → VK → Prop := fun vs H Q => ∃ a, vs = [.ref a] ∧ InsAt C H a ∧ sp [.ref a] H (fun v H' => ∃ z : Str, v = .str z ∧ Q v H') E
theorem cr_strO (O : OwnD X.K C "__str__" f) (F : FnOk X.prog X.w X.K X.mg X.base CX n f fd ps sp) (hb : Binds X.K fd ps []) (hx : Passes CX X E) (hr : Room (n + 2) X.A) : CallR X (.type "str") (rStrO C sp E) := by
  intro pins s σ H vs us Q I r h
  obtain ⟨a, rfl, ⟨dx, fs, ea⟩, q⟩ := h
  rw [Vals.ref1 r]
  obtain ⟨mA, J, _⟩ := ins_get I.hok ea
  obtain ⟨od, J, _⟩ := J.look
  refine PySem.W.kso_call hr.in1.in1.units0 I.kIn J O.at_ O.fn (thn (run_in (vs := [.ref a]) F hb hx ⟨hr.in1.in1, rfl⟩ I (.cons rfl .nil) q) fun u s1 ⟨x, H1, I1, rx, z, ex, q1⟩ => ?_)
  subst ex
  obtain ⟨t, rfl⟩ := rx
  exact ⟨.str z, H1, I1, ⟨_, rfl⟩, q1⟩
/-- x == y and x != y, x of the class at C, y of whatever kind -/
def rEqO (K : PySem.W.Frag) (C : Addr) (sp : Sp) (E : XK) (neg : Bool) : R2 := fun x y H Q => ∃ a t, x = .ref a ∧ InsAt C H a ∧ TyX K H y t ∧ PySem.W.notFirst K C t = true ∧ sp [.ref a, y] H (fun v H' => ∃ b : Bool, v = .bl b ∧ Q (.bl (neg.xor b)) H') E
theorem op_eqO (O : OwnD X.K C "__eq__" f) (F : FnOk X.prog X.w X.K X.mg X.base CX n f fd ps sp) (hb : Binds X.K fd ps []) (hx : Passes CX X E) (hr : Room n X.A) : OpR X (compareOp .Eq) (rEqO X.K C sp E false) := by
  intro pins s σ H x y u v Q I rx ry h
  obtain ⟨a, t, rfl, ⟨dx, fs, ea⟩, ty, nf, q⟩ := h
  cases rx
  obtain ⟨mA, J, _⟩ := ins_get I.hok ea
  obtain ⟨od, J, _⟩ := J.look
  obtain ⟨m, hF⟩ := I.fr
  obtain ⟨P, kit, hp, _⟩ := kit_of I ry ty
  refine PySem.W.cmp_K (op := .Eq) hr.units0 hF I.ok.mod.kin J (kit.ty _ _ I.kIn hp) nf O.at_ O.fn (thn (run_in (vs := [.ref a, y]) F hb hx ⟨hr, rfl⟩ I (.cons rfl (.cons ry .nil)) q) fun w s1 ⟨z, H1, I1, rz, b, ez, q1⟩ => ?_)
  subst ez
  cases rz
  have e : (false ^^ b) = b := by cases b <;> rfl
  rw [e] at q1
  exact ⟨.bl b, H1, I1, rfl, q1⟩
theorem one_bind (self : Value) : bindSpecial (.builtin "object.__ne__") self = pure (.builtin "object.__ne__", [self]) :=
  (Slot.of (T := "object") (name := "__ne__") (owner := "object") (n := "__ne__") (by rw [typeLookup_type, builtinLookup_eq_fast]; kernel_rfl) (by decide +kernel) (by decide +kernel) (by decide +kernel)
    (.inl (by decide +kernel)) (by rw [isSubtype_type]; kernel_rfl)).bind self
theorem one_plain : plainId "object.__ne__" = true := by decide +kernel
end
section
open PySem.W
variable {prog : Program} {w : World} {A : Around} {E : Value → Shared → Prop} {s : Shared} {K : PySem.W.Frag} {x C f : Addr} {ox : Obj} {od : Option Obj}
/-- x.__ne__(b) by the class's own __eq__ -/
theorem one_call {b : Value} {Q : Value → Shared → Prop} (hu : A.in1.units < cLine) (Xk : K.In s.heap) (I : InstAt s.heap x ox C od) (ho : mroIn K C (.type "object") = some true) (hs : findIn K (.ref C) "__eq__" = some (some (.ref f))) (hf : isFn K (.ref f) = true)
    (h : wpAny (model prog w) A.in1 (call (.ref f) [.ref x, b]) (fun v s' => ∃ c : Bool, v = .bool c ∧ Q (.bool (!c)) s') E s) : wpAny (model prog w) A (call (.builtin "object.__ne__") [.ref x, b]) Q E s := by
  have t2 : Looks (model prog w) s.heap (isInstance (.ref x) (.type "object")) true := I.type.andThen (looks_mroIn Xk ho)
  refine wpAny_call (codeAny_call_builtin one_plain F.cmpEntry_ne (check_slot F.cmpKind_ne F.cmpSplit_ne t2 (F.cmpArgs_ne _ _) ?_))
  unfold Builtin.«object.__ne__»
  refine wpAny_bind (m := slotArgs "__ne__" 1 _) (wpAny_pure ?_)
  refine wpAny_bind (wpAny_cRoomFor hu ?_)
  refine wpAny_bind (m := callSpecialIfBound? (.ref x) (Str.ofString "__eq__") [b]) (ifBound_K Xk I hs hf (wpAny_mono h (fun r s' hr => ?_) fun _ _ e => e))
  obtain ⟨c, rfl, q⟩ := hr
  dsimp only
  refine wpAny_bind (wpAny_truthy_bool ?_)
  exact wpAny_pure q
theorem ifBound_ne {b : Value} {Q : Option Value → Shared → Prop} (Xk : K.In s.heap) (I : InstAt s.heap x ox C od) (hs : findIn K (.ref C) "__ne__" = some (some (.builtin "object.__ne__")))
    (h : wpAny (model prog w) A (call (.builtin "object.__ne__") [.ref x, b]) (fun v => Q (some v)) E s) : wpAny (model prog w) A (callSpecialIfBound? (.ref x) "__ne__" [b]) Q E s := by
  simp only [callSpecialIfBound?, bindSpecialIfBound?]
  refine wpAny_holding (wpAny_bind (wpAny_bind (wpAny_bind (I.type.here ((looks_findIn Xk hs).here ?_)))))
  refine wpAny_bind (wpAny_askSetting (wpAny_ite ?_))
  have fin : wpAny (model prog w) A (call (.builtin "object.__ne__") ([.ref x] ++ [b]) >>= fun v => pure (some v)) Q E s := wpAny_bind (wpAny_mono h (fun v s' h' => wpAny_pure h') fun _ _ h' => h')
  have bd : Looks (model prog w) s.heap (bindSpecial (.builtin "object.__ne__") (.ref x)) (.builtin "object.__ne__", [.ref x]) := Looks.of_pure (one_bind _)
  split
  · exact wpAny_bind (bd.here (wpAny_pure fin))
  · exact wpAny_tryCatch (wpAny_bind (bd.here (wpAny_pure fin)))
theorem ne_K {b tb : Value} {Q : Value → Shared → Prop} (hu : A.units + 8 < cLine) (Xk : K.In s.heap) (I : InstAt s.heap x ox C od) (hb : Looks (model prog w) s.heap (typeOf b) tb) (hn : notFirst K C tb = true) (ho : mroIn K C (.type "object") = some true)
    (hne : findIn K (.ref C) "__ne__" = some (some (.builtin "object.__ne__"))) (hs : findIn K (.ref C) "__eq__" = some (some (.ref f))) (hf : isFn K (.ref f) = true)
    (h : wpAny (model prog w) A.in1 (call (.ref f) [.ref x, b]) (fun v s' => ∃ c : Bool, v = .bool c ∧ Q (.bool (!c)) s') E s) : wpAny (model prog w) A (richCompare .NotEq (.ref x) b) Q E s := by
  have one : wpAny (model prog w) A (tryCompare (.ref x) "__ne__" b) (fun r s' => ∃ v, r = some v ∧ Q v s') E s := by
    unfold tryCompare
    refine wpAny_bind (ifBound_ne Xk I hne (one_call (by show A.units + 1 < cLine; omega) Xk I ho hs hf (wpAny_mono h (fun v s' hv => ?_) fun _ _ e => e)))
    obtain ⟨c, rfl, q⟩ := hv
    exact ⟨c, rfl, wpAny_pure ⟨_, rfl, q⟩⟩
  unfold richCompare
  simp only [oneThing_ref]
  refine wpAny_holding (wpAny_bind (wpAny_cRoomFor (by omega) ?_))
  refine wpAny_bind (I.type.here (wpAny_bind (hb.here ?_)))
  split
  · rename_i q
    have e : subIn K tb (.ref C) = some false := by
      rcases Bool.or_eq_true_iff.mp hn with e | e
      · rw [beq_iff_eq.mp e] at q; simp at q
      · exact beq_iff_eq.mp e
    refine wpAny_bind ((looks_subIn Xk e).here ?_)
    simp only [Bool.false_eq_true, if_false]
    refine wpAny_bind (wpAny_mono one (fun r s' z => ?_) fun _ _ e => e)
    obtain ⟨v, rfl, hq⟩ := z
    exact wpAny_pure hq
  · refine wpAny_bind (wpAny_pure ?_)
    simp only [Bool.false_eq_true, if_false]
    refine wpAny_bind (wpAny_mono one (fun r s' z => ?_) fun _ _ e => e)
    obtain ⟨v, rfl, hq⟩ := z
    exact wpAny_pure hq
end
section
variable {X : Cx} {CX : CXT} {n : Nat} {C f : Addr} {fd : FuncData} {ps : List Str} {sp : Sp} {E : XK}
theorem op_neO (O : OwnD X.K C "__eq__" f) (hne : PySem.W.findIn X.K (.ref C) "__ne__" = some (some (.builtin "object.__ne__"))) (ho : PySem.W.mroIn X.K C (.type "object") = some true) (F : FnOk X.prog X.w X.K X.mg X.base CX n f fd ps sp) (hb : Binds X.K fd ps []) (hx : Passes CX X E) (hr : Room (n + 1) X.A) : OpR X (compareOp .NotEq) (rEqO X.K C sp E true) := by
  intro pins s σ H x y u v Q I rx ry h
  obtain ⟨a, t, rfl, ⟨dx, fs, ea⟩, ty, nf, q⟩ := h
  cases rx
  obtain ⟨mA, J, _⟩ := ins_get I.hok ea
  obtain ⟨od, J, _⟩ := J.look
  obtain ⟨P, kit, hp, _⟩ := kit_of I ry ty
  refine ne_K (by have := hr.un; omega) I.kIn J (kit.ty _ _ I.kIn hp) nf ho hne O.at_ O.fn (thn (run_in (vs := [.ref a, y]) F hb hx ⟨hr.in1, rfl⟩ I (.cons rfl (.cons ry .nil)) q) fun w s1 ⟨z, H1, I1, rz, b, ez, q1⟩ => ?_)
  subst ez
  cases rz
  have e : (true ^^ b) = !b := by cases b <;> rfl
  rw [e] at q1
  exact ⟨b, rfl, .bl (!b), H1, I1, rfl, q1⟩
end
/-! ### making, where it may raise; by a local name -/
section
variable {X : Cx} {CX : CXT} {k i : Nat} {C f : Addr} {fd : FuncData} {ps : List Str} {sp : Sp} {E : St → XK} {x : Str} {p pos : Pos} {e : Expr} {es : List Expr} {t : TA}
theorem run_makeS {pins : List (Addr × Obj)} {σ : St} {H : Hp} {s : Shared} {Q : VK} {us : List Value} {vs : List V} (M : Mk X.K C f) (F : FnOk X.prog X.w X.K X.mg X.base CX k f fd ps sp) (hr : Room (k + 1) X.A) (hb : Binds X.K fd ps []) (hx : PassesAt CX X σ (E σ)) (I : Inv X pins σ H s) (r : Vals vs us)
    (h : ∀ x dx, H x = none → H dx = none → dx ≠ x → sp (.ref x :: vs) (upd (upd H dx (.own x)) x (.ins C dx [])) (fun v H2 => v = .non ∧ Q (.ref x) H2) (E σ)) : wpAny (model X.prog X.w) X.A (call (.ref C) us) (EP X pins σ Q) X.xe s := by
  have hq := h (s.heap.objs.size + 1) s.heap.objs.size (I.hok.fresh (Nat.le_succ _)) (I.hok.fresh (Nat.le_refl _)) (Nat.ne_of_lt (Nat.lt_succ_self _))
  have I2 := Inv.made (C := C) I
  have r2 : Vals (V.ref (s.heap.objs.size + 1) :: vs) (Value.ref (s.heap.objs.size + 1) :: us) := .cons rfl r
  have hl : (Value.ref (s.heap.objs.size + 1) :: us).length = ps.length := by rw [← r2.length]; exact F.len _ _ _ _ hq
  have b := hb { s with heap := _ } (Value.ref (s.heap.objs.size + 1) :: us) I2.kIn (by rw [List.append_nil]; exact hl)
  rw [List.append_nil] at b
  refine wpAny_call (make_map (f := f) I.kIn M.makes M.init (beq_iff_eq.mp M.fn) (codeAny_mono (F.run _ X.stack _ _ ⟨Value.ref (s.heap.objs.size + 1) :: us, []⟩ _ _ _ (E σ) (hr.make C us []) (I2.env0.make C us []) b r2 hq) fun o s' hq' => ?_))
  cases o with
  | error e => exact hx pins _ _ e s' I2 hq'
  | ok fl =>
    cases fl with
    | ret u =>
      obtain ⟨v, H', I3, rv, ev, q3⟩ := I2.after hq'
      subst ev
      exact ⟨rv, ⟨V.ref (s.heap.objs.size + 1), H', I3, rfl, q3⟩⟩
    | next => exact False.elim hq'
    | brk => exact False.elim hq'
    | cont => exact False.elim hq'
def MakeS (C : Addr) (sp : Sp) (E : XK) (vs : List V) (H : Hp) (Q : VK) : Prop := ∀ x dx, H x = none → H dx = none → dx ≠ x → sp (.ref x :: vs) (upd (upd H dx (.own x)) x (.ins C dx [])) (fun v H2 => v = .non ∧ Q (.ref x) H2) E
def tMakeS (C : Addr) (sp : Sp) (E : St → XK) (t : TA) : TE := fun σ H Q => t σ H fun vs H1 => MakeS C sp (E σ) vs H1 Q
theorem pe_makeS (M : Mk X.K C f) (F : FnOk X.prog X.w X.K X.mg X.base CX k f fd ps sp) (hr : Room (k + 1) X.A) (hg : Gl X x) (hm : X.mg x = some (.ref C)) (hb : Binds X.K fd ps []) (hx : ∀ σ, PassesAt CX X σ (E σ)) (ha : PA X (e :: es) t)
    (hdb : (x == ("__debug__" : Str)) = false := by decide) (he : starEach (e :: es) X.env = (false, eval e X.env) :: starEach es X.env := by rfl) (hpl : (backTo pos (starEach es X.env)).any (·.1) = false := by rfl) : PE X (.Call (.Name x p) (e :: es) [] pos) (tMakeS C sp E t) := by
  refine ⟨fun pins s σ H Q I h => ?_⟩
  refine wpAny_Call_Name_kw (ld_glob I hg hm ?_ hdb)
  exact PySem.W.callWith_K (h₀ := X.base) I.ok.mod.kin M.kp (thn (ha.run pos pins s σ H _ I h) fun us s1 ⟨vs, H1, I1, r, q⟩ => ⟨I1.kIn, run_makeS M F hr hb (hx σ) I1 r q⟩) he hpl
/-- the i-th slot holds the class -/
def tMakeL (i : Nat) (C : Addr) (sp : Sp) (E : St → XK) (t : TA) : TE := fun σ H Q => σ[i]? = some (some (.ref C)) ∧ tMakeS C sp E t σ H Q
theorem pe_makeL (M : Mk X.K C f) (F : FnOk X.prog X.w X.K X.mg X.base CX k f fd ps sp) (hr : Room (k + 1) X.A) (hN : X.N[i]? = some x) (hv : Vis X.env.scope x) (hb : Binds X.K fd ps []) (hx : ∀ σ, PassesAt CX X σ (E σ)) (ha : PA X (e :: es) t)
    (hdb : (x == ("__debug__" : Str)) = false := by decide) (hcd : (x == ("__classdict__" : Str)) = false := by decide) (he : starEach (e :: es) X.env = (false, eval e X.env) :: starEach es X.env := by rfl) (hpl : (backTo pos (starEach es X.env)).any (·.1) = false := by rfl) : PE X (.Call (.Name x p) (e :: es) [] pos) (tMakeL i C sp E t) := by
  refine ⟨fun pins s σ H Q I h => ?_⟩
  obtain ⟨hs, ht⟩ := h
  refine wpAny_Call_Name_kw (thn ((pe_var (pos := p) hN hv hdb hcd).run pins s σ H (fun v H1 => v = .ref C ∧ H1 = H) I ⟨.ref C, hs, rfl, rfl⟩) fun u s1 ⟨v, H1, I1, r1, q1⟩ => ?_)
  obtain ⟨rfl, rfl⟩ := q1
  cases r1
  exact PySem.W.callWith_K (h₀ := X.base) I.ok.mod.kin M.kp (thn (ha.run pos pins s1 σ _ _ I1 ht) fun us s2 ⟨vs, H2, I2, r, q⟩ => ⟨I2.kIn, run_makeS M F hr hb (hx σ) I2 r q⟩) he hpl
end
end L2

set_option Elab.async false
set_option linter.all false
set_option maxRecDepth 100000
set_option maxHeartbeats 4000000
/-! moves: triples of texts, as data, in order -/
namespace L2
open PySem PySem.Spec PyProof.Rows
abbrev Mv := Str × Str × Str
def wds (m : Mv) : List Str := [m.1, m.2.1, m.2.2]
def encM (m : Mv) : PyData := .tuple [.str m.1, .str m.2.1, .str m.2.2]
def ltS (a b : Str) : Bool := decide (a.cps.toList < b.cps.toList)
def mvLt (p q : Mv) : Bool := if p.1 = q.1 then (if p.2.1 = q.2.1 then (if p.2.2 = q.2.2 then false else ltS p.2.2 q.2.2) else ltS p.2.1 q.2.1) else ltS p.1 q.1
def mvLe (p q : Mv) : Bool := !mvLt q p
theorem eqv_str (x y : Str) : PyData.eqv (.str x) (.str y) = decide (x = y) := by
  unfold PyData.eqv
  rw [Bool.eq_iff_iff, beq_iff_eq, decide_eq_true_eq]
theorem alike_str (x y : Str) : PySem.W.alike (.str x) (.str y) = true := by
  unfold PySem.W.alike
  rfl
theorem dataLt_mv (p q : Mv) : PySem.W.dataLt (encM p) (encM q) = mvLt p q := by
  unfold encM mvLt
  rw [PySem.W.dataLt_tuple, PySem.W.dataLt_cons (alike_str _ _), PySem.W.dataLt_cons (alike_str _ _), PySem.W.dataLt_cons (alike_str _ _), eqv_str, eqv_str, eqv_str, PySem.W.dataLt_str, PySem.W.dataLt_str, PySem.W.dataLt_str]
  simp only [decide_eq_true_eq]
  have e : PyProof.Rows.lexLt PyProof.Rows.itemOrd (PySem.W.keyToksAll []) (PySem.W.keyToksAll []) = false := lex_irrefl _
  rw [e]
  rfl
theorem dataLe_mv : PySem.W.dataLe false encM = mvLe := by
  rw [PySem.W.dataLe_eq]
  funext a b
  show (!PySem.W.dataLt (encM b) (encM a)) = !mvLt b a
  rw [dataLt_mv]
theorem ltS_tri {a b : Str} (h1 : ltS a b = false) (h2 : ltS b a = false) : a = b :=
  leT_anti (List.not_lt.mp fun z => by
    have e : ltS b a = true := decide_eq_true z
    rw [h2] at e
    cases e) (List.not_lt.mp fun z => by
    have e : ltS a b = true := decide_eq_true z
    rw [h1] at e
    cases e)
theorem mvLe_total : PySem.W.TotalLe mvLe := by
  rw [← dataLe_mv]
  exact PySem.W.sortLe_total _ _ _
theorem mvLe_anti {p q : Mv} (h1 : mvLe p q = true) (h2 : mvLe q p = true) : p = q := by
  have e1 : mvLt q p = false := by
    unfold mvLe at h1
    simpa using h1
  have e2 : mvLt p q = false := by
    unfold mvLe at h2
    simpa using h2
  obtain ⟨a, b, c⟩ := p
  obtain ⟨x, y, z⟩ := q
  unfold mvLt at e1 e2
  simp only at e1 e2
  by_cases h : a = x
  · subst h
    rw [if_pos rfl] at e1 e2
    by_cases h : b = y
    · subst h
      rw [if_pos rfl] at e1 e2
      by_cases h : c = z
      · subst h
        rfl
      · rw [if_neg h] at e2
        rw [if_neg fun w => h w.symm] at e1
        exact absurd (ltS_tri e2 e1) h
    · rw [if_neg h] at e2
      rw [if_neg fun w => h w.symm] at e1
      exact absurd (ltS_tri e2 e1) h
  · rw [if_neg h] at e2
    rw [if_neg fun w => h w.symm] at e1
    exact absurd (ltS_tri e2 e1) h
def sortM (l : List Mv) : List Mv := l.mergeSort mvLe
theorem sortM_perm (l : List Mv) : (sortM l).Perm l := List.mergeSort_perm _ _
theorem sortM_pw (l : List Mv) : (sortM l).Pairwise fun a b => mvLe a b = true := PySem.W.sort_pairwise mvLe_total l
theorem sortM_of {l m : List Mv} (p : l.Perm m) (s : l.Pairwise fun a b => mvLe a b = true) : sortM m = l :=
  ((sortM_perm m).trans p.symm).eq_of_pairwise (fun a b _ _ h1 h2 => mvLe_anti h1 h2) (sortM_pw m) s
theorem sortM_eq {l m : List Mv} (p : l.Perm m) : sortM l = sortM m := (sortM_of ((sortM_perm l).trans p) (sortM_pw l)).symm
theorem sortM_idem (l : List Mv) : sortM (sortM l) = sortM l := sortM_eq (sortM_perm l)
theorem sortM_len (l : List Mv) : (sortM l).length = l.length := (sortM_perm l).length_eq
theorem sortM_mem {l : List Mv} {m : Mv} : m ∈ sortM l ↔ m ∈ l := (sortM_perm l).mem_iff
/-- x is a tuple of the move's three words -/
def MvR (K : PySem.W.Frag) (H : Hp) (x : V) (m : Mv) : Prop := ∃ a, x = .ref a ∧ SqT K H a ((wds m).map V.str) ∧ TyX K H x (.type "tuple")
theorem MvR.same {K : PySem.W.Frag} {H H' : Hp} {x : V} {m : Mv} (s : Same H H') (h : MvR K H x m) : MvR K H' x m := by
  obtain ⟨a, rfl, h1, h2⟩ := h
  exact ⟨a, rfl, gSeqT s h1, h2.same s⟩
theorem dpAll_strs {K : PySem.W.Frag} {H : Hp} : ∀ l : List Str, DpAll K H (l.map V.str) (l.map PyData.str)
  | [] => .nil
  | s :: r => .cons (.str s) (dpAll_strs r)
theorem MvR.dp {K : PySem.W.Frag} {H : Hp} {x : V} {m : Mv} (h : MvR K H x m) : Dp K H x (encM m) := by
  obtain ⟨a, rfl, h1, _⟩ := h
  exact .tup h1 (dpAll_strs (wds m))
theorem mvs_dp {K : PySem.W.Frag} {H : Hp} : ∀ {xs : List V} {ms : List Mv}, Paired (MvR K H) xs ms → DpAll K H xs (ms.map encM)
  | _, _, .nil => .nil
  | _, _, .cons h t => .cons h.dp (mvs_dp t)
theorem alike_mvs (ms : List Mv) : PySem.W.AllAlike (ms.map encM) := PySem.W.AllAlike.of fun b b' => by
  unfold encM
  simp [PySem.W.alike, PySem.W.alikeAll]
theorem sortable_mvs (ms : List Mv) : PySem.W.Sortable (ms.map encM) := PySem.W.Sortable.tuples fun b => ⟨_, _, rfl⟩
theorem depth_mv (m : Mv) : (encM m).depth ≤ 20 := by
  unfold encM
  simp [PyData.depth, PyData.depthAll]
theorem paired_mono {α : Type} {R S : V → α → Prop} (h : ∀ x a, R x a → S x a) : ∀ {xs : List V} {as : List α}, Paired R xs as → Paired S xs as
  | _, _, .nil => .nil
  | _, _, .cons q t => .cons (h _ _ q) (paired_mono h t)
theorem paired_at {α : Type} {R : V → α → Prop} : ∀ {xs : List V} {as : List α}, Paired R xs as → ∀ x ∈ xs, ∃ a ∈ as, R x a
  | _, _, .nil, x, hx => by cases hx
  | _, _, .cons q t, x, hx => by
    rcases List.mem_cons.mp hx with rfl | hx
    · exact ⟨_, List.mem_cons_self .., q⟩
    · obtain ⟨a, ha, r⟩ := paired_at t x hx
      exact ⟨a, List.mem_cons_of_mem _ ha, r⟩
abbrev OkMv (ms : List Mv) : Prop := ∀ m ∈ ms, ∀ s ∈ wds m, isW s = true
theorem strOk_w {s : Str} (h : isW s = true) : PyData.strOk s = true := List.all_eq_true.mp (OkS.of (ss := [s]) fun x hx => by rw [List.mem_singleton.mp hx]; exact h) s (List.mem_cons_self ..)
theorem can_mvs : ∀ ms : List Mv, OkMv ms → PyData.canLayAll0 (ms.map encM) = true
  | [], _ => by simp [PyData.canLayAll0]
  | m :: r, hw => by
    have h := can_mvs r fun x hx => hw x (List.mem_cons_of_mem _ hx)
    have h0 := hw m (List.mem_cons_self ..)
    have h1 := strOk_w (h0 m.1 (by simp [wds]))
    have h2 := strOk_w (h0 m.2.1 (by simp [wds]))
    have h3 := strOk_w (h0 m.2.2 (by simp [wds]))
    rw [List.map_cons]
    unfold encM
    unfold encM at h
    simp [PyData.canLayAll0, PyData.canLay0, h, h1, h2, h3]
theorem depth_mvs : ∀ ms : List Mv, PyData.depthAll (ms.map encM) ≤ 1
  | [] => by simp [PyData.depthAll]
  | m :: r => by
    have h := depth_mvs r
    rw [List.map_cons]
    unfold encM
    unfold encM at h
    simp [PyData.depthAll, PyData.depth, h]
theorem shaped_tmvs {ms : List Mv} (hw : OkMv ms) : SeqAt.shaped (.tuple (ms.map encM)) = true := by
  have h := depth_mvs ms
  unfold SeqAt.shaped
  simp [PyData.canLay0, can_mvs ms hw, PyData.depth]
  omega
theorem shaped_lmvs {ms : List Mv} (hw : OkMv ms) : SeqAt.shaped (.list (ms.map encM)) = true := by
  have h := depth_mvs ms
  unfold SeqAt.shaped
  simp [PyData.canLay0, can_mvs ms hw, PyData.depth]
  omega
theorem eqv_mv (m n : Mv) : PyData.eqv (encM m) (encM n) = decide (m = n) := by
  obtain ⟨a, b, c⟩ := m
  obtain ⟨x, y, z⟩ := n
  unfold encM
  simp only [PyData.eqv, PyData.eqvAll, Prod.mk.injEq, Bool.and_true]
  rw [Bool.eq_iff_iff]
  simp
theorem eqvAll_mvs : ∀ ms ns : List Mv, PyData.eqvAll (ms.map encM) (ns.map encM) = decide (ms = ns)
  | [], [] => by simp [PyData.eqvAll]
  | [], _ :: _ => by simp [PyData.eqvAll]
  | _ :: _, [] => by simp [PyData.eqvAll]
  | m :: r, n :: q => by
    rw [List.map_cons, List.map_cons, PyData.eqvAll, eqv_mv, eqvAll_mvs r q]
    simp [Bool.decide_and]
theorem eqv_tmvs (ms ns : List Mv) : PyData.eqv (.tuple (ms.map encM)) (.tuple (ns.map encM)) = decide (ms = ns) := by
  rw [PyData.eqv, eqvAll_mvs]
theorem eqv_lmvs (ms ns : List Mv) : PyData.eqv (.list (ms.map encM)) (.list (ns.map encM)) = decide (ms = ns) := by
  rw [PyData.eqv, eqvAll_mvs]
/-- sorted of moves -/
def rSortM (K : PySem.W.Frag) : List V → Hp → VK → Prop := fun vs H Q => ∃ (a : Addr) (xs : List V) (ms : List Mv), vs = [.ref a] ∧ (SqL K H a xs ∨ SqT K H a xs) ∧ Paired (MvR K H) xs ms ∧ ms.length ≤ 1000 ∧ ∀ ys, Paired (MvR K H) ys (sortM ms) → New H (.lst ys) Q
theorem cr_sortM {X : Cx} {k : Nat} (hr : Room k X.A) : CallR X (.builtin "sorted") (rSortM X.K) := fun pins s σ H vs us Q I r ⟨a, xs, ms, e, hq, hp, hl, q⟩ =>
  cr_sortD encM (MvR X.K) hr pins s σ H vs us Q I r ⟨a, xs, ms, e, hq, hp, fun _ _ h => h.dp, alike_mvs ms, sortable_mvs ms, fun b _ => depth_mv b, by omega, fun ys p => q ys (by rw [dataLe_mv] at p; exact p)⟩
end L2

set_option Elab.async false
set_option linter.all false
set_option maxRecDepth 100000
set_option maxHeartbeats 4000000
/-! the text of an action, read back -/
namespace L2
open PySem PySem.Spec PyProof.Rows
theorem tl_cs : TL.tl ", " = [44, 32] := by decide +kernel
theorem part_cases (z : Str) : (∃ a b : Str, 32 ∉ TL.tl a ∧ z = a ++ " " ++ b ∧ Txt.partition z " " = (a, (" " : Str), b)) ∨ (32 ∉ TL.tl z ∧ Txt.partition z " " = (z, Str.empty, Str.empty)) := by
  by_cases h : 32 ∈ TL.tl z
  · obtain ⟨as, bs, e, n⟩ := List.eq_append_cons_of_mem h
    have ez : z = (⟨as.toArray⟩ : Str) ++ " " ++ (⟨bs.toArray⟩ : Str) := TL.ext_tl (by
      rw [TL.tl_append, TL.tl_append, tl_sp]
      show TL.tl z = as ++ [32] ++ bs
      rw [e]
      simp)
    refine .inl ⟨⟨as.toArray⟩, ⟨bs.toArray⟩, n, ez, ?_⟩
    rw [ez]
    exact TL.partition_app tl_sp n
  · exact .inr ⟨h, TL.partition_none tl_sp h⟩
theorem part_len (z : Str) : (Txt.partition z " ").1.length ≤ z.length ∧ (Txt.partition z " ").2.2.length ≤ z.length := by
  rcases part_cases z with ⟨a, b, _, e, p⟩ | ⟨_, p⟩
  · rw [p]
    have l : z.length = a.length + (Str.ofString " ").length + b.length := by rw [e, Str.length_append, Str.length_append]
    constructor
    · show a.length ≤ _
      omega
    · show b.length ≤ _
      omega
  · rw [p]
    exact ⟨Nat.le_refl _, Nat.zero_le _⟩
theorem spl_some (S : List Nat) : ∀ l acc : List Nat, TL.spl S 0 acc l ≠ []
  | [], acc => by rw [TL.spl_nil]; simp
  | c :: r, acc => by
    cases hp : TL.pre S (c :: r) with
    | true =>
      rw [TL.spl_hit hp]
      simp
    | false =>
      rw [TL.spl_miss hp]
      exact spl_some S r _
theorem spl_back {S : List Nat} (hS : S ≠ []) : ∀ (n : Nat) (l acc : List Nat), l.length ≤ n → TL.joinL S (TL.spl S 0 acc l) = acc ++ l
  | _, [], acc, _ => by rw [TL.spl_nil, List.append_nil]; rfl
  | 0, c :: r, acc, h => by simp at h
  | n + 1, c :: r, acc, h => by
    have hr : r.length ≤ n := by simpa using h
    cases hp : TL.pre S (c :: r) with
    | false =>
      rw [TL.spl_miss hp, spl_back hS n r (acc ++ [c]) hr, List.append_assoc]
      rfl
    | true =>
      rw [TL.spl_hit hp, TL.spl_pass]
      have hl : (r.drop (S.length - 1)).length ≤ n := by rw [List.length_drop]; omega
      have ih := spl_back hS n (r.drop (S.length - 1)) [] hl
      have ne := spl_some S (r.drop (S.length - 1)) []
      have e : (c :: r) = S ++ r.drop (S.length - 1) := by
        have e1 : (c :: r).take S.length = S := beq_iff_eq.mp hp
        have e2 : (c :: r).drop S.length = r.drop (S.length - 1) := by
          cases hs : S.length with
          | zero => exact absurd (List.length_eq_zero_iff.mp hs) hS
          | succ m => simp
        conv => lhs; rw [← List.take_append_drop S.length (c :: r), e1, e2]
      cases hq : TL.spl S 0 [] (r.drop (S.length - 1)) with
      | nil => exact absurd hq ne
      | cons p q =>
        rw [hq, List.nil_append] at ih
        show acc ++ (S ++ TL.joinL S (p :: q)) = _
        rw [ih, ← e]
theorem split_back {x y : Str} (hy : TL.tl y ≠ []) (hk : y.cps.all (· < 256) = true) : Txt.join y (Txt.split x y) = x := by
  refine TL.ext_tl ?_
  rw [TL.join_eq, TL.tl_join, TL.split_spl x y hy (TL.kind_ok hk), spl_back hy _ _ _ (Nat.le_refl _), List.nil_append]
theorem split_piece {x y s : Str} (hy : TL.tl y ≠ []) (hk : y.cps.all (· < 256) = true) (h : s ∈ Txt.split x y) : s.length ≤ x.length := by
  have hm : TL.tl s ∈ (Txt.split x y).map TL.tl := List.mem_map.mpr ⟨s, h, rfl⟩
  rw [TL.split_spl x y hy (TL.kind_ok hk)] at hm
  have := spl_part_len _ _ _ _ _ hm
  rw [TL.len_tl, TL.len_tl]
  simpa using this
theorem sp_ne : TL.tl " " ≠ [] := by rw [tl_sp]; simp
theorem cs_ne : TL.tl ", " ≠ [] := by rw [tl_cs]; simp
theorem sp_asc : (Str.ofString " ").cps.all (· < 256) = true := by decide +kernel
theorem cs_asc : (Str.ofString ", ").cps.all (· < 256) = true := by decide +kernel
abbrev prs (r : Str) : List (List Str) := (Txt.split r ", ").map fun p => Txt.split p " "
def okQ (q : List Str) : Bool := decide (q.length = 3) && q.all isW
def okQs (qs : List (List Str)) : Bool := decide (1 ≤ qs.length ∧ qs.length ≤ 4) && qs.all okQ
def toMv (q : List Str) : Mv := (q.getD 0 "", q.getD 1 "", q.getD 2 "")
theorem okQ_of {q : List Str} (h : okQ q = true) : wds (toMv q) = q ∧ ∀ s ∈ q, isW s = true := by
  unfold okQ at h
  rw [Bool.and_eq_true, List.all_eq_true] at h
  obtain ⟨h1, h2⟩ := h
  have h1 := of_decide_eq_true h1
  refine ⟨?_, h2⟩
  match q, h1 with
  | [a, b, c], _ => rfl
/-- the text of moves -/
def wrM (ms : List Mv) : Str := Txt.join ", " (ms.map fun m => jn (wds m))
/-- the text of an action -/
def liA (c : Str) (ms : List Mv) : Str := c ++ " " ++ wrM ms
/-- what a text says of an action -/
def rdA (z : Str) : Option (Str × List Mv) :=
  if isW (Txt.partition z " ").1 && (okQs (prs (Txt.partition z " ").2.2) && decide ((prs (Txt.partition z " ").2.2).map toMv = sortM ((prs (Txt.partition z " ").2.2).map toMv))) then some ((Txt.partition z " ").1, (prs (Txt.partition z " ").2.2).map toMv) else none
theorem w_nosp {s : Str} (h : isW s = true) : 32 ∉ TL.tl s := fun hm => by
  have := isW_let h 32 hm
  omega
theorem jn_in {ss : List Str} (h : ∀ s ∈ ss, isW s = true) : ∀ c ∈ TL.tl (jn ss), c = 32 ∨ (97 ≤ c ∧ c ≤ 122) := by
  induction ss with
  | nil =>
    intro c hc
    have e : TL.tl (jn []) = [] := rfl
    rw [e] at hc
    cases hc
  | cons s r ih =>
    intro c hc
    have ih := ih fun x hx => h x (List.mem_cons_of_mem _ hx)
    cases r with
    | nil =>
      have e : jn [s] = s := TL.ext_tl (by
        unfold jn
        rw [TL.join_eq, TL.tl_join]
        rfl)
      rw [e] at hc
      exact .inr (isW_let (h s (List.mem_cons_self ..)) c hc)
    | cons t q =>
      have e := jn_app (xs := [s]) (ys := t :: q) (by simp) (by simp)
      have e1 : jn [s] = s := TL.ext_tl (by
        unfold jn
        rw [TL.join_eq, TL.tl_join]
        rfl)
      have e2 : s :: t :: q = [s] ++ (t :: q) := rfl
      rw [e2, e, e1, TL.tl_append, TL.tl_append, tl_sp] at hc
      simp only [List.mem_append, List.mem_singleton] at hc
      rcases hc with (hc | hc) | hc
      · exact .inr (isW_let (h s (List.mem_cons_self ..)) c hc)
      · exact .inl hc
      · exact ih c hc
theorem jn_nocomma {ss : List Str} (h : ∀ s ∈ ss, isW s = true) : 44 ∉ TL.tl (jn ss) := fun hm => by
  have := jn_in h 44 hm
  omega
/-- parts without a comma, joined, are these parts again -/
theorem prs_join {ps : List Str} (hne : ps ≠ []) (hc : ∀ p ∈ ps, 44 ∉ TL.tl p) : prs (Txt.join ", " ps) = ps.map fun p => Txt.split p " " := by
  unfold prs
  rw [TL.split_join tl_cs cs_asc hne hc]
theorem rdA_cut {c r : Str} (h : 32 ∉ TL.tl c) : rdA (c ++ " " ++ r) = if isW c && (okQs (prs r) && decide ((prs r).map toMv = sortM ((prs r).map toMv))) then some (c, (prs r).map toMv) else none := by
  unfold rdA
  rw [TL.partition_app tl_sp h]
theorem wds_split {m : Mv} (h : ∀ s ∈ wds m, isW s = true) : Txt.split (jn (wds m)) " " = wds m := split_jn (by simp [wds]) (.of h)
theorem prs_wr {ms : List Mv} (hne : ms ≠ []) (h : OkMv ms) : prs (wrM ms) = ms.map wds := by
  unfold wrM
  rw [prs_join (by simpa using hne) fun p hp => by
    obtain ⟨m, hm, rfl⟩ := List.mem_map.mp hp
    exact jn_nocomma (h m hm), List.map_map]
  exact List.map_congr_left fun m hm => wds_split (h m hm)
theorem toMv_wds (ms : List Mv) : (ms.map wds).map toMv = ms := by
  rw [List.map_map]
  have : (toMv ∘ wds) = id := by
    funext m
    rfl
  rw [this, List.map_id]
theorem okQs_wds {ms : List Mv} (hne : ms ≠ []) (hl : ms.length ≤ 4) (h : OkMv ms) : okQs (ms.map wds) = true := by
  unfold okQs
  rw [Bool.and_eq_true, List.all_eq_true]
  refine ⟨decide_eq_true ⟨?_, by rw [List.length_map]; exact hl⟩, fun q hq => ?_⟩
  · rw [List.length_map]
    cases ms with
    | nil => exact absurd rfl hne
    | cons _ _ => exact Nat.succ_le_succ (Nat.zero_le _)
  · obtain ⟨m, hm, rfl⟩ := List.mem_map.mp hq
    unfold okQ
    rw [Bool.and_eq_true, List.all_eq_true]
    exact ⟨decide_eq_true rfl, h m hm⟩
theorem rdA_li {c : Str} {ms : List Mv} (hc : isW c = true) (hne : ms ≠ []) (hl : ms.length ≤ 4) (h : OkMv ms) (hs : sortM ms = ms) : rdA (liA c ms) = some (c, ms) := by
  unfold liA
  rw [rdA_cut (w_nosp hc), prs_wr hne h, toMv_wds, hc, okQs_wds hne hl h, hs, decide_eq_true rfl]
  rfl
/-- only an action's own text says something of it -/
theorem rdA_some {z c : Str} {ms : List Mv} (h : rdA z = some (c, ms)) : isW c = true ∧ ms ≠ [] ∧ ms.length ≤ 4 ∧ OkMv ms ∧ sortM ms = ms ∧ z = liA c ms := by
  unfold rdA at h
  split at h
  · rename_i hh
    injection h with h
    injection h with h1 h2
    rw [Bool.and_eq_true, Bool.and_eq_true] at hh
    obtain ⟨k1, k2, k3⟩ := hh
    have k3 := of_decide_eq_true k3
    unfold okQs at k2
    rw [Bool.and_eq_true, List.all_eq_true] at k2
    obtain ⟨k2, k4⟩ := k2
    have k2 := of_decide_eq_true k2
    rcases part_cases z with ⟨a, b, ha, e, p⟩ | ⟨_, p⟩
    · rw [p] at h1 h2 k1 k2 k3 k4
      subst h1
      subst h2
      have hw : ((prs b).map toMv).map wds = prs b := by
        rw [List.map_map]
        conv => rhs; rw [← List.map_id (prs b)]
        exact List.map_congr_left fun q hq => (okQ_of (k4 q hq)).1
      refine ⟨k1, fun z => ?_, by rw [List.length_map]; exact k2.2, fun m hm s hs => ?_, k3.symm, ?_⟩
      · have h0 := k2.1
        have e0 : prs b = [] := List.map_eq_nil_iff.mp z
        rw [e0] at h0
        simp at h0
      · obtain ⟨q, hq, rfl⟩ := List.mem_map.mp hm
        have o := okQ_of (k4 q hq)
        rw [o.1] at hs
        exact o.2 s hs
      · unfold liA wrM
        have e2 : ((prs b).map toMv).map (fun m => jn (wds m)) = Txt.split b ", " := by
          have e3 : ((prs b).map toMv).map (fun m => jn (wds m)) = (((prs b).map toMv).map wds).map jn := (List.map_map (f := wds) (g := jn)).symm
          rw [e3, hw]
          unfold prs
          rw [List.map_map]
          conv => rhs; rw [← List.map_id (Txt.split b ", ")]
          exact List.map_congr_left fun x _ => split_back sp_ne sp_asc
        rw [e2, split_back cs_ne cs_asc]
        exact e
    · rw [p] at k2 k4
      have e : Txt.split Str.empty ", " = [Str.empty] := by decide +kernel
      have e1 : Txt.split Str.empty " " = [Str.empty] := by decide +kernel
      have := k4 [Str.empty] (by
        show [Str.empty] ∈ (Txt.split Str.empty ", ").map fun p => Txt.split p " "
        rw [e, List.map_cons, e1]
        exact List.mem_cons_self ..)
      have e2 : okQ [Str.empty] = false := by decide +kernel
      rw [e2] at this
      cases this
  · cases h
end L2

set_option Elab.async false
set_option linter.all false
set_option maxRecDepth 100000
set_option maxHeartbeats 4000000
/-! a row of items of which one replaces: an earlier item that holds a written text has made a mark -/
namespace L2
open PySem PySem.Spec PyProof.Rows CwR
section
variable {X : Cx} {e f : Expr} {es : List Expr} {te tf : TE} {t : TA} {pos p : Pos} {j : Nat} {y : Str}
theorem pat_of (h : PA X es t) : PAT X es t := fun pos pins s σ H Q _ I q => h.run pos pins s σ H Q I q
/-- an item e + 'y', and the rest behind it -/
theorem pa_mark {r : R2} (ho : OpR X (binaryOp .Add) r) (ha : PE X e te) (hr : PAT X es t) (hs : starEach (.BinOp e .Add (.Constant (.str y) j p) pos :: es) X.env = (false, eval (.BinOp e .Add (.Constant (.str y) j p) pos) X.env) :: starEach es X.env := by rfl) :
    PA X (.BinOp e .Add (.Constant (.str y) j p) pos :: es) (tCons (tOp r te (tC (.str y))) t) := by
  refine ⟨fun pos' pins s σ H Q I h => ?_⟩
  rw [hs]
  show wpAny _ _ (spliced ((false, eval (.BinOp e .Add (.Constant (.str y) j p) pos) X.env) :: backTo pos' (starEach es X.env))) _ _ s
  refine Calls.spliced_cons (wpAny_BinOp (thn (ha.run pins s σ H _ I h) fun v s1 ⟨x, H1, I1, r1, q1⟩ => Calls.Constant_str ?_))
  have I2 := I1.tok (s1.toks + 1)
  refine wpAny_mono (PySem.wpAny_toks_of (n := 1) (by show 1 ≤ s1.toks + 1; omega) (ho pins { s1 with toks := s1.toks + 1 } σ H1 x (.str y) v (.str y s1.toks) _ I2 r1 ⟨_, rfl⟩ q1)) (fun u s3 q => ?_) fun _ _ z => z.2
  obtain ⟨hk, z, H3, I3, r3, q3⟩ := q
  exact thn (hr pos' pins s3 σ H3 _ hk I3 q3) fun us s4 ⟨xs, H4, I4, r4, q4⟩ => ⟨z :: xs, H4, I4, .cons r3 r4, q4⟩
end
end L2

set_option Elab.async false
set_option linter.all false
set_option maxRecDepth 100000
set_option maxHeartbeats 4000000
/-! texts near the text of an action, of which none is one -/
namespace L2
open PySem PySem.Spec PyProof.Rows
def Ltr (a : Nat) : Prop := 97 ≤ a ∧ a ≤ 122
def EndsL (l : List Nat) : Prop := ∃ r a, l = r ++ [a] ∧ Ltr a
theorem EndsL.app {l : List Nat} (x : List Nat) (h : EndsL l) : EndsL (x ++ l) := by
  obtain ⟨r, a, rfl, h⟩ := h
  exact ⟨x ++ r, a, by rw [List.append_assoc], h⟩
theorem EndsL.ne {l : List Nat} {b : Nat} (h : EndsL (l ++ [b])) : Ltr b := by
  obtain ⟨r, a, e, h⟩ := h
  have := (List.append_inj' e rfl).2
  injection this with this
  subst this
  exact h
theorem ends_w {s : Str} (h : isW s = true) : EndsL (TL.tl s) := by
  have l := (isW_len h).1
  have hl := isW_let h
  rw [TL.len_tl] at l
  have ne : TL.tl s ≠ [] := fun z => by
    rw [z] at l
    simp at l
  exact ⟨(TL.tl s).dropLast, (TL.tl s).getLast ne, (List.dropLast_concat_getLast ne).symm, hl _ (List.getLast_mem ne)⟩
theorem ends_join (S : List Nat) : ∀ ps : List (List Nat), ps ≠ [] → (∀ p ∈ ps, EndsL p) → EndsL (TL.joinL S ps)
  | [], h, _ => absurd rfl h
  | [p], _, h => h p (List.mem_cons_self ..)
  | p :: q :: r, _, h => by
    show EndsL (p ++ (S ++ TL.joinL S (q :: r)))
    exact ((ends_join S (q :: r) (by simp) fun x hx => h x (List.mem_cons_of_mem _ hx)).app S).app p
theorem ends_jn {ss : List Str} (hne : ss ≠ []) (h : ∀ s ∈ ss, isW s = true) : EndsL (TL.tl (jn ss)) := by
  unfold jn
  rw [TL.join_eq, TL.tl_join]
  refine ends_join _ _ (by simpa using hne) fun p hp => ?_
  obtain ⟨s, hs, rfl⟩ := List.mem_map.mp hp
  exact ends_w (h s hs)
theorem ends_wr {ms : List Mv} (hne : ms ≠ []) (h : OkMv ms) : EndsL (TL.tl (wrM ms)) := by
  unfold wrM
  rw [TL.join_eq, TL.tl_join]
  refine ends_join _ _ (by simpa using hne) fun p hp => ?_
  obtain ⟨s, hs, rfl⟩ := List.mem_map.mp hp
  obtain ⟨m, hm, rfl⟩ := List.mem_map.mp hs
  exact ends_jn (by simp [wds]) (h m hm)
theorem ends_li {c : Str} {ms : List Mv} (hne : ms ≠ []) (h : OkMv ms) : EndsL (TL.tl (liA c ms)) := by
  unfold liA
  rw [TL.tl_append]
  exact (ends_wr hne h).app _
def HeadL (l : List Nat) : Prop := ∃ a r, l = a :: r ∧ Ltr a
theorem HeadL.app {l : List Nat} (x : List Nat) (h : HeadL l) : HeadL (l ++ x) := by
  obtain ⟨a, r, rfl, h⟩ := h
  exact ⟨a, r ++ x, rfl, h⟩
theorem head_w {s : Str} (h : isW s = true) : HeadL (TL.tl s) := by
  have l := (isW_len h).1
  have hl := isW_let h
  rw [TL.len_tl] at l
  cases e : TL.tl s with
  | nil =>
    rw [e] at l
    simp at l
  | cons a r => exact ⟨a, r, rfl, hl a (by rw [e]; exact List.mem_cons_self ..)⟩
theorem head_join (S : List Nat) : ∀ ps : List (List Nat), ps ≠ [] → (∀ p ∈ ps, HeadL p) → HeadL (TL.joinL S ps)
  | [], h, _ => absurd rfl h
  | [p], _, h => h p (List.mem_cons_self ..)
  | p :: q :: r, _, h => (h p (List.mem_cons_self ..)).app _
theorem head_wr {ms : List Mv} (hne : ms ≠ []) (h : OkMv ms) : HeadL (TL.tl (wrM ms)) := by
  unfold wrM
  rw [TL.join_eq, TL.tl_join]
  refine head_join _ _ (by simpa using hne) fun p hp => ?_
  obtain ⟨s, hs, rfl⟩ := List.mem_map.mp hp
  obtain ⟨m, hm, rfl⟩ := List.mem_map.mp hs
  unfold jn
  rw [TL.join_eq, TL.tl_join]
  refine head_join _ _ (by simp [wds]) fun p hp => ?_
  obtain ⟨s, hs, rfl⟩ := List.mem_map.mp hp
  exact head_w (h m hm s hs)
theorem none_of {z : Str} (h : ∀ c ms, isW c = true → ms ≠ [] → ms.length ≤ 4 → OkMv ms → sortM ms = ms → z = liA c ms → False) : rdA z = none := by
  cases e : rdA z with
  | none => rfl
  | some p =>
    obtain ⟨c, ms⟩ := p
    obtain ⟨h1, h2, h3, h4, h5, h6⟩ := rdA_some e
    exact (h c ms h1 h2 h3 h4 h5 h6).elim
/-- the head is no letter, or there is none -/
theorem none_head {z : Str} (h : ¬ HeadL (TL.tl z)) : rdA z = none := none_of fun c ms hc _ _ _ _ e => h (by
  rw [e]
  unfold liA
  rw [TL.tl_append, TL.tl_append]
  exact ((head_w hc).app _).app _)
/-- the end is no letter -/
theorem none_last {z x : Str} {b : Nat} (e : TL.tl x = [b]) (h : ¬ Ltr b) : rdA (z ++ x) = none := none_of fun c ms _ hne _ hw _ e2 => h (by
  have := ends_li (c := c) hne hw
  rw [← e2, TL.tl_append, e] at this
  exact this.ne)
theorem none_nosp {z : Str} (h : 32 ∉ TL.tl z) : rdA z = none := none_of fun c ms _ _ _ _ _ e => h (by
  rw [e]
  unfold liA
  rw [TL.tl_append, TL.tl_append, tl_sp]
  simp)
/-- behind the name and one blank -/
theorem cut_wr {c r : Str} (hc : isW c = true) {c' : Str} {ms : List Mv} (hc' : isW c' = true) (e : c ++ " " ++ r = liA c' ms) : r = wrM ms := by
  unfold liA at e
  have h1 := TL.partition_app tl_sp (b := r) (w_nosp hc)
  have h2 := TL.partition_app tl_sp (b := wrM ms) (w_nosp hc')
  rw [e, h2] at h1
  injection h1 with _ h1
  injection h1 with _ h1
  exact h1.symm
theorem none_cut {c r : Str} (hc : isW c = true) (h : ∀ ms, ms ≠ [] → ms.length ≤ 4 → OkMv ms → sortM ms = ms → r = wrM ms → False) : rdA (c ++ " " ++ r) = none :=
  none_of fun c' ms hc' h1 h2 h3 h4 e => h ms h1 h2 h3 h4 (cut_wr hc hc' e)
/-- parts without a comma of which one is no move -/
theorem none_parts {c : Str} (hc : isW c = true) {ps : List Str} (hne : ps ≠ []) (hp : ∀ p ∈ ps, 44 ∉ TL.tl p) (h : ∀ ms, ms ≠ [] → ms.length ≤ 4 → OkMv ms → sortM ms = ms → ps.map (fun p => Txt.split p " ") = ms.map wds → False) : rdA (c ++ " " ++ Txt.join ", " ps) = none :=
  none_cut hc fun ms h1 h2 h3 h4 e => h ms h1 h2 h3 h4 (by rw [← prs_join hne hp, e, prs_wr h1 h3])
theorem none_part {c : Str} (hc : isW c = true) {ps : List Str} (hp : ∀ p ∈ ps, 44 ∉ TL.tl p) {p : Str} (hm : p ∈ ps) (h : (Txt.split p " ").length ≠ 3) : rdA (c ++ " " ++ Txt.join ", " ps) = none :=
  none_parts hc (List.ne_nil_of_mem hm) hp fun ms _ _ _ _ e => by
    have : Txt.split p " " ∈ ms.map wds := by
      rw [← e]
      exact List.mem_map.mpr ⟨p, hm, rfl⟩
    obtain ⟨m, _, e2⟩ := List.mem_map.mp this
    exact h (by rw [← e2]; rfl)
end L2

set_option Elab.async false
set_option linter.all false
set_option maxRecDepth 100000
set_option maxHeartbeats 4000000
/-! each of the texts near the text of an action -/
namespace L2
open PySem PySem.Spec PyProof.Rows
section
variable {c : Str} {ns : List Mv}
abbrev ptsM (ns : List Mv) : List Str := ns.map fun m => jn (wds m)
theorem pts_nc (hw : OkMv ns) : ∀ p ∈ ptsM ns, 44 ∉ TL.tl p := fun p hp => by
  obtain ⟨m, hm, rfl⟩ := List.mem_map.mp hp
  exact jn_nocomma (hw m hm)
theorem tl_lit (s : String) : TL.tl (Str.ofString s) = s.toList.map Char.toNat := TL.tl_ofString s
theorem w1 (hc : isW c = true) : rdA c = none := none_nosp (w_nosp hc)
theorem w2 : rdA (c ++ " ") = none := none_last (b := 32) tl_sp (by unfold Ltr; omega)
theorem w3 {l : Str} : rdA (" " ++ l) = none := none_head fun ⟨a, r, e, h⟩ => by
  rw [TL.tl_append, tl_sp] at e
  injection e with e _
  subst e
  unfold Ltr at h
  omega
theorem w4 {l : Str} : rdA (l ++ " ") = none := none_last (b := 32) tl_sp (by unfold Ltr; omega)
theorem w5 {l : Str} : rdA (l ++ ",") = none := none_last (b := 44) (by decide +kernel) (by unfold Ltr; omega)
theorem w6 {l : Str} : rdA (l ++ ", ") = none := by
  have e : l ++ ", " = (l ++ ",") ++ " " := TL.ext_tl (by
    rw [TL.tl_append, TL.tl_append, TL.tl_append, tl_cs, tl_sp, show TL.tl "," = [44] by decide +kernel]
    simp)
  rw [e]
  exact w4
theorem w18 {l : Str} : rdA (l ++ "\n") = none := none_last (b := 10) (by decide +kernel) (by unfold Ltr; omega)
theorem dbl_none : ∀ l : List Nat, 32 ∉ l → StrLaws.dbl 32 l = l
  | [], _ => rfl
  | k :: r, h => by
    have h1 : ¬ k = 32 := fun z => h (by rw [z]; exact List.mem_cons_self ..)
    unfold StrLaws.dbl
    rw [if_neg h1, dbl_none r fun z => h (List.mem_cons_of_mem _ z)]
theorem w7 (hc : isW c = true) {r : Str} : rdA (Txt.replace (c ++ " " ++ r) " " "  ") = none := by
  have e : Txt.replace (c ++ " " ++ r) " " "  " = c ++ " " ++ (" " ++ ⟨(StrLaws.dbl 32 (TL.tl r)).toArray⟩) := TL.ext_tl (by
    have h := StrLaws.replace_double (c ++ " " ++ r) 32
    have e1 : (⟨#[32]⟩ : Str) = " " := by decide +kernel
    have e2 : (⟨#[32, 32]⟩ : Str) = "  " := by decide +kernel
    rw [e1, e2] at h
    have h : TL.tl (Txt.replace (c ++ " " ++ r) " " "  ") = StrLaws.dbl 32 (TL.tl (c ++ " " ++ r)) := h
    rw [h, TL.tl_append, TL.tl_append, StrLaws.dbl_append, StrLaws.dbl_append, dbl_none _ (w_nosp hc), tl_sp, TL.tl_append, TL.tl_append, TL.tl_append, tl_sp]
    show _ = TL.tl c ++ [32] ++ ([32] ++ StrLaws.dbl 32 (TL.tl r))
    have e3 : StrLaws.dbl 32 [32] = [32, 32] := by decide
    rw [e3]
    simp)
  rw [e]
  refine none_cut hc fun ms hne _ hw _ e2 => ?_
  have h := head_wr hne hw
  rw [← e2, TL.tl_append, tl_sp] at h
  obtain ⟨a, q, e3, h3⟩ := h
  injection e3 with e3 _
  subst e3
  unfold Ltr at h3
  omega
theorem join_cons (S p : Str) {q : List Str} (h : q ≠ []) : Txt.join S (p :: q) = p ++ S ++ Txt.join S q := by
  cases q with
  | nil => exact absurd rfl h
  | cons x r => exact TL.ext_tl (by
      rw [TL.tl_append, TL.tl_append, TL.join_eq, TL.join_eq, TL.tl_join, TL.tl_join, List.append_assoc]
      rfl)
theorem join_one (S p : Str) : Txt.join S [p] = p := TL.ext_tl (by
  rw [TL.join_eq, TL.tl_join]
  rfl)
theorem app_assoc (a b d : Str) : a ++ b ++ d = a ++ (b ++ d) := TL.ext_tl (by
  rw [TL.tl_append, TL.tl_append, TL.tl_append, TL.tl_append, List.append_assoc])
theorem join_head (S x p : Str) (q : List Str) : Txt.join S ((x ++ p) :: q) = x ++ Txt.join S (p :: q) := by
  cases q with
  | nil => rw [join_one, join_one]
  | cons y r =>
    rw [join_cons S _ (by simp), join_cons S p (by simp), app_assoc, app_assoc, app_assoc]
theorem join_last (S x p : Str) : ∀ q : List Str, Txt.join S (q ++ [p ++ x]) = Txt.join S (q ++ [p]) ++ x
  | [] => by
    rw [List.nil_append, List.nil_append, join_one, join_one]
  | y :: r => by
    rw [List.cons_append, List.cons_append, join_cons S y (by simp), join_cons S y (by simp), join_last S x p r, app_assoc, app_assoc, app_assoc]
theorem split_len4 {ss : List Str} (h : ∀ s ∈ ss, isW s = true) (hl : ss.length ≠ 3) (hne : ss ≠ []) : (Txt.split (jn ss) " ").length ≠ 3 := by
  rw [split_jn hne (.of h)]
  exact hl
theorem jn_cons (p : Str) {q : List Str} (h : q ≠ []) : jn (p :: q) = p ++ " " ++ jn q := join_cons " " p h
theorem w8 (hc : isW c = true) (hne : ns ≠ []) (hw : OkMv ns) : rdA ("action " ++ liA c ns) = none := by
  obtain ⟨m, r, rfl⟩ := List.exists_cons_of_ne_nil hne
  have e : ("action " : Str) ++ liA c (m :: r) = ("action" : Str) ++ " " ++ Txt.join ", " ((c ++ " " ++ jn (wds m)) :: ptsM r) := by
    have e0 : ("action " : Str) = ("action" : Str) ++ " " := by decide +kernel
    have e1 : Txt.join ", " ((c ++ " " ++ jn (wds m)) :: ptsM r) = (c ++ " ") ++ Txt.join ", " (jn (wds m) :: ptsM r) := join_head _ _ _ _
    rw [e1, e0]
    unfold liA wrM
    rw [List.map_cons]
  have hj : ∀ s ∈ c :: wds m, isW s = true := fun s hs => by
    rcases List.mem_cons.mp hs with rfl | hs
    · exact hc
    · exact hw m (List.mem_cons_self ..) s hs
  have e2 : c ++ " " ++ jn (wds m) = jn (c :: wds m) := (jn_cons c (by simp [wds])).symm
  rw [e, e2]
  refine none_part (by decide +kernel) (p := jn (c :: wds m)) (fun p hp => ?_) (List.mem_cons_self ..) (split_len4 hj (by simp [wds]) (by simp))
  rcases List.mem_cons.mp hp with rfl | hp
  · exact jn_nocomma hj
  · exact pts_nc (fun x hx => hw x (List.mem_cons_of_mem _ hx)) p hp
theorem w9 (hc : isW c = true) (hne : ns ≠ []) (hw : OkMv ns) : rdA (liA c ns ++ " s") = none := by
  obtain ⟨q, m, rfl⟩ : ∃ q m, ns = q ++ [m] := ⟨ns.dropLast, ns.getLast hne, (List.dropLast_concat_getLast hne).symm⟩
  have hm : ∀ s ∈ wds m, isW s = true := hw m (List.mem_append_right _ (List.mem_singleton.mpr rfl))
  have e : liA c (q ++ [m]) ++ " s" = c ++ " " ++ Txt.join ", " (ptsM q ++ [jn (wds m) ++ " s"]) := by
    rw [join_last]
    unfold liA wrM
    rw [List.map_append, app_assoc (c ++ " ")]
    rfl
  have hj : ∀ s ∈ wds m ++ [("s" : Str)], isW s = true := fun s hs => by
    rcases List.mem_append.mp hs with hs | hs
    · exact hm s hs
    · rw [List.mem_singleton.mp hs]
      decide +kernel
  have e2 : jn (wds m) ++ " s" = jn (wds m ++ [("s" : Str)]) := by
    rw [jn_app (by simp [wds]) (by simp)]
    have e3 : jn [("s" : Str)] = "s" := join_one _ _
    have e4 : (" s" : Str) = (" " : Str) ++ "s" := by decide +kernel
    rw [e3, e4, app_assoc]
  rw [e, e2]
  refine none_part hc (p := jn (wds m ++ [("s" : Str)])) (fun p hp => ?_) (List.mem_append_right _ (List.mem_singleton.mpr rfl)) (split_len4 hj (by simp [wds]) (by simp))
  rcases List.mem_append.mp hp with hp | hp
  · exact pts_nc (fun x hx => hw x (List.mem_append_left _ hx)) p hp
  · rw [List.mem_singleton.mp hp]
    exact jn_nocomma hj
theorem join_in (S : Str) (P : Nat → Prop) (hS : ∀ a ∈ TL.tl S, P a) : ∀ ps : List Str, (∀ p ∈ ps, ∀ a ∈ TL.tl p, P a) → ∀ a ∈ TL.tl (Txt.join S ps), P a
  | [], _, a, ha => by cases (show a ∈ ([] : List Nat) from ha)
  | [p], h, a, ha => by
    rw [join_one] at ha
    exact h p (List.mem_cons_self ..) a ha
  | p :: q :: r, h, a, ha => by
    rw [join_cons S p (by simp), TL.tl_append, TL.tl_append] at ha
    rcases List.mem_append.mp ha with ha | ha
    · rcases List.mem_append.mp ha with ha | ha
      · exact h p (List.mem_cons_self ..) a ha
      · exact hS a ha
    · exact join_in S P hS (q :: r) (fun x hx => h x (List.mem_cons_of_mem _ hx)) a ha
theorem li_ascii (hc : isW c = true) (hw : OkMv ns) : ∀ a ∈ TL.tl (liA c ns), a < 128 := fun a ha => by
  unfold liA wrM at ha
  rw [TL.tl_append, TL.tl_append, tl_sp] at ha
  rcases List.mem_append.mp ha with ha | ha
  · rcases List.mem_append.mp ha with ha | ha
    · have := isW_let hc a ha
      omega
    · have := List.mem_singleton.mp ha
      omega
  · refine join_in ", " (· < 128) (fun a ha => ?_) _ (fun p hp a ha => ?_) a ha
    · rw [tl_cs] at ha
      simp only [List.mem_cons, List.not_mem_nil, or_false] at ha
      omega
    · obtain ⟨m, hm, rfl⟩ := List.mem_map.mp hp
      have := jn_in (hw m hm) a ha
      omega
theorem w10 (hc : isW c = true) (hw : OkMv ns) : rdA (Txt.upper (liA c ns)) = none := by
  refine none_head fun ⟨a, r, e, h⟩ => ?_
  rw [PyProof.Rows.upper_ascii (x := liA c ns) (li_ascii hc hw)] at e
  have e1 : TL.tl (⟨(liA c ns).cps.map PyProof.Rows.up1⟩ : Str) = (TL.tl (liA c ns)).map PyProof.Rows.up1 := by
    show ((liA c ns).cps.map PyProof.Rows.up1).toList = _
    rw [Array.toList_map]
  rw [e1] at e
  have e2 : TL.tl (liA c ns) = TL.tl c ++ ([32] ++ TL.tl (wrM ns)) := by
    unfold liA
    rw [TL.tl_append, TL.tl_append, tl_sp, List.append_assoc]
  obtain ⟨b, q, e3, hb⟩ := head_w hc
  rw [e2, e3] at e
  injection e with e _
  subst e
  have hb : 97 ≤ b ∧ b ≤ 122 := hb
  unfold PyProof.Rows.up1 Ltr at h
  rw [if_pos hb] at h
  omega
theorem w16 {r : Str} (hc : isW c = true) : rdA (c ++ ", " ++ r) = none := by
  have e : c ++ ", " ++ r = (c ++ ",") ++ " " ++ r := TL.ext_tl (by
    rw [TL.tl_append, TL.tl_append, TL.tl_append, TL.tl_append, TL.tl_append, tl_cs, tl_sp, show TL.tl "," = [44] by decide +kernel]
    simp)
  have n : 32 ∉ TL.tl (c ++ ",") := fun hm => by
    rw [TL.tl_append, show TL.tl "," = [44] by decide +kernel] at hm
    rcases List.mem_append.mp hm with hm | hm
    · exact w_nosp hc hm
    · simp at hm
  rw [e, rdA_cut n]
  have hw : isW (c ++ ",") = false := by
    cases q : isW (c ++ ",") with
    | false => rfl
    | true =>
      have := isW_let q 44 (by rw [TL.tl_append, show TL.tl "," = [44] by decide +kernel]; simp)
      omega
  rw [hw]
  rfl
theorem w15 (hc : isW c = true) : rdA (c ++ " a b") = none := by
  have e : c ++ " a b" = c ++ " " ++ Txt.join ", " [("a b" : Str)] := by
    rw [join_one, app_assoc]
    congr 1
  rw [e]
  exact none_part hc (p := "a b") (fun p hp => by rw [List.mem_singleton.mp hp]; decide +kernel) (List.mem_singleton.mpr rfl) (by decide +kernel)
theorem w17 (hc : isW c = true) : rdA (c ++ " " ++ Txt.join ", " (List.replicate 5 ("zzz s s" : Str))) = none := by
  refine none_parts hc (by simp) (fun p hp => by rw [List.eq_of_mem_replicate hp]; decide +kernel) fun ms _ h4 _ _ e => ?_
  have := congrArg List.length e
  simp at this
  omega
/-! counts of signs -/
theorem cnt_join (S : List Nat) (x k : Nat) : ∀ ps : List (List Nat), ps ≠ [] → (∀ p ∈ ps, p.count x = k) → (TL.joinL S ps).count x + S.count x = ps.length * (k + S.count x)
  | [], h, _ => absurd rfl h
  | [p], _, h => by
    show p.count x + S.count x = 1 * (k + S.count x)
    rw [h p (List.mem_cons_self ..), Nat.one_mul]
  | p :: q :: r, _, h => by
    have ih := cnt_join S x k (q :: r) (by simp) fun y hy => h y (List.mem_cons_of_mem _ hy)
    show (p ++ (S ++ TL.joinL S (q :: r))).count x + S.count x = _
    have e : (p :: q :: r).length * (k + S.count x) = (q :: r).length * (k + S.count x) + (k + S.count x) := Nat.succ_mul _ _
    rw [List.count_append, List.count_append, h p (List.mem_cons_self ..), e]
    omega
theorem cnt_w {s : Str} (h : isW s = true) (x : Nat) (hx : ¬ Ltr x) : (TL.tl s).count x = 0 := List.count_eq_zero.mpr fun hm => hx (isW_let h x hm)
theorem cnt_jn {m : Mv} (h : ∀ s ∈ wds m, isW s = true) : (TL.tl (jn (wds m))).count 32 = 2 ∧ (TL.tl (jn (wds m))).count 44 = 0 := by
  have e : TL.tl (jn (wds m)) = TL.joinL [32] ((wds m).map TL.tl) := by
    unfold jn
    rw [TL.join_eq, TL.tl_join, tl_sp]
  have k : ∀ x, ¬ Ltr x → ∀ p ∈ (wds m).map TL.tl, p.count x = 0 := fun x hx p hp => by
    obtain ⟨s, hs, rfl⟩ := List.mem_map.mp hp
    exact cnt_w (h s hs) x hx
  rw [e]
  have h1 := cnt_join [32] 32 0 _ (by simp [wds]) (k 32 (by unfold Ltr; omega))
  have h2 := cnt_join [32] 44 0 _ (by simp [wds]) (k 44 (by unfold Ltr; omega))
  have l3 : ((wds m).map TL.tl).length = 3 := rfl
  rw [l3] at h1 h2
  simp at h1 h2
  exact ⟨by omega, h2⟩
theorem w11 (hc : isW c = true) (hne : ns ≠ []) (hw : OkMv ns) : rdA (c ++ " " ++ Txt.join "," (ptsM ns ++ [("a b c" : Str)])) = none := by
  refine none_cut hc fun ms hne2 _ hw2 _ e => ?_
  have l1 : 1 ≤ ns.length := by
    cases ns with
    | nil => exact absurd rfl hne
    | cons _ _ => exact Nat.succ_le_succ (Nat.zero_le _)
  have l2 : 1 ≤ ms.length := by
    cases ms with
    | nil => exact absurd rfl hne2
    | cons _ _ => exact Nat.succ_le_succ (Nat.zero_le _)
  have tc : TL.tl "," = [44] := by decide +kernel
  have eA : TL.tl (Txt.join "," (ptsM ns ++ [("a b c" : Str)])) = TL.joinL [44] ((ptsM ns ++ [("a b c" : Str)]).map TL.tl) := by rw [TL.join_eq, TL.tl_join, tc]
  have eB : TL.tl (wrM ms) = TL.joinL [44, 32] ((ptsM ms).map TL.tl) := by
    unfold wrM
    rw [TL.join_eq, TL.tl_join, tl_cs]
  have kB : ∀ (qs : List Mv), OkMv qs → ∀ p ∈ (ptsM qs).map TL.tl, p.count 32 = 2 ∧ p.count 44 = 0 := fun qs hq p hp => by
    obtain ⟨s, hs, rfl⟩ := List.mem_map.mp hp
    obtain ⟨m, hm, rfl⟩ := List.mem_map.mp hs
    exact cnt_jn (hq m hm)
  have kA : ∀ p ∈ (ptsM ns ++ [("a b c" : Str)]).map TL.tl, p.count 32 = 2 ∧ p.count 44 = 0 := fun p hp => by
    rw [List.map_append] at hp
    rcases List.mem_append.mp hp with hp | hp
    · exact kB ns hw p hp
    · have ep : p = TL.tl "a b c" := List.mem_singleton.mp hp
      rw [ep]
      decide +kernel
  have nA : (ptsM ns ++ [("a b c" : Str)]).map TL.tl ≠ [] := by simp
  have nB : (ptsM ms).map TL.tl ≠ [] := by simpa using hne2
  have a1 := cnt_join [44] 32 2 _ nA fun p hp => (kA p hp).1
  have a2 := cnt_join [44] 44 0 _ nA fun p hp => (kA p hp).2
  have b1 := cnt_join [44, 32] 32 2 _ nB fun p hp => (kB ms hw2 p hp).1
  have b2 := cnt_join [44, 32] 44 0 _ nB fun p hp => (kB ms hw2 p hp).2
  rw [← eA, e, eB] at a1 a2
  simp at a1 a2 b1 b2
  omega
/-! not in order -/
abbrev aaa : Mv := ("a", "a", "a")
abbrev baa : Mv := ("b", "a", "a")
theorem mv_least (m : Mv) (h : ∀ s ∈ wds m, isW s = true) : mvLe aaa m = true := by
  have key : ∀ s : Str, isW s = true → ltS s "a" = false := fun s hs => by
    unfold ltS
    refine decide_eq_false fun z => ?_
    obtain ⟨b, q, e, hb⟩ := head_w hs
    have e1 : s.cps.toList = b :: q := e
    have e2 : (Str.ofString "a").cps.toList = [97] := by decide +kernel
    rw [e1, e2] at z
    unfold Ltr at hb
    cases z with
    | rel h => omega
    | cons h => cases h
  unfold mvLe mvLt
  have k1 := key m.1 (h _ (by simp [wds]))
  have k2 := key m.2.1 (h _ (by simp [wds]))
  have k3 := key m.2.2 (h _ (by simp [wds]))
  split
  · split
    · split
      · rfl
      · rw [k3]
        rfl
    · rw [k2]
      rfl
  · rw [k1]
    rfl
theorem aaa_wds : wds aaa = [("a" : Str), "a", "a"] := rfl
theorem w14a (hc : isW c = true) (hne : ns ≠ []) (hw : OkMv ns) (h : (ptsM ns).getLast? ≠ some ("a a a" : Str)) : rdA (c ++ " " ++ Txt.join ", " (ptsM ns ++ [("a a a" : Str)])) = none := by
  have ea : ("a a a" : Str) = jn (wds aaa) := by decide +kernel
  have e0 : ptsM ns ++ [("a a a" : Str)] = ptsM (ns ++ [aaa]) := by
    rw [ea]
    unfold ptsM
    rw [List.map_append]
    rfl
  rw [e0]
  have hw' : OkMv (ns ++ [aaa]) := fun m hm s hs => by
    rcases List.mem_append.mp hm with hm | hm
    · exact hw m hm s hs
    · rw [List.mem_singleton.mp hm, aaa_wds] at hs
      simp only [List.mem_cons, List.not_mem_nil, or_false] at hs
      rcases hs with rfl | rfl | rfl <;> decide +kernel
  refine none_parts hc (by simp) (pts_nc hw') fun ms _ _ hw2 hs e => h ?_
  have e1 : (ptsM (ns ++ [aaa])).map (fun p => Txt.split p " ") = (ns ++ [aaa]).map wds := by
    unfold ptsM
    rw [List.map_map]
    exact List.map_congr_left fun m hm => wds_split (hw' m hm)
  rw [e1] at e
  have e2 : ns ++ [aaa] = ms := by
    have := congrArg (List.map toMv) e
    rw [toMv_wds, toMv_wds] at this
    exact this
  subst e2
  have pw := sortM_pw (ns ++ [aaa])
  rw [hs] at pw
  obtain ⟨q, m, rfl⟩ : ∃ q m, ns = q ++ [m] := ⟨ns.dropLast, ns.getLast hne, (List.dropLast_concat_getLast hne).symm⟩
  have le1 : mvLe m aaa = true := (List.pairwise_append.mp pw).2.2 m (List.mem_append_right _ (List.mem_singleton.mpr rfl)) _ (List.mem_singleton.mpr rfl)
  have le2 := mv_least m (hw m (List.mem_append_right _ (List.mem_singleton.mpr rfl)))
  have em := mvLe_anti le1 le2
  subst em
  unfold ptsM
  rw [List.map_append, List.map_cons, List.map_nil, List.getLast?_concat, ea]
theorem w14b (hc : isW c = true) (hw : OkMv ns) (h : (ptsM ns).getLast? = some ("a a a" : Str)) : rdA (c ++ " " ++ Txt.join ", " (("b a a" : Str) :: ptsM ns)) = none := by
  have ea : ("a a a" : Str) = jn (wds aaa) := by decide +kernel
  have eb : ("b a a" : Str) = jn (wds baa) := by decide +kernel
  have e0 : ("b a a" : Str) :: ptsM ns = ptsM (baa :: ns) := by rw [eb]; rfl
  rw [e0]
  have hw' : OkMv (baa :: ns) := fun m hm s hs => by
    rcases List.mem_cons.mp hm with rfl | hm
    · have e : wds baa = [("b" : Str), "a", "a"] := rfl
      rw [e] at hs
      simp only [List.mem_cons, List.not_mem_nil, or_false] at hs
      rcases hs with rfl | rfl | rfl <;> decide +kernel
    · exact hw m hm s hs
  refine none_parts hc (by simp) (pts_nc hw') fun ms _ _ hw2 hs e => ?_
  have e1 : (ptsM (baa :: ns)).map (fun p => Txt.split p " ") = (baa :: ns).map wds := by
    unfold ptsM
    rw [List.map_map]
    exact List.map_congr_left fun m hm => wds_split (hw' m hm)
  rw [e1] at e
  have e2 : baa :: ns = ms := by
    have := congrArg (List.map toMv) e
    rw [toMv_wds, toMv_wds] at this
    exact this
  subst e2
  have pw := sortM_pw (baa :: ns)
  rw [hs] at pw
  have hm := List.mem_of_getLast? h
  obtain ⟨m, hmm, em⟩ := List.mem_map.mp hm
  have ew : wds m = wds aaa := by
    rw [← wds_split (hw m hmm), em, ea, wds_split (m := aaa) (by
      intro s hs
      rw [aaa_wds] at hs
      simp only [List.mem_cons, List.not_mem_nil, or_false] at hs
      rcases hs with rfl | rfl | rfl <;> decide +kernel)]
  have em2 : m = aaa := by
    have := congrArg toMv ew
    exact this
  subst em2
  have le := (List.pairwise_cons.mp pw).1 _ hmm
  exact absurd le (by decide +kernel)
end
end L2

set_option Elab.async false
set_option linter.all false
set_option maxRecDepth 100000
set_option maxHeartbeats 4000000
/-! what a body with lambdas keeps: all but the tape and the tables of code objects -/
namespace L2
open PySem PySem.Spec PyProof.Rows LamX
structure Kl (T : List (Addr × Str)) (t : Addr) (H H' : Hp) : Prop where
  tp : Tp H' t
  tb : Tabs T H'
  kp : ∀ b o, b ≠ t → (∀ ps, o ≠ .tbl ps) → H b = some o → H' b = some o
theorem tabs_kt {T : List (Addr × Str)} {t : Addr} {H H' : Hp} (k : Kt t H H') (hT : Tp H t) (h : Tabs T H) : Tabs T H' := fun p hp => by
  obtain ⟨ps, e, ok, h3⟩ := h p hp
  obtain ⟨a, b, c, q⟩ := hT
  refine ⟨ps, k.kp _ _ (fun z => by rw [z, q] at e; cases e) e, ok, fun pos cv hc => ?_⟩
  obtain ⟨c', e1, e2⟩ := h3 pos cv hc
  refine ⟨c', e1, k.kp _ _ (fun z => ?_) e2⟩
  rw [z, q] at e2
  unfold CodeO at e2
  cases e2
theorem Kl.refl {T : List (Addr × Str)} {t : Addr} {H : Hp} (hT : Tp H t) (h : Tabs T H) : Kl T t H H := ⟨hT, h, fun _ _ _ _ e => e⟩
theorem Kl.of {T : List (Addr × Str)} {t : Addr} {H H' : Hp} (k : Kt t H H') (hT : Tp H t) (h : Tabs T H) : Kl T t H H' := ⟨k.tp, tabs_kt k hT h, fun b o n _ e => k.kp b o n e⟩
theorem Kl.trans {T : List (Addr × Str)} {t : Addr} {H H1 H2 : Hp} (a : Kl T t H H1) (b : Kl T t H1 H2) : Kl T t H H2 := ⟨b.tp, b.tb, fun c o n m e => b.kp c o n m (a.kp c o n m e)⟩
theorem Kl.then {T : List (Addr × Str)} {t : Addr} {H H1 H2 : Hp} (a : Kl T t H H1) (b : Kt t H1 H2) : Kl T t H H2 := a.trans (.of b a.tp a.tb)
theorem Kl.same {T : List (Addr × Str)} {t : Addr} {H H1 H2 : Hp} (a : Kl T t H H1) (s : Same H1 H2) : Kl T t H H2 := a.then (Kt.same a.tp s)
theorem Kl.lam {T : List (Addr × Str)} {t : Addr} {H H1 H2 : Hp} (a : Kl T t H H1) (e : ExtN H1 H2) (h : Tabs T H2) : Kl T t H H2 := by
  obtain ⟨x, y, z, q⟩ := a.tp
  exact ⟨⟨x, y, z, e _ _ q fun ps n => by cases n⟩, h, fun b o n m ho => e _ _ (a.kp b o n m ho) m⟩
section
variable {X : Cx}
/-- a def of one parameter that calls a lambda without parameters; other tables may be told beside -/
theorem pe_metT {T : List (Addr × Str)} {x a : Str} {st : Stmt} {g c P : Addr} {k : Nat} {fd : FuncData} {Ng : List Str} {TT : (XK → Hp → VK → Prop) → Hp → VK → Prop} {params : Arguments} {body : Expr} {scope : Scope} {t : XK → TE} {p lpos pos : Pos} (hg : Gl X x) (D : Df X.K X.mg x st [a] g fd) (Sg : FnScope Ng [a] (defScope st)) (hNg : Ng[0]? = some a) (hva : Vis (defScope st) a)
    (hG : ∀ cdg : Value, GivesTo X Ng x (defScope st) g cdg (defBody st) a (X.env.qual ++ "<lambda>") TT) (TB : LamX.TabB X.base X.mg c P) (hcode : X.env.code = .ref c) (hmT : (P, X.env.qual ++ "<lambda>") ∈ T) (hu : ∀ p ∈ T, p.1 = P → p.2 = X.env.qual ++ "<lambda>") (hr : Room (k + 2) X.A) (L : LamS X.env.scope scope) (hdef : defaultsOf params X.env = ([], []))
    (hbind : ∀ (q : Str) (cl : List (Str × Addr)) (pm cv ctv : Value), bindArgs (PySem.W.kla_fn "<lambda>" q params body scope cl pm cv ctv) ⟨[], []⟩ = pure [])
    (hbody : ∀ (A : Around) (outer : List Env) (s : Shared) (H : Hp) (E : XK) (f c' : Addr), Room k (A.deeper (lamEnv X scope s.heap.objs.size f c')) → PE (lamCx X A outer s H E scope f c') body (t E))
    (hdb : (x == ("__debug__" : Str)) = false := by decide) (hd : (a == ("__debug__" : Str)) = false := by decide) (hcd : (a == ("__classdict__" : Str)) = false := by decide) :
    PE X (.Call (.Name x p) [.Lambda params body scope lpos] [] pos) (tLam T TT t) := by
  have hb := D.b
  obtain ⟨oc, od, kV, doc, pm, an, cdv, ct, osl, rfl, lk, hcg⟩ := D.F.ex
  exact pe_lamcall hg D.g D.F.kp lk hcg hb Sg hNg hva (hG cdv) TB hcode hmT hu hr L hdef hbind hbody hdb hd hcd
end
section
variable {X : Cx} {CX : CXT} {n : Nat} {C f : Addr} {fd : FuncData} {ps : List Str} {sp : Sp} {E : XK} (K : PySem.W.Frag)
theorem op_eqOK (h : X.K = K) (O : OwnD X.K C "__eq__" f) (F : FnOk X.prog X.w X.K X.mg X.base CX n f fd ps sp) (hb : Binds X.K fd ps []) (hx : Passes CX X E) (hr : Room n X.A) : OpR X (compareOp .Eq) (rEqO K C sp E false) := by
  subst h
  exact op_eqO O F hb hx hr
theorem op_neOK (h : X.K = K) (O : OwnD X.K C "__eq__" f) (hne : PySem.W.findIn X.K (.ref C) "__ne__" = some (some (.builtin "object.__ne__"))) (ho : PySem.W.mroIn X.K C (.type "object") = some true) (F : FnOk X.prog X.w X.K X.mg X.base CX n f fd ps sp) (hb : Binds X.K fd ps []) (hx : Passes CX X E) (hr : Room (n + 1) X.A) : OpR X (compareOp .NotEq) (rEqO K C sp E true) := by
  subst h
  exact op_neO O hne ho F hb hx hr
end
end L2

set_option Elab.async false
set_option linter.all false
set_option maxRecDepth 100000
set_option maxHeartbeats 4000000
/-! the Hook that tells of defs at any address too (getters of properties, classmethods); what it tells of an own class -/
namespace L2
open PySem PySem.Spec PyProof.Rows
def hookM (n : Nat) (fa : List He.Fa) (fn : List He.DefD) (tf : List He.Defn) (ex : PySem.W.Frag → Bool) (fm : List He5.DefA) : PySem.W.Hook where
  α := He.AlX × List He5.FnW
  obs := fun s => (obsL n fa fn tf ex s.heap.get?, fm.map fun d => He5.fnA (frL n s.heap.get?) (d.at_ (frL n s.heap.get?)))
  val := fun w => (He.valX fn [] w, fm.map He5.DefA.val)
  says := fun w h => ∃ K : PySem.W.Frag, K.In h ∧ He.SaysX fa fn [] tf ex w h K ∧ fm.map (fun d => He5.fnA K (d.at_ K)) = fm.map He5.DefA.val
  of := fun _ _ e => ⟨_, He.frT_in, saysL_of (congrArg (fun z : He.AlX × List He5.FnW => z.1) e), congrArg (fun z : He.AlX × List He5.FnW => z.2) e⟩
  keeps := fun _ _ _ ⟨K, hK, c, m⟩ k => ⟨K, PySem.W.Frag.In.keeps hK k, ⟨c.t, c.more, c.hd, c.out, fun p hp => k _ _ (c.empty p hp)⟩, m⟩
def obsM (n : Nat) (fa : List He.Fa) (fn : List He.DefD) (tf : List He.Defn) (ex : PySem.W.Frag → Bool) (fm : List He5.DefA) (g : Addr → Option Obj) : He.AlX × List He5.FnW := (obsL n fa fn tf ex g, fm.map fun d => He5.fnA (frL n g) (d.at_ (frL n g)))
theorem obsM_eq {n : Nat} {fa : List He.Fa} {fn : List He.DefD} {tf : List He.Defn} {ex : PySem.W.Frag → Bool} {fm : List He5.DefA} {g : Addr → Option Obj} {s : Shared} (h : ∀ a, g a = s.heap.get? a) : obsM n fa fn tf ex fm g = (hookM n fa fn tf ex fm).obs s := by
  have e : g = s.heap.get? := funext h
  rw [e] <;> rfl
theorem defA_at {K : PySem.W.Frag} {fm : List He5.DefA} (m : fm.map (fun d => He5.fnA K (d.at_ K)) = fm.map He5.DefA.val) (i : Nat) {d : He5.DefA} (h : fm[i]? = some d := by rfl) (ok : d.ok K = true) : ∃ fd, FunD K d.name d.qual d.params d.body d.scope (d.dvs K) (d.kws K) (d.at_ K) fd := by
  have e2 : (fm.map fun d => He5.fnA K (d.at_ K))[i]? = (fm.map He5.DefA.val)[i]? := by rw [m]
  rw [List.getElem?_map, List.getElem?_map, h] at e2
  exact He5.DefA.funD (Option.some.inj e2) ok
section
variable {K : PySem.W.Frag} {C : Addr} {f : Str}
def propB (K : PySem.W.Frag) (C : Addr) (f : Str) : Bool := He.eqO (PySem.W.findIn K (.ref C) f) (some (some (.ref (He.ma K C f)))) && (He.eqO (PySem.W.specialIn K (.ref (He.ma K C f)) "__get__") (some (some (.builtin "property.__get__"))) && (decide (PySem.W.takesIn K (.ref (He.ma K C f)) = some true) && (match PySem.W.recIn K (He.ma K C f) "property" with
  | some (.ref _ :: _) => true
  | _ => false)))
theorem propB_ok (e : propB K C f = true) : PropOf K C f (He.ma K C f) (He5.wf K C "property" f) := by
  obtain ⟨e1, e⟩ := He.ba e
  obtain ⟨e2, e⟩ := He.ba e
  obtain ⟨e3, e4⟩ := He.ba e
  refine ⟨He.eqO_ok e1, He.eqO_ok e2, of_decide_eq_true e3, ?_⟩
  unfold He5.wf
  split at e4
  · rename_i f r e
    exact ⟨r, by rw [e]⟩
  · cases e4
def insB (K : PySem.W.Frag) (C : Addr) : Bool := He.eqO (PySem.W.findIn K (.ref C) "__class__") (some (some (.builtin "object.__class__"))) && (He.eqO (PySem.W.specialIn K (.builtin "object.__class__") "__get__") (some (some (.builtin "getset_descriptor.__get__"))) &&
  (decide (PySem.W.takesIn K (.builtin "object.__class__") = some true) && (decide (PySem.W.mroIn K C (.type "object") = some true) && decide (PySem.W.kitOne K (.ref C) (.ref C) = some true))))
theorem insB_ok (cl : Cls K C) (e : insB K C = true) : C8.InsC K C := by
  obtain ⟨e1, e⟩ := He.ba e
  obtain ⟨e2, e⟩ := He.ba e
  obtain ⟨e3, e⟩ := He.ba e
  obtain ⟨e4, e5⟩ := He.ba e
  exact ⟨cl, He.eqO_ok e1, He.eqO_ok e2, of_decide_eq_true e3, of_decide_eq_true e4, of_decide_eq_true e5⟩
def readB (K : PySem.W.Frag) (C : Addr) : Bool := PySem.W.readsIn K C (.type "type") && He.eqO (PySem.W.specialIn K (.ref C) "__getattribute__") (some (some (.builtin "type.__getattribute__")))
theorem readB_ok (e : readB K C = true) : ClX.CRead K C (.type "type") := by
  obtain ⟨e1, e2⟩ := He.ba e
  exact ⟨e1, He.eqO_ok e2⟩
def cmetB (K : PySem.W.Frag) (C : Addr) (m : Str) : Bool := He5.wrapB K C "classmethod" "classmethod.__get__" m && PySem.W.fnIn K (He5.wf K C "classmethod" m)
theorem cmetB_ok (e : cmetB K C f = true) : ClX.CMet K C (.type "type") f (He.ma K C f) (He5.wf K C "classmethod" f) := by
  obtain ⟨e1, e2⟩ := He.ba e
  exact He5.cmet_of e1 e2
def neB (K : PySem.W.Frag) (C : Addr) : Bool := He.eqO (PySem.W.findIn K (.ref C) "__ne__") (some (some (.builtin "object.__ne__")))
def nfB (K : PySem.W.Frag) (C : Addr) (Ts : List String) : Bool := Ts.all fun T => PySem.W.notFirst K C (.type T) && decide (PySem.W.kitOne K (.type T) (.ref C) = some false)
theorem nfB_ok {Ts : List String} (e : nfB K C Ts = true) : (∀ T ∈ Ts, PySem.W.notFirst K C (.type T) = true) ∧ ∀ T ∈ Ts, PySem.W.kitOne K (.type T) (.ref C) = some false :=
  ⟨fun T h => (He.ba (List.all_eq_true.mp e T h)).1, fun T h => of_decide_eq_true (He.ba (List.all_eq_true.mp e T h)).2⟩
theorem all2 {α : Type} {Pr : α → Prop} {a b : α} (h1 : Pr a) (h2 : Pr b) : ∀ x ∈ [a, b], Pr x := fun x hx => by
  rcases List.mem_cons.mp hx with rfl | hx
  · exact h1
  · rw [List.mem_singleton.mp hx]
    exact h2
theorem own_meth {m : Str} {g : Addr} (h : Meth K C m g) : OwnD K C m g := ⟨h.at_, h.fn⟩
end
end L2

set_option Elab.async false
set_option linter.all false
set_option maxRecDepth 100000
set_option maxHeartbeats 8000000
namespace Gk
open PySem PySem.Spec PyProof.Rows L2
def topS (i : Nat) : Stmt := PySem.Challenge.pw_groupclocks_k05_actions_and_their_lines.main.body.getD i (.Pass ⟨0, 0, 0, 0⟩)
abbrev s_tape : Stmt := topS 16
theorem sc_tape : FnScope ["script", "spot", "cell", "great", "begin"] ["script", "spot"] (defScope s_tape) := ⟨rfl, rfl, rfl, by decide +kernel, rfl, by decide +kernel, by decide +kernel⟩
abbrev s_roll : Stmt := topS 17
theorem sc_roll : FnScope ["tape", "total", "found", "one", "two"] ["tape", "total"] (defScope s_roll) := ⟨rfl, rfl, rfl, by decide +kernel, rfl, by decide +kernel, by decide +kernel⟩
abbrev s_pick : Stmt := topS 18
theorem sc_pick : FnScope ["tape", "items"] ["tape", "items"] (defScope s_pick) := ⟨rfl, rfl, rfl, by decide +kernel, rfl, by decide +kernel, by decide +kernel⟩
abbrev s_few : Stmt := topS 19
theorem sc_few : FnScope ["tape", "items", "many", "left", "found"] ["tape", "items", "many"] (defScope s_few) := ⟨rfl, rfl, rfl, by decide +kernel, rfl, by decide +kernel, by decide +kernel⟩
abbrev s_word_drawn : Stmt := topS 20
theorem sc_word_drawn : FnScope ["tape", "lots", "turn"] ["tape"] (defScope s_word_drawn) := ⟨rfl, rfl, rfl, by decide +kernel, rfl, by decide +kernel, by decide +kernel⟩
abbrev s_words_drawn : Stmt := topS 21
theorem sc_words_drawn : FnScope ["tape", "lots", "found", "turn", "word", "left", "sign"] ["tape", "lots"] (defScope s_words_drawn) := ⟨rfl, rfl, rfl, by decide +kernel, rfl, by decide +kernel, by decide +kernel⟩
section
variable {P : Program} {w : World} {K : PySem.W.Frag} {mg : Str → Option Value} {base : Heap}
theorem ok_tape {f : Addr} {fd : FuncData} (B : Blt mg) (D : Df K mg "_law_tape" s_tape ["script", "spot"] f fd) : FnOk P w K mg base CX0 1 f fd ["script", "spot"] (spTape K) := by
  refine D.F.ok sc_tape (fun vs H Q E h => ?_) (fun cdv A outer s H vs Q E hr h => ?_)
  · obtain ⟨a, ns, n, rfl, _⟩ := h
    rfl
  · obtain ⟨a, ns, n, rfl, hS, h0, q⟩ := h
    refine ⟨_, (pss_cons (ps_set (i := 2) sc_tape.nd rfl (Or.inl rfl) (pe_ifExp (pt_cmpR op_lt (pv 1) (pe_callB call_len_seq (by rfl) B.len_ (by decide +kernel) (pa_cons (pv 0) pa_nil)) (nomark _)) (pe_ix ix_list (pv 0) (pv 1) (fun _ _ => rfl)) (pe_op op_add (pe_op op_mul pe_int (pv 1)) pe_int)))
    (pss_cons (ps_set (i := 3) sc_tape.nd rfl (Or.inl rfl) (pe_op op_modN (pe_callTy call_int1 (by rfl) B.int_ (by decide +kernel) (pa_cons (pe_callB call_abs (by rfl) B.abs_ (by decide +kernel) (pa_cons (pv 2) pa_nil)) pa_nil)) (pe_op op_powW (pe_op op_powW pe_int pe_int) pe_int)))
    (pss_cons (ps_set (i := 4) sc_tape.nd rfl (Or.inl rfl) (pe_op op_add (pe_op op_add (pe_op op_add (pe_op op_mul (pv 3) pe_int) (pe_op op_mul pe_int (pv 1))) (pe_op op_mul pe_int (pe_callTy call_int1 (by rfl) B.int_ (by decide +kernel) (pa_cons (pe_cmpR op_lt (pv 2) pe_int (nomark _)) pa_nil)))) pe_int))
    (pss_one (ps_ret (pe_lst (pa_cons (pe_callB (call_max2 rfl) (by rfl) B.max_ (by decide +kernel) (pa_cons pe_int (pa_cons (pe_op op_sub (pv 3) (pe_op op_powW pe_int pe_int)) pa_nil))) (pa_cons (pe_op op_modN (pe_callTy call_int1 (by rfl) B.int_ (by decide +kernel) (pa_cons (pv 4) pa_nil)) pe_int) (pa_cons pe_int pa_nil))))))))), ?_⟩
    refine ⟨_, rfl, _, rfl, a, _, rfl, .inl hS, _, _, rfl, rfl, _, rfl, ?_⟩
    obtain ⟨c, hc⟩ : ∃ c : Int, c = if n < ns.length then ns.getD n.toNat 0 else 83 * n + 17 := ⟨_, rfl⟩
    refine meetI H (.int c) (fun hlt Q q => ?_) (fun hge Q q => ?_) ?_
    · have hlt' : n < ns.length := by
        have := of_decide_eq_true hlt
        rw [List.length_map] at this
        exact this
      have hj : n.toNat < ns.length := by omega
      refine ⟨_, rfl, _, rfl, a, _, n, .int c, rfl, rfl, hS, ?_, q⟩
      refine at_of (j := n.toNat) (by omega) ?_
      rw [List.getElem?_map, List.getElem?_eq_getElem hj, hc, if_pos hlt', List.getD_eq_getElem?_getD, List.getElem?_eq_getElem hj]
      rfl
    · have hge' : ¬ n < ns.length := fun z => hge (decide_eq_true (by rw [List.length_map]; exact z))
      rw [if_neg hge'] at hc
      refine ⟨_, rfl, _, _, rfl, rfl, .inl (by constructor <;> decide), _, _, rfl, rfl, ?_⟩
      rw [hc] at q
      exact q
    · refine ⟨_, rfl, _, rfl, .inl ⟨_, rfl, _, _, rfl, rfl, c57, _, _, rfl, rfl, c570, _, _, rfl, rfl, p570, ?_⟩⟩
      generalize (if c < 0 then -c else c).fmod ((10 ^ Int.toNat 57) ^ Int.toNat 10) = gr
      refine ⟨_, rfl, _, _, rfl, rfl, cmR, _, rfl, _, _, rfl, rfl, cmL, _, _, rfl, rfl, _, rfl, _, _, rfl, rfl, .inr ⟨_, rfl, _, _, rfl, rfl, cmL, _, _, rfl, rfl, _, _, rfl, rfl, ?_⟩⟩
      refine ⟨_, rfl, _, _, rfl, rfl, c18, _, _, rfl, rfl, _, _, rfl, _, rfl, .inl ⟨_, rfl, _, _, rfl, rfl, (show (_ : Int) ≠ 0 from by decide), by show 3 ≤ sizeLine; decide, fun t ht => q t _ _ _ ht⟩⟩
theorem ok_roll {f : Addr} {fd : FuncData} (B : Blt mg) (D : Df K mg "_law_roll" s_roll ["tape", "total"] f fd) : FnOk P w K mg base CX0 1 f fd ["tape", "total"] spRoll := by
  refine D.F.ok sc_roll (fun vs H Q E h => ?_) (fun cdv A outer s H vs Q E hr h => ?_)
  · obtain ⟨t, n, rfl, _⟩ := h
    rfl
  · obtain ⟨t, n, rfl, hT, h0, hn, q⟩ := h
    obtain ⟨a, b, c, e⟩ := hT
    have hT : Tp H t := ⟨a, b, c, e⟩
    have hS : SqL K H t [.int a, .int b, .int c] := .inl (.inl e)
    have hn0 : n ≠ 0 := by omega
    refine ⟨_, (pss_cons (ps_if (pt_cmpR op_gt (pe_ix ix_list (pv 0) pe_int (fun _ _ => rfl)) pe_int (nomark _))
    (pss_cons (ps_set (i := 2) sc_roll.nd rfl (Or.inl rfl) (pe_op op_modN (pe_callTy call_int1 (by rfl) B.int_ (by decide +kernel) (pa_cons (pe_ix ix_list (pv 0) pe_int (fun _ _ => rfl)) pa_nil)) (pv 1)))
    (pss_cons (ps_asg (pe_op op_fdivN (pe_ix ix_list (pv 0) pe_int (fun _ _ => rfl)) (pv 1)) (pg_sub (pv 0) pe_int set_list))
    (pss_one (ps_ret (pv 2))))) pss_nil)
    (pss_cons (ps_asg (pe_op op_add (pe_ix ix_list (pv 0) pe_int (fun _ _ => rfl)) pe_int) (pg_sub (pv 0) pe_int set_list))
    (pss_cons (ps_set (i := 3) sc_roll.nd rfl (Or.inl rfl) (pe_op op_modN (pe_callTy call_int1 (by rfl) B.int_ (by decide +kernel) (pa_cons (pe_op op_add (pe_ix ix_list (pv 0) pe_int (fun _ _ => rfl)) (pe_op op_mul pe_int (pe_ix ix_list (pv 0) pe_int (fun _ _ => rfl)))) pa_nil)) pe_int))
    (pss_cons (ps_set (i := 4) sc_roll.nd rfl (Or.inl rfl) (pe_op op_add (pe_op op_mul (pe_op op_modN (pe_callTy call_int1 (by rfl) B.int_ (by decide +kernel) (pa_cons (pe_op op_mul (pv 3) (pv 3)) pa_nil)) pe_int) (pv 3)) (pe_op op_mul pe_int (pe_ix ix_list (pv 0) pe_int (fun _ _ => rfl)))))
    (pss_one (ps_ret (pe_op op_modN (pe_callTy call_int1 (by rfl) B.int_ (by decide +kernel) (pa_cons (pe_op op_fdivN (pe_op op_modN (pe_callTy call_int1 (by rfl) B.int_ (by decide +kernel) (pa_cons (pe_op op_add (pv 4) (pe_ix ix_list (pv 0) pe_int (fun _ _ => rfl))) pa_nil)) pe_int) pe_int) pa_nil)) (pv 1)))))))), ?_⟩
    refine ⟨_, rfl, t, _, 0, _, rfl, rfl, hS, atI_nat (j := 0) rfl, _, _, rfl, rfl, _, rfl, ite2 (fun hp => ?_) (fun hp => ?_)⟩
    · refine ⟨_, rfl, t, _, 0, _, rfl, rfl, hS, atI_nat (j := 0) rfl, .inl ⟨_, rfl, _, rfl, _, _, rfl, rfl, hn0, ?_⟩⟩
      refine ⟨_, rfl, t, _, 0, _, rfl, rfl, hS, atI_nat (j := 0) rfl, _, rfl, _, _, rfl, rfl, ⟨hn0, by omega⟩, _, rfl, t, _, 0, 0, rfl, rfl, e, rfl, ?_⟩
      exact ⟨_, rfl, q _ _ (fmod_rng h0).1 (fmod_rng h0).2 (Kt.wr hT)⟩
    · refine ⟨_, rfl, t, _, 2, _, rfl, rfl, hS, atI_nat (j := 2) rfl, _, _, rfl, rfl, _, rfl, t, _, 2, 2, rfl, rfl, e, rfl, ?_⟩
      have e1 : (upd H t (.lst [.int a, .int b, .int (c + 1)])) t = some (.lst [.int a, .int b, .int (c + 1)]) := upd_same
      have hS1 : SqL K (upd H t (.lst [.int a, .int b, .int (c + 1)])) t [.int a, .int b, .int (c + 1)] := .inl (.inl e1)
      refine ⟨_, rfl, t, _, 1, _, rfl, rfl, hS1, atI_nat (j := 1) rfl, _, rfl, t, _, 2, _, rfl, rfl, hS1, atI_nat (j := 2) rfl, _, _, rfl, rfl, cmL, _, _, rfl, rfl, .inl ⟨_, rfl, _, _, rfl, rfl, (show (_ : Int) ≠ 0 from by decide), ?_⟩⟩
      obtain ⟨u, hu, hu2⟩ : ∃ u : Int, u = (b + 900107 * (c + 1)).fmod 2305843009213693951 ∧ (-(2 ^ 64) < u ∧ u < 2 ^ 64) := ⟨_, rfl, by
        have := fmod_rng (a := b + 900107 * (c + 1)) (n := 2305843009213693951) (by decide)
        omega⟩
      dsimp only
      rw [← hu]
      refine ⟨_, rfl, _, rfl, _, _, rfl, rfl, .inl hu2, .inl ⟨_, rfl, _, _, rfl, rfl, (show (_ : Int) ≠ 0 from by decide), _, rfl, _, _, rfl, rfl, .inr hu2, _, rfl, t, _, 2, _, rfl, rfl, hS1, atI_nat (j := 2) rfl, _, _, rfl, rfl, cmL, _, _, rfl, rfl, ?_⟩⟩
      refine ⟨_, rfl, _, rfl, t, _, 1, _, rfl, rfl, hS1, atI_nat (j := 1) rfl, _, _, rfl, rfl, .inl ⟨_, rfl, _, _, rfl, rfl, (show (_ : Int) ≠ 0 from by decide), _, _, rfl, rfl, ⟨by decide, by decide⟩, .inl ⟨_, rfl, _, rfl, _, _, rfl, rfl, hn0, ?_⟩⟩⟩
      exact q _ _ (fmod_rng h0).1 (fmod_rng h0).2 (Kt.wr hT)
end
end Gk

set_option Elab.async false
set_option linter.all false
set_option maxRecDepth 100000
set_option maxHeartbeats 8000000
namespace Gk
open PySem PySem.Spec PyProof.Rows L2
section
variable {P : Program} {w : World} {K : PySem.W.Frag} {mg : Str → Option Value} {base : Heap}
theorem ok_pick {f fR : Addr} {fd fdR : FuncData} (B : Blt mg) (D_roll : Df K mg "_law_roll" s_roll ["tape", "total"] fR fdR) (D : Df K mg "_law_pick" s_pick ["tape", "items"] f fd) : FnOk P w K mg base CX0 2 f fd ["tape", "items"] (spPick K) := by
  have G_roll : FnOk P w K mg base CX0 1 fR fdR ["tape", "total"] spRoll := ok_roll B D_roll
  refine D.F.ok sc_pick (fun vs H Q E h => ?_) (fun cdv A outer s H vs Q E hr h => ?_)
  · obtain ⟨t, x, xs, rfl, _⟩ := h
    rfl
  · obtain ⟨t, x, xs, rfl, hT, hI, h0, hl, q⟩ := h
    refine ⟨_, (pss_one (ps_ret (pe_ix ix_seq (pv 1) (pe_call G_roll (hr.mono (by decide)) (by rfl) D_roll.g D_roll.F.kp D_roll.b .nil pass0 (pa_cons (pv 0) (pa_cons (pe_callB call_len (by rfl) B.len_ (by decide +kernel) (pa_cons (pv 1) pa_nil)) pa_nil))) (fun _ _ => rfl)))), ?_⟩
    refine ⟨_, rfl, _, rfl, _, rfl, x, xs.length, rfl, hI.len hl, t, _, rfl, hT, by omega, by omega, fun r H' r0 r1 k => ?_⟩
    obtain ⟨y, hy, hm⟩ := at_int (xs := xs) r0 r1
    exact (hI.kt hT k).ix hl hy (q y H' hm k)
theorem ok_few {f fR : Addr} {fd fdR : FuncData} (B : Blt mg) (D_roll : Df K mg "_law_roll" s_roll ["tape", "total"] fR fdR) (D : Df K mg "_law_few" s_few ["tape", "items", "many"] f fd) : FnOk P w K mg base CX0 2 f fd ["tape", "items", "many"] (spFew K) := by
  have G_roll : FnOk P w K mg base CX0 1 fR fdR ["tape", "total"] spRoll := ok_roll B D_roll
  refine D.F.ok sc_few (fun vs H Q E h => ?_) (fun cdv A outer s H vs Q E hr h => ?_)
  · obtain ⟨t, a, ss, many, rfl, _⟩ := h
    rfl
  · obtain ⟨t, a, ss, many, rfl, hT, hat, hS, hok, hlen, hm0, q⟩ := h
    refine ⟨_, (pss_cons (ps_par (i := 3) (j := 4) (by rfl) sc_few.nd rfl rfl (by decide) rfl rfl (pa_cons (pe_callTy call_list_of (by rfl) B.list_ (by decide +kernel) (pa_cons (pv 1) pa_nil)) (pa_cons (pe_lst pa_nil) pa_nil)) (by rfl))
    (pss_cons (ps_while PassesOwn.never (PW.pt (pw_and (pt_cmpR (op_neD hr.units) (pv 3) (pe_lst pa_nil) (nomark _)) (pw_and1 (pt_cmpR op_lt (pe_callB call_len_seq (by rfl) B.len_ (by decide +kernel) (pa_cons (pv 4) pa_nil)) (pv 2) (nomark _)))))
    (pss_one (ps_expr (pe_bm PySem.F.plainAttrs_list PySem.F.slot_list_append PySem.F.type_list_append mt_append (pv 4) (pa_cons (pe_bm PySem.F.plainAttrs_list PySem.F.slot_list_pop PySem.F.type_list_pop mt_popAt (pv 3) (pa_cons (pe_call G_roll (hr.mono (by decide)) (by rfl) D_roll.g D_roll.F.kp D_roll.b .nil pass0 (pa_cons (pv 0) (pa_cons (pe_callB call_len_seq (by rfl) B.len_ (by decide +kernel) (pa_cons (pv 3) pa_nil)) pa_nil))) pa_nil)) pa_nil)))))
    (pss_one (ps_ret (pv 4))))), ?_⟩
    refine ⟨_, rfl, a, _, rfl, .inl hS, fun l hl => ⟨Nat.zero_le _, fun e he => ⟨_, _, rfl, ?_⟩⟩⟩
    have nlt : l ≠ t := Kt.ne hT hl
    have nel : e ≠ l := fun z => by
      rw [z, upd_same] at he
      cases he
    have hen : H e = none := by
      rw [upd_ne nel] at he
      exact he
    have net : e ≠ t := Kt.ne hT hen
    refine ⟨fun m σ H3 => ∃ left found : List Str, m = left.length ∧ σ = [some (.ref t), some (.ref a), some (.int many), some (.ref l), some (.ref e)] ∧ H3 l = some (.lst (left.map V.str)) ∧ H3 e = some (.lst (found.map V.str)) ∧
      (found ++ left).Perm ss ∧ found.length ≤ many.toNat ∧ Kt t H H3, ⟨ss.length, ss, [], rfl, rfl, ?_, ?_, List.Perm.refl _, Nat.zero_le _, ?_⟩, fun m σ H3 hW => ?_⟩
    · rw [upd_ne nel.symm, upd_same]
    · rw [upd_same]
      rfl
    · exact ((Kt.new hT hl).mut hen net)
    · obtain ⟨left, found, rfl, rfl, el, ef, pm, hf, kt⟩ := hW
      have hle : left.length + found.length = ss.length := by
        have := pm.length_eq
        rw [List.length_append] at this
        omega
      have fin : ∀ H4, H4 e = some (.lst (found.map V.str)) → Kt t H H4 → found.length = min many.toNat ss.length → Q (.ref e) H4 := fun H4 e4 k4 hm => q e found left H4 pm hm hen e4 k4
      refine ⟨_, rfl, Nat.zero_le _, fun z hz => neLS (ts := []) ?_ ?_ (SqL.of (by rw [upd_ne (ne_of_none el hz)]; exact el)) (SqL.of upd_same) ⟨_, rfl, ?_⟩⟩
      · exact hok.sub fun x hx => pm.subset (List.mem_append_right _ hx)
      · rfl
      · by_cases hn : left = []
        · subst hn
          refine ⟨_, rfl, fin _ ?_ (kt.trans (Kt.new kt.tp hz)) ?_⟩
          · rw [upd_ne (ne_of_none ef hz)]
            exact ef
          · have hle' : found.length = ss.length := by simpa using hle
            omega
        · have hb : (!decide (left = [])) = true := by simp [hn]
          rw [hb]
          have kz : Kt t H3 (upd H3 z (.lst [])) := Kt.new kt.tp hz
          have ez : (upd H3 z (.lst [])) e = some (.lst (found.map V.str)) := by
            rw [upd_ne (ne_of_none ef hz)]
            exact ef
          have lz : (upd H3 z (.lst [])) l = some (.lst (left.map V.str)) := by
            rw [upd_ne (ne_of_none el hz)]
            exact el
          generalize upd H3 z (.lst []) = H4 at kz ez lz
          have k4 : Kt t H H4 := kt.trans kz
          refine ⟨_, rfl, e, _, rfl, .inl (SqL.of ez), _, rfl, _, _, rfl, rfl, _, rfl, ite2 (fun hlt => ?_) (fun hge => ?_)⟩
          · have hlt' : found.length < many.toNat := by
              have := of_decide_eq_true hlt
              rw [List.length_map] at this
              omega
            have hpos : 0 < left.length := List.length_pos_iff.mpr hn
            refine ⟨_, fun _ _ h => h, ?_⟩
            refine ⟨_, rfl, .inl ⟨rfl, _, SqL.of ez⟩, _, rfl, .inl ⟨rfl, _, SqL.of lz⟩, _, rfl, _, rfl, l, _, rfl, .inl (SqL.of lz), t, _, rfl, k4.tp, ?_, ?_, fun r H5 r0 r1 k5 => ?_⟩
            · rw [List.length_map]
              omega
            · rw [List.length_map]
              omega
            · rw [List.length_map] at r1
              have l5 := k5.strs k4.tp lz
              have e5 := k5.strs k4.tp ez
              have hk : r.toNat < left.length := by omega
              refine ⟨l, _, r, r.toNat, .str left[r.toNat], rfl, rfl, l5, by omega, by omega, seqIx r0 (by rw [List.length_map]; exact r1), by rw [List.getElem?_map, List.getElem?_eq_getElem hk]; rfl, ?_⟩
              refine ⟨e, _, _, rfl, rfl, by rw [upd_ne nel]; exact e5, ?_, ?_⟩
              · rw [List.length_map]
                exact small1000 (by omega)
              · have hx : left[r.toNat]? = some left[r.toNat] := List.getElem?_eq_getElem hk
                refine ⟨left.length - 1, by omega, left.eraseIdx r.toNat, found ++ [left[r.toNat]], ?_, rfl, ?_, ?_, perm_pick pm hx, ?_, ?_⟩
                · have := erase_len hk
                  omega
                · rw [upd_ne nel.symm, upd_same, map_erase]
                · rw [upd_same, List.map_append]
                  rfl
                · rw [List.length_append]
                  show found.length + 1 ≤ many.toNat
                  omega
                · exact (((k4.trans k5).mut hl nlt).mut hen net)
          · have hge' : ¬ found.length < many.toNat := fun z => hge (decide_eq_true (by rw [List.length_map]; omega))
            refine ⟨_, rfl, fin _ ez k4 (by omega)⟩
end
end Gk

set_option Elab.async false
set_option linter.all false
set_option maxRecDepth 100000
set_option maxHeartbeats 8000000
namespace Gk
open PySem PySem.Spec PyProof.Rows L2
section
variable {P : Program} {w : World} {K : PySem.W.Frag} {mg : Str → Option Value} {base : Heap}
theorem ok_word {f fP : Addr} {fd fdP : FuncData} (B : Blt mg) (D_pick : Df K mg "_law_pick" s_pick ["tape", "items"] fP fdP) (G_pick : FnOk P w K mg base CX0 2 fP fdP ["tape", "items"] (spPick K))
    (D : Df K mg "_law_word_drawn" s_word_drawn ["tape"] f fd) : FnOk P w K mg base CX0 3 f fd ["tape"] spWord := by
  refine D.F.ok sc_word_drawn (fun vs H Q E h => ?_) (fun cdv A outer s H vs Q E hr h => ?_)
  · obtain ⟨t, rfl, _⟩ := h
    rfl
  · obtain ⟨t, rfl, hT, q⟩ := h
    refine ⟨_, (pss_cons (ps_set (i := 1) sc_word_drawn.nd rfl (Or.inl rfl) (pe_call G_pick (hr.mono (by decide)) (by rfl) D_pick.g D_pick.F.kp D_pick.b .nil pass0 (pa_cons (pv 0) (pa_cons (pe_lst (pa_cons pe_int (pa_cons pe_int (pa_cons pe_int (pa_cons pe_int (pa_cons pe_int (pa_cons pe_int pa_nil))))))) pa_nil))))
    (pss_one (ps_ret (pe_join pe_str (pe_lc (own := [("turn", 2)]) (g := gName 2) (tt := tYes) (by rfl) sc_word_drawn.nd (pi_range1 (by rfl) B.range (pa_cons (pv 1) pa_nil)) (blkOk_by (N := ["tape", "lots", "turn"]) (sc := defScope s_word_drawn) (by decide +kernel)) (fun _ _ _ _ _ => (pg_name (i := 2) sc_word_drawn.nd rfl (Or.inl rfl))) (fun _ _ _ _ _ => pts_nil) (fun _ _ _ _ _ => (pe_call G_pick (hr.mono (by decide)) (by rfl) D_pick.g D_pick.F.kp D_pick.b .nil pass0 (pa_cons (pv 0) (pa_cons pe_str pa_nil))))))))), ?_⟩
    refine ⟨_, rfl, by show 6 ≤ sizeLine; decide, fun p hp => ⟨t, .ref p, _, rfl, (Kt.new hT hp).tp, .inl ⟨p, rfl, Kt.ne hT hp, .inl (SqL.of upd_same)⟩, by decide, by decide, fun y H1 hy k1 => ?_⟩⟩
    obtain ⟨n, rfl, n1, n2⟩ := lots6 hy
    have k1 : Kt t H H1 := (Kt.new hT hp).trans k1
    refine ⟨⟨_, rfl⟩, _, rfl, (n : Int), rfl, by omega, by omega, fun D hD => ?_⟩
    refine lc_range (lo := 0) (n := (n : Int).toNat) (fun i H3 => ∃ cs : List Nat, cs.length = i ∧ (∀ c ∈ cs, 97 ≤ c ∧ c ≤ 122) ∧ H3 D = some (.lst ((cs.map sg).map V.str)) ∧ Kt t H H3) ⟨[], rfl, by simp, upd_same, k1.mut (k1.free hD) (Kt.ne k1.tp hD)⟩ (fun i H3 hi hP => ?_) (fun H3 hP => ?_)
    · obtain ⟨cs, hl, hc, hd, k3⟩ := hP
      refine ⟨rfl, _, rfl, t, _, _, rfl, k3.tp, .inr ⟨_, rfl, rfl⟩, by decide +kernel, by decide +kernel, fun y H4 hy k4 => ?_⟩
      obtain ⟨c, hcm, rfl⟩ := List.mem_map.mp hy
      refine ⟨_, k4.strs k3.tp hd, ?_, cs ++ [c], ?_, ?_, ?_, ?_⟩
      · rw [List.length_map, List.length_map]
        exact small1000 (by omega)
      · rw [List.length_append, hl]
        rfl
      · intro d hdm
        rcases List.mem_append.mp hdm with h1 | h1
        · exact hc d h1
        · rw [List.mem_singleton.mp h1]
          exact abc_rng c hcm
      · rw [upd_same, List.map_append, List.map_append]
        rfl
      · exact (k3.trans k4).mut (k1.free hD) (Kt.ne k1.tp hD)
    · obtain ⟨cs, hl, hc, hd, k3⟩ := hP
      have hn : cs.length = n := by omega
      refine ⟨_, D, cs.map sg, rfl, rfl, .inl (SqL.of hd), ?_, q _ H3 (join0_W (by omega) (by omega) hc) k3⟩
      have e0 : (PySem.Str.ofString "").length = 0 := by decide +kernel
      have e1 : ((cs.map sg).map (·.length)).sum = cs.length := by
        rw [List.map_map]
        clear hl hc hd hn
        induction cs with
        | nil => rfl
        | cons c r ih =>
          rw [List.map_cons, List.sum_cons, ih]
          show 1 + r.length = r.length + 1
          omega
      rw [e1, e0]
      omega
theorem ok_words {f fP : Addr} {fd fdP : FuncData} (B : Blt mg) (D_word_drawn : Df K mg "_law_word_drawn" s_word_drawn ["tape"] fP fdP) (G_word_drawn : FnOk P w K mg base CX0 3 fP fdP ["tape"] spWord)
    (D : Df K mg "_law_words_drawn" s_words_drawn ["tape", "lots"] f fd) : FnOk P w K mg base CX0 4 f fd ["tape", "lots"] spWords := by
  refine D.F.ok sc_words_drawn (fun vs H Q E h => ?_) (fun cdv A outer s H vs Q E hr h => ?_)
  · obtain ⟨t, n, rfl, _⟩ := h
    rfl
  · obtain ⟨t, n, rfl, hT, h0, h25, q⟩ := h
    refine ⟨_, (pss_cons (ps_set (i := 2) sc_words_drawn.nd rfl (Or.inr rfl) (pe_lst pa_nil))
    (pss_cons (ps_for PassesOwn.never rfl (pi_range1 (by rfl) B.range (pa_cons (pv 1) pa_nil)) (pg_name (i := 3) sc_words_drawn.nd rfl (Or.inl rfl))
    (pss_cons (ps_set (i := 4) sc_words_drawn.nd rfl (Or.inl rfl) (pe_call G_word_drawn (hr.mono (by decide)) (by rfl) D_word_drawn.g D_word_drawn.F.kp D_word_drawn.b .nil pass0 (pa_cons (pv 0) pa_nil)))
    (pss_cons (ps_setLc (i := 5) (own := [("sign", 6)]) (g := gName 6)  (by rfl) sc_words_drawn.nd rfl rfl (sw_true rfl rfl rfl (by decide +kernel)) (pi_str pe_str) (blkOk_by (N := ["tape", "lots", "found", "turn", "word", "left", "sign"]) (sc := defScope s_words_drawn) (by decide +kernel)) (fun _ _ _ _ _ => (pg_name (i := 6) sc_words_drawn.nd rfl (Or.inl rfl))) (fun _ _ _ _ _ => pts_one (pt_cmpR (op_notIn_seqK K rfl) (pv 6) (pv 2) (by rfl))) (fun _ _ _ _ _ => (pv 6)))
    (pss_one (ps_expr (pe_bm PySem.F.plainAttrs_list PySem.F.slot_list_append PySem.F.type_list_append mt_append (pv 2) (pa_cons (pe_ifExp (pt_cmpR op_notIn_seq (pv 4) (pv 2) (by rfl)) (pv 4) (pe_ix ix_list (pv 5) pe_int (fun _ _ => rfl))) pa_nil)))))))
    (pss_one (ps_ret (pv 2))))), ?_⟩
    refine ⟨Nat.zero_le _, fun F hF => ?_⟩
    have kF : Kt t H (upd H F (.lst [])) := Kt.new hT hF
    have nFt : F ≠ t := Kt.ne hT hF
    refine ⟨_, rfl, n, rfl, by omega, by omega, ?_⟩
    refine for_range (lo := 0) (n := n.toNat) (fun i σ H3 => ∃ (ws : List Str) (a3 a4 a5 : Option V), σ = [some (.ref t), some (.int n), some (.ref F), a3, a4, a5, none] ∧ ws.length = i ∧ (∀ x ∈ ws, isW x = true) ∧ ws.Nodup ∧ H3 F = some (.lst (ws.map V.str)) ∧ Kt t H H3)
      ⟨[], none, none, none, rfl, rfl, by simp, List.nodup_nil, upd_same, kF⟩ (fun i σ H3 hi hP => ?_) (fun σ H3 hP => ?_)
    · obtain ⟨ws, a3, a4, a5, rfl, hl, hw, hnd, hf, k3⟩ := hP
      refine ⟨_, rfl, t, rfl, k3.tp, fun x H4 hx k4 => ?_⟩
      have f4 := k4.strs k3.tp hf
      have k4' : Kt t H H4 := k3.trans k4
      refine ⟨_, rfl, fun D hD => ?_⟩
      refine lc_it (J := Its abc) walk_str (fun j H5 => Same H4 H5 ∧ H5 D = some (.lst (((((TL.tl abc).take j).map sg).filter (fun s => decide (s ∉ ws))).map V.str))) ⟨gSame_new hD, upd_same⟩ (fun _ _ _ _ => trivial) (fun j y H5 H5' hj hP hy => ?_) (fun H5 hP => ?_)
      · obtain ⟨s5, d5⟩ := hP
        obtain ⟨rfl, c, hc, rfl⟩ := hy
        have hcl : (TL.tl abc)[j]? = some c := by
          show abc.cps.toList[j]? = some c
          rw [Array.getElem?_toList]
          exact hc
        have tk : ((TL.tl abc).take (j + 1)).map sg = ((TL.tl abc).take j).map sg ++ [sg c] := by
          rw [List.take_add_one, hcl, List.map_append]
          rfl
        refine ⟨rfl, _, rfl, _, rfl, F, _, rfl, .inl (SqL.of (s5 _ _ f4)), rfl, flat_strs ws, _, rfl, ?_⟩
        rw [inV_strs]
        refine ite2 (fun hin => ?_) (fun hin => ?_)
        · have hin' : sg c ∉ ws := fun z => by
            have h : (!decide (sg c ∈ ws)) = true := hin
            rw [decide_eq_true z] at h
            cases h
          refine ⟨_, rfl, _, d5, ?_, gSame_mut s5 hD, ?_⟩
          · rw [List.length_map]
            refine small1000 (Nat.le_trans (List.length_filter_le _ _) ?_)
            rw [List.length_map, List.length_take, abc_len]
            omega
          · rw [upd_same, tk, List.filter_append, List.map_append]
            have e : [sg c].filter (fun s => decide (s ∉ ws)) = [sg c] := by simp [hin']
            rw [e]
            rfl
        · have hin' : sg c ∈ ws := Classical.byContradiction fun z => hin (by
            show (!decide (sg c ∈ ws)) = true
            rw [decide_eq_false z]
            rfl)
          refine ⟨s5, ?_⟩
          have e : [sg c].filter (fun s => decide (s ∉ ws)) = [] := by simp [hin']
          rw [tk, List.filter_append, e, List.append_nil]
          exact d5
      · obtain ⟨s5, d5⟩ := hP
        have hsz : abc.cps.size = 26 := by decide +kernel
        have tk : (TL.tl abc).take abc.cps.size = TL.tl abc := List.take_of_length_le (by rw [abc_len, hsz]; exact Nat.le_refl _)
        rw [tk] at d5
        have k5 : Kt t H H5 := k4'.trans (Kt.same k4'.tp s5)
        have f5 := s5 _ _ f4
        have hw26 : ws.length < 26 := by omega
        -- found.append(..)
        refine ⟨_, rfl, .inl ⟨rfl, _, SqL.of f5⟩, ?_⟩
        refine ⟨_, rfl, _, rfl, F, _, rfl, .inl (SqL.of f5), rfl, flat_strs ws, _, rfl, ?_⟩
        rw [inV_strs]
        have fin : ∀ y : Str, isW y = true → y ∉ ws → rAppend (.ref F) [.str y] H5 fun _ H1 => ∃ (ws : List Str) (b3 b4 b5 : Option V), [some (V.ref t), some (.int n), some (.ref F), some (.int (0 + i)), some (.str x), some (.ref D), none] = [some (.ref t), some (.int n), some (.ref F), b3, b4, b5, none] ∧ ws.length = i + 1 ∧ (∀ x ∈ ws, isW x = true) ∧ ws.Nodup ∧ H1 F = some (.lst (ws.map V.str)) ∧ Kt t H H1 := by
          intro y hy hn
          refine ⟨F, _, _, rfl, rfl, f5, ?_, ws ++ [y], _, _, _, rfl, ?_, ?_, ?_, ?_, ?_⟩
          · rw [List.length_map]
            exact small1000 (by omega)
          · rw [List.length_append, hl]
            rfl
          · intro z hz
            rcases List.mem_append.mp hz with h | h
            · exact hw z h
            · rw [List.mem_singleton.mp h]
              exact hy
          · rw [List.nodup_append]
            refine ⟨hnd, by simp, fun a ha b hb => ?_⟩
            rw [List.mem_singleton.mp hb]
            exact fun e => hn (e ▸ ha)
          · rw [upd_same, List.map_append]
            rfl
          · exact k5.mut hF nFt
        refine ite2 (fun hin => ?_) (fun hin => ?_)
        · have hin' : x ∉ ws := fun z => by
            have h : (!decide (x ∈ ws)) = true := hin
            rw [decide_eq_true z] at h
            cases h
          exact ⟨_, rfl, fin x hx hin'⟩
        · obtain ⟨y, r, hy⟩ : ∃ y r, ((TL.tl abc).map sg).filter (fun s => decide (s ∉ ws)) = y :: r := List.exists_cons_of_ne_nil (left_ne hw26)
          have hm : y ∈ ((TL.tl abc).map sg).filter (fun s => decide (s ∉ ws)) := by
            rw [hy]
            exact List.mem_cons_self ..
          obtain ⟨h1, h2⟩ := List.mem_filter.mp hm
          obtain ⟨c, hc, rfl⟩ := List.mem_map.mp h1
          rw [hy] at d5
          refine ⟨_, rfl, D, _, 0, .str (sg c), rfl, rfl, SqL.of d5, atI_nat (j := 0) rfl, fin (sg c) (sg_W (abc_rng c hc)) (of_decide_eq_true h2)⟩
    · obtain ⟨ws, a3, a4, a5, rfl, hl, hw, hnd, hf, k3⟩ := hP
      exact ⟨_, rfl, q F ws H3 hl hw hnd hF hf k3⟩
end
end Gk

set_option Elab.async false
set_option linter.all false
set_option maxRecDepth 100000
set_option maxHeartbeats 8000000
namespace Gk
open PySem PySem.Spec PyProof.Rows L2
abbrev s_is_name : Stmt := topS 7
theorem sc_is_name : FnScope ["value", "letter"] ["value"] (defScope s_is_name) := ⟨rfl, rfl, rfl, by decide +kernel, rfl, by decide +kernel, by decide +kernel⟩
section
variable {P : Program} {w : World} {K : PySem.W.Frag} {mg : Str → Option Value} {base : Heap}
theorem ok_is_name {f : Addr} {fd : FuncData} {tl : Tok} (B : Blt mg) (C_MAX_LETTERS : mg "MAX_LETTERS" = some (.int 8 tl)) (D : Df K mg "is_name" s_is_name ["value"] f fd) : FnOk P w K mg base CX0 1 f fd ["value"] (spIsName K) := by
  refine D.F.ok sc_is_name (fun vs H Q E h => ?_) (fun cdv A outer s H vs Q E hr h => ?_)
  · obtain ⟨x, b, rfl, _⟩ := h
    rfl
  · obtain ⟨x, b, rfl, hN, q⟩ := h
    refine ⟨_, (pss_cons (ps_if (PW.pt (pw_or (pt_not (pt_val (pe_callB call_isi (by rfl) B.isinstance_ (by decide +kernel) (pa_cons (pv 0) (pa_cons (pe_bltn (v := .ty "str") rfl B.str_ (by decide +kernel) rfl) pa_nil))) (by intro _; rfl))) (pw_or1 (pt_not (pt_chain op_le op_le pe_int (pe_callB call_len_str (by rfl) B.len_ (by decide +kernel) (pa_cons (pv 0) pa_nil)) (pe_glob (v := .int 8) rfl C_MAX_LETTERS ⟨_, rfl⟩))))))
    (pss_one (ps_ret pe_bl)) pss_nil)
    (pss_one (ps_ret (pe_callB (cr_all rfl) (by rfl) B.all_ (by decide +kernel) (pa_cons (pe_lc (own := [("letter", 1)]) (g := gName 1) (tt := tYes) (by rfl) sc_is_name.nd (pi_str (pv 0)) (blkOk_by (N := ["value", "letter"]) (sc := defScope s_is_name) (by decide +kernel)) (fun _ _ _ _ _ => (pg_name (i := 1) sc_is_name.nd rfl (Or.inl rfl))) (fun _ _ _ _ _ => pts_nil) (fun _ _ _ _ _ => (pe_chain op_le_str op_le_str pe_str (pv 1) pe_str))) pa_nil))))), ?_⟩
    rcases hN with ⟨z, rfl, hz, rfl⟩ | ⟨rfl, t, ht, hk⟩
    · refine ⟨_, rfl, .str z, .ty "str", _, _, true, rfl, .ty "str", .base (.str z), kit_ty (by decide +kernel), _, rfl, ?_⟩
      refine ⟨_, rfl, z, rfl, Nat.le_trans hz (by decide), _, _, rfl, rfl, _, rfl, ?_⟩
      have no : ¬ (1 ≤ z.length ∧ z.length ≤ 8) → isW z = false := fun n => by
        cases e : isW z with
        | false => rfl
        | true => exact absurd (isW_len e) n
      refine ite2 (fun h1 => ⟨_, _, rfl, rfl, _, rfl, ite2 (fun h2 => ?_) (fun h2 => ?_)⟩) (fun h1 => ⟨_, rfl, ?_⟩)
      · have h2' : ¬ z.length ≤ 8 := fun n => by
          have e : (!decide ((z.length : Int) ≤ 8)) = true := h2
          rw [decide_eq_true (by omega)] at e
          cases e
        have w := q H (Same.refl H)
        rw [no fun n => h2' n.2] at w
        exact w
      · have l1 : 1 ≤ z.length := by
          have := of_decide_eq_true h1
          omega
        have l2 : z.length ≤ 8 := by
          by_cases n : (z.length : Int) ≤ 8
          · omega
          · exact absurd (by
              show (!decide ((z.length : Int) ≤ 8)) = true
              rw [decide_eq_false n]
              rfl) h2
        refine ⟨_, rfl, z, rfl, fun D hD => ?_⟩
        refine lc_it (J := Its z) walk_str (fun j H5 => Same H H5 ∧ H5 D = some (.lst ((((TL.tl z).take j).map fun c => decide (97 ≤ c) && decide (c ≤ 122)).map V.bl))) ⟨gSame_new hD, upd_same⟩ (fun _ _ _ _ => trivial) (fun j y H5 H5' hj hP hy => ?_) (fun H5 hP => ?_)
        · obtain ⟨s5, d5⟩ := hP
          obtain ⟨rfl, c, hc, rfl⟩ := hy
          have hcl : (TL.tl z)[j]? = some c := by
            show z.cps.toList[j]? = some c
            rw [Array.getElem?_toList]
            exact hc
          have fin : ∀ b : Bool, b = (decide (97 ≤ c) && decide (c ≤ 122)) → ∃ acc, H5' D = some (.lst acc) ∧ acc.length < sizeLine ∧ Same H (upd H5' D (.lst (acc ++ [.bl b]))) ∧ (upd H5' D (.lst (acc ++ [.bl b]))) D = some (.lst ((((TL.tl z).take (j + 1)).map fun c => decide (97 ≤ c) && decide (c ≤ 122)).map V.bl)) := by
            intro b hb
            refine ⟨_, d5, ?_, gSame_mut s5 hD, ?_⟩
            · have := TL.len_tl z
              rw [List.length_map, List.length_map, List.length_take]
              exact small1000 (by omega)
            · rw [upd_same, List.take_add_one, hcl, List.map_append, List.map_append, hb]
              rfl
          refine ⟨rfl, _, rfl, _, _, rfl, rfl, _, rfl, ite2 (fun g1 => ⟨_, _, rfl, rfl, fin _ ?_⟩) (fun g1 => fin _ ?_)⟩
          · have g1' : ¬ c < 97 := by
              have e : (!decide (([c] : List Nat) < [97])) = true := g1
              rw [lt_abc] at e
              simpa using e
            show (!decide (([122] : List Nat) < [c])) = _
            rw [lt_abc]
            by_cases u : 122 < c
            · simp [u, show ¬ c ≤ 122 by omega]
            · simp [u, show c ≤ 122 by omega, show 97 ≤ c by omega]
          · have g1' : c < 97 := by
              by_cases u : c < 97
              · exact u
              · refine absurd ?_ g1
                show (!decide (([c] : List Nat) < [97])) = true
                rw [lt_abc, decide_eq_false u]
                rfl
            simp [show ¬ 97 ≤ c by omega]
        · obtain ⟨s5, d5⟩ := hP
          have e : (TL.tl z).take z.cps.size = TL.tl z := List.take_of_length_le (by
            show z.cps.toList.length ≤ z.cps.size
            rw [Array.length_toList]
            exact Nat.le_refl _)
          rw [e] at d5
          refine ⟨D, _, rfl, SqL.of d5, ?_⟩
          have w := q H5 s5
          have e2 : isW z = ((TL.tl z).map fun c => decide (97 ≤ c) && decide (c ≤ 122)).all id := by
            unfold isW
            rw [decide_eq_true l1, decide_eq_true l2, List.all_map]
            rfl
          rw [e2] at w
          exact w
      · have h1' : ¬ 1 ≤ z.length := fun n => h1 (decide_eq_true (by omega))
        have w := q H (Same.refl H)
        rw [no fun n => h1' n.1] at w
        exact w
    · refine ⟨_, rfl, x, .ty "str", t, _, false, rfl, .ty "str", ht, hk, _, rfl, ?_⟩
      exact q H (Same.refl H)
end
end Gk

set_option Elab.async false
set_option linter.all false
set_option maxRecDepth 100000
set_option maxHeartbeats 8000000
namespace Gk
open PySem PySem.Spec PyProof.Rows L2
abbrev s_ParseError___init : Stmt := inClass (topS 4) 0
theorem sc_ParseError___init : FnScope ["self", "line"] ["self", "line"] (defScope s_ParseError___init) := ⟨rfl, rfl, rfl, by decide +kernel, rfl, by decide +kernel, by decide +kernel⟩
def spWrite (K : PySem.W.Frag) (C : Addr) : Sp := fun vs H Q E => ∃ x : V, vs = [x] ∧
  ((∃ (a : Addr) (ss : List Str), x = .ref a ∧ SqT K H a (ss.map V.str) ∧ TyX K H x (.type "tuple") ∧ okNames ss = true ∧ ∀ H', Same H H' → Q (.str (wr ss)) H') ∨ (NmsV K H x false ∧ ∀ H', Same H H' → E (.ref C) none H'))
def spRead (K : PySem.W.Frag) (C : Addr) : Sp := fun vs H Q E => ∃ (x : V), vs = [x] ∧
  ((∃ z : Str, x = .str z ∧ z.length ≤ 90000 ∧ (okNames (rd z) = true → ∀ p H', H p = none → Same H H' → H' p = some (.tup ((rd z).map V.str)) → Q (.ref p) H') ∧ (okNames (rd z) = false → ∀ d H', H d = none → Same H H' → H' d = some (.xd [("line", .non)]) → E (.ref C) (some d) H')) ∨
    (∃ t, TyX K H x t ∧ PySem.W.kitOne K t (.type "str") = some false ∧ ∀ d H', H d = none → Same H H' → H' d = some (.xd [("line", .non)]) → E (.ref C) (some d) H'))
section
variable {P : Program} {w : World} {K : PySem.W.Frag} {mg : Str → Option Value} {base : Heap}
theorem ok_ParseError {C CB f : Addr} {fd : FuncData} (T : IniT K mg "ParseError" "line" s_ParseError___init C f fd) (TB : CIn K mg "ClockError" CB) : FnOk P w K mg base CX0 1 f fd ["self", "line"] (spIni C "line") := by
  refine T.F.ok sc_ParseError___init (fun vs H Q E h => ?_) (fun cdv A outer s H vs Q E hr h => ?_)
  · obtain ⟨a, v, rfl, _⟩ := h
    rfl
  · obtain ⟨a, v, rfl, ha, hv, q⟩ := h
    refine ⟨_, pss_cons (ps_expr (pe_cinit TB (by rfl) (pa_cons (pv 0) (pa_cons (pe_joined (.cons pe_str (.cons (pe_fmtA (pv 1)) .nil))) pa_nil)))) (pss_one (ps_ost (pv 0) (pv 1))), ?_⟩
    have e1 : ((Str.ofString "cannot be read: ") : Str).length = 16 := by decide +kernel
    have e0 : (Str.empty ++ Str.ofString "cannot be read: ") = Str.ofString "cannot be read: " := by decide +kernel
    have rest : ∀ y : Str, y.length ≤ 1000 → ((Str.empty ++ Str.ofString "cannot be read: ") ++ y).length ≤ sizeLine := fun y hy => by
      rw [e0, Str.length_append, e1, sizeLine_eq]
      omega
    have fin : tOst K "line" (tVar 0) (tVar 1) { nx := fun _ H' => Q .non H', rt := Q } (L2.start ["self", "line"] [.ref a, v]) H := ⟨_, rfl, _, rfl, a, C, rfl, T.o, T.no, .inl ⟨ha, fun dx hd ne => q dx hd ne⟩⟩
    have one : ∀ u : Str, tVeI K (fun _ H Q => Q [.ref a, .str u] H) (L2.start ["self", "line"] [.ref a, v]) H fun _ H1 => tOst K "line" (tVar 0) (tVar 1) { nx := fun _ H' => Q .non H', rt := Q } (L2.start ["self", "line"] [.ref a, v]) H1 := fun u =>
      ⟨a, C, _, rfl, by show 1 ≤ 1000; decide, T.o, ha, fin⟩
    rcases hv with rfl | ⟨i, rfl, i0, i1⟩
    · exact ⟨_, rfl, _, rfl, by decide +kernel, _, rfl, .inl ⟨rfl, _, rfl, rest _ (by decide +kernel), one _⟩⟩
    · have hl : (Str.ofString (toString i)).length ≤ 9 := PyProof.Rows.toString_length_le (k := 9) i0 (by decide) i1
      refine ⟨_, rfl, _, rfl, by decide +kernel, _, rfl, .inr (.inr ⟨i, rfl, ?_, _, rfl, rest _ ?_, one _⟩)⟩
      · have := PySem.Flt.log2_lt_of (n := i.natAbs) (by decide : 0 < 30) (by
          have e : (10 : Int) ^ 9 = 1000000000 := by decide
          have e2 : (2 : Nat) ^ 30 = 1073741824 := by decide
          omega)
        omega
      · exact Nat.le_trans hl (by decide : 9 ≤ 1000)
theorem rd_len (z : Str) : (rd z).length ≤ z.length + 2 := by
  unfold rd
  split
  · exact Nat.zero_le _
  · exact PyProof.Rows.split_le z " "
theorem rd_part (z s : Str) (h : s ∈ rd z) : s.length ≤ z.length := by
  unfold rd at h
  split at h
  · cases h
  · have hm : TL.tl s ∈ (Txt.split z " ").map TL.tl := List.mem_map.mpr ⟨s, h, rfl⟩
    rw [TL.split_spl z " " (by decide +kernel) (TL.kind_ok (by decide +kernel))] at hm
    have := spl_part_len _ _ _ _ _ hm
    rw [TL.len_tl, TL.len_tl]
    simpa using this
end
end Gk

set_option Elab.async false
set_option linter.all false
set_option maxRecDepth 100000
set_option maxHeartbeats 8000000
namespace Gk
open PySem PySem.Spec PyProof.Rows L2
abbrev s_are_all_names : Stmt := topS 12
theorem sc_are_all_names : FnScope ["words", "word"] ["words"] (defScope s_are_all_names) := ⟨rfl, rfl, rfl, by decide +kernel, rfl, by decide +kernel, by decide +kernel⟩
abbrev s_are_moves : Stmt := topS 11
theorem sc_are_moves : FnScope ["value", "move"] ["value"] (defScope s_are_moves) := ⟨rfl, rfl, rfl, by decide +kernel, rfl, by decide +kernel, by decide +kernel⟩
abbrev s_write_moves : Stmt := topS 13
theorem sc_write_moves : FnScope ["moves", "move"] ["moves"] (defScope s_write_moves) := ⟨rfl, rfl, rfl, by decide +kernel, rfl, by decide +kernel, by decide +kernel⟩
def spAllN (K : PySem.W.Frag) : Sp := fun vs H Q _ => ∃ (a : Addr) (xs : List V) (bs : List Bool), vs = [.ref a] ∧ SqT K H a xs ∧ xs.length ≤ 900 ∧ Paired (NmV K H) xs bs ∧ ∀ H', Same H H' → Q (.bl (bs.all id)) H'
/-- a move, or none, as b says -/
def MvV (K : PySem.W.Frag) (H : Hp) (x : V) (b : Bool) : Prop :=
  (∃ (a : Addr) (xs : List V) (bs : List Bool), x = .ref a ∧ SqT K H a xs ∧ TyX K H x (.type "tuple") ∧ Paired (NmV K H) xs bs ∧ b = (decide (xs.length = 3) && bs.all id)) ∨
    (b = false ∧ ∃ t, TyX K H x t ∧ PySem.W.kitOne K t (.type "tuple") = some false)
/-- moves, or none, as b says -/
def MvsV (K : PySem.W.Frag) (H : Hp) (x : V) (b : Bool) : Prop :=
  (∃ (a : Addr) (xs : List V) (bs : List Bool), x = .ref a ∧ SqT K H a xs ∧ TyX K H x (.type "tuple") ∧ Paired (MvV K H) xs bs ∧ b = (decide (1 ≤ xs.length ∧ xs.length ≤ 4) && bs.all id)) ∨
    (b = false ∧ ∃ t, TyX K H x t ∧ PySem.W.kitOne K t (.type "tuple") = some false)
theorem paired_same {K : PySem.W.Frag} {H H' : Hp} {R : Hp → V → Bool → Prop} (hR : ∀ x b, R H x b → R H' x b) : ∀ {xs : List V} {bs : List Bool}, Paired (R H) xs bs → Paired (R H') xs bs
  | _, _, .nil => .nil
  | _, _, .cons h t => .cons (hR _ _ h) (paired_same (K := K) (H := H) (R := R) hR t)
theorem MvV.same {K : PySem.W.Frag} {H H' : Hp} {x : V} {b : Bool} (s : Same H H') (h : MvV K H x b) : MvV K H' x b := by
  rcases h with ⟨a, xs, bs, rfl, h1, h2, h3, h4⟩ | ⟨e, t, ht, hk⟩
  · exact .inl ⟨a, xs, bs, rfl, gSeqT s h1, h2.same s, paired_same (K := K) (H := H) (R := NmV K) (fun x b h => h.same s) h3, h4⟩
  · exact .inr ⟨e, t, ht.same s, hk⟩
theorem MvsV.same {K : PySem.W.Frag} {H H' : Hp} {x : V} {b : Bool} (s : Same H H') (h : MvsV K H x b) : MvsV K H' x b := by
  rcases h with ⟨a, xs, bs, rfl, h1, h2, h3, h4⟩ | ⟨e, t, ht, hk⟩
  · exact .inl ⟨a, xs, bs, rfl, gSeqT s h1, h2.same s, paired_same (K := K) (H := H) (R := MvV K) (fun x b h => h.same s) h3, h4⟩
  · exact .inr ⟨e, t, ht.same s, hk⟩
def spMvs (K : PySem.W.Frag) : Sp := fun vs H Q _ => ∃ (x : V) (b : Bool), vs = [x] ∧ MvsV K H x b ∧ ∀ H', Same H H' → Q (.bl b) H'
section
variable {P : Program} {w : World} {K : PySem.W.Frag} {mg : Str → Option Value} {base : Heap}
theorem ok_are_all_names {f fN : Addr} {fd fdN : FuncData} (B : Blt mg) (D_is_name : Df K mg "is_name" s_is_name ["value"] fN fdN) (G_is_name : FnOk P w K mg base CX0 1 fN fdN ["value"] (spIsName K))
    (D : Df K mg "_are_all_names" s_are_all_names ["words"] f fd) : FnOk P w K mg base CX0 2 f fd ["words"] (spAllN K) := by
  refine D.F.ok sc_are_all_names (fun vs H Q E h => ?_) (fun cdv A outer s H vs Q E hr h => ?_)
  · obtain ⟨a, xs, bs, rfl, _⟩ := h
    rfl
  · obtain ⟨a, xs, bs, rfl, hS, hl, hP, q⟩ := h
    refine ⟨_, (pss_one (ps_ret (pe_callB (cr_all rfl) (by rfl) B.all_ (by decide +kernel) (pa_cons (pe_lc (own := [("word", 1)]) (g := gName 1) (tt := tYes) (by rfl) sc_are_all_names.nd (pi_tup (pv 0)) (blkOk_by (N := ["words", "word"]) (sc := defScope s_are_all_names) (by decide +kernel)) (fun _ _ _ _ _ => (pg_name (i := 1) sc_are_all_names.nd rfl (Or.inl rfl))) (fun _ _ _ _ _ => pts_nil) (fun _ _ _ _ _ => (pe_call G_is_name (hr.mono (by decide)) (by rfl) D_is_name.g D_is_name.F.kp D_is_name.b .nil pass0 (pa_cons (pv 1) pa_nil)))) pa_nil)))), ?_⟩
    refine ⟨_, rfl, a, rfl, ⟨xs, hS⟩, fun D hD => ?_⟩
    refine lc_tup (K := K) (a := a) (xs := xs) (fun j H5 => Same H H5 ∧ H5 D = some (.lst ((bs.take j).map V.bl))) ⟨gSame_new hD, upd_same⟩ (fun j H5 _ h5 => gSeqT h5.1 hS) (fun j x H5 hx h5 => ?_) (fun H5 h5 => ?_)
    · obtain ⟨s5, d5⟩ := h5
      obtain ⟨b, hb, hn⟩ := paired_get hP hx
      refine ⟨rfl, _, rfl, x, b, rfl, hn.same s5, fun H6 s6 => ⟨_, s6 _ _ d5, ?_, gSame_mut (s5.trans s6) hD, ?_⟩⟩
      · rw [List.length_map, List.length_take]
        have := hP.length
        exact small1000 (by omega)
      · rw [upd_same, List.take_add_one, hb, List.map_append]
        rfl
    · obtain ⟨s5, d5⟩ := h5
      have e : bs.take xs.length = bs := List.take_of_length_le (Nat.le_of_eq hP.length.symm)
      rw [e] at d5
      exact ⟨D, bs, rfl, SqL.of d5, q H5 s5⟩
theorem ok_are_moves {f fN : Addr} {fd fdN : FuncData} {tl : Tok} (B : Blt mg) (C_MAX_MOVES : mg "MAX_MOVES" = some (.int 4 tl)) (D_are_all_names : Df K mg "_are_all_names" s_are_all_names ["words"] fN fdN) (G_are_all_names : FnOk P w K mg base CX0 2 fN fdN ["words"] (spAllN K))
    (D : Df K mg "_are_moves" s_are_moves ["value"] f fd) : FnOk P w K mg base CX0 3 f fd ["value"] (spMvs K) := by
  refine D.F.ok sc_are_moves (fun vs H Q E h => ?_) (fun cdv A outer s H vs Q E hr h => ?_)
  · obtain ⟨x, b, rfl, _⟩ := h
    rfl
  · obtain ⟨x, b, rfl, hN, q⟩ := h
    refine ⟨_, (pss_cons (ps_if (PW.pt (pw_or (pt_not (pt_val (pe_callB call_isi (by rfl) B.isinstance_ (by decide +kernel) (pa_cons (pv 0) (pa_cons (pe_bltn (v := .ty "tuple") rfl B.tuple_ (by decide +kernel) rfl) pa_nil))) (by intro _; rfl))) (pw_or1 (pt_not (pt_chain op_le op_le pe_int (pe_callB call_len_seq (by rfl) B.len_ (by decide +kernel) (pa_cons (pv 0) pa_nil)) (pe_glob (v := .int 4) rfl C_MAX_MOVES ⟨_, rfl⟩))))))
    (pss_one (ps_ret pe_bl)) pss_nil)
    (pss_one (ps_ret (pe_callB (cr_all rfl) (by rfl) B.all_ (by decide +kernel) (pa_cons (pe_lc (own := [("move", 1)]) (g := gName 1) (tt := tYes) (by rfl) sc_are_moves.nd (pi_tup (pv 0)) (blkOk_by (N := ["value", "move"]) (sc := defScope s_are_moves) (by decide +kernel)) (fun _ _ _ _ _ => (pg_name (i := 1) sc_are_moves.nd rfl (Or.inl rfl))) (fun _ _ _ _ _ => pts_nil) (fun _ _ _ _ _ => (pe_and (pe_callB (call_isiK' K rfl) (by rfl) B.isinstance_ (by decide +kernel) (pa_cons (pv 1) (pa_cons (pe_bltn (v := .ty "tuple") rfl B.tuple_ (by decide +kernel) rfl) pa_nil))) (pe_and (pe_cmpR op_eq (pe_callB (call_len_seqK K rfl) (by rfl) B.len_ (by decide +kernel) (pa_cons (pv 1) pa_nil)) pe_int (nomark _)) (pe_one (pe_call G_are_all_names (hr.mono (by decide)) (by rfl) D_are_all_names.g D_are_all_names.F.kp D_are_all_names.b .nil pass0 (pa_cons (pv 1) pa_nil))))))) pa_nil))))), ?_⟩
    rcases hN with ⟨a, xs, bs, rfl, hS, hT, hP, rfl⟩ | ⟨rfl, t, ht, hk⟩
    · refine ⟨_, rfl, .ref a, .ty "tuple", _, _, true, rfl, .ty "tuple", hT, kit_ty (by decide +kernel), _, rfl, ?_⟩
      refine ⟨_, rfl, a, xs, rfl, .inr hS, _, _, rfl, rfl, _, rfl, ?_⟩
      have no : ¬ (1 ≤ xs.length ∧ xs.length ≤ 4) → Q (.bl false) H := fun n => by
        have w := q H (Same.refl H)
        rw [decide_eq_false n, Bool.false_and] at w
        exact w
      refine ite2 (fun h1 => ⟨_, _, rfl, rfl, _, rfl, ite2 (fun h2 => ?_) (fun h2 => ?_)⟩) (fun h1 => ⟨_, rfl, ?_⟩)
      · exact no fun n => by
          have e : (!decide ((xs.length : Int) ≤ 4)) = true := h2
          rw [decide_eq_true (by omega)] at e
          cases e
      · have l1 : 1 ≤ xs.length := by
          have := of_decide_eq_true h1
          omega
        have l2 : xs.length ≤ 4 := by
          by_cases n : (xs.length : Int) ≤ 4
          · omega
          · exact absurd (by
              show (!decide ((xs.length : Int) ≤ 4)) = true
              rw [decide_eq_false n]
              rfl) h2
        rw [decide_eq_true (⟨l1, l2⟩ : 1 ≤ xs.length ∧ xs.length ≤ 4), Bool.true_and] at q
        refine ⟨_, rfl, a, rfl, ⟨xs, hS⟩, fun D hD => ?_⟩
        refine lc_tup (K := K) (a := a) (xs := xs) (fun j H5 => Same H H5 ∧ H5 D = some (.lst ((bs.take j).map V.bl))) ⟨gSame_new hD, upd_same⟩ (fun j H5 _ h5 => gSeqT h5.1 hS) (fun j x H5 hx h5 => ?_) (fun H5 h5 => ?_)
        · obtain ⟨s5, d5⟩ := h5
          obtain ⟨b, hb, hn⟩ := paired_get hP hx
          have fin : ∀ (b2 : Bool) (H6 : Hp), Same H5 H6 → b2 = b → ∃ acc, H6 D = some (.lst acc) ∧ acc.length < sizeLine ∧ Same H (upd H6 D (.lst (acc ++ [.bl b2]))) ∧ (upd H6 D (.lst (acc ++ [.bl b2]))) D = some (.lst ((bs.take (j + 1)).map V.bl)) := by
            rintro b2 H6 s6 rfl
            refine ⟨_, s6 _ _ d5, ?_, gSame_mut (s5.trans s6) hD, ?_⟩
            · rw [List.length_map, List.length_take]
              have := hP.length
              exact small1000 (by omega)
            · rw [upd_same, List.take_add_one, hb, List.map_append]
              rfl
          rcases hn.same s5 with ⟨ma, ms, mb, rfl, mS, mT, mP, me⟩ | ⟨rfl, t, ht, hk⟩
          · refine ⟨rfl, _, rfl, .ref ma, .ty "tuple", _, _, true, rfl, .ty "tuple", mT, kit_ty (by decide +kernel), _, rfl, ?_⟩
            refine ⟨_, rfl, ma, ms, rfl, .inr mS, rfl, _, rfl, ite2 (fun h3 => ?_) (fun h3 => ?_)⟩
            · have h3' : ms.length = 3 := by
                have := V.int.inj (of_decide_eq_true h3)
                omega
              rw [decide_eq_true h3', Bool.true_and] at me
              exact ⟨_, rfl, ma, ms, mb, rfl, mS, by omega, mP, fun H6 s6 => fin _ H6 s6 me.symm⟩
            · have h3' : ¬ ms.length = 3 := fun z => h3 (decide_eq_true (by rw [z]; rfl))
              rw [decide_eq_false h3', Bool.false_and] at me
              exact fin _ H5 (Same.refl H5) me.symm
          · exact ⟨rfl, _, rfl, x, .ty "tuple", t, _, false, rfl, .ty "tuple", ht, hk, _, rfl, fin _ H5 (Same.refl H5) rfl⟩
        · obtain ⟨s5, d5⟩ := h5
          have e : bs.take xs.length = bs := List.take_of_length_le (Nat.le_of_eq hP.length.symm)
          rw [e] at d5
          exact ⟨D, bs, rfl, SqL.of d5, q H5 s5⟩
      · exact no fun n => h1 (decide_eq_true (by omega))
    · refine ⟨_, rfl, x, .ty "tuple", t, _, false, rfl, .ty "tuple", ht, hk, _, rfl, ?_⟩
      exact q H (Same.refl H)
end
end Gk

set_option Elab.async false
set_option linter.all false
set_option maxRecDepth 100000
set_option maxHeartbeats 8000000
namespace Gk
open PySem PySem.Spec PyProof.Rows L2
abbrev s_Action___init : Stmt := inClass (topS 10) 0
theorem sc_Action___init : FnScope ["self", "called", "moves"] ["self", "called", "moves"] (defScope s_Action___init) := ⟨rfl, rfl, rfl, by decide +kernel, rfl, by decide +kernel, by decide +kernel⟩
abbrev s_Action_from_line : Stmt := inClass (topS 10) 1
theorem sc_Action_from_line : FnScope ["cls", "line", "told", "called", "moves"] ["cls", "line"] (defScope s_Action_from_line) := ⟨rfl, rfl, rfl, by decide +kernel, rfl, by decide +kernel, by decide +kernel⟩
abbrev s_Action_called : Stmt := inClass (topS 10) 2
theorem sc_Action_called : FnScope ["self"] ["self"] (defScope s_Action_called) := ⟨rfl, rfl, rfl, by decide +kernel, rfl, by decide +kernel, by decide +kernel⟩
abbrev s_Action_moves : Stmt := inClass (topS 10) 3
theorem sc_Action_moves : FnScope ["self"] ["self"] (defScope s_Action_moves) := ⟨rfl, rfl, rfl, by decide +kernel, rfl, by decide +kernel, by decide +kernel⟩
abbrev s_Action_owners : Stmt := inClass (topS 10) 4
theorem sc_Action_owners : FnScope ["self", "move"] ["self"] (defScope s_Action_owners) := ⟨rfl, rfl, rfl, by decide +kernel, rfl, by decide +kernel, by decide +kernel⟩
abbrev s_Action___len : Stmt := inClass (topS 10) 5
theorem sc_Action___len : FnScope ["self"] ["self"] (defScope s_Action___len) := ⟨rfl, rfl, rfl, by decide +kernel, rfl, by decide +kernel, by decide +kernel⟩
abbrev s_Action___eq : Stmt := inClass (topS 10) 6
theorem sc_Action___eq : FnScope ["self", "other"] ["self", "other"] (defScope s_Action___eq) := ⟨rfl, rfl, rfl, by decide +kernel, rfl, by decide +kernel, by decide +kernel⟩
abbrev s_Action___str : Stmt := inClass (topS 10) 7
theorem sc_Action___str : FnScope ["self"] ["self"] (defScope s_Action___str) := ⟨rfl, rfl, rfl, by decide +kernel, rfl, by decide +kernel, by decide +kernel⟩
/-- what the class keeps of its own -/
structure ActC (K : PySem.W.Frag) (C : Addr) : Prop where
  cl : Cls K C
  n1 : NoAttr K C "_called"
  n2 : NoAttr K C "_moves"
/-- an action, as it stands -/
def ActV (K : PySem.W.Frag) (H : Hp) (C a : Addr) (c : Str) (ms : List Mv) : Prop := ∃ (dx p : Addr) (ys : List V), H a = some (.ins C dx [("_called", .str c), ("_moves", .ref p)]) ∧ SqT K H p ys ∧ TyX K H (.ref p) (.type "tuple") ∧ Paired (MvR K H) ys ms ∧ ms.length ≤ 4 ∧ (∀ m ∈ ms, ∀ s ∈ wds m, isW s = true) ∧ isW c = true
theorem ActV.same {K : PySem.W.Frag} {H H' : Hp} {C a : Addr} {c : Str} {ms : List Mv} (s : Same H H') (h : ActV K H C a c ms) : ActV K H' C a c ms := by
  obtain ⟨dx, p, ys, h1, h2, h3, h4, h5, h6⟩ := h
  exact ⟨dx, p, ys, s _ _ h1, gSeqT s h2, h3.same s, paired_mono (fun x a h => h.same s) h4, h5, h6⟩
/-- all but what stands at a is kept -/
def But (a : Addr) (H H' : Hp) : Prop := ∀ b o, b ≠ a → H b = some o → H' b = some o
theorem But.sqT {K : PySem.W.Frag} {H H' : Hp} {a C dx p : Addr} {fs : List (Str × V)} {xs : List V} (k : But a H H') (ha : H a = some (.ins C dx fs)) (h : SqT K H p xs) : SqT K H' p xs := by
  rcases h with (h | ⟨o, h⟩) | h
  · exact .inl (.inl (k _ _ (fun z => by subst z; rw [ha] at h; cases h) h))
  · exact .inl (.inr ⟨o, k _ _ (fun z => by subst z; rw [ha] at h; cases h) h⟩)
  · exact .inr h
theorem But.ty {K : PySem.W.Frag} {H H' : Hp} {a C dx : Addr} {fs : List (Str × V)} {x : V} (k : But a H H') (ha : H a = some (.ins C dx fs)) (h : TyX K H x (.type "tuple")) : TyX K H' x (.type "tuple") := by
  generalize ht : Value.type "tuple" = t at h
  cases h with
  | base b =>
    cases b with
    | tup e =>
      rw [← ht]
      exact .base (.tup (k _ _ (fun z => by subst z; rw [ha] at e; cases e) e))
    | _ => first | exact absurd ht (by decide) | (injection ht with q; exact absurd q (by decide)) | cases ht
  | kTuple e c =>
    rw [← ht]
    exact .kTuple e c
  | fTuple e =>
    rw [← ht]
    exact .fTuple (k _ _ (fun z => by subst z; rw [ha] at e; cases e) e)
  | _ => first | exact absurd ht (by decide) | (injection ht with q; exact absurd q (by decide)) | cases ht
theorem But.mvR {K : PySem.W.Frag} {H H' : Hp} {a C dx : Addr} {fs : List (Str × V)} {x : V} {m : Mv} (k : But a H H') (ha : H a = some (.ins C dx fs)) (h : MvR K H x m) : MvR K H' x m := by
  obtain ⟨b, rfl, h1, h2⟩ := h
  exact ⟨b, rfl, k.sqT ha h1, k.ty ha h2⟩
theorem mvR_mvV {K : PySem.W.Frag} {H : Hp} : ∀ {xs : List V} {ms : List Mv}, Paired (MvR K H) xs ms → OkMv ms → Paired (MvV K H) xs (ms.map fun _ => true)
  | _, _, .nil, _ => .nil
  | _, _, .cons (b := m) h t, hw => by
    obtain ⟨a, rfl, h1, h2⟩ := h
    have h0 := hw m (List.mem_cons_self ..)
    refine .cons (.inl ⟨a, _, (wds m).map isW, rfl, h1, h2, pair_strs fun s hs => Nat.le_trans (isW_len (h0 s hs)).2 (by decide), ?_⟩) (mvR_mvV t fun x hx => hw x (List.mem_cons_of_mem _ hx))
    have e : ((wds m).map isW).all id = true := List.all_eq_true.mpr fun b hb => by
      obtain ⟨s, hs, rfl⟩ := List.mem_map.mp hb
      exact h0 s hs
    rw [e]
    rfl
theorem MvsV.yes {K : PySem.W.Frag} {H : Hp} {p : Addr} {xs : List V} {ms : List Mv} (h1 : SqT K H p xs) (h2 : TyX K H (.ref p) (.type "tuple")) (h3 : Paired (MvR K H) xs ms) (l1 : 1 ≤ ms.length) (l4 : ms.length ≤ 4) (hw : OkMv ms) : MvsV K H (.ref p) true := by
  refine .inl ⟨p, xs, _, rfl, h1, h2, mvR_mvV h3 hw, ?_⟩
  have e : (ms.map fun _ => true).all id = true := List.all_eq_true.mpr fun b hb => by
    obtain ⟨s, hs, rfl⟩ := List.mem_map.mp hb
    rfl
  rw [e, h3.length, decide_eq_true (⟨l1, l4⟩ : 1 ≤ ms.length ∧ ms.length ≤ 4)]
  rfl
def spAct (K : PySem.W.Frag) (C CN CA : Addr) : Sp := fun vs H Q E => ∃ (a dx : Addr) (x y : V), vs = [.ref a, x, y] ∧ H a = some (.ins C dx []) ∧
  ((NmV K H x false ∧ ∀ H', Same H H' → E (.ref CN) none H') ∨ (∃ c, x = .str c ∧ isW c = true ∧
    ((MvsV K H y false ∧ ∀ H', Same H H' → E (.ref CA) none H') ∨
      (∃ (p : Addr) (xs : List V) (ms : List Mv), y = .ref p ∧ SqT K H p xs ∧ TyX K H y (.type "tuple") ∧ Paired (MvR K H) xs ms ∧ 1 ≤ ms.length ∧ ms.length ≤ 4 ∧ OkMv ms ∧ ∀ H', But a H H' → ActV K H' C a c (sortM ms) → Q .non H'))))
section
variable {P : Program} {w : World} {K : PySem.W.Frag} {mg : Str → Option Value} {base : Heap}
theorem ok_Action___init {C CN CA f fN fM : Addr} {fd fdN fdM : FuncData} (B : Blt mg) (T_InvalidName : OwnT K mg "InvalidName" CN) (T_InvalidAction : OwnT K mg "InvalidAction" CA) (AC : ActC K C) (F : Fun K "__init__" "Action.__init__" s_Action___init f fd)
    (D_is_name : Df K mg "is_name" s_is_name ["value"] fN fdN) (G_is_name : FnOk P w K mg base CX0 1 fN fdN ["value"] (spIsName K)) (D_are_moves : Df K mg "_are_moves" s_are_moves ["value"] fM fdM) (G_are_moves : FnOk P w K mg base CX0 3 fM fdM ["value"] (spMvs K)) :
    FnOk P w K mg base (L2.CX P w) 4 f fd ["self", "called", "moves"] (spAct K C CN CA) := by
  refine F.okX sc_Action___init (fun vs H Q E h => ?_) (fun cdv A outer s H vs Q E hr h => ?_)
  · obtain ⟨a, dx, x, y, rfl, _⟩ := h
    rfl
  · obtain ⟨a, dx, x, y, rfl, ha, h⟩ := h
    refine ⟨_, (pss_cons (ps_if (pt_not (pt_val (pe_call G_is_name (hr.mono (by decide)) (by rfl) D_is_name.g D_is_name.F.kp D_is_name.b .nil pass0 (pa_cons (pv 1) pa_nil)) (by intro _; rfl)))
    (pss_one (ps_raise rfl (takes_of rfl rfl rfl rfl) (pmk_own PySem.F.excBase_ValueError T_InvalidName.x T_InvalidName.g T_InvalidName.k (raises_own T_InvalidName.b T_InvalidName.t) (by exact rfl)))) pss_nil)
    (pss_cons (ps_if (pt_not (pt_val (pe_call G_are_moves (hr.mono (by decide)) (by rfl) D_are_moves.g D_are_moves.F.kp D_are_moves.b .nil pass0 (pa_cons (pv 2) pa_nil)) (by intro _; rfl)))
    (pss_one (ps_raise rfl (takes_of rfl rfl rfl rfl) (pmk_own PySem.F.excBase_ValueError T_InvalidAction.x T_InvalidAction.g T_InvalidAction.k (raises_own T_InvalidAction.b T_InvalidAction.t) (by exact rfl)))) pss_nil)
    (pss_cons (ps_fld (pv 0) (pv 1) rfl)
    (pss_one (ps_fld (pv 0) (pe_callTy call_tupN (by rfl) B.tuple_ (by decide +kernel) (pa_cons (pe_callB (cr_sortM hr) (by rfl) B.sorted_ (by decide +kernel) (pa_cons (pv 2) pa_nil)) pa_nil)) rfl))))), ?_⟩
    rcases h with ⟨hx, q⟩ | ⟨c, rfl, hc, h⟩
    · exact ⟨_, rfl, x, false, rfl, hx, fun H1 s1 => ⟨false, rfl, q H1 s1⟩⟩
    · refine ⟨_, rfl, .str c, true, rfl, .inl ⟨c, rfl, Nat.le_trans (isW_len hc).2 (by decide), hc.symm⟩, fun H1 s1 => ⟨true, rfl, ?_⟩⟩
      rcases h with ⟨hy, q⟩ | ⟨p, xs, ms, rfl, h1, h2, pm, l1, l4, hw, q⟩
      · exact ⟨_, rfl, y, false, rfl, hy.same s1, fun H2 s2 => ⟨false, rfl, q H2 (s1.trans s2)⟩⟩
      · refine ⟨_, rfl, .ref p, true, rfl, (MvsV.yes h1 h2 pm l1 l4 hw).same s1, fun H2 s2 => ⟨true, rfl, ?_⟩⟩
        have s12 := s1.trans s2
        have a2 := s12 _ _ ha
        have h1 := gSeqT s12 h1
        have pm := paired_mono (fun _ _ h => MvR.same s12 h) pm
        have k1 : But a H2 (upd H2 a (.ins C dx (putF "_called" (.str c) []))) := fun b o n e => by rw [upd_ne n]; exact e
        refine ⟨_, rfl, _, rfl, a, C, dx, [], rfl, a2, AC.cl, AC.n1, by decide, ?_⟩
        refine ⟨_, rfl, p, xs, ms, rfl, .inr (k1.sqT a2 h1), paired_mono (fun _ _ h => k1.mvR a2 h) pm, by omega, fun ys py D H3 nD eD s3 => ?_⟩
        refine ⟨D, ys, rfl, SqL.of eD, fun D2 H4 nD2 eD2 s4 => ?_⟩
        have a4 : H4 a = some (.ins C dx (putF "_called" (.str c) [])) := s4 _ _ (s3 _ _ upd_same)
        refine ⟨_, rfl, a, C, dx, _, rfl, a4, AC.cl, AC.n2, by show 1 < 1000; decide, ?_⟩
        have k2 : But a H4 (upd H4 a (.ins C dx (putF "_moves" (.ref D2) (putF "_called" (.str c) [])))) := fun b o n e => by rw [upd_ne n]; exact e
        have nD2 : D2 ≠ a := fun z => by
          rw [z, a4] at eD2
          cases eD2
        exact q _ (fun b o n e => k2 b o n (s4 _ _ (s3 _ _ (k1 b o n (s12 _ _ e))))) ⟨dx, D2, ys, upd_same, k2.sqT a4 (.inl (.inl eD2)), k2.ty a4 (.base (.tup eD2)), paired_mono (fun _ _ h => k2.mvR a4 ((h.same s3).same s4)) py, by rw [sortM_len]; omega, fun m hm => hw m (sortM_mem.mp hm), hc⟩
/-- what is told of an action's parts -/
def spGet (K : PySem.W.Frag) (C : Addr) (G : Str → List Mv → Addr → List V → Hp → VK → Prop) : Sp := fun vs H Q _ => ∃ (a p : Addr) (c : Str) (ms : List Mv) (ys : List V) (dx : Addr), vs = [.ref a] ∧ H a = some (.ins C dx [("_called", .str c), ("_moves", .ref p)]) ∧ SqT K H p ys ∧ TyX K H (.ref p) (.type "tuple") ∧ Paired (MvR K H) ys ms ∧ ms.length ≤ 4 ∧ (∀ m ∈ ms, ∀ s ∈ wds m, isW s = true) ∧ isW c = true ∧ G c ms p ys H Q
def gCalled : Str → List Mv → Addr → List V → Hp → VK → Prop := fun c _ _ _ H Q => Q (.str c) H
def gMoves : Str → List Mv → Addr → List V → Hp → VK → Prop := fun _ _ p _ H Q => Q (.ref p) H
def gLen : Str → List Mv → Addr → List V → Hp → VK → Prop := fun _ ms _ _ H Q => Q (.int (ms.length : Nat)) H
def gOwners : Str → List Mv → Addr → List V → Hp → VK → Prop := fun _ ms _ _ H Q => ∀ (os : List Str) (r : Addr) (H' : Hp), sortedS os = true → os.Nodup → (∀ k, k ∈ os ↔ k ∈ ms.map fun m => m.1) → Same H H' → H' r = some (.tup (os.map V.str)) → Q (.ref r) H'
theorem ok_Action_called {C f : Addr} {fd : FuncData} (B : Blt mg) (AC : ActC K C) (F : Fun K "called" "Action.called" s_Action_called f fd) : FnOk P w K mg base CX0 1 f fd ["self"] (spGet K C gCalled) := by
  refine F.ok sc_Action_called (fun vs H Q E h => ?_) (fun cdv A outer s H vs Q E hr h => ?_)
  · obtain ⟨a, p, c, ms, ys, dx, rfl, _⟩ := h
    rfl
  · obtain ⟨a, p, c, ms, ys, dx, rfl, ha, hs, ht, hp, hl, hw, hc, q⟩ := h
    exact ⟨_, (pss_one (ps_ret (pe_fld (pv 0) rfl))), _, rfl, a, C, dx, _, _, rfl, ha, AC.cl, AC.n1, rfl, q⟩
theorem ok_Action_moves {C f : Addr} {fd : FuncData} (B : Blt mg) (AC : ActC K C) (F : Fun K "moves" "Action.moves" s_Action_moves f fd) : FnOk P w K mg base CX0 1 f fd ["self"] (spGet K C gMoves) := by
  refine F.ok sc_Action_moves (fun vs H Q E h => ?_) (fun cdv A outer s H vs Q E hr h => ?_)
  · obtain ⟨a, p, c, ms, ys, dx, rfl, _⟩ := h
    rfl
  · obtain ⟨a, p, c, ms, ys, dx, rfl, ha, hs, ht, hp, hl, hw, hc, q⟩ := h
    exact ⟨_, (pss_one (ps_ret (pe_fld (pv 0) rfl))), _, rfl, a, C, dx, _, _, rfl, ha, AC.cl, AC.n2, rfl, q⟩
theorem ok_Action___len {C f : Addr} {fd : FuncData} (B : Blt mg) (AC : ActC K C) (F : Fun K "__len__" "Action.__len__" s_Action___len f fd) : FnOk P w K mg base CX0 1 f fd ["self"] (spGet K C gLen) := by
  refine F.ok sc_Action___len (fun vs H Q E h => ?_) (fun cdv A outer s H vs Q E hr h => ?_)
  · obtain ⟨a, p, c, ms, ys, dx, rfl, _⟩ := h
    rfl
  · obtain ⟨a, p, c, ms, ys, dx, rfl, ha, hs, ht, hp, hl, hw, hc, q⟩ := h
    refine ⟨_, (pss_one (ps_ret (pe_callB call_len_seq (by rfl) B.len_ (by decide +kernel) (pa_cons (pe_fld (pv 0) rfl) pa_nil)))), _, rfl, a, C, dx, _, _, rfl, ha, AC.cl, AC.n2, rfl, p, ys, rfl, .inr hs, ?_⟩
    rw [hp.length]
    exact q
theorem ok_Action_owners {C f : Addr} {fd : FuncData} (B : Blt mg) (AC : ActC K C) (F : Fun K "owners" "Action.owners" s_Action_owners f fd) : FnOk P w K mg base CX0 1 f fd ["self"] (spGet K C gOwners) := by
  refine F.ok sc_Action_owners (fun vs H Q E h => ?_) (fun cdv A outer s H vs Q E hr h => ?_)
  · obtain ⟨a, p, c, ms, ys, dx, rfl, _⟩ := h
    rfl
  · obtain ⟨a, p, c, ms, ys, dx, rfl, ha, hs, ht, hp, hl, hw, hc, q⟩ := h
    refine ⟨_, (pss_one (ps_ret (pe_callTy call_tupN (by rfl) B.tuple_ (by decide +kernel) (pa_cons (pe_callB (cr_sortSS rfl) (by rfl) B.sorted_ (by decide +kernel) (pa_cons (pe_setc (own := [("move", 1)]) (g := gName 1) (tt := tYes) iniS_ok addS_ok (by rfl) sc_Action_owners.nd (pi_tup (pe_fld (pv 0) rfl)) (blkOk_by (N := ["self", "move"]) (sc := defScope s_Action_owners) (by decide +kernel)) (fun _ _ _ _ _ => (pg_name (i := 1) sc_Action_owners.nd rfl (Or.inl rfl))) (fun _ _ _ _ _ => pts_nil) (fun _ _ _ _ _ => (pe_ix (ix_tupK K rfl) (pv 1) pe_int (fun _ _ => rfl)))) pa_nil)) pa_nil)))), ?_⟩
    refine ⟨_, rfl, a, C, dx, _, _, rfl, ha, AC.cl, AC.n2, rfl, p, rfl, ⟨ys, hs⟩, fun D hD => ?_⟩
    refine setc_tup (K := K) (a := p) (xs := ys) (fun i H5 => Same H H5 ∧ ∃ S n, H5 D = some (SetSO P w D S n) ∧ n ≤ i ∧ ∀ k, S k = true ↔ k ∈ (ms.take i).map fun m => m.1) ⟨gSame_new hD, _, 0, upd_same, Nat.le_refl _, fun k => by simp⟩ (fun i H5 _ h5 => gSeqT h5.1 hs) (fun i x H5 hx h5 => ?_) (fun H5 h5 => ?_)
    · obtain ⟨s5, S, n, d5, hn, hS⟩ := h5
      obtain ⟨m, hm, b, rfl, m1, m2⟩ := paired_get hp hx
      have hi : i < ms.length := (List.getElem?_eq_some_iff.mp hm).1
      refine ⟨rfl, _, rfl, b, _, 0, .str m.1, rfl, rfl, gSeqT s5 m1, rfl, _, S, n, rfl, d5, ?_, gSame_mut s5 hD, _, _, upd_same, ?_, fun k => ?_⟩
      · unfold scanBound
        omega
      · split <;> omega
      · rw [List.take_add_one, hm, List.map_append, Bool.or_eq_true, hS k, List.mem_append, decide_eq_true_eq]
        simp
    · obtain ⟨s5, S, n, d5, hn, hS⟩ := h5
      have e : ms.take ys.length = ms := List.take_of_length_le (Nat.le_of_eq hp.length.symm)
      rw [e] at hS
      have hyl := hp.length
      refine ⟨D, S, n, rfl, d5, by omega, fun os so nd hos p1 H6 n6 e6 s6 => ⟨p1, _, rfl, SqL.of e6, fun r H7 n7 e7 s7 => ?_⟩⟩
      exact q os r H7 so nd (fun k => (hos k).trans (hS k)) (s5.trans (s6.trans s7)) e7
theorem wds_len {m : Mv} (h : ∀ s ∈ wds m, isW s = true) : (jn (wds m)).length ≤ 27 := jn_len (wds m) fun s hs => (isW_len (h s hs)).2
theorem sum_le4 : ∀ (l : List Str) (k : Nat), (∀ s ∈ l, s.length ≤ k) → (l.map (·.length)).sum ≤ l.length * k
  | [], _, _ => by simp
  | s :: r, k, h => by
    have h1 := h s (List.mem_cons_self ..)
    have h2 := sum_le4 r k fun x hx => h x (List.mem_cons_of_mem _ hx)
    have e : (r.length + 1) * k = r.length * k + k := Nat.succ_mul _ _
    rw [List.map_cons, List.sum_cons, List.length_cons, e]
    omega
def spWr (K : PySem.W.Frag) : Sp := fun vs H Q _ => ∃ (p : Addr) (ys : List V) (ms : List Mv), vs = [.ref p] ∧ SqT K H p ys ∧ Paired (MvR K H) ys ms ∧ ms.length ≤ 4 ∧ (∀ m ∈ ms, ∀ s ∈ wds m, isW s = true) ∧ ∀ H', Same H H' → Q (.str (wrM ms)) H'
theorem ok_write_moves {f : Addr} {fd : FuncData} (B : Blt mg) (D : Df K mg "_write_moves" s_write_moves ["moves"] f fd) : FnOk P w K mg base CX0 1 f fd ["moves"] (spWr K) := by
  refine D.F.ok sc_write_moves (fun vs H Q E h => ?_) (fun cdv A outer s H vs Q E hr h => ?_)
  · obtain ⟨p, ys, ms, rfl, _⟩ := h
    rfl
  · obtain ⟨p, ys, ms, rfl, hs, hp, hl, hw, q⟩ := h
    refine ⟨_, (pss_one (ps_ret (pe_join pe_str (pe_lc (own := [("move", 1)]) (g := gName 1) (tt := tYes) (by rfl) sc_write_moves.nd (pi_tup (pv 0)) (blkOk_by (N := ["moves", "move"]) (sc := defScope s_write_moves) (by decide +kernel)) (fun _ _ _ _ _ => (pg_name (i := 1) sc_write_moves.nd rfl (Or.inl rfl))) (fun _ _ _ _ _ => pts_nil) (fun _ _ _ _ _ => (pe_joinK K rfl pe_str (pv 1))))))), ?_⟩
    have l1 : (Str.ofString " ").length = 1 := by decide +kernel
    have l2 : (Str.ofString ", ").length = 2 := by decide +kernel
    refine ⟨⟨_, rfl⟩, _, rfl, p, rfl, ⟨ys, hs⟩, fun D hD => ?_⟩
    refine lc_tup (K := K) (a := p) (xs := ys) (fun j H5 => Same H H5 ∧ H5 D = some (.lst (((ms.take j).map fun m => jn (wds m)).map V.str))) ⟨gSame_new hD, upd_same⟩ (fun j H5 _ h5 => gSeqT h5.1 hs) (fun j x H5 hx h5 => ?_) (fun H5 h5 => ?_)
    · obtain ⟨s5, d5⟩ := h5
      obtain ⟨m, hm, b, rfl, m1, m2⟩ := paired_get hp hx
      have hmm : m ∈ ms := List.mem_of_getElem? hm
      refine ⟨rfl, ⟨_, rfl⟩, _, rfl, _, b, wds m, rfl, rfl, .inr (gSeqT s5 m1), ?_, _, d5, ?_, gSame_mut s5 hD, ?_⟩
      · have h1 := sum_le4 (wds m) 8 fun s hs => (isW_len (hw m hmm s hs)).2
        have h3 : (wds m).length = 3 := rfl
        rw [l1, h3]
        rw [h3] at h1
        omega
      · rw [List.length_map, List.length_map, List.length_take]
        exact small1000 (by omega)
      · rw [upd_same, List.take_add_one, hm, List.map_append, List.map_append]
        rfl
    · obtain ⟨s5, d5⟩ := h5
      have e : ms.take ys.length = ms := List.take_of_length_le (Nat.le_of_eq hp.length.symm)
      rw [e] at d5
      refine ⟨_, D, ms.map fun m => jn (wds m), rfl, rfl, .inl (SqL.of d5), ?_, q H5 s5⟩
      have h1 := sum_le4 (ms.map fun m => jn (wds m)) 27 fun s hs => by
        obtain ⟨m, hm, rfl⟩ := List.mem_map.mp hs
        exact wds_len (hw m hm)
      rw [List.length_map] at h1
      rw [l2, List.length_map]
      omega
theorem join_len (S : Str) : ∀ (ss : List Str) (k : Nat), (∀ s ∈ ss, s.length ≤ k) → (Txt.join S ss).length ≤ ss.length * (k + S.length)
  | [], _, _ => Nat.zero_le _
  | [s], k, h => by
    have h1 := h s (List.mem_cons_self ..)
    have e : Txt.join S [s] = s := TL.ext_tl (by
      rw [TL.join_eq, TL.tl_join]
      rfl)
    rw [e]
    show s.length ≤ 1 * (k + S.length)
    omega
  | s :: t :: r, k, h => by
    have h1 := h s (List.mem_cons_self ..)
    have ih := join_len S (t :: r) k fun x hx => h x (List.mem_cons_of_mem _ hx)
    have e : Txt.join S (s :: t :: r) = s ++ S ++ Txt.join S (t :: r) := TL.ext_tl (by
      rw [TL.tl_append, TL.tl_append, TL.join_eq, TL.join_eq, TL.tl_join, TL.tl_join, List.append_assoc]
      rfl)
    have e2 : (s :: t :: r).length * (k + S.length) = (t :: r).length * (k + S.length) + (k + S.length) := Nat.succ_mul _ _
    rw [e, Str.length_append, Str.length_append, e2]
    omega
theorem wrM_len {ms : List Mv} (hl : ms.length ≤ 4) (hw : ∀ m ∈ ms, ∀ s ∈ wds m, isW s = true) : (wrM ms).length ≤ 200 := by
  have h := join_len ", " (ms.map fun m => jn (wds m)) 27 fun s hs => by
    obtain ⟨m, hm, rfl⟩ := List.mem_map.mp hs
    exact wds_len (hw m hm)
  have l2 : (Str.ofString ", ").length = 2 := by decide +kernel
  rw [List.length_map, l2] at h
  unfold wrM
  omega
def gStr : Str → List Mv → Addr → List V → Hp → VK → Prop := fun c ms _ _ H Q => ∀ H', Same H H' → Q (.str (liA c ms)) H'
theorem ok_Action___str {C f fW : Addr} {fd fdW : FuncData} (B : Blt mg) (AC : ActC K C) (D_write_moves : Df K mg "_write_moves" s_write_moves ["moves"] fW fdW) (G_write_moves : FnOk P w K mg base CX0 1 fW fdW ["moves"] (spWr K)) (F : Fun K "__str__" "Action.__str__" s_Action___str f fd) : FnOk P w K mg base CX0 2 f fd ["self"] (spGet K C gStr) := by
  refine F.ok sc_Action___str (fun vs H Q E h => ?_) (fun cdv A outer s H vs Q E hr h => ?_)
  · obtain ⟨a, p, c, ms, ys, dx, rfl, _⟩ := h
    rfl
  · obtain ⟨a, p, c, ms, ys, dx, rfl, ha, hs, ht, hp, hl, hw, hc, q⟩ := h
    refine ⟨_, (pss_one (ps_ret (pe_joined (.cons (pe_fmt (pe_fld (pv 0) rfl)) (.cons pe_str (.cons (pe_fmt (pe_call G_write_moves (hr.mono (by decide)) (by rfl) D_write_moves.g D_write_moves.F.kp D_write_moves.b .nil pass0 (pa_cons (pe_fld (pv 0) rfl) pa_nil))) .nil)))))), ?_⟩
    have l1 : (Str.ofString " ").length = 1 := by decide +kernel
    have e0 : Str.empty ++ c = c := TL.ext_tl (by rw [TL.tl_append]; rfl)
    have lc := (isW_len hc).2
    have lw := wrM_len hl hw
    have z : ∀ n : Nat, n ≤ 1000 → n ≤ sizeLine := fun n hn => by rw [sizeLine_eq]; omega
    refine ⟨_, rfl, a, C, dx, _, _, rfl, ha, AC.cl, AC.n1, rfl, .inl ⟨c, rfl, z _ (by omega), c, rfl, ?_, _, rfl, ?_, _, rfl, a, C, dx, _, _, rfl, ha, AC.cl, AC.n2, rfl, p, ys, ms, rfl, hs, hp, hl, hw, fun H' s' => .inl ⟨_, rfl, z _ (by omega), _, rfl, ?_, ?_⟩⟩⟩
    · rw [e0]
      exact z _ (by omega)
    · rw [e0, Str.length_append, l1]
      exact z _ (by omega)
    · rw [e0, Str.length_append, Str.length_append, l1]
      exact z _ (by omega)
    · rw [e0]
      exact q H' s'
def spEqA (K : PySem.W.Frag) (C : Addr) : Sp := fun vs H Q _ => ∃ (a : Addr) (y : V) (c : Str) (ms : List Mv), vs = [.ref a, y] ∧ ActV K H C a c ms ∧
  ((∃ (b : Addr) (c' : Str) (ms' : List Mv), y = .ref b ∧ ActV K H C b c' ms' ∧ Q (.bl (decide (c = c') && decide (ms = ms'))) H) ∨ (∃ t, TyX K H y t ∧ PySem.W.kitOne K t (.ref C) = some false ∧ Q (.bl false) H))
theorem ok_Action___eq {C_Action f : Addr} {fd : FuncData} (B : Blt mg) (g_Action : mg "Action" = some (.ref C_Action)) (AC : ActC K C_Action) (IC : C8.InsC K C_Action) (F : Fun K "__eq__" "Action.__eq__" s_Action___eq f fd) : FnOk P w K mg base CX0 1 f fd ["self", "other"] (spEqA K C_Action) := by
  refine F.ok sc_Action___eq (fun vs H Q E h => ?_) (fun cdv A outer s H vs Q E hr h => ?_)
  · obtain ⟨a, y, c, ms, rfl, _⟩ := h
    rfl
  · obtain ⟨a, y, c, ms, rfl, ⟨dx, p, ys, ha, hs, ht, hp, hl, hw, hc⟩, q⟩ := h
    refine ⟨_, (pss_one (ps_ret (pe_and (pe_callB call_isi (by rfl) B.isinstance_ (by decide +kernel) (pa_cons (pv 1) (pa_cons (pe_glob (v := .ref C_Action) rfl g_Action rfl) pa_nil))) (pe_and (pe_cmpR op_eq (pe_fld (pv 0) rfl) (pe_fld (pv 1) rfl) (nomark _)) (pe_one (pe_cmpR (op_eqD hr.units) (pe_fld (pv 0) rfl) (pe_fld (pv 1) rfl) (nomark _))))))), ?_⟩
    rcases q with ⟨b, c', ms', rfl, ⟨dx', p', ys', ha', hs', ht', hp', hl', hw', hc'⟩, q⟩ | ⟨t, ty, hk, q⟩
    · refine ⟨_, rfl, .ref b, .ref C_Action, _, .ref C_Action, true, rfl, .own _, .base (.ins ha' IC.cl IC.ha IC.hn IC.htk IC.hm), IC.me, _, rfl, ?_⟩
      refine ⟨_, rfl, a, C_Action, dx, _, _, rfl, ha, AC.cl, AC.n1, rfl, _, rfl, b, C_Action, dx', _, _, rfl, ha', AC.cl, AC.n1, rfl, rfl, _, rfl, ?_⟩
      have e1 : decide (V.str c = V.str c') = decide (c = c') := decide_eq_decide.mpr ⟨fun z => V.str.inj z, fun z => by rw [z]⟩
      refine ite2 (fun h1 => ?_) (fun h1 => ?_)
      · rw [e1] at h1
        rw [h1, Bool.true_and] at q
        refine ⟨_, rfl, a, C_Action, dx, _, _, rfl, ha, AC.cl, AC.n2, rfl, _, rfl, b, C_Action, dx', _, _, rfl, ha', AC.cl, AC.n2, rfl, .tuple (ms.map encM), .tuple (ms'.map encM), .tup hs (mvs_dp hp), .tup hs' (mvs_dp hp'), ?_, ?_, ?_⟩
        · exact shaped_tmvs hw
        · exact shaped_tmvs hw'
        · rw [eqv_tmvs]
          exact q
      · rw [e1, Bool.not_eq_true] at h1
        rw [h1, Bool.false_and] at q
        exact q
    · exact ⟨_, rfl, y, .ref C_Action, t, .ref C_Action, false, rfl, .own _, ty, hk, _, rfl, q⟩
end
end Gk

set_option Elab.async false
set_option linter.all false
set_option maxRecDepth 100000
set_option maxHeartbeats 8000000
namespace Gk
open PySem PySem.Spec PyProof.Rows L2
abbrev s_read_action : Stmt := topS 14
theorem sc_read_action : FnScope ["line", "called", "_", "rest", "moves", "part"] ["line"] (defScope s_read_action) := ⟨rfl, rfl, rfl, by decide +kernel, rfl, by decide +kernel, by decide +kernel⟩
def spRdA (K : PySem.W.Frag) : Sp := fun vs H Q _ => ∃ x : V, vs = [x] ∧
  ((∃ z : Str, x = .str z ∧ z.length ≤ 90000 ∧ (rdA z = none → ∀ H', Same H H' → Q .non H') ∧
      (∀ c ms, rdA z = some (c, ms) → ∀ (p p2 : Addr) (H' : Hp) (ys : List V), Same H H' → H' p = some (.tup [.str c, .ref p2]) → SqT K H' p2 ys → TyX K H' (.ref p2) (.type "tuple") → Paired (MvR K H') ys ms → OkMv ms → ms.length ≤ 4 → isW c = true → Q (.ref p) H')) ∨
    (∃ t, TyX K H x t ∧ PySem.W.kitOne K t (.type "str") = some false ∧ ∀ H', Same H H' → Q .non H'))
abbrev Tq (K : PySem.W.Frag) (D : Addr) (H : Hp) (y : V) (q : List Str) : Prop := ∃ a, y = .ref a ∧ a ≠ D ∧ H a = some (.tup (q.map V.str))
theorem Tq.but {K : PySem.W.Frag} {D : Addr} {H H' : Hp} {y : V} {q : List Str} (k : But D H H') (h : Tq K D H y q) : Tq K D H' y q := by
  obtain ⟨a, rfl, n, e⟩ := h
  exact ⟨a, rfl, n, k _ _ n e⟩
theorem paired_snoc {α : Type} {R : V → α → Prop} {y : V} {b : α} (h : R y b) : ∀ {xs : List V} {as : List α}, Paired R xs as → Paired R (xs ++ [y]) (as ++ [b])
  | _, _, .nil => .cons h .nil
  | _, _, .cons q t => .cons q (paired_snoc h t)
theorem tq_mv {K : PySem.W.Frag} {D : Addr} {H : Hp} : ∀ {ys : List V} {qs : List (List Str)}, Paired (Tq K D H) ys qs → (∀ q ∈ qs, ∀ s ∈ q, s.length ≤ 100000) → Paired (MvV K H) ys (qs.map okQ)
  | _, _, .nil, _ => .nil
  | _, _, .cons (b := q) h t, hl => by
    obtain ⟨a, rfl, _, e⟩ := h
    refine .cons (.inl ⟨a, q.map V.str, q.map isW, rfl, .inl (.inl e), .base (.tup e), pair_strs (hl q (List.mem_cons_self ..)), ?_⟩) (tq_mv t fun q hq => hl q (List.mem_cons_of_mem _ hq))
    unfold okQ
    rw [List.length_map, List.all_map]
    rfl
theorem tq_mvR {K : PySem.W.Frag} {D : Addr} {H : Hp} : ∀ {ys : List V} {qs : List (List Str)}, Paired (Tq K D H) ys qs → qs.all okQ = true → Paired (MvR K H) ys (qs.map toMv)
  | _, _, .nil, _ => .nil
  | _, _, .cons (b := q) h t, e => by
    rw [List.all_cons, Bool.and_eq_true] at e
    obtain ⟨a, rfl, _, ea⟩ := h
    refine .cons ⟨a, rfl, ?_, .base (.tup ea)⟩ (tq_mvR t e.2)
    rw [(okQ_of e.1).1]
    exact .inl (.inl ea)
section
variable {P : Program} {w : World} {K : PySem.W.Frag} {mg : Str → Option Value} {base : Heap}
theorem ok_read_action {f fN fM : Addr} {fd fdN fdM : FuncData} (B : Blt mg) (D_is_name : Df K mg "is_name" s_is_name ["value"] fN fdN) (G_is_name : FnOk P w K mg base CX0 1 fN fdN ["value"] (spIsName K)) (D_are_moves : Df K mg "_are_moves" s_are_moves ["value"] fM fdM) (G_are_moves : FnOk P w K mg base CX0 3 fM fdM ["value"] (spMvs K))
    (D : Df K mg "_read_action" s_read_action ["line"] f fd) : FnOk P w K mg base CX0 4 f fd ["line"] (spRdA K) := by
  refine D.F.ok sc_read_action (fun vs H Q E h => ?_) (fun cdv A outer s H vs Q E hr h => ?_)
  · obtain ⟨x, rfl, _⟩ := h
    rfl
  · obtain ⟨x, rfl, h⟩ := h
    refine ⟨_, (pss_cons (ps_if (pt_not (pt_val (pe_callB call_isi (by rfl) B.isinstance_ (by decide +kernel) (pa_cons (pv 0) (pa_cons (pe_bltn (v := .ty "str") rfl B.str_ (by decide +kernel) rfl) pa_nil))) (by intro _; rfl)))
    (pss_one (ps_ret pe_non)) pss_nil)
    (pss_cons (ps_asg (pe_partition (pv 0) pe_str) (pg_tup (by rfl) (pgs_cons (pg_name (i := 1) sc_read_action.nd rfl (Or.inl rfl)) (pgs_cons (pg_name (i := 2) sc_read_action.nd rfl (Or.inl rfl)) (pgs_cons (pg_name (i := 3) sc_read_action.nd rfl (Or.inl rfl)) pgs_nil)))))
    (pss_cons (ps_set (i := 4) sc_read_action.nd rfl (Or.inl rfl) (pe_callTy call_tupN (by rfl) B.tuple_ (by decide +kernel) (pa_cons (pe_lc (own := [("part", 5)]) (g := gName 5) (tt := tYes) (by rfl) sc_read_action.nd (pi_list (pe_split (pv 3) pe_str)) (blkOk_by (N := ["line", "called", "_", "rest", "moves", "part"]) (sc := defScope s_read_action) (by decide +kernel)) (fun _ _ _ _ _ => (pg_name (i := 5) sc_read_action.nd rfl (Or.inl rfl))) (fun _ _ _ _ _ => pts_nil) (fun _ _ _ _ _ => (pe_callTy (call_tupNK K rfl) (by rfl) B.tuple_ (by decide +kernel) (pa_cons (pe_split (pv 5) pe_str) pa_nil)))) pa_nil)))
    (pss_cons (ps_if (PW.pt (pw_or (pt_not (pt_val (pe_call G_is_name (hr.mono (by decide)) (by rfl) D_is_name.g D_is_name.F.kp D_is_name.b .nil pass0 (pa_cons (pv 1) pa_nil)) (by intro _; rfl))) (pw_or (pt_not (pt_val (pe_call G_are_moves (hr.mono (by decide)) (by rfl) D_are_moves.g D_are_moves.F.kp D_are_moves.b .nil pass0 (pa_cons (pv 4) pa_nil)) (by intro _; rfl))) (pw_or1 (pt_cmpR (op_neD hr.units) (pe_callTy call_lstN (by rfl) B.list_ (by decide +kernel) (pa_cons (pv 4) pa_nil)) (pe_callB (cr_sortM hr) (by rfl) B.sorted_ (by decide +kernel) (pa_cons (pv 4) pa_nil)) (nomark _))))))
    (pss_one (ps_ret pe_non)) pss_nil)
    (pss_one (ps_ret (pe_tupN (pa_cons (pv 1) (pa_cons (pv 4) pa_nil))))))))), ?_⟩
    rcases h with ⟨z, rfl, hz, q1, q2⟩ | ⟨t, ty, hk, q⟩
    · refine ⟨_, rfl, .str z, .ty "str", _, _, true, rfl, .ty "str", .base (.str z), kit_ty (by decide +kernel), _, rfl, ?_⟩
      have l1 : (Str.ofString " ").length = 1 := by decide +kernel
      have l2 : (Str.ofString ", ").length = 2 := by decide +kernel
      obtain ⟨lc, lr⟩ := part_len z
      have sl : ∀ n : Nat, n ≤ 100000 → n ≤ sizeLine := fun n hn => by rw [sizeLine_eq]; omega
      refine ⟨_, rfl, ⟨_, rfl⟩, z, _, rfl, rfl, by rw [l1]; rfl, sl _ (by omega), fun p1 n1 => ⟨p1, _, rfl, SqT.of upd_same, rfl, _, _, rfl, _, _, rfl, _, _, rfl, rfl, ?_⟩⟩
      refine ⟨_, rfl, ⟨_, rfl⟩, (Txt.partition z " ").2.2, _, rfl, rfl, by rw [l2]; rfl, sl _ (by omega), fun p2 n2 => ⟨p2, rfl, ⟨_, SqL.of upd_same⟩, fun D hD => ?_⟩⟩
      have sA : Same H (upd H p1 (.tup [.str (Txt.partition z " ").1, .str (Txt.partition z " ").2.1, .str (Txt.partition z " ").2.2])) := gSame_new n1
      generalize upd H p1 (.tup [.str (Txt.partition z " ").1, .str (Txt.partition z " ").2.1, .str (Txt.partition z " ").2.2]) = HA at *
      generalize hc : (Txt.partition z " ").1 = c at *
      generalize hr' : (Txt.partition z " ").2.2 = r at *
      have sB : Same HA (upd HA p2 (.lst ((Txt.split r ", ").map V.str))) := gSame_new n2
      have eB : upd HA p2 (.lst ((Txt.split r ", ").map V.str)) p2 = some (.lst ((Txt.split r ", ").map V.str)) := upd_same
      generalize upd HA p2 (.lst ((Txt.split r ", ").map V.str)) = HB at *
      refine lc_list (K := K) (a := p2) (xs := (Txt.split r ", ").map V.str) (fun i H5 => Same HB H5 ∧ ∃ ys, H5 D = some (.lst ys) ∧ Paired (Tq K D H5) ys ((prs r).take i)) ⟨gSame_new hD, [], upd_same, .nil⟩ (fun i H5 _ h5 => SqL.of (h5.1 _ _ eB)) (fun i x H5 hx h5 => ?_) (fun H5 h5 => ?_)
      · obtain ⟨s5, ys, d5, py⟩ := h5
        obtain ⟨pt, hpt, rfl⟩ := List.getElem?_map .. ▸ hx |> fun h => Option.map_eq_some_iff.mp h
        have hpl : pt.length ≤ r.length := split_piece cs_ne cs_asc (List.mem_of_getElem? hpt)
        refine ⟨rfl, _, rfl, ⟨_, rfl⟩, pt, _, rfl, rfl, by rw [l1]; rfl, sl _ (by omega), fun p3 n3 => ⟨p3, _, rfl, SqL.of upd_same, fun p4 H6 n4 e4 s4 => ⟨ys, ?_, ?_, ?_, ?_⟩⟩⟩
        · exact s4 _ _ (gSame_new n3 _ _ d5)
        · have h1 := py.length
          have h2 := PyProof.Rows.split_le r ", "
          rw [h1, List.length_take, sizeLine_eq]
          have h3 : (prs r).length = (Txt.split r ", ").length := List.length_map ..
          omega
        · exact gSame_mut (s5.trans ((gSame_new n3).trans s4)) hD
        · have s56 : Same H5 H6 := (gSame_new n3).trans s4
          have kk : But D H5 (upd H6 D (.lst (ys ++ [.ref p4]))) := fun b o n e => by rw [upd_ne n]; exact s56 _ _ e
          refine ⟨_, upd_same, ?_⟩
          have e : (prs r).take (i + 1) = (prs r).take i ++ [Txt.split pt " "] := by
            rw [List.take_add_one]
            have : (prs r)[i]? = some (Txt.split pt " ") := by
              rw [List.getElem?_map, hpt]
              rfl
            rw [this]
            rfl
          rw [e]
          have n4D : p4 ≠ D := fun z => by
            rw [z, s56 _ _ d5] at e4
            cases e4
          exact paired_snoc ⟨p4, rfl, n4D, by rw [upd_ne n4D]; exact e4⟩ (paired_mono (fun _ _ h => h.but kk) py)
      · obtain ⟨s5, ys, d5, py⟩ := h5
        have e : (prs r).take ((Txt.split r ", ").map V.str).length = prs r := List.take_of_length_le (by rw [List.length_map, List.length_map]; exact Nat.le_refl _)
        rw [e] at py
        refine ⟨D, ys, rfl, SqL.of d5, fun p6 H6 n6 e6 s6 => ?_⟩
        have s06 : Same H H6 := sA.trans (sB.trans (s5.trans s6))
        refine ⟨_, rfl, .str c, isW c, rfl, NmV.of (by omega), fun H7 s7 => ⟨isW c, rfl, ?_⟩⟩
        have py7 : Paired (Tq K D H7) ys (prs r) := paired_mono (fun _ _ ⟨a, h1, h2, h3⟩ => ⟨a, h1, h2, s7 _ _ (s6 _ _ h3)⟩) py
        have rd : rdA z = if isW c && (okQs (prs r) && decide ((prs r).map toMv = sortM ((prs r).map toMv))) then some (c, (prs r).map toMv) else none := by
          unfold rdA
          rw [hc, hr']
        cases hcw : isW c with
        | false =>
          rw [hcw] at rd
          exact q1 rd H7 (s06.trans s7)
        | true =>
          refine ⟨_, rfl, .ref p6, okQs (prs r), rfl, .inl ⟨p6, ys, (prs r).map okQ, rfl, .inl (.inl (s7 _ _ e6)), .base (.tup (s7 _ _ e6)), tq_mv py7 (fun q hq s hs => ?_), ?_⟩, fun H8 s8 => ⟨_, rfl, ?_⟩⟩
          · obtain ⟨p, hp, rfl⟩ := List.mem_map.mp hq
            have h1 := split_piece cs_ne cs_asc hp
            have h2 := split_piece sp_ne sp_asc hs
            omega
          · have g : ∀ qs : List (List Str), qs.all okQ = (qs.map okQ).all id := fun qs => by
              rw [List.all_map]
              rfl
            unfold okQs
            rw [py7.length, g]
          · cases hq : okQs (prs r) with
            | false =>
              rw [hcw, hq] at rd
              exact q1 rd H8 (s06.trans (s7.trans s8))
            | true =>
              have s8' : Same H5 H8 := s6.trans (s7.trans s8)
              have e68 : H8 p6 = some (.tup ys) := s8 _ _ (s7 _ _ e6)
              have hq2 := hq
              unfold okQs at hq2
              rw [Bool.and_eq_true] at hq2
              have hl4 := of_decide_eq_true hq2.1
              have pR : Paired (MvR K H8) ys ((prs r).map toMv) := paired_mono (fun _ _ h => h.same s8) (tq_mvR py7 hq2.2)
              have hok : OkMv ((prs r).map toMv) := fun m hm s hs => by
                obtain ⟨q, hqm, rfl⟩ := List.mem_map.mp hm
                have o := okQ_of (List.all_eq_true.mp hq2.2 q hqm)
                rw [o.1] at hs
                exact o.2 s hs
              have hml : ((prs r).map toMv).length = (prs r).length := List.length_map ..
              generalize hms : (prs r).map toMv = ms at *
              refine ⟨_, rfl, p6, ys, rfl, .inr (.inl (.inl e68)), fun p9 H9 n9 e9 s9 => ⟨_, rfl, p6, ys, ms, rfl, .inr (.inl (.inl (s9 _ _ e68))), paired_mono (fun _ _ h => h.same s9) pR, by omega, fun zs pz p10 H10 n10 e10 s10 => ?_⟩⟩
              have pR10 : Paired (MvR K H10) ys ms := paired_mono (fun _ _ h => h.same (s9.trans s10)) pR
              refine ⟨.list (ms.map encM), .list ((sortM ms).map encM), .lst (SqL.of (s10 _ _ e9)) (mvs_dp pR10), .lst (SqL.of e10) (mvs_dp (paired_mono (fun _ _ h => h.same s10) pz)), shaped_lmvs hok, shaped_lmvs fun m hm => hok m (sortM_mem.mp hm), _, rfl, ?_⟩
              rw [eqv_lmvs]
              have s010 : Same H H10 := s06.trans (s7.trans (s8.trans (s9.trans s10)))
              cases hs : decide (ms = sortM ms) with
              | false =>
                rw [hcw, hq, hs] at rd
                exact q1 rd H10 s010
              | true =>
                rw [hcw, hq, hs] at rd
                refine ⟨_, rfl, _, rfl, sl 2 (by decide), fun p11 H11 n11 e11 s11 => ?_⟩
                exact q2 c ms rd p11 p6 H11 ys (s010.trans s11) e11 (.inl (.inl (s11 _ _ (s10 _ _ (s9 _ _ e68))))) (.base (.tup (s11 _ _ (s10 _ _ (s9 _ _ e68))))) (paired_mono (fun _ _ h => h.same s11) pR10) hok (by omega) hcw
    · exact ⟨_, rfl, x, .ty "str", t, _, false, rfl, .ty "str", ty, hk, _, rfl, q H (Same.refl H)⟩
end
end Gk

set_option Elab.async false
set_option linter.all false
set_option maxRecDepth 100000
set_option maxHeartbeats 8000000
namespace Gk
open PySem PySem.Spec PyProof.Rows L2
def spFrom (K : PySem.W.Frag) (C CP : Addr) : Sp := fun vs H Q E => ∃ x : V, vs = [.ref C, x] ∧
  ((∃ z : Str, x = .str z ∧ z.length ≤ 90000 ∧ (rdA z = none → ∀ d H', H d = none → Same H H' → H' d = some (.xd [("line", .non)]) → E (.ref CP) (some d) H') ∧
      (∀ c ms, rdA z = some (c, ms) → ∀ a H', Same H H' → ActV K H' C a c ms → Q (.ref a) H')) ∨
    (∃ t, TyX K H x t ∧ PySem.W.kitOne K t (.type "str") = some false ∧ ∀ d H', H d = none → Same H H' → H' d = some (.xd [("line", .non)]) → E (.ref CP) (some d) H'))
section
variable {P : Program} {w : World} {K : PySem.W.Frag} {mg : Str → Option Value} {base : Heap}
theorem ok_Action_from_line {C CP CN CA f fA fR fI : Addr} {fd fdA fdR fdI : FuncData} (B : Blt mg) (T_ParseError : IniT K mg "ParseError" "line" s_ParseError___init CP fI fdI) (G_ParseError : FnOk P w K mg base CX0 1 fI fdI ["self", "line"] (spIni CP "line"))
    (D_read_action : Df K mg "_read_action" s_read_action ["line"] fR fdR) (G_read_action : FnOk P w K mg base CX0 4 fR fdR ["line"] (spRdA K))
    (M_Action : Mk K C fA) (BI : Binds K fdA ["self", "called", "moves"] []) (G_Action___init : FnOk P w K mg base (L2.CX P w) 4 fA fdA ["self", "called", "moves"] (spAct K C CN CA))
    (F : Fun K "from_line" "Action.from_line" s_Action_from_line f fd) : FnOk P w K mg base (L2.CX P w) 6 f fd ["cls", "line"] (spFrom K C CP) := by
  refine F.okX sc_Action_from_line (fun vs H Q E h => ?_) (fun cdv A outer s H vs Q E hr h => ?_)
  · obtain ⟨x, rfl, _⟩ := h
    rfl
  · obtain ⟨x, rfl, h⟩ := h
    refine ⟨_, (pss_cons (ps_set (i := 2) sc_Action_from_line.nd rfl (Or.inl rfl) (pe_call G_read_action (hr.mono (by decide)) (by rfl) D_read_action.g D_read_action.F.kp D_read_action.b .nil pass0 (pa_cons (pv 1) pa_nil)))
    (pss_cons (ps_if (pt_cmpR op_isN (pv 2) pe_non (nomark _))
    (pss_one (ps_raise rfl (takes_of rfl rfl rfl rfl) (pmk_oex T_ParseError.o T_ParseError.i T_ParseError.ti G_ParseError (hr.mono (by decide)) T_ParseError.bi .nil pass0 (by rfl) T_ParseError.g (pa_cons pe_non pa_nil)))) pss_nil)
    (pss_cons (ps_asg (pv 2) (pg_tup (by rfl) (pgs_cons (pg_name (i := 3) sc_Action_from_line.nd rfl (Or.inl rfl)) (pgs_cons (pg_name (i := 4) sc_Action_from_line.nd rfl (Or.inl rfl)) pgs_nil))))
    (pss_one (ps_ret (pe_makeL (i := 0) M_Action G_Action___init (hr.mono (by decide)) rfl (.inl rfl) BI (fun σ => passAt (takes_of rfl rfl rfl rfl) σ) (pa_cons (pv 3) (pa_cons (pv 4) pa_nil)))))))), ?_⟩
    have err : ∀ (H1 : Hp), Same H H1 → (∀ d H', H d = none → Same H H' → H' d = some (.xd [("line", .non)]) → E (.ref CP) (some d) H') → ∀ σ, tMkO CP (spIni CP "line") [] (tCons (tC .non) tNil) σ H1 fun cls d H' => E cls d H' := fun H1 s1 q σ =>
      ini_mk (.inl rfl) (fun Q q => q) fun d H' hd s e => q d H' (s1.free hd) (s1.trans s) e
    rcases h with ⟨z, rfl, hz, q1, q2⟩ | ⟨t, ty, hk, q⟩
    · refine ⟨_, rfl, _, rfl, .inl ⟨z, rfl, hz, fun hn H1 s1 => ⟨_, rfl, rfl, _, rfl, err H1 s1 (q1 hn) _⟩, fun c ms hrd p p2 H1 ys s1 e1 h2 t2 pm hok hl hc => ?_⟩⟩
      refine ⟨_, rfl, rfl, _, rfl, _, rfl, p, _, rfl, SqT.of e1, rfl, _, _, rfl, _, _, rfl, rfl, rfl, _, rfl, _, rfl, fun a dx na ndx ne => ?_⟩
      have sN : Same H1 (upd (upd H1 dx (.own a)) a (.ins C dx [])) := (gSame_new ndx).trans (gSame_new (by rw [upd_ne ne.symm]; exact na))
      obtain ⟨_, hne, _, _, hso, _⟩ := rdA_some hrd
      refine ⟨a, dx, .str c, .ref p2, rfl, upd_same, .inr ⟨c, rfl, hc, .inr ⟨p2, ys, ms, rfl, gSeqT sN h2, t2.same sN, paired_mono (fun _ _ h => h.same sN) pm, ?_, hl, hok, fun H3 k3 v3 => ⟨rfl, q2 c ms hrd a H3 (fun b o e => ?_) (by rw [hso] at v3; exact v3)⟩⟩⟩⟩
      · cases ms with
        | nil => exact absurd rfl hne
        | cons _ _ => exact Nat.succ_le_succ (Nat.zero_le _)
      · have e2 := s1 _ _ e
        have nb : b ≠ a := fun z => by
          rw [z, na] at e2
          cases e2
        exact k3 b o nb (sN _ _ e2)
    · exact ⟨_, rfl, _, rfl, .inr ⟨t, ty, hk, fun H1 s1 => ⟨_, rfl, rfl, _, rfl, err H1 s1 q _⟩⟩⟩
end
end Gk

set_option Elab.async false
set_option linter.all false
set_option maxRecDepth 100000
set_option maxHeartbeats 8000000
namespace Gk
open PySem PySem.Spec PyProof.Rows L2
/-- a name that has not just four letters: none is drawn that has -/
def isV (s : Str) : Bool := isW s && decide (s.length ≠ 4)
theorem isV_w {s : Str} (h : isV s = true) : isW s = true := (Bool.and_eq_true_iff.mp h).1
theorem isV_4 {s : Str} (h : isV s = true) : s.length ≠ 4 := of_decide_eq_true (Bool.and_eq_true_iff.mp h).2
theorem join0_V {cs : List Nat} (h1 : 1 ≤ cs.length) (h2 : cs.length ≤ 8) (h3 : cs.length ≠ 4) (h : ∀ c ∈ cs, 97 ≤ c ∧ c ≤ 122) : isV (Txt.join "" (cs.map sg)) = true := by
  unfold isV
  rw [join0_W h1 h2 h, Bool.true_and]
  refine decide_eq_true ?_
  rw [TL.len_tl, tl_join0]
  exact h3
theorem sg_V {c : Nat} (h : 97 ≤ c ∧ c ≤ 122) : isV (sg c) = true := by
  unfold isV
  rw [sg_W h, Bool.true_and]
  exact decide_eq_true (show (1 : Nat) ≠ 4 by decide)
theorem lots6' {y : V} (h : y ∈ [V.int 1, .int 1, .int 2, .int 3, .int 5, .int 8]) : ∃ n : Nat, y = .int n ∧ 1 ≤ n ∧ n ≤ 8 ∧ n ≠ 4 := by
  simp only [List.mem_cons, List.not_mem_nil, or_false] at h
  rcases h with h | h | h | h | h | h
  · exact ⟨1, h, by decide, by decide, by decide⟩
  · exact ⟨1, h, by decide, by decide, by decide⟩
  · exact ⟨2, h, by decide, by decide, by decide⟩
  · exact ⟨3, h, by decide, by decide, by decide⟩
  · exact ⟨5, h, by decide, by decide, by decide⟩
  · exact ⟨8, h, by decide, by decide, by decide⟩
def spWord4 : Sp := fun vs H Q _ => ∃ t : Addr, vs = [.ref t] ∧ Tp H t ∧ ∀ (x : Str) (H' : Hp), isV x = true → Kt t H H' → Q (.str x) H'
def spWords4 : Sp := fun vs H Q _ => ∃ (t : Addr) (n : Int), vs = [.ref t, .int n] ∧ Tp H t ∧ 0 ≤ n ∧ n ≤ 25 ∧
  ∀ (p : Addr) (ws : List Str) (H' : Hp), ws.length = n.toNat → (∀ x ∈ ws, isV x = true) → ws.Nodup → H p = none → H' p = some (.lst (ws.map V.str)) → Kt t H H' → Q (.ref p) H'
section
variable {P : Program} {w : World} {K : PySem.W.Frag} {mg : Str → Option Value} {base : Heap}
theorem ok_word4 {f fP : Addr} {fd fdP : FuncData} (B : Blt mg) (D_pick : Df K mg "_law_pick" s_pick ["tape", "items"] fP fdP) (G_pick : FnOk P w K mg base CX0 2 fP fdP ["tape", "items"] (spPick K))
    (D : Df K mg "_law_word_drawn" s_word_drawn ["tape"] f fd) : FnOk P w K mg base CX0 3 f fd ["tape"] spWord4 := by
  refine D.F.ok sc_word_drawn (fun vs H Q E h => ?_) (fun cdv A outer s H vs Q E hr h => ?_)
  · obtain ⟨t, rfl, _⟩ := h
    rfl
  · obtain ⟨t, rfl, hT, q⟩ := h
    refine ⟨_, (pss_cons (ps_set (i := 1) sc_word_drawn.nd rfl (Or.inl rfl) (pe_call G_pick (hr.mono (by decide)) (by rfl) D_pick.g D_pick.F.kp D_pick.b .nil pass0 (pa_cons (pv 0) (pa_cons (pe_lst (pa_cons pe_int (pa_cons pe_int (pa_cons pe_int (pa_cons pe_int (pa_cons pe_int (pa_cons pe_int pa_nil))))))) pa_nil))))
    (pss_one (ps_ret (pe_join pe_str (pe_lc (own := [("turn", 2)]) (g := gName 2) (tt := tYes) (by rfl) sc_word_drawn.nd (pi_range1 (by rfl) B.range (pa_cons (pv 1) pa_nil)) (blkOk_by (N := ["tape", "lots", "turn"]) (sc := defScope s_word_drawn) (by decide +kernel)) (fun _ _ _ _ _ => (pg_name (i := 2) sc_word_drawn.nd rfl (Or.inl rfl))) (fun _ _ _ _ _ => pts_nil) (fun _ _ _ _ _ => (pe_call G_pick (hr.mono (by decide)) (by rfl) D_pick.g D_pick.F.kp D_pick.b .nil pass0 (pa_cons (pv 0) (pa_cons pe_str pa_nil))))))))), ?_⟩
    refine ⟨_, rfl, by show 6 ≤ sizeLine; decide, fun p hp => ⟨t, .ref p, _, rfl, (Kt.new hT hp).tp, .inl ⟨p, rfl, Kt.ne hT hp, .inl (SqL.of upd_same)⟩, by decide, by decide, fun y H1 hy k1 => ?_⟩⟩
    obtain ⟨n, rfl, n1, n2, n3⟩ := lots6' hy
    have k1 : Kt t H H1 := (Kt.new hT hp).trans k1
    refine ⟨⟨_, rfl⟩, _, rfl, (n : Int), rfl, by omega, by omega, fun D hD => ?_⟩
    refine lc_range (lo := 0) (n := (n : Int).toNat) (fun i H3 => ∃ cs : List Nat, cs.length = i ∧ (∀ c ∈ cs, 97 ≤ c ∧ c ≤ 122) ∧ H3 D = some (.lst ((cs.map sg).map V.str)) ∧ Kt t H H3) ⟨[], rfl, by simp, upd_same, k1.mut (k1.free hD) (Kt.ne k1.tp hD)⟩ (fun i H3 hi hP => ?_) (fun H3 hP => ?_)
    · obtain ⟨cs, hl, hc, hd, k3⟩ := hP
      refine ⟨rfl, _, rfl, t, _, _, rfl, k3.tp, .inr ⟨_, rfl, rfl⟩, by decide +kernel, by decide +kernel, fun y H4 hy k4 => ?_⟩
      obtain ⟨c, hcm, rfl⟩ := List.mem_map.mp hy
      refine ⟨_, k4.strs k3.tp hd, ?_, cs ++ [c], ?_, ?_, ?_, ?_⟩
      · rw [List.length_map, List.length_map]
        exact small1000 (by omega)
      · rw [List.length_append, hl]
        rfl
      · intro d hdm
        rcases List.mem_append.mp hdm with h1 | h1
        · exact hc d h1
        · rw [List.mem_singleton.mp h1]
          exact abc_rng c hcm
      · rw [upd_same, List.map_append, List.map_append]
        rfl
      · exact (k3.trans k4).mut (k1.free hD) (Kt.ne k1.tp hD)
    · obtain ⟨cs, hl, hc, hd, k3⟩ := hP
      have hn : cs.length = n := by omega
      refine ⟨_, D, cs.map sg, rfl, rfl, .inl (SqL.of hd), ?_, q _ H3 (join0_V (by omega) (by omega) (by omega) hc) k3⟩
      have e0 : (PySem.Str.ofString "").length = 0 := by decide +kernel
      have e1 : ((cs.map sg).map (·.length)).sum = cs.length := by
        rw [List.map_map]
        clear hl hc hd hn
        induction cs with
        | nil => rfl
        | cons c r ih =>
          rw [List.map_cons, List.sum_cons, ih]
          show 1 + r.length = r.length + 1
          omega
      rw [e1, e0]
      omega
theorem ok_words4 {f fP : Addr} {fd fdP : FuncData} (B : Blt mg) (D_word_drawn : Df K mg "_law_word_drawn" s_word_drawn ["tape"] fP fdP) (G_word_drawn : FnOk P w K mg base CX0 3 fP fdP ["tape"] spWord4)
    (D : Df K mg "_law_words_drawn" s_words_drawn ["tape", "lots"] f fd) : FnOk P w K mg base CX0 4 f fd ["tape", "lots"] spWords4 := by
  refine D.F.ok sc_words_drawn (fun vs H Q E h => ?_) (fun cdv A outer s H vs Q E hr h => ?_)
  · obtain ⟨t, n, rfl, _⟩ := h
    rfl
  · obtain ⟨t, n, rfl, hT, h0, h25, q⟩ := h
    refine ⟨_, (pss_cons (ps_set (i := 2) sc_words_drawn.nd rfl (Or.inr rfl) (pe_lst pa_nil))
    (pss_cons (ps_for PassesOwn.never rfl (pi_range1 (by rfl) B.range (pa_cons (pv 1) pa_nil)) (pg_name (i := 3) sc_words_drawn.nd rfl (Or.inl rfl))
    (pss_cons (ps_set (i := 4) sc_words_drawn.nd rfl (Or.inl rfl) (pe_call G_word_drawn (hr.mono (by decide)) (by rfl) D_word_drawn.g D_word_drawn.F.kp D_word_drawn.b .nil pass0 (pa_cons (pv 0) pa_nil)))
    (pss_cons (ps_setLc (i := 5) (own := [("sign", 6)]) (g := gName 6)  (by rfl) sc_words_drawn.nd rfl rfl (sw_true rfl rfl rfl (by decide +kernel)) (pi_str pe_str) (blkOk_by (N := ["tape", "lots", "found", "turn", "word", "left", "sign"]) (sc := defScope s_words_drawn) (by decide +kernel)) (fun _ _ _ _ _ => (pg_name (i := 6) sc_words_drawn.nd rfl (Or.inl rfl))) (fun _ _ _ _ _ => pts_one (pt_cmpR (op_notIn_seqK K rfl) (pv 6) (pv 2) (by rfl))) (fun _ _ _ _ _ => (pv 6)))
    (pss_one (ps_expr (pe_bm PySem.F.plainAttrs_list PySem.F.slot_list_append PySem.F.type_list_append mt_append (pv 2) (pa_cons (pe_ifExp (pt_cmpR op_notIn_seq (pv 4) (pv 2) (by rfl)) (pv 4) (pe_ix ix_list (pv 5) pe_int (fun _ _ => rfl))) pa_nil)))))))
    (pss_one (ps_ret (pv 2))))), ?_⟩
    refine ⟨Nat.zero_le _, fun F hF => ?_⟩
    have kF : Kt t H (upd H F (.lst [])) := Kt.new hT hF
    have nFt : F ≠ t := Kt.ne hT hF
    refine ⟨_, rfl, n, rfl, by omega, by omega, ?_⟩
    refine for_range (lo := 0) (n := n.toNat) (fun i σ H3 => ∃ (ws : List Str) (a3 a4 a5 : Option V), σ = [some (.ref t), some (.int n), some (.ref F), a3, a4, a5, none] ∧ ws.length = i ∧ (∀ x ∈ ws, isV x = true) ∧ ws.Nodup ∧ H3 F = some (.lst (ws.map V.str)) ∧ Kt t H H3)
      ⟨[], none, none, none, rfl, rfl, by simp, List.nodup_nil, upd_same, kF⟩ (fun i σ H3 hi hP => ?_) (fun σ H3 hP => ?_)
    · obtain ⟨ws, a3, a4, a5, rfl, hl, hw, hnd, hf, k3⟩ := hP
      refine ⟨_, rfl, t, rfl, k3.tp, fun x H4 hx k4 => ?_⟩
      have f4 := k4.strs k3.tp hf
      have k4' : Kt t H H4 := k3.trans k4
      refine ⟨_, rfl, fun D hD => ?_⟩
      refine lc_it (J := Its abc) walk_str (fun j H5 => Same H4 H5 ∧ H5 D = some (.lst (((((TL.tl abc).take j).map sg).filter (fun s => decide (s ∉ ws))).map V.str))) ⟨gSame_new hD, upd_same⟩ (fun _ _ _ _ => trivial) (fun j y H5 H5' hj hP hy => ?_) (fun H5 hP => ?_)
      · obtain ⟨s5, d5⟩ := hP
        obtain ⟨rfl, c, hc, rfl⟩ := hy
        have hcl : (TL.tl abc)[j]? = some c := by
          show abc.cps.toList[j]? = some c
          rw [Array.getElem?_toList]
          exact hc
        have tk : ((TL.tl abc).take (j + 1)).map sg = ((TL.tl abc).take j).map sg ++ [sg c] := by
          rw [List.take_add_one, hcl, List.map_append]
          rfl
        refine ⟨rfl, _, rfl, _, rfl, F, _, rfl, .inl (SqL.of (s5 _ _ f4)), rfl, flat_strs ws, _, rfl, ?_⟩
        rw [inV_strs]
        refine ite2 (fun hin => ?_) (fun hin => ?_)
        · have hin' : sg c ∉ ws := fun z => by
            have h : (!decide (sg c ∈ ws)) = true := hin
            rw [decide_eq_true z] at h
            cases h
          refine ⟨_, rfl, _, d5, ?_, gSame_mut s5 hD, ?_⟩
          · rw [List.length_map]
            refine small1000 (Nat.le_trans (List.length_filter_le _ _) ?_)
            rw [List.length_map, List.length_take, abc_len]
            omega
          · rw [upd_same, tk, List.filter_append, List.map_append]
            have e : [sg c].filter (fun s => decide (s ∉ ws)) = [sg c] := by simp [hin']
            rw [e]
            rfl
        · have hin' : sg c ∈ ws := Classical.byContradiction fun z => hin (by
            show (!decide (sg c ∈ ws)) = true
            rw [decide_eq_false z]
            rfl)
          refine ⟨s5, ?_⟩
          have e : [sg c].filter (fun s => decide (s ∉ ws)) = [] := by simp [hin']
          rw [tk, List.filter_append, e, List.append_nil]
          exact d5
      · obtain ⟨s5, d5⟩ := hP
        have hsz : abc.cps.size = 26 := by decide +kernel
        have tk : (TL.tl abc).take abc.cps.size = TL.tl abc := List.take_of_length_le (by rw [abc_len, hsz]; exact Nat.le_refl _)
        rw [tk] at d5
        have k5 : Kt t H H5 := k4'.trans (Kt.same k4'.tp s5)
        have f5 := s5 _ _ f4
        have hw26 : ws.length < 26 := by omega
        -- found.append(..)
        refine ⟨_, rfl, .inl ⟨rfl, _, SqL.of f5⟩, ?_⟩
        refine ⟨_, rfl, _, rfl, F, _, rfl, .inl (SqL.of f5), rfl, flat_strs ws, _, rfl, ?_⟩
        rw [inV_strs]
        have fin : ∀ y : Str, isV y = true → y ∉ ws → rAppend (.ref F) [.str y] H5 fun _ H1 => ∃ (ws : List Str) (b3 b4 b5 : Option V), [some (V.ref t), some (.int n), some (.ref F), some (.int (0 + i)), some (.str x), some (.ref D), none] = [some (.ref t), some (.int n), some (.ref F), b3, b4, b5, none] ∧ ws.length = i + 1 ∧ (∀ x ∈ ws, isV x = true) ∧ ws.Nodup ∧ H1 F = some (.lst (ws.map V.str)) ∧ Kt t H H1 := by
          intro y hy hn
          refine ⟨F, _, _, rfl, rfl, f5, ?_, ws ++ [y], _, _, _, rfl, ?_, ?_, ?_, ?_, ?_⟩
          · rw [List.length_map]
            exact small1000 (by omega)
          · rw [List.length_append, hl]
            rfl
          · intro z hz
            rcases List.mem_append.mp hz with h | h
            · exact hw z h
            · rw [List.mem_singleton.mp h]
              exact hy
          · rw [List.nodup_append]
            refine ⟨hnd, by simp, fun a ha b hb => ?_⟩
            rw [List.mem_singleton.mp hb]
            exact fun e => hn (e ▸ ha)
          · rw [upd_same, List.map_append]
            rfl
          · exact k5.mut hF nFt
        refine ite2 (fun hin => ?_) (fun hin => ?_)
        · have hin' : x ∉ ws := fun z => by
            have h : (!decide (x ∈ ws)) = true := hin
            rw [decide_eq_true z] at h
            cases h
          exact ⟨_, rfl, fin x hx hin'⟩
        · obtain ⟨y, r, hy⟩ : ∃ y r, ((TL.tl abc).map sg).filter (fun s => decide (s ∉ ws)) = y :: r := List.exists_cons_of_ne_nil (left_ne hw26)
          have hm : y ∈ ((TL.tl abc).map sg).filter (fun s => decide (s ∉ ws)) := by
            rw [hy]
            exact List.mem_cons_self ..
          obtain ⟨h1, h2⟩ := List.mem_filter.mp hm
          obtain ⟨c, hc, rfl⟩ := List.mem_map.mp h1
          rw [hy] at d5
          refine ⟨_, rfl, D, _, 0, .str (sg c), rfl, rfl, SqL.of d5, atI_nat (j := 0) rfl, fin (sg c) (sg_V (abc_rng c hc)) (of_decide_eq_true h2)⟩
    · obtain ⟨ws, a3, a4, a5, rfl, hl, hw, hnd, hf, k3⟩ := hP
      exact ⟨_, rfl, q F ws H3 hl hw hnd hF hf k3⟩
end
end Gk

set_option Elab.async false
set_option linter.all false
set_option maxRecDepth 100000
set_option maxHeartbeats 8000000
namespace Gk
open PySem PySem.Spec PyProof.Rows L2
abbrev s_action_line : Stmt := topS 22
theorem sc_action_line : FnScope ["called", "moves", "move"] ["called", "moves"] (defScope s_action_line) := ⟨rfl, rfl, rfl, by decide +kernel, rfl, by decide +kernel, by decide +kernel⟩
abbrev s_moves_drawn : Stmt := topS 23
theorem sc_moves_drawn : FnScope ["tape", "owners", "states", "found", "turn", "move"] ["tape"] (defScope s_moves_drawn) := ⟨rfl, rfl, rfl, by decide +kernel, rfl, by decide +kernel, by decide +kernel⟩
theorem _root_.L2.Kt.ty {K : PySem.W.Frag} {t : Addr} {H H' : Hp} {x : V} (k : Kt t H H') (hT : Tp H t) (h : TyX K H x (.type "tuple")) : TyX K H' x (.type "tuple") := by
  obtain ⟨a, b, c, q⟩ := hT
  generalize ht : Value.type "tuple" = u at h
  cases h with
  | base b =>
    cases b with
    | tup e =>
      rw [← ht]
      exact .base (.tup (k.kp _ _ (fun z => by subst z; rw [q] at e; cases e) e))
    | _ => first | exact absurd ht (by decide) | (injection ht with q; exact absurd q (by decide)) | cases ht
  | kTuple e c =>
    rw [← ht]
    exact .kTuple e c
  | fTuple e =>
    rw [← ht]
    exact .fTuple (k.kp _ _ (fun z => by subst z; rw [q] at e; cases e) e)
  | _ => first | exact absurd ht (by decide) | (injection ht with q; exact absurd q (by decide)) | cases ht
theorem _root_.L2.Kt.mvR {K : PySem.W.Frag} {t : Addr} {H H' : Hp} {x : V} {m : Mv} (k : Kt t H H') (hT : Tp H t) (h : MvR K H x m) : MvR K H' x m := by
  obtain ⟨b, rfl, h1, h2⟩ := h
  exact ⟨b, rfl, k.sqT hT h1, k.ty hT h2⟩
theorem perm_pickV {α : Type} {ys xs ss : List α} {k : Nat} {x : α} (h : (ys ++ xs).Perm ss) (hk : xs[k]? = some x) : ((ys ++ [x]) ++ xs.eraseIdx k).Perm ss := by
  refine List.Perm.trans ?_ h
  rw [List.append_assoc]
  exact List.Perm.append_left ys (erase_perm _ _ _ hk)
/-- few of any items -/
def spFewV (K : PySem.W.Frag) : Sp := fun vs H Q _ => ∃ (t a : Addr) (xs : List V) (many : Int), vs = [.ref t, .ref a, .int many] ∧ Tp H t ∧ a ≠ t ∧ SqL K H a xs ∧ xs.length ≤ 1000 ∧ 0 ≤ many ∧
  ∀ (p : Addr) (ys rest : List V) (H' : Hp), (ys ++ rest).Perm xs → ys.length = min many.toNat xs.length → H p = none → H' p = some (.lst ys) → Kt t H H' → Q (.ref p) H'
def spLine (K : PySem.W.Frag) : Sp := fun vs H Q _ => ∃ (c : Str) (l : Addr) (xs : List V) (ms : List Mv), vs = [.str c, .ref l] ∧ isW c = true ∧ SqL K H l xs ∧ Paired (MvR K H) xs ms ∧ ms.length ≤ 4 ∧ OkMv ms ∧ ∀ H', Same H H' → Q (.str (liA c (sortM ms))) H'
def spMvsD (K : PySem.W.Frag) : Sp := fun vs H Q _ => ∃ t : Addr, vs = [.ref t] ∧ Tp H t ∧ ∀ (p : Addr) (ys : List V) (ms : List Mv) (H' : Hp), H' p = some (.lst ys) → p ≠ t → Paired (MvR K H') ys ms → 1 ≤ ms.length → ms.length ≤ 4 → OkMv ms → (∀ m ∈ ms, m.2.2.length ≠ 4) → Kt t H H' → Q (.ref p) H'
section
variable {P : Program} {w : World} {K : PySem.W.Frag} {mg : Str → Option Value} {base : Heap}
theorem ok_fewV {f fR : Addr} {fd fdR : FuncData} (B : Blt mg) (D_roll : Df K mg "_law_roll" s_roll ["tape", "total"] fR fdR) (G_roll : FnOk P w K mg base CX0 1 fR fdR ["tape", "total"] spRoll) (D : Df K mg "_law_few" s_few ["tape", "items", "many"] f fd) : FnOk P w K mg base CX0 2 f fd ["tape", "items", "many"] (spFewV K) := by
  refine D.F.ok sc_few (fun vs H Q E h => ?_) (fun cdv A outer s H vs Q E hr h => ?_)
  · obtain ⟨t, a, xs, many, rfl, _⟩ := h
    rfl
  · obtain ⟨t, a, xs, many, rfl, hT, hat, hS, hlen, hm0, q⟩ := h
    refine ⟨_, (pss_cons (ps_par (i := 3) (j := 4) (by rfl) sc_few.nd rfl rfl (by decide) rfl rfl (pa_cons (pe_callTy call_list_of (by rfl) B.list_ (by decide +kernel) (pa_cons (pv 1) pa_nil)) (pa_cons (pe_lst pa_nil) pa_nil)) (by rfl))
    (pss_cons (ps_while PassesOwn.never (PW.pt (pw_and (pt_cmpR (op_neE hr.units) (pv 3) (pe_lst pa_nil) (nomark _)) (pw_and1 (pt_cmpR op_lt (pe_callB call_len_seq (by rfl) B.len_ (by decide +kernel) (pa_cons (pv 4) pa_nil)) (pv 2) (nomark _)))))
    (pss_one (ps_expr (pe_bm PySem.F.plainAttrs_list PySem.F.slot_list_append PySem.F.type_list_append mt_append (pv 4) (pa_cons (pe_bm PySem.F.plainAttrs_list PySem.F.slot_list_pop PySem.F.type_list_pop mt_popAt (pv 3) (pa_cons (pe_call G_roll (hr.mono (by decide)) (by rfl) D_roll.g D_roll.F.kp D_roll.b .nil pass0 (pa_cons (pv 0) (pa_cons (pe_callB call_len_seq (by rfl) B.len_ (by decide +kernel) (pa_cons (pv 3) pa_nil)) pa_nil))) pa_nil)) pa_nil)))))
    (pss_one (ps_ret (pv 4))))), ?_⟩
    refine ⟨_, rfl, a, _, rfl, .inl hS, fun l hl => ⟨Nat.zero_le _, fun e he => ⟨_, _, rfl, ?_⟩⟩⟩
    have nlt : l ≠ t := Kt.ne hT hl
    have nel : e ≠ l := fun z => by
      rw [z, upd_same] at he
      cases he
    have hen : H e = none := by
      rw [upd_ne nel] at he
      exact he
    have net : e ≠ t := Kt.ne hT hen
    refine ⟨fun m σ H3 => ∃ left found : List V, m = left.length ∧ σ = [some (.ref t), some (.ref a), some (.int many), some (.ref l), some (.ref e)] ∧ H3 l = some (.lst left) ∧ H3 e = some (.lst found) ∧
      (found ++ left).Perm xs ∧ found.length ≤ many.toNat ∧ Kt t H H3, ⟨xs.length, xs, [], rfl, rfl, ?_, ?_, List.Perm.refl _, Nat.zero_le _, ?_⟩, fun m σ H3 hW => ?_⟩
    · rw [upd_ne nel.symm, upd_same]
    · rw [upd_same]
    · exact ((Kt.new hT hl).mut hen net)
    · obtain ⟨left, found, rfl, rfl, el, ef, pm, hf, kt⟩ := hW
      have hle : left.length + found.length = xs.length := by
        have := pm.length_eq
        rw [List.length_append] at this
        omega
      have fin : ∀ H4, H4 e = some (.lst found) → Kt t H H4 → found.length = min many.toNat xs.length → Q (.ref e) H4 := fun H4 e4 k4 hm => q e found left H4 pm hm hen e4 k4
      refine ⟨_, rfl, Nat.zero_le _, fun z hz => ⟨l, z, left, rfl, rfl, SqL.of (by rw [upd_ne (ne_of_none el hz)]; exact el), SqL.of upd_same, _, rfl, ?_⟩⟩
      have kz : Kt t H3 (upd H3 z (.lst [])) := Kt.new kt.tp hz
      have ez : (upd H3 z (.lst [])) e = some (.lst found) := by
        rw [upd_ne (ne_of_none ef hz)]
        exact ef
      have lz : (upd H3 z (.lst [])) l = some (.lst left) := by
        rw [upd_ne (ne_of_none el hz)]
        exact el
      generalize upd H3 z (.lst []) = H4 at kz ez lz
      have k4 : Kt t H H4 := kt.trans kz
      by_cases hn : left = []
      · subst hn
        refine ⟨_, rfl, fin _ ez k4 ?_⟩
        have hle' : found.length = xs.length := by simpa using hle
        omega
      · have hpos : 0 < left.length := List.length_pos_iff.mpr hn
        have hb : (!left.isEmpty) = true := by
          cases left with
          | nil => exact absurd rfl hn
          | cons _ _ => rfl
        rw [hb]
        refine ⟨_, rfl, e, _, rfl, .inl (SqL.of ez), _, rfl, _, _, rfl, rfl, _, rfl, ite2 (fun hlt => ?_) (fun hge => ?_)⟩
        · have hlt' : found.length < many.toNat := by
            have := of_decide_eq_true hlt
            omega
          refine ⟨_, fun _ _ h => h, ?_⟩
          refine ⟨_, rfl, .inl ⟨rfl, _, SqL.of ez⟩, _, rfl, .inl ⟨rfl, _, SqL.of lz⟩, _, rfl, _, rfl, l, _, rfl, .inl (SqL.of lz), t, _, rfl, k4.tp, by omega, by omega, fun r H5 r0 r1 k5 => ?_⟩
          have l5 := k5.kp _ _ nlt lz
          have e5 := k5.kp _ _ net ez
          have hk : r.toNat < left.length := by omega
          refine ⟨l, _, r, r.toNat, left[r.toNat], rfl, rfl, l5, by omega, by omega, seqIx r0 r1, List.getElem?_eq_getElem hk, ?_⟩
          refine ⟨e, _, _, rfl, rfl, by rw [upd_ne nel]; exact e5, small1000 (by omega), ?_⟩
          have hx : left[r.toNat]? = some left[r.toNat] := List.getElem?_eq_getElem hk
          refine ⟨left.length - 1, by omega, left.eraseIdx r.toNat, found ++ [left[r.toNat]], ?_, rfl, ?_, upd_same, perm_pickV pm hx, ?_, ?_⟩
          · rw [List.length_eraseIdx]
            split <;> omega
          · rw [upd_ne nel.symm, upd_same]
          · rw [List.length_append]
            show found.length + 1 ≤ many.toNat
            omega
          · exact (((k4.trans k5).mut hl nlt).mut hen net)
        · have hge' : ¬ found.length < many.toNat := fun z => hge (decide_eq_true (by omega))
          exact ⟨_, rfl, fin _ ez k4 (by omega)⟩
theorem ok_action_line {f : Addr} {fd : FuncData} (B : Blt mg) (D : Df K mg "_law_action_line" s_action_line ["called", "moves"] f fd) : FnOk P w K mg base CX0 1 f fd ["called", "moves"] (spLine K) := by
  refine D.F.ok sc_action_line (fun vs H Q E h => ?_) (fun cdv A outer s H vs Q E hr h => ?_)
  · obtain ⟨c, l, xs, ms, rfl, _⟩ := h
    rfl
  · obtain ⟨c, l, xs, ms, rfl, hc, hs, hp, hl, hw, q⟩ := h
    refine ⟨_, (pss_one (ps_ret (pe_op op_add_str (pe_op op_add_str (pv 0) pe_str) (pe_join pe_str (pe_lc (own := [("move", 2)]) (g := gName 2) (tt := tYes) (by rfl) sc_action_line.nd (pi_list (pe_callB (cr_sortM hr) (by rfl) B.sorted_ (by decide +kernel) (pa_cons (pv 1) pa_nil))) (blkOk_by (N := ["called", "moves", "move"]) (sc := defScope s_action_line) (by decide +kernel)) (fun _ _ _ _ _ => (pg_name (i := 2) sc_action_line.nd rfl (Or.inl rfl))) (fun _ _ _ _ _ => pts_nil) (fun _ _ _ _ _ => (pe_joinK K rfl pe_str (pv 2)))))))), ?_⟩
    have l1 : (Str.ofString " ").length = 1 := by decide +kernel
    have l2 : (Str.ofString ", ").length = 2 := by decide +kernel
    have lc := (isW_len hc).2
    have sl : ∀ n : Nat, n ≤ 100000 → n ≤ sizeLine := fun n hn => by rw [sizeLine_eq]; omega
    refine ⟨_, rfl, c, _, rfl, rfl, sl _ (by rw [l1]; omega), ⟨_, rfl⟩, _, rfl, l, xs, ms, rfl, .inl hs, hp, by omega, fun ys py D0 H1 n1 e1 s1 => ⟨D0, rfl, ⟨ys, SqL.of e1⟩, fun D hD => ?_⟩⟩
    have hw' : OkMv (sortM ms) := fun m hm => hw m (sortM_mem.mp hm)
    have hl' : (sortM ms).length ≤ 4 := by rw [sortM_len]; exact hl
    generalize hns : sortM ms = ns at *
    refine lc_list (K := K) (a := D0) (xs := ys) (fun j H5 => Same H1 H5 ∧ H5 D = some (.lst (((ns.take j).map fun m => jn (wds m)).map V.str))) ⟨gSame_new hD, upd_same⟩ (fun j H5 _ h5 => SqL.of (h5.1 _ _ e1)) (fun j x H5 hx h5 => ?_) (fun H5 h5 => ?_)
    · obtain ⟨s5, d5⟩ := h5
      obtain ⟨m, hm, mr⟩ := paired_get py hx
      obtain ⟨b, rfl, m1, m2⟩ := mr.same (s1.trans s5)
      have hmm : m ∈ ns := List.mem_of_getElem? hm
      refine ⟨rfl, ⟨_, rfl⟩, _, rfl, _, b, wds m, rfl, rfl, .inr m1, ?_, _, d5, ?_, gSame_mut s5 hD, ?_⟩
      · have h1 := sum_le4 (wds m) 8 fun s hs => (isW_len (hw' m hmm s hs)).2
        have h3 : (wds m).length = 3 := rfl
        rw [l1, h3]
        rw [h3] at h1
        omega
      · rw [List.length_map, List.length_map, List.length_take]
        exact small1000 (by omega)
      · rw [upd_same, List.take_add_one, hm, List.map_append, List.map_append]
        rfl
    · obtain ⟨s5, d5⟩ := h5
      have e : ns.take ys.length = ns := List.take_of_length_le (Nat.le_of_eq py.length.symm)
      rw [e] at d5
      have lw := wrM_len hl' hw'
      refine ⟨_, D, ns.map fun m => jn (wds m), rfl, rfl, .inl (SqL.of d5), ?_, _, _, rfl, rfl, sl _ ?_, q H5 (s1.trans s5)⟩
      · have h1 := sum_le4 (ns.map fun m => jn (wds m)) 27 fun s hs => by
          obtain ⟨m, hm, rfl⟩ := List.mem_map.mp hs
          exact wds_len (hw' m hm)
        rw [List.length_map] at h1
        rw [l2, List.length_map]
        omega
      · rw [Str.length_append, l1]
        show c.length + 1 + (wrM ns).length ≤ _
        omega
theorem ok_moves_drawn {f fR fP fW : Addr} {fd fdR fdP fdW : FuncData} (B : Blt mg) (D_roll : Df K mg "_law_roll" s_roll ["tape", "total"] fR fdR) (G_roll : FnOk P w K mg base CX0 1 fR fdR ["tape", "total"] spRoll) (D_pick : Df K mg "_law_pick" s_pick ["tape", "items"] fP fdP) (G_pick : FnOk P w K mg base CX0 2 fP fdP ["tape", "items"] (spPick K))
    (D_words_drawn : Df K mg "_law_words_drawn" s_words_drawn ["tape", "lots"] fW fdW) (G_words_drawn : FnOk P w K mg base CX0 4 fW fdW ["tape", "lots"] spWords4) (D : Df K mg "_law_moves_drawn" s_moves_drawn ["tape"] f fd) : FnOk P w K mg base CX0 5 f fd ["tape"] (spMvsD K) := by
  refine D.F.ok sc_moves_drawn (fun vs H Q E h => ?_) (fun cdv A outer s H vs Q E hr h => ?_)
  · obtain ⟨t, rfl, _⟩ := h
    rfl
  · obtain ⟨t, rfl, hT, q⟩ := h
    refine ⟨_, (pss_cons (ps_par (i := 1) (j := 2) (by rfl) sc_moves_drawn.nd rfl rfl (by decide) rfl rfl (pa_cons (pe_call G_words_drawn (hr.mono (by decide)) (by rfl) D_words_drawn.g D_words_drawn.F.kp D_words_drawn.b .nil pass0 (pa_cons (pv 0) (pa_cons (pe_op op_add pe_int (pe_call G_roll (hr.mono (by decide)) (by rfl) D_roll.g D_roll.F.kp D_roll.b .nil pass0 (pa_cons (pv 0) (pa_cons pe_int pa_nil)))) pa_nil))) (pa_cons (pe_call G_words_drawn (hr.mono (by decide)) (by rfl) D_words_drawn.g D_words_drawn.F.kp D_words_drawn.b .nil pass0 (pa_cons (pv 0) (pa_cons pe_int pa_nil))) pa_nil)) (by rfl))
    (pss_cons (ps_set (i := 3) sc_moves_drawn.nd rfl (Or.inl rfl) (pe_lstN pa_nil))
    (pss_cons (ps_for PassesOwn.never rfl (pi_range1 (by rfl) B.range (pa_cons (pe_op op_add pe_int (pe_call G_roll (hr.mono (by decide)) (by rfl) D_roll.g D_roll.F.kp D_roll.b .nil pass0 (pa_cons (pv 0) (pa_cons pe_int pa_nil)))) pa_nil)) (pg_name (i := 4) sc_moves_drawn.nd rfl (Or.inl rfl))
    (pss_cons (ps_set (i := 5) sc_moves_drawn.nd rfl (Or.inl rfl) (pe_tupN (pa_cons (pe_call G_pick (hr.mono (by decide)) (by rfl) D_pick.g D_pick.F.kp D_pick.b .nil pass0 (pa_cons (pv 0) (pa_cons (pv 1) pa_nil))) (pa_cons (pe_call G_pick (hr.mono (by decide)) (by rfl) D_pick.g D_pick.F.kp D_pick.b .nil pass0 (pa_cons (pv 0) (pa_cons (pv 2) pa_nil))) (pa_cons (pe_call G_pick (hr.mono (by decide)) (by rfl) D_pick.g D_pick.F.kp D_pick.b .nil pass0 (pa_cons (pv 0) (pa_cons (pv 2) pa_nil))) pa_nil)))))
    (pss_one (ps_expr (pe_bm PySem.F.plainAttrs_list PySem.F.slot_list_append PySem.F.type_list_append mt_append (pv 3) (pa_cons (pe_ifExp (PW.pt (pw_or (pt_cmpR (op_eqE hr.units) (pv 3) (pe_lstN pa_nil) (nomark _)) (pw_or1 (pt_cmpR op_gt (pe_call G_roll (hr.mono (by decide)) (by rfl) D_roll.g D_roll.F.kp D_roll.b .nil pass0 (pa_cons (pv 0) (pa_cons pe_int pa_nil))) pe_int (nomark _))))) (pv 5) (pe_ix ix_list (pv 3) (pe_un un_neg pe_int) (fun _ _ => rfl))) pa_nil))))))
    (pss_one (ps_ret (pv 3)))))), ?_⟩
    have sl : ∀ n : Nat, n ≤ 100000 → n ≤ sizeLine := fun n hn => by rw [sizeLine_eq]; omega
    refine ⟨_, rfl, _, rfl, t, 3, rfl, hT, by decide, by decide, fun r1 H1 a1 b1 k1 => ⟨1, r1, rfl, rfl, t, _, rfl, k1.tp, by omega, by omega, fun pO wo H2 lo ho' _ nO eO k2 => ?_⟩⟩
    refine ⟨_, rfl, t, 2, rfl, k2.tp, by decide, by decide, fun pS ws H3 lS hS' _ nS eS k3 => ⟨_, _, rfl, sl 0 (by decide), fun F H4 nF eF s4 => ?_⟩⟩
    have ho : ∀ x ∈ wo, isW x = true := fun x hx => isV_w (ho' x hx)
    have hS : ∀ x ∈ ws, isW x = true := fun x hx => isV_w (hS' x hx)
    have k4 : Kt t H H4 := ((k1.trans k2).trans k3).trans (Kt.same k3.tp s4)
    have nFt : F ≠ t := Kt.ne k3.tp nF
    have nOt : pO ≠ t := Kt.ne k1.tp nO
    have nSt : pS ≠ t := Kt.ne k2.tp nS
    have eO4 : H4 pO = some (.lst (wo.map V.str)) := s4 _ _ (k3.kp _ _ nOt eO)
    have eS4 : H4 pS = some (.lst (ws.map V.str)) := s4 _ _ eS
    have nFO : F ≠ pO := fun z => by
      rw [z, k3.kp _ _ nOt eO] at nF
      cases nF
    have nFS : F ≠ pS := fun z => by
      rw [z, eS] at nF
      cases nF
    have nFH : H F = none := ((k1.trans k2).trans k3).free nF
    refine ⟨_, rfl, t, 4, rfl, k4.tp, by decide, by decide, fun r5 H5 a5 b5 k5 => ⟨1, r5, rfl, rfl, _, rfl, by omega, by omega, ?_⟩⟩
    refine for_range (lo := 0) (n := (1 + r5).toNat) (fun i σ H6 => ∃ (ys : List V) (ms : List Mv) (x4 x5 : Option V), σ = [some (.ref t), some (.ref pO), some (.ref pS), some (.ref F), x4, x5] ∧ H6 F = some (.lst ys) ∧ Paired (MvR K H6) ys ms ∧ ms.length = i ∧ (OkMv ms ∧ ∀ m ∈ ms, m.2.2.length ≠ 4) ∧
      H6 pO = some (.lst (wo.map V.str)) ∧ H6 pS = some (.lst (ws.map V.str)) ∧ Kt t H H6)
      ⟨[], [], none, none, rfl, k5.kp _ _ nFt eF, .nil, rfl, ⟨by simp, by simp⟩, k5.kp _ _ nOt eO4, k5.kp _ _ nSt eS4, k4.trans k5⟩ (fun i σ H6 hi hP => ?_) (fun σ H6 hP => ?_)
    · obtain ⟨ys, ms, x4, x5, rfl, f6, p6, l6, ⟨w6, v6⟩, o6, s6, k6⟩ := hP
      have lwo : (wo.map V.str).length = (1 + r1).toNat := by rw [List.length_map]; exact lo
      have lws : (ws.map V.str).length = 2 := by rw [List.length_map]; exact lS
      refine ⟨_, rfl, _, rfl, t, _, _, rfl, k6.tp, .inl ⟨pO, rfl, nOt, .inl (SqL.of o6)⟩, by omega, by omega, fun y1 H7 m1 k7 => ?_⟩
      have s7 := k7.kp _ _ nSt s6
      refine ⟨_, rfl, _, rfl, t, _, _, rfl, k7.tp, .inl ⟨pS, rfl, nSt, .inl (SqL.of s7)⟩, by omega, by omega, fun y2 H8 m2 k8 => ?_⟩
      have s8 := k8.kp _ _ nSt s7
      refine ⟨_, rfl, _, rfl, t, _, _, rfl, k8.tp, .inl ⟨pS, rfl, nSt, .inl (SqL.of s8)⟩, by omega, by omega, fun y3 H9 m3 k9 => ?_⟩
      obtain ⟨w1, h1, rfl⟩ := List.mem_map.mp m1
      obtain ⟨w2, h2, rfl⟩ := List.mem_map.mp m2
      obtain ⟨w3, h3, rfl⟩ := List.mem_map.mp m3
      have k69 : Kt t H6 H9 := (k7.trans k8).trans k9
      refine ⟨sl 3 (by decide), fun T HA nT eT sA => ?_⟩
      have kA : Kt t H6 HA := k69.trans (Kt.same k69.tp sA)
      have mT : MvR K HA (.ref T) (w1, w2, w3) := ⟨T, rfl, .inl (.inl eT), .base (.tup eT)⟩
      have okT : ∀ s ∈ wds (w1, w2, w3), isW s = true := fun s hs => by
        simp only [wds, List.mem_cons, List.not_mem_nil, or_false] at hs
        rcases hs with rfl | rfl | rfl
        · exact ho _ h1
        · exact hS _ h2
        · exact hS _ h3
      have ok4 : ((w1, w2, w3) : Mv).2.2.length ≠ 4 := isV_4 (hS' _ h3)
      have pA : Paired (MvR K HA) ys ms := paired_mono (fun _ _ h => kA.mvR k6.tp h) p6
      have fA := kA.kp _ _ nFt f6
      have oA := kA.kp _ _ nOt o6
      have sA' := kA.kp _ _ nSt s6
      have kHA : Kt t H HA := k6.trans kA
      have fin : ∀ (y : V) (m : Mv) (HB : Hp) (x4 x5 : Option V), Kt t HA HB → MvR K HA y m → (∀ s ∈ wds m, isW s = true) → m.2.2.length ≠ 4 → ∃ (ys' : List V) (ms' : List Mv) (x4' x5' : Option V), [some (V.ref t), some (.ref pO), some (.ref pS), some (.ref F), x4, x5] = [some (.ref t), some (.ref pO), some (.ref pS), some (.ref F), x4', x5'] ∧ (upd HB F (.lst (ys ++ [y]))) F = some (.lst ys') ∧ Paired (MvR K (upd HB F (.lst (ys ++ [y])))) ys' ms' ∧ ms'.length = i + 1 ∧ (OkMv ms' ∧ ∀ m ∈ ms', m.2.2.length ≠ 4) ∧
          (upd HB F (.lst (ys ++ [y]))) pO = some (.lst (wo.map V.str)) ∧ (upd HB F (.lst (ys ++ [y]))) pS = some (.lst (ws.map V.str)) ∧ Kt t H (upd HB F (.lst (ys ++ [y]))) := fun y m HB x4 x5 kB my hm hm4 => by
        have fB := kB.kp _ _ nFt fA
        have bt : ∀ {x : V} {m : Mv}, MvR K HA x m → MvR K (upd HB F (.lst (ys ++ [y]))) x m := fun {x m} h => by
          obtain ⟨b, rfl, g1, g2⟩ := kB.mvR kHA.tp h
          have kk : ∀ b o, b ≠ F → HB b = some o → (upd HB F (.lst (ys ++ [y]))) b = some o := fun b o n e => by rw [upd_ne n]; exact e
          refine ⟨b, rfl, ?_, ?_⟩
          · rcases g1 with (g | ⟨o, g⟩) | g
            · exact .inl (.inl (kk _ _ (fun z => by subst z; rw [fB] at g; cases g) g))
            · exact .inl (.inr ⟨o, kk _ _ (fun z => by subst z; rw [fB] at g; cases g) g⟩)
            · exact .inr g
          · generalize ht : Value.type "tuple" = u at g2
            cases g2 with
            | base b =>
              cases b with
              | tup e =>
                rw [← ht]
                exact .base (.tup (kk _ _ (fun z => by subst z; rw [fB] at e; cases e) e))
              | _ => first | exact absurd ht (by decide) | (injection ht with q; exact absurd q (by decide)) | cases ht
            | kTuple e c =>
              rw [← ht]
              exact .kTuple e c
            | fTuple e =>
              rw [← ht]
              exact .fTuple (kk _ _ (fun z => by subst z; rw [fB] at e; cases e) e)
            | _ => first | exact absurd ht (by decide) | (injection ht with q; exact absurd q (by decide)) | cases ht
        refine ⟨_, ms ++ [m], x4, x5, rfl, upd_same, paired_snoc (bt my) (paired_mono (fun _ _ h => bt h) pA), by rw [List.length_append]; show ms.length + 1 = i + 1; omega, ⟨fun m' hm' => ?_, fun m' hm' => ?_⟩, by rw [upd_ne nFO.symm]; exact kB.kp _ _ nOt oA, by rw [upd_ne nFS.symm]; exact kB.kp _ _ nSt sA', (kHA.trans kB).mut nFH nFt⟩
        · rcases List.mem_append.mp hm' with h | h
          · exact w6 m' h
          · rw [List.mem_singleton.mp h]
            exact hm
        · rcases List.mem_append.mp hm' with h | h
          · exact v6 m' h
          · rw [List.mem_singleton.mp h]
            exact hm4
      have ly : ys.length < sizeLine := by
        have := p6.length
        exact small1000 (by omega)
      refine ⟨_, rfl, .inl ⟨rfl, _, SqL.of fA⟩, _, rfl, sl 0 (by decide), fun Z HB nZ eZ sB => ⟨F, Z, ys, rfl, rfl, SqL.of (sB _ _ fA), SqL.of eZ, _, rfl, ?_⟩⟩
      have kB : Kt t HA HB := Kt.same kHA.tp sB
      have fB := sB _ _ fA
      by_cases he : ys.isEmpty = true
      · rw [he]
        exact ⟨_, rfl, F, ys, .ref T, rfl, rfl, fB, ly, fin _ (w1, w2, w3) HB _ _ kB mT okT ok4⟩
      · rw [Bool.not_eq_true] at he
        rw [he]
        refine ⟨_, rfl, t, 4, rfl, kB.tp, by decide, by decide, fun r6 HC a6 b6 k6' => ⟨r6, 0, rfl, rfl, _, rfl, ite2 (fun _ => ?_) (fun _ => ?_)⟩⟩
        · exact ⟨_, rfl, F, ys, .ref T, rfl, rfl, k6'.kp _ _ nFt fB, ly, fin _ (w1, w2, w3) HC _ _ (kB.trans k6') mT okT ok4⟩
        · obtain ⟨ys0, yl, rfl⟩ : ∃ ys0 yl, ys = ys0 ++ [yl] := by
            refine ⟨ys.dropLast, ys.getLast (fun z => ?_), (List.dropLast_concat_getLast _).symm⟩
            rw [z] at he
            cases he
          obtain ⟨m, hm, mr⟩ := paired_at pA yl (List.mem_append_right _ (List.mem_singleton.mpr rfl))
          refine ⟨_, rfl, 1, rfl, F, _, _, yl, rfl, rfl, SqL.of (k6'.kp _ _ nFt fB), atI_last ys0 yl, ?_⟩
          exact ⟨F, _, yl, rfl, rfl, k6'.kp _ _ nFt fB, ly, fin _ m HC _ _ (kB.trans k6') mr (w6 m hm) (v6 m hm)⟩
    · obtain ⟨ys, ms, x4, x5, rfl, f6, p6, l6, ⟨w6, v6⟩, o6, s6, k6⟩ := hP
      exact ⟨_, rfl, q F ys ms H6 f6 nFt p6 (by omega) (by omega) w6 v6 k6⟩
end
end Gk

set_option Elab.async false
set_option linter.all false
set_option maxRecDepth 100000
set_option maxHeartbeats 16000000
namespace Gk
open PySem PySem.Spec PyProof.Rows L2
abbrev s_wrong_line : Stmt := topS 25
theorem sc_wrong_line : FnScope ["tape", "called", "moves", "line", "parts", "odd", "turned", "move", "turn"] ["tape", "called", "moves"] (defScope s_wrong_line) := ⟨rfl, rfl, rfl, by decide +kernel, rfl, by decide +kernel, by decide +kernel⟩
/-- a text that is no line of an action -/
def LS (x : V) : Prop := ∃ z : Str, x = .str z ∧ z.length ≤ 90000 ∧ rdA z = none
theorem all_cons {R : V → Prop} {a : V} {r : List V} (h : R a) (t : ∀ y ∈ r, R y) : ∀ y ∈ a :: r, R y := fun y hy => by
  rcases List.mem_cons.mp hy with rfl | hy
  · exact h
  · exact t y hy
theorem all_nil {R : V → Prop} : ∀ y ∈ ([] : List V), R y := fun y hy => by cases hy
theorem all_app {R : V → Prop} {a b : List V} (h : ∀ y ∈ a, R y) (t : ∀ y ∈ b, R y) : ∀ y ∈ a ++ b, R y := fun y hy => (List.mem_append.mp hy).elim (h y) (t y)
theorem LS.app {z x : Str} (h : rdA (z ++ x) = none) (l1 : z.length ≤ 1000) (l2 : x.length ≤ 1000) : LS (.str (z ++ x)) := ⟨_, rfl, by rw [Str.length_append]; omega, h⟩
/-- no line of an action -/
def LnV (K : PySem.W.Frag) (H : Hp) (x : V) : Prop := (∃ z : Str, x = .str z ∧ z.length ≤ 90000 ∧ rdA z = none) ∨ (∃ t, TyX K H x t ∧ PySem.W.kitOne K t (.type "str") = some false)
def spWL (K : PySem.W.Frag) : Sp := fun vs H Q _ => ∃ (t l : Addr) (c : Str) (xs : List V) (ms : List Mv), vs = [.ref t, .str c, .ref l] ∧ Tp H t ∧ l ≠ t ∧ isW c = true ∧ H l = some (.lst xs) ∧ Paired (MvR K H) xs ms ∧ 1 ≤ ms.length ∧ ms.length ≤ 4 ∧ OkMv ms ∧ ∀ y H', LnV K H' y → Kt t H H' → Q y H'
section
variable {P : Program} {w : World} {K : PySem.W.Frag} {mg : Str → Option Value} {base : Heap}
theorem ok_wrong_line {f fP fA : Addr} {fd fdP fdA : FuncData} (B : Blt mg) (D_pick : Df K mg "_law_pick" s_pick ["tape", "items"] fP fdP) (G_pick : FnOk P w K mg base CX0 2 fP fdP ["tape", "items"] (spPick K))
    (D_action_line : Df K mg "_law_action_line" s_action_line ["called", "moves"] fA fdA) (G_action_line : FnOk P w K mg base CX0 1 fA fdA ["called", "moves"] (spLine K))
    (D : Df K mg "_law_wrong_line" s_wrong_line ["tape", "called", "moves"] f fd) : FnOk P w K mg base CX0 3 f fd ["tape", "called", "moves"] (spWL K) := by
  refine D.F.ok sc_wrong_line (fun vs H Q E h => ?_) (fun cdv A outer s H vs Q E hr h => ?_)
  · obtain ⟨t, l, c, xs, ms, rfl, _⟩ := h
    rfl
  · obtain ⟨t, l, c, xs, ms, rfl, hT, nlt, hc, hl, hp, l1, l4, hw, q⟩ := h
    refine ⟨_, (pss_cons (ps_par (i := 3) (j := 4) (by rfl) sc_wrong_line.nd rfl rfl (by decide) rfl rfl (pa_cons (pe_call G_action_line (hr.mono (by decide)) (by rfl) D_action_line.g D_action_line.F.kp D_action_line.b .nil pass0 (pa_cons (pv 1) (pa_cons (pv 2) pa_nil))) (pa_cons (pe_lc (own := [("move", 7)]) (g := gName 7) (tt := tYes) (by rfl) sc_wrong_line.nd (pi_list (pe_callB (cr_sortM hr) (by rfl) B.sorted_ (by decide +kernel) (pa_cons (pv 2) pa_nil))) (blkOk_by (N := ["tape", "called", "moves", "line", "parts", "odd", "turned", "move", "turn"]) (sc := defScope s_wrong_line) (by decide +kernel)) (fun _ _ _ _ _ => (pg_name (i := 7) sc_wrong_line.nd rfl (Or.inl rfl))) (fun _ _ _ _ _ => pts_nil) (fun _ _ _ _ _ => (pe_joinK K rfl pe_str (pv 7)))) pa_nil)) (by rfl))
    (pss_cons (ps_set (i := 5) sc_wrong_line.nd rfl (Or.inl rfl) (pe_lstN (pa_cons (pv 1) (pa_mark op_add_str (pv 1) (pat_cons (CwR.PET.of (pe_op op_add_str pe_str (pv 3))) (pat_cons (CwR.PET.of (pe_op op_add_str (pv 3) pe_str)) (pat_cons (CwR.PET.of (pe_op op_add_str (pv 3) pe_str)) (pat_cons (CwR.PET.of (pe_op op_add_str (pv 3) pe_str)) (pat_cons (CwR.pet_replC (pv 3)) (pat_of pa_nil))))))))))
    (pss_cons (ps_expr (pe_bm PySem.F.plainAttrs_list PySem.F.slot_list_append PySem.F.type_list_append mt_append (pv 5) (pa_cons (pe_op op_add_str pe_str (pv 3)) pa_nil)))
    (pss_cons (ps_set (i := 5) sc_wrong_line.nd rfl (Or.inl rfl) (pe_op op_catN (pv 5) (pe_lstN (pa_cons (pe_op op_add_str (pv 3) pe_str) (pa_cons (pe_upper (pv 3)) (pa_cons (pe_op op_add_str (pe_op op_add_str (pv 1) pe_str) (pe_join pe_str (pe_op op_catN (pv 4) (pe_lstN (pa_cons pe_str pa_nil))))) (pa_cons pe_str (pa_cons pe_non (pa_cons pe_int (pa_cons (pv 2) (pa_cons (pe_tupN (pa_cons (pv 3) pa_nil)) pa_nil)))))))))))
    (pss_cons (ps_set (i := 6) sc_wrong_line.nd rfl (Or.inl rfl) (pe_ifExp (pt_cmpR op_ne (pe_ix ix_list (pv 4) (pe_un un_neg pe_int) (fun _ _ => rfl)) pe_str (nomark _)) (pe_op op_catN (pv 4) (pe_lstN (pa_cons pe_str pa_nil))) (pe_op op_catN (pe_lstN (pa_cons pe_str pa_nil)) (pv 4))))
    (pss_cons (ps_set (i := 5) sc_wrong_line.nd rfl (Or.inl rfl) (pe_op op_catN (pv 5) (pe_lstN (pa_cons (pe_op op_add_str (pv 1) pe_str) (pa_cons (pe_op op_add_str (pe_op op_add_str (pv 1) pe_str) (pe_join pe_str (pv 6))) (pa_cons (pe_op op_add_str (pe_op op_add_str (pv 1) pe_str) (pe_join pe_str (pv 4))) pa_nil))))))
    (pss_one (ps_ret (pe_call G_pick (hr.mono (by decide)) (by rfl) D_pick.g D_pick.F.kp D_pick.b .nil pass0 (pa_cons (pv 0) (pa_cons (pe_op op_catN (pv 5) (pe_lstN (pa_cons (pe_op op_add_str (pe_op op_add_str (pv 1) pe_str) (pe_join pe_str (pe_lc (own := [("turn", 8)]) (g := gName 8) (tt := tYes) (by rfl) sc_wrong_line.nd (pi_range1 (by rfl) B.range (pa_cons pe_int pa_nil)) (blkOk_by (N := ["tape", "called", "moves", "line", "parts", "odd", "turned", "move", "turn"]) (sc := defScope s_wrong_line) (by decide +kernel)) (fun _ _ _ _ _ => (pg_name (i := 8) sc_wrong_line.nd rfl (Or.inl rfl))) (fun _ _ _ _ _ => pts_nil) (fun _ _ _ _ _ => pe_str)))) (pa_cons (pe_op op_add_str (pv 3) pe_str) (pa_cons (pe_lstN (pa_cons (pv 3) pa_nil)) pa_nil))))) pa_nil))))))))))), ?_⟩
    have sl : ∀ n : Nat, n ≤ 100000 → n ≤ sizeLine := fun n hn => by rw [sizeLine_eq]; omega
    have ll : ∀ a b : Str, a.length ≤ 1000 → b.length ≤ 1000 → a.length + b.length ≤ sizeLine := fun a b h1 h2 => sl _ (by omega)
    have lc8 := (isW_len hc).2
    have lc : c.length ≤ 1000 := by omega
    have hso := sortM_idem ms
    have hwn : OkMv (sortM ms) := fun m hm => hw m (sortM_mem.mp hm)
    have n1 : 1 ≤ (sortM ms).length := by rw [sortM_len]; exact l1
    have n4 : (sortM ms).length ≤ 4 := by rw [sortM_len]; exact l4
    refine ⟨_, rfl, _, rfl, c, l, xs, ms, rfl, hc, SqL.of hl, hp, l4, hw, fun H1 s1 => ?_⟩
    refine ⟨_, rfl, l, xs, ms, rfl, .inl (SqL.of (s1 _ _ hl)), paired_mono (fun _ _ h => h.same s1) hp, by omega, fun ys py D0 H2 nD0 e2 s2 => ⟨D0, rfl, ⟨ys, SqL.of e2⟩, fun D hD => ?_⟩⟩
    generalize sortM ms = ns at *
    have lr := wrM_len n4 hwn
    have q1 : (Str.ofString " ").length = 1 := by decide +kernel
    have lli : (liA c ns).length ≤ 209 := by
      unfold liA
      rw [Str.length_append, Str.length_append, q1]
      omega
    have lli' : (liA c ns).length ≤ 1000 := by omega
    have hne : ns ≠ [] := fun z => by
      rw [z] at n1
      simp at n1
    have lp : ∀ p ∈ ptsM ns, p.length ≤ 27 := fun p hp => by
      obtain ⟨m, hm, rfl⟩ := List.mem_map.mp hp
      exact wds_len (hwn m hm)
    have lpn : (ptsM ns).length = ns.length := List.length_map ..
    have hT2 : Kt t H H2 := Kt.same hT (s1.trans s2)
    refine lc_list (K := K) (a := D0) (xs := ys) (fun j H5 => Same H2 H5 ∧ H5 D = some (.lst (((ns.take j).map fun m => jn (wds m)).map V.str))) ⟨gSame_new hD, upd_same⟩ (fun j H5 _ h5 => SqL.of (h5.1 _ _ e2)) (fun j x H5 hx h5 => ?_) (fun H5 h5 => ?_)
    · obtain ⟨s5, d5⟩ := h5
      obtain ⟨m, hm, mr⟩ := paired_get py hx
      obtain ⟨b, rfl, m1, m2⟩ := mr.same (s2.trans s5)
      have hmm : m ∈ ns := List.mem_of_getElem? hm
      refine ⟨rfl, ⟨_, rfl⟩, _, rfl, _, b, wds m, rfl, rfl, .inr m1, ?_, _, d5, ?_, gSame_mut s5 hD, ?_⟩
      · have h1 := sum_le4 (wds m) 8 fun s hs => (isW_len (hwn m hmm s hs)).2
        have h3 : (wds m).length = 3 := rfl
        rw [q1, h3]
        rw [h3] at h1
        omega
      · rw [List.length_map, List.length_map, List.length_take]
        exact small1000 (by omega)
      · rw [upd_same, List.take_add_one, hm, List.map_append, List.map_append]
        rfl
    · obtain ⟨s5, d5⟩ := h5
      have e : ns.take ys.length = ns := List.take_of_length_le (Nat.le_of_eq py.length.symm)
      rw [e] at d5
      have k5 : Kt t H H5 := hT2.trans (Kt.same hT2.tp s5)
      refine ⟨_, _, rfl, ?_⟩
      refine ⟨_, rfl, _, rfl, _, _, rfl, rfl, ll _ _ lc (by decide +kernel), _, rfl, _, _, rfl, rfl, ll _ _ (by decide +kernel) lli', _, rfl, _, _, rfl, rfl, ll _ _ lli' (by decide +kernel), _, rfl, _, _, rfl, rfl, ll _ _ lli' (by decide +kernel), _, rfl, _, _, rfl, rfl, ll _ _ lli' (by decide +kernel), _, rfl, _, rfl, ?_, sl 7 (by decide), fun F H6 n6 e6 s6 => ?_⟩
      · have q2 : (Str.ofString "  ").length = 2 := by decide +kernel
        rw [q2]
        omega
      refine ⟨_, rfl, .inl ⟨rfl, _, SqL.of e6⟩, _, rfl, _, _, rfl, rfl, ll _ _ (by decide +kernel) lli', F, _, _, rfl, rfl, e6, small1000 (by show 7 ≤ 1000; decide), ?_⟩
      have nFt : F ≠ t := Kt.ne k5.tp n6
      have s7 := gSame_mut (o := .lst ([V.str c, .str (c ++ " "), .str (" " ++ liA c ns), .str (liA c ns ++ " "), .str (liA c ns ++ ","), .str (liA c ns ++ ", "), .str (Txt.replace (liA c ns) " " "  ")] ++ [V.str ("action " ++ liA c ns)])) s6 n6
      have e7 : (upd H6 F (.lst ([V.str c, .str (c ++ " "), .str (" " ++ liA c ns), .str (liA c ns ++ " "), .str (liA c ns ++ ","), .str (liA c ns ++ ", "), .str (Txt.replace (liA c ns) " " "  ")] ++ [V.str ("action " ++ liA c ns)]))) F = some (.lst _) := upd_same
      have hq : liA c ns = c ++ " " ++ wrM ns := rfl
      have ho2 : ∀ y ∈ [V.str c, .str (c ++ " "), .str (" " ++ liA c ns), .str (liA c ns ++ " "), .str (liA c ns ++ ","), .str (liA c ns ++ ", "), .str (Txt.replace (liA c ns) " " "  ")] ++ [V.str ("action " ++ liA c ns)], LS y :=
        all_app (all_cons ⟨_, rfl, by omega, w1 hc⟩ (all_cons (.app w2 lc (by decide +kernel)) (all_cons (.app w3 (by decide +kernel) lli') (all_cons (.app w4 lli' (by decide +kernel)) (all_cons (.app w5 lli' (by decide +kernel)) (all_cons (.app w6 lli' (by decide +kernel))
          (all_cons ⟨_, rfl, by
            have h1 := TK.replace_len (liA c ns) " " "  "
            have q2 : (Str.ofString "  ").length = 2 := by decide +kernel
            rw [q2] at h1
            omega, w7 hc⟩ all_nil))))))) (all_cons (.app (w8 hc hne hwn) (by decide +kernel) lli') all_nil)
      have lo2 : ([V.str c, .str (c ++ " "), .str (" " ++ liA c ns), .str (liA c ns ++ " "), .str (liA c ns ++ ","), .str (liA c ns ++ ", "), .str (Txt.replace (liA c ns) " " "  ")] ++ [V.str ("action " ++ liA c ns)]).length = 8 := rfl
      generalize [V.str c, .str (c ++ " "), .str (" " ++ liA c ns), .str (liA c ns ++ " "), .str (liA c ns ++ ","), .str (liA c ns ++ ", "), .str (Txt.replace (liA c ns) " " "  ")] ++ [V.str ("action " ++ liA c ns)] = o2 at *
      have kF7 := Kt.same k5.tp s7
      generalize upd H6 F (.lst o2) = H7 at *
      -- the second row
      have d7 := s7 _ _ d5
      refine ⟨_, rfl, _, rfl, _, _, rfl, rfl, ll _ _ lli' (by decide +kernel), _, rfl, ⟨_, rfl⟩, _, rfl, rfl, by omega, ?_⟩
      refine ⟨_, rfl, _, _, rfl, rfl, ll _ _ lc (by decide +kernel), ⟨_, rfl⟩, _, rfl, sl 1 (by decide), fun Z H8 n8 e8 s8 => ⟨D, Z, _, _, rfl, rfl, s8 _ _ d7, e8, ?_, fun R H9 n9 e9 s9 => ?_⟩⟩
      · rw [List.length_map]
        exact sl _ (by show (ptsM ns).length + 1 ≤ _; omega)
      have s79 : Same H7 H9 := s8.trans s9
      have lj : ∀ (S : Str) (ts : List Str), S.length ≤ 2 → ts.length ≤ 5 → (∀ p ∈ ts, p.length ≤ 27) → (Txt.join S ts).length ≤ 1000 ∧ (ts.map (·.length)).sum + ts.length * S.length ≤ 16777216 := fun S ts h1 h2 h3 => by
        have a1 := join_len S ts 27 h3
        have a2 := sum_le4 ts 27 h3
        have a3 : ts.length * (27 + S.length) ≤ 5 * 29 := Nat.mul_le_mul h2 (by omega)
        have a4 : ts.length * S.length ≤ 5 * 2 := Nat.mul_le_mul h2 h1
        constructor <;> omega
      have lpa : ∀ (x : Str), x.length ≤ 27 → ∀ p ∈ ptsM ns ++ [x], p.length ≤ 27 := fun x hx p hp => by
        rcases List.mem_append.mp hp with hp | hp
        · exact lp p hp
        · rw [List.mem_singleton.mp hp]
          exact hx
      have j1 := lj "," (ptsM ns ++ [("a b c" : Str)]) (by decide +kernel) (by rw [List.length_append, lpn]; show ns.length + 1 ≤ 5; omega) (lpa _ (by decide +kernel))
      have lcs : (c ++ " ").length ≤ 900 := by
        rw [Str.length_append, q1]
        omega
      refine ⟨_, R, ptsM ns ++ [("a b c" : Str)], rfl, rfl, .inl (by rw [List.map_append]; exact SqL.of e9), j1.2, _, _, rfl, rfl, ll _ _ (by omega) j1.1, _, rfl, _, rfl, sl 1 (by decide), fun T HA nT eT sA => ⟨sl 8 (by decide), fun F2 HB n2 e2' sB => ?_⟩⟩
      have s7B : Same H7 HB := s79.trans (sA.trans sB)
      refine ⟨F, F2, _, _, rfl, rfl, s7B _ _ e7, e2', by rw [lo2]; exact sl 16 (by decide), fun F3 HC n3 e3 sC => ?_⟩
      have s7C : Same H7 HC := s7B.trans sC
      have eTC : HC T = some (.tup [.str (liA c ns)]) := sC _ _ (sB _ _ eT)
      have hu : LS (.str (Txt.upper (liA c ns))) := ⟨_, rfl, by have := PyProof.Rows.len_upper (liA c ns); omega, w10 hc hwn⟩
      have ho3 : ∀ y ∈ o2 ++ [V.str (liA c ns ++ " s"), .str (Txt.upper (liA c ns)), .str (c ++ " " ++ Txt.join "," (ptsM ns ++ [("a b c" : Str)])), .str "", .non, .int 5, .ref l, .ref T], LS y ∨ y = .non ∨ y = .int 5 ∨ y = .ref l ∨ y = .ref T :=
        all_app (fun y hy => .inl (ho2 y hy)) (all_cons (.inl (.app (w9 hc hne hwn) lli' (by decide +kernel))) (all_cons (.inl hu) (all_cons (.inl (.app (w11 hc hne hwn) (by omega) j1.1)) (all_cons (.inl ⟨_, rfl, by decide +kernel, none_nosp (by decide +kernel)⟩)
          (all_cons (.inr (.inl rfl)) (all_cons (.inr (.inr (.inl rfl))) (all_cons (.inr (.inr (.inr (.inl rfl)))) (all_cons (.inr (.inr (.inr (.inr rfl)))) all_nil))))))))
      have lo3 : (o2 ++ [V.str (liA c ns ++ " s"), .str (Txt.upper (liA c ns)), .str (c ++ " " ++ Txt.join "," (ptsM ns ++ [("a b c" : Str)])), .str "", .non, .int 5, .ref l, .ref T]).length = 16 := by
        rw [List.length_append, lo2]
        rfl
      generalize o2 ++ [V.str (liA c ns ++ " s"), .str (Txt.upper (liA c ns)), .str (c ++ " " ++ Txt.join "," (ptsM ns ++ [("a b c" : Str)])), .str "", .non, .int 5, .ref l, .ref T] = o3 at *
      -- the parts out of order
      obtain ⟨q0, mL, rfl⟩ : ∃ q m, ns = q ++ [m] := ⟨ns.dropLast, ns.getLast hne, (List.dropLast_concat_getLast hne).symm⟩
      have dC := s7C _ _ d7
      have pe : (ptsM (q0 ++ [mL])).map V.str = (ptsM q0).map V.str ++ [V.str (jn (wds mL))] := by
        unfold ptsM
        rw [List.map_append, List.map_append]
        rfl
      have gl : (ptsM (q0 ++ [mL])).getLast? = some (jn (wds mL)) := by
        unfold ptsM
        rw [List.map_append, List.map_cons, List.map_nil, List.getLast?_concat]
      refine ⟨_, rfl, 1, rfl, D, _, _, _, rfl, rfl, SqL.of dC, by rw [pe]; exact atI_last _ _, rfl, _, rfl, ?_⟩
      have ec : ∀ b : Bool, (!decide (V.str (jn (wds mL)) = V.str "a a a")) = b → b = !decide (jn (wds mL) = "a a a") := fun b hb => by
        rw [← hb]
        congr 1
        exact decide_eq_decide.mpr ⟨fun z => V.str.inj z, fun z => by rw [z]⟩
      refine meetR (fun v H1 => ∃ (R : Addr) (ts : List Str), v = .ref R ∧ Same HC H1 ∧ H1 R = some (.lst (ts.map V.str)) ∧ ts.length ≤ 5 ∧ (∀ p ∈ ts, p.length ≤ 27) ∧ rdA (c ++ " " ++ Txt.join ", " ts) = none) (fun cc Q qq => ?_) (fun cc Q qq => ?_) (fun v HD hv => ?_)
      · have hnl : jn (wds mL) ≠ "a a a" := fun z => by
          have := ec _ rfl
          rw [cc, decide_eq_true z] at this
          cases this
        have eap : (ptsM (q0 ++ [mL]) ++ [("a a a" : Str)]).map V.str = (ptsM (q0 ++ [mL])).map V.str ++ [V.str "a a a"] := List.map_append
        have lap : (ptsM (q0 ++ [mL]) ++ [("a a a" : Str)]).length ≤ 5 := by
          rw [List.length_append, lpn]
          show (q0 ++ [mL]).length + 1 ≤ 5
          omega
        have rap := w14a hc hne hwn (by rw [gl]; exact fun z => hnl (Option.some.inj z))
        have pap := lpa ("a a a" : Str) (by decide +kernel)
        have zap : ((ptsM (q0 ++ [mL])).map V.str).length + 1 ≤ sizeLine := by
          rw [List.length_map, lpn]
          exact sl _ (by omega)
        generalize ptsM (q0 ++ [mL]) ++ [("a a a" : Str)] = ts at *
        refine ⟨_, rfl, sl 1 (by decide), fun W H13 n13 e13 s13 => ⟨D, W, _, _, rfl, rfl, s13 _ _ dC, e13, zap, fun W2 H14 n14 e14 s14 => qq _ _ ⟨W2, ts, rfl, s13.trans s14, ?_, lap, pap, rap⟩⟩⟩
        rw [eap]
        exact e14
      · have hyl : jn (wds mL) = "a a a" := Classical.byContradiction fun z => cc (by
          have := ec _ rfl
          rw [this, decide_eq_false z]
          rfl)
        have eap : (("b a a" : Str) :: ptsM (q0 ++ [mL])).map V.str = [V.str "b a a"] ++ (ptsM (q0 ++ [mL])).map V.str := List.map_cons
        have lap : (("b a a" : Str) :: ptsM (q0 ++ [mL])).length ≤ 5 := by
          rw [List.length_cons, lpn]
          omega
        have rap := w14b hc hwn (by rw [gl, hyl])
        have pap : ∀ p ∈ ("b a a" : Str) :: ptsM (q0 ++ [mL]), p.length ≤ 27 := fun p hp => by
          rcases List.mem_cons.mp hp with rfl | hp
          · decide +kernel
          · exact lp p hp
        have zap : 1 + ((ptsM (q0 ++ [mL])).map V.str).length ≤ sizeLine := by
          rw [List.length_map, lpn]
          exact sl _ (by omega)
        generalize ("b a a" : Str) :: ptsM (q0 ++ [mL]) = ts at *
        refine ⟨sl 1 (by decide), fun W H13 n13 e13 s13 => ⟨_, rfl, W, D, _, _, rfl, rfl, e13, s13 _ _ dC, zap, fun W2 H14 n14 e14 s14 => qq _ _ ⟨W2, ts, rfl, s13.trans s14, ?_, lap, pap, rap⟩⟩⟩
        rw [eap]
        exact e14
      · obtain ⟨R2, ts, rfl, sD, eR2, lts, lpt, hts⟩ := hv
        have lps : (ptsM (q0 ++ [mL])).length ≤ 5 := by omega
        have j2 := lj ", " ts (by decide +kernel) lts lpt
        have j3 := lj ", " (ptsM (q0 ++ [mL])) (by decide +kernel) lps lp
        have e3D := sD _ _ e3
        have dD : HD D = some (.lst ((ptsM (q0 ++ [mL])).map V.str)) := sD _ _ dC
        have sD7 : Same H7 HD := s7C.trans sD
        have eTD := sD _ _ eTC
        clear dC d7 d5 pe gl hq e7 eT e2' e6
        generalize ptsM (q0 ++ [mL]) = pts at *
        have lcc : (c ++ ", ").length ≤ 900 := by
          have q2 : (Str.ofString ", ").length = 2 := by decide +kernel
          rw [Str.length_append, q2]
          omega
        have a1 := ll c " a b" lc (by decide +kernel)
        have a2 := ll c " " lc (by decide +kernel)
        have a3 := ll (c ++ " ") (Txt.join ", " ts) (by omega) j2.1
        have a4 := ll c ", " lc (by decide +kernel)
        have a5 := ll (c ++ ", ") (Txt.join ", " pts) (by omega) j3.1
        have g1 : LS (.str (c ++ " a b")) := .app (w15 hc) lc (by decide +kernel)
        have g2 : LS (.str (c ++ " " ++ Txt.join ", " ts)) := .app hts (by omega) j2.1
        have g3 : LS (.str (c ++ ", " ++ Txt.join ", " pts)) := .app (w16 hc) (by omega) j3.1
        refine ⟨_, rfl, _, rfl, _, _, rfl, rfl, a1, _, rfl, _, _, rfl, rfl, a2, ⟨_, rfl⟩, _, rfl, _, R2, ts, rfl, rfl, .inl (SqL.of eR2), j2.2, _, _, rfl, rfl, a3, ?_⟩
        refine ⟨_, rfl, _, _, rfl, rfl, a4, ⟨_, rfl⟩, _, rfl, _, D, pts, rfl, rfl, .inl (SqL.of dD), j3.2, _, _, rfl, rfl, a5, sl 3 (by decide), fun F4 HE nE eE sE => ⟨F3, F4, _, _, rfl, rfl, sE _ _ e3D, eE, by rw [lo3]; exact sl 19 (by decide), fun F5 HF nF eF sF => ?_⟩⟩
        have ho4 : ∀ y ∈ o3 ++ [V.str (c ++ " a b"), .str (c ++ " " ++ Txt.join ", " ts), .str (c ++ ", " ++ Txt.join ", " pts)], LS y ∨ y = .non ∨ y = .int 5 ∨ y = .ref l ∨ y = .ref T :=
          all_app ho3 (all_cons (.inl g1) (all_cons (.inl g2) (all_cons (.inl g3) all_nil)))
        have lo4 : (o3 ++ [V.str (c ++ " a b"), .str (c ++ " " ++ Txt.join ", " ts), .str (c ++ ", " ++ Txt.join ", " pts)]).length = 19 := by
          rw [List.length_append, lo3]
          rfl
        generalize o3 ++ [V.str (c ++ " a b"), .str (c ++ " " ++ Txt.join ", " ts), .str (c ++ ", " ++ Txt.join ", " pts)] = o4 at *
        -- the last row
        refine ⟨_, rfl, _, rfl, _, rfl, _, _, rfl, rfl, a2, ⟨_, rfl⟩, 5, rfl, by decide, by decide, fun G hG => ?_⟩
        have hz : (Str.ofString "zzz s s").length ≤ 27 := by decide +kernel
        have r5 : ∀ p ∈ List.replicate 5 (Str.ofString "zzz s s"), p.length ≤ 27 := fun p hp => by
          rw [List.eq_of_mem_replicate hp]
          exact hz
        have j5 := lj ", " (List.replicate 5 (Str.ofString "zzz s s")) (by decide +kernel) (by simp) r5
        have g4 : LS (.str (c ++ " " ++ Txt.join ", " (List.replicate 5 (Str.ofString "zzz s s")))) := .app (w17 hc) (by omega) j5.1
        have g5 : LS (.str (liA c (q0 ++ [mL]) ++ "\n")) := .app w18 lli' (by decide +kernel)
        have a6 := ll (c ++ " ") (Txt.join ", " (List.replicate 5 (Str.ofString "zzz s s"))) (by omega) j5.1
        have a7 := ll (liA c (q0 ++ [mL])) "\n" lli' (by decide +kernel)
        have kT7 : Kt t H H7 := k5.trans kF7
        refine lc_range (lo := 0) (n := (5 : Int).toNat) (fun i H3 => Same HF H3 ∧ H3 G = some (.lst ((List.replicate i (Str.ofString "zzz s s")).map V.str))) ⟨gSame_new hG, upd_same⟩ (fun i H3 hi hP => ?_) (fun H3 hP => ?_)
        · obtain ⟨sg, eg⟩ := hP
          have hi' : i < 5 := hi
          refine ⟨rfl, _, eg, ?_, gSame_mut sg hG, ?_⟩
          · rw [List.length_map, List.length_replicate]
            exact small1000 (by omega)
          · rw [upd_same, List.replicate_succ', List.map_append]
            rfl
        · obtain ⟨sg, eg⟩ := hP
          refine ⟨_, G, List.replicate 5 (Str.ofString "zzz s s"), rfl, rfl, .inl (SqL.of eg), j5.2, _, _, rfl, rfl, a6, _, rfl, _, _, rfl, rfl, a7, _, rfl, sl 1 (by decide), fun L HL nL eL sL => ⟨sl 3 (by decide), fun F6 HM nM eM sM => ⟨F5, F6, _, _, rfl, rfl, sM _ _ (sL _ _ (sg _ _ eF)), eM, by rw [lo4]; exact sl 22 (by decide), fun F7 HZ nZ eZ sZ => ?_⟩⟩⟩
          have sDZ : Same HD HZ := sE.trans (sF.trans (sg.trans (sL.trans (sM.trans sZ))))
          have kZ : Kt t H HZ := kT7.trans (Kt.same kT7.tp (sD7.trans sDZ))
          have ho5 : ∀ y ∈ o4 ++ [V.str (c ++ " " ++ Txt.join ", " (List.replicate 5 (Str.ofString "zzz s s"))), .str (liA c (q0 ++ [mL]) ++ "\n"), .ref L], LS y ∨ y = .non ∨ y = .int 5 ∨ y = .ref l ∨ y = .ref T ∨ y = .ref L :=
            all_app (fun y hy => (ho4 y hy).imp id (Or.imp id (Or.imp id (Or.imp id Or.inl)))) (all_cons (.inl g4) (all_cons (.inl g5) (all_cons (.inr (.inr (.inr (.inr (.inr rfl))))) all_nil)))
          have lo5 : (o4 ++ [V.str (c ++ " " ++ Txt.join ", " (List.replicate 5 (Str.ofString "zzz s s"))), .str (liA c (q0 ++ [mL]) ++ "\n"), .ref L]).length = 22 := by
            rw [List.length_append, lo4]
            rfl
          generalize o4 ++ [V.str (c ++ " " ++ Txt.join ", " (List.replicate 5 (Str.ofString "zzz s s"))), .str (liA c (q0 ++ [mL]) ++ "\n"), .ref L] = o5 at *
          have nZt : F7 ≠ t := fun z => by
            have e := kT7.trans (Kt.same kT7.tp (sD7.trans (sE.trans (sF.trans (sg.trans (sL.trans sM))))))
            exact Kt.ne e.tp nZ z
          refine ⟨t, .ref F7, o5, rfl, kZ.tp, .inl ⟨F7, rfl, nZt, .inl (SqL.of eZ)⟩, by omega, by omega, fun y HY hy kY => q y HY ?_ (kZ.trans kY)⟩
          have eTZ := sDZ _ _ eTD
          have eLZ := sZ _ _ (sM _ _ eL)
          have nTt : T ≠ t := fun z => by
            obtain ⟨x1, x2, x3, e⟩ := kZ.tp
            rw [z, e] at eTZ
            cases eTZ
          have nLt : L ≠ t := by
            have e := kT7.trans (Kt.same kT7.tp (sD7.trans (sE.trans (sF.trans sg))))
            exact Kt.ne e.tp nL
          rcases ho5 y hy with h | rfl | rfl | rfl | rfl | rfl
          · exact .inl h
          · exact .inr ⟨_, .base .non, kit_ty (by decide +kernel)⟩
          · exact .inr ⟨_, .base (.int 5), kit_ty (by decide +kernel)⟩
          · exact .inr ⟨_, .base (.lst ((kZ.trans kY).kp _ _ nlt hl)), kit_ty (by decide +kernel)⟩
          · exact .inr ⟨_, .base (.tup (kY.kp _ _ nTt eTZ)), kit_ty (by decide +kernel)⟩
          · exact .inr ⟨_, .base (.lst (kY.kp _ _ nLt eLZ)), kit_ty (by decide +kernel)⟩
end
end Gk

set_option Elab.async false
set_option linter.all false
set_option maxRecDepth 100000
set_option maxHeartbeats 16000000
namespace Gk
open PySem PySem.Spec PyProof.Rows L2
abbrev s_wrong_moves : Stmt := topS 26
theorem sc_wrong_moves : FnScope ["tape", "moves", "one", "two", "three", "odd", "turn"] ["tape", "moves"] (defScope s_wrong_moves) := ⟨rfl, rfl, rfl, by decide +kernel, rfl, by decide +kernel, by decide +kernel⟩
theorem ty_kt {K : PySem.W.Frag} {t : Addr} {H H' : Hp} {x : V} {u : Value} (k : Kt t H H') (hT : Tp H t) (h : TyX K H x u) : TyX K H' x u := by
  obtain ⟨a, b, c, q⟩ := hT
  obtain ⟨a', b', c', q'⟩ := k.tp
  have go : ∀ (p : Addr) (o : HO), (∀ zs, o ≠ .lst zs) → H p = some o → H' p = some o := fun p o n e => k.kp p o (fun z => by
    rw [z, q] at e
    exact n _ (Option.some.inj e).symm) e
  cases h with
  | base h =>
    cases h with
    | non => exact .base .non
    | bl b => exact .base (.bl b)
    | int i => exact .base (.int i)
    | str z => exact .base (.str z)
    | flt z => exact .base (.flt z)
    | @lst p xs e =>
      by_cases hp : p = t
      · subst hp
        exact .base (.lst q')
      · exact .base (.lst (k.kp _ _ hp e))
    | frz e => exact .base (.frz (go _ _ (fun _ z => by cases z) e))
    | tup e => exact .base (.tup (go _ _ (fun _ z => by cases z) e))
    | dK e => exact .base (.dK (go _ _ (fun _ z => by cases z) e))
    | dT e => exact .base (.dT (go _ _ (fun _ z => by cases z) e))
    | ins e cl ha hn htk hm => exact .base (.ins (go _ _ (fun _ z => by cases z) e) cl ha hn htk hm)
  | byt b => exact .byt b
  | set e => exact .set (go _ _ (fun _ z => by cases z) e)
  | kList e c => exact .kList e c
  | kTuple e c => exact .kTuple e c
  | kDict e c => exact .kDict e c
  | fTuple e => exact .fTuple (go _ _ (fun _ z => by cases z) e)
  | fDict e => exact .fDict (go _ _ (fun _ z => by cases z) e)
theorem nm_kt {K : PySem.W.Frag} {t : Addr} {H H' : Hp} {x : V} {b : Bool} (k : Kt t H H') (hT : Tp H t) (h : NmV K H x b) : NmV K H' x b := by
  rcases h with h | ⟨e, u, hu, hk⟩
  · exact .inl h
  · exact .inr ⟨e, u, ty_kt k hT hu, hk⟩
theorem mv_kt {K : PySem.W.Frag} {t : Addr} {H H' : Hp} {x : V} {b : Bool} (k : Kt t H H') (hT : Tp H t) (h : MvV K H x b) : MvV K H' x b := by
  rcases h with ⟨a, xs, bs, rfl, h1, h2, h3, h4⟩ | ⟨e, u, hu, hk⟩
  · exact .inl ⟨a, xs, bs, rfl, k.sqT hT h1, ty_kt k hT h2, paired_mono (fun _ _ h => nm_kt k hT h) h3, h4⟩
  · exact .inr ⟨e, u, ty_kt k hT hu, hk⟩
theorem mvs_kt {K : PySem.W.Frag} {t : Addr} {H H' : Hp} {x : V} {b : Bool} (k : Kt t H H') (hT : Tp H t) (h : MvsV K H x b) : MvsV K H' x b := by
  rcases h with ⟨a, xs, bs, rfl, h1, h2, h3, h4⟩ | ⟨e, u, hu, hk⟩
  · exact .inl ⟨a, xs, bs, rfl, k.sqT hT h1, ty_kt k hT h2, paired_mono (fun _ _ h => mv_kt k hT h) h3, h4⟩
  · exact .inr ⟨e, u, ty_kt k hT hu, hk⟩
/-- a tuple of one value that is no move -/
theorem mvs_one {K : PySem.W.Frag} {H : Hp} {p : Addr} {x : V} (e : H p = some (.tup [x])) (h : MvV K H x false) : MvsV K H (.ref p) false :=
  .inl ⟨p, [x], [false], rfl, .inl (.inl e), .base (.tup e), .cons h .nil, rfl⟩
theorem mv_bad {K : PySem.W.Frag} {H : Hp} {p : Addr} {xs : List V} {bs : List Bool} (e : H p = some (.tup xs)) (h : Paired (NmV K H) xs bs) (hb : (decide (xs.length = 3) && bs.all id) = false) : MvV K H (.ref p) false :=
  .inl ⟨p, xs, bs, rfl, .inl (.inl e), .base (.tup e), h, hb.symm⟩
theorem nm_w {K : PySem.W.Frag} {H : Hp} {s : Str} (h : isW s = true) : NmV K H (.str s) true := .inl ⟨s, rfl, Nat.le_trans (isW_len h).2 (by decide), h.symm⟩
theorem nm_no {K : PySem.W.Frag} {H : Hp} {s : Str} (h : isW s = false) (l : s.length ≤ 100000) : NmV K H (.str s) false := .inl ⟨s, rfl, l, h.symm⟩
theorem up_no {s : Str} (h : isW s = true) : isW (Txt.upper s) = false := by
  cases e : isW (Txt.upper s) with
  | false => rfl
  | true =>
    have hl := isW_let h
    obtain ⟨a, q, e1, ha⟩ := head_w e
    rw [PyProof.Rows.upper_ascii (x := s) fun c hc => by have := hl c hc; omega] at e1
    have e2 : TL.tl (⟨s.cps.map PyProof.Rows.up1⟩ : Str) = (TL.tl s).map PyProof.Rows.up1 := by
      show (s.cps.map PyProof.Rows.up1).toList = _
      rw [Array.toList_map]
    obtain ⟨b, r, e3, hb⟩ := head_w h
    rw [e2, e3] at e1
    injection e1 with e1 _
    subst e1
    have hb : 97 ≤ b ∧ b ≤ 122 := hb
    unfold PyProof.Rows.up1 Ltr at ha
    rw [if_pos hb] at ha
    omega
def spWM (K : PySem.W.Frag) : Sp := fun vs H Q _ => ∃ (t l : Addr) (xs : List V) (ms : List Mv), vs = [.ref t, .ref l] ∧ Tp H t ∧ l ≠ t ∧ H l = some (.lst xs) ∧ Paired (MvR K H) xs ms ∧ 1 ≤ ms.length ∧ ms.length ≤ 4 ∧ OkMv ms ∧ ∀ y H', MvsV K H' y false → Kt t H H' → Q y H'
section
variable {P : Program} {w : World} {K : PySem.W.Frag} {mg : Str → Option Value} {base : Heap}
theorem ok_wrong_moves {f fP : Addr} {fd fdP : FuncData} (B : Blt mg) (D_pick : Df K mg "_law_pick" s_pick ["tape", "items"] fP fdP) (G_pick : FnOk P w K mg base CX0 2 fP fdP ["tape", "items"] (spPick K))
    (D : Df K mg "_law_wrong_moves" s_wrong_moves ["tape", "moves"] f fd) : FnOk P w K mg base CX0 3 f fd ["tape", "moves"] (spWM K) := by
  refine D.F.ok sc_wrong_moves (fun vs H Q E h => ?_) (fun cdv A outer s H vs Q E hr h => ?_)
  · obtain ⟨t, l, xs, ms, rfl, _⟩ := h
    rfl
  · obtain ⟨t, l, xs, ms, rfl, hT, nlt, hl, hp, l1, l4, hw, q⟩ := h
    refine ⟨_, (pss_cons (ps_asg (pe_ix ix_list (pv 1) pe_int (fun _ _ => rfl)) (pg_tup (by rfl) (pgs_cons (pg_name (i := 2) sc_wrong_moves.nd rfl (Or.inl rfl)) (pgs_cons (pg_name (i := 3) sc_wrong_moves.nd rfl (Or.inl rfl)) (pgs_cons (pg_name (i := 4) sc_wrong_moves.nd rfl (Or.inl rfl)) pgs_nil)))))
    (pss_cons (ps_set (i := 5) sc_wrong_moves.nd rfl (Or.inl rfl) (pe_lstN (pa_cons (pv 1) (pa_cons (pe_tupN pa_nil) (pa_cons (pe_callTy call_tupN (by rfl) B.tuple_ (by decide +kernel) (pa_cons (pe_op op_catN (pe_slice sl_listN (pv 1) po_none (po_some pe_int)) (pe_lstN (pa_cons pe_non pa_nil))) pa_nil)) (pa_cons (pe_callTy call_tupN (by rfl) B.tuple_ (by decide +kernel) (pa_cons (pe_lc (own := [("turn", 6)]) (g := gName 6) (tt := tYes) (by rfl) sc_wrong_moves.nd (pi_range1 (by rfl) B.range (pa_cons pe_int pa_nil)) (blkOk_by (N := ["tape", "moves", "one", "two", "three", "odd", "turn"]) (sc := defScope s_wrong_moves) (by decide +kernel)) (fun _ _ _ _ _ => (pg_name (i := 6) sc_wrong_moves.nd rfl (Or.inl rfl))) (fun _ _ _ _ _ => pts_nil) (fun _ _ _ _ _ => (pe_ix (ix_listK K rfl) (pv 1) pe_int (fun _ _ => rfl)))) pa_nil)) (pa_cons pe_non (pa_cons pe_int (pa_cons pe_str (pa_cons pe_dnewN pa_nil))))))))))
    (pss_cons (ps_set (i := 5) sc_wrong_moves.nd rfl (Or.inl rfl) (pe_op op_catN (pv 5) (pe_lstN (pa_cons (pe_tupN (pa_cons (pe_tupN (pa_cons (pv 2) (pa_cons (pv 3) pa_nil))) pa_nil)) (pa_cons (pe_tupN (pa_cons (pe_tupN (pa_cons (pv 2) (pa_cons (pv 3) (pa_cons (pv 4) (pa_cons pe_str pa_nil))))) pa_nil)) (pa_cons (pe_tupN (pa_cons (pe_lstN (pa_cons (pv 2) (pa_cons (pv 3) (pa_cons (pv 4) pa_nil)))) pa_nil)) (pa_cons (pe_tupN (pa_cons (pe_tupN (pa_cons (pv 2) (pa_cons (pv 3) (pa_cons pe_str pa_nil)))) pa_nil)) (pa_cons (pe_tupN (pa_cons (pe_tupN (pa_cons (pv 2) (pa_cons (pv 3) (pa_cons pe_int pa_nil)))) pa_nil)) pa_nil))))))))
    (pss_one (ps_ret (pe_call G_pick (hr.mono (by decide)) (by rfl) D_pick.g D_pick.F.kp D_pick.b .nil pass0 (pa_cons (pv 0) (pa_cons (pe_op op_catN (pv 5) (pe_lstN (pa_cons (pe_tupN (pa_cons (pe_tupN (pa_cons (pe_upper (pv 2)) (pa_cons (pv 3) (pa_cons (pv 4) pa_nil)))) pa_nil)) (pa_cons (pe_tupN (pa_cons (pe_tupN (pa_cons (pv 2) (pa_cons (pv 3) (pa_cons pe_str pa_nil)))) pa_nil)) (pa_cons (pe_tupN (pa_cons (pe_tupN (pa_cons (pv 2) (pa_cons (pv 3) (pa_cons (pe_tupN (pa_cons (pv 4) pa_nil)) pa_nil)))) pa_nil)) pa_nil))))) pa_nil)))))))), ?_⟩
    have sl : ∀ n : Nat, n ≤ 100000 → n ≤ sizeLine := fun n hn => by rw [sizeLine_eq]; omega
    have hpl := hp.length
    obtain ⟨m, r, rfl⟩ := List.exists_cons_of_ne_nil (l := ms) (fun z => by
      rw [z] at l1
      simp at l1)
    obtain ⟨x0, xr, rfl, h0⟩ : ∃ x0 xr, xs = x0 :: xr ∧ MvR K H x0 m := by
      cases hp with
      | cons h t => exact ⟨_, _, rfl, h⟩
    obtain ⟨b0, rfl, h1, h2⟩ := h0
    have okm := hw m (List.mem_cons_self ..)
    have w1 : isW m.1 = true := okm _ (by simp [wds])
    have w2 : isW m.2.1 = true := okm _ (by simp [wds])
    have w3 : isW m.2.2 = true := okm _ (by simp [wds])
    have at0 : ∀ (a : V) (q : List V), atI (a :: q) 0 = some a := fun a q => by
      unfold atI ixN
      simp
    have m0 : ∀ H', Same H H' → MvV K H' (.ref b0) true := fun H' s => by
      refine .inl ⟨b0, _, [true, true, true], rfl, gSeqT s h1, h2.same s, ?_, rfl⟩
      exact .cons (nm_w w1) (.cons (nm_w w2) (.cons (nm_w w3) .nil))
    refine ⟨_, rfl, l, _, 0, .ref b0, rfl, rfl, SqL.of hl, at0 _ _, b0, _, rfl, h1, rfl, _, _, rfl, _, _, rfl, _, _, rfl, rfl, ?_⟩
    refine ⟨_, rfl, sl 0 (by decide), fun T1 H1 n1 e1 s1 => ?_⟩
    refine ⟨_, rfl, 1, rfl, l, _, rfl, SqL.of (s1 _ _ hl), fun S2 H2 n2 e2 s2 => ⟨sl 1 (by decide), fun Z H3 n3 e3 s3 => ⟨S2, Z, _, _, rfl, rfl, s3 _ _ e2, e3, ?_, fun R H4 n4 e4 s4 => ⟨R, _, rfl, SqL.of e4, fun T2 H5 n5 e5 s5 => ?_⟩⟩⟩⟩
    · have ec : cutV (V.ref b0 :: xr) none (some 1) = [.ref b0] := by
        have := cut_to (fun x : V => x) (V.ref b0 :: xr) 1
        simpa using this
      rw [ec]
      exact sl 2 (by decide)
    have ec : cutV (V.ref b0 :: xr) none (some 1) = [.ref b0] := by
      have := cut_to (fun x : V => x) (V.ref b0 :: xr) 1
      simpa using this
    rw [ec] at e5
    have s25 : Same H H5 := s1.trans (s2.trans (s3.trans (s4.trans s5)))
    refine ⟨5, rfl, by decide, by decide, fun G hG => ?_⟩
    refine lc_range (lo := 0) (n := (5 : Int).toNat) (fun i H6 => Same H5 H6 ∧ H6 G = some (.lst (List.replicate i (V.ref b0)))) ⟨gSame_new hG, upd_same⟩ (fun i H6 hi hP => ?_) (fun H6 hP => ?_)
    · obtain ⟨sg, eg⟩ := hP
      have hi' : i < 5 := hi
      refine ⟨rfl, _, rfl, l, _, 0, .ref b0, rfl, rfl, SqL.of (sg _ _ (s25 _ _ hl)), at0 _ _, _, eg, ?_, gSame_mut sg hG, ?_⟩
      · rw [List.length_replicate]
        exact small1000 (by omega)
      · rw [upd_same, List.replicate_succ']
    · obtain ⟨sg, eg⟩ := hP
      refine ⟨G, _, rfl, SqL.of eg, fun T3 H7 n7 e7 s7 => ?_⟩
      refine fun Dd H8 n8 e8 s8 => ⟨sl 8 (by decide), fun F H9 n9 e9 s9 => ?_⟩
      have s89 := s8.trans s9
      have s79 := s7.trans s89
      have s59 := sg.trans s79
      have s09 : Same H H9 := s25.trans s59
      have kn : ∀ {a : String}, kitB a "tuple" = some false → PySem.W.kitOne K (.type a) (.type "tuple") = some false := fun h => kit_ty h
      have b1 : ∀ y ∈ [V.ref l, .ref T1, .ref T2, .ref T3, .non, .int 5, .str "abc", .ref Dd], MvsV K H9 y false := by
        refine all_cons (.inr ⟨rfl, _, .base (.lst (s09 _ _ hl)), kn (by decide +kernel)⟩) (all_cons ?_ (all_cons ?_ (all_cons ?_ (all_cons (.inr ⟨rfl, _, .base .non, kn (by decide +kernel)⟩) (all_cons (.inr ⟨rfl, _, .base (.int 5), kn (by decide +kernel)⟩)
          (all_cons (.inr ⟨rfl, _, .base (.str _), kn (by decide +kernel)⟩) (all_cons (.inr ⟨rfl, _, .base (.dK (s9 _ _ e8)), kn (by decide +kernel)⟩) all_nil)))))))
        · have e : H9 T1 = some (.tup []) := s59 _ _ (s5 _ _ (s4 _ _ (s3 _ _ (s2 _ _ e1))))
          exact .inl ⟨T1, [], [], rfl, .inl (.inl e), .base (.tup e), .nil, rfl⟩
        · have e : H9 T2 = some (.tup [.ref b0, .non]) := s59 _ _ e5
          exact .inl ⟨T2, [.ref b0, .non], [true, false], rfl, .inl (.inl e), .base (.tup e), .cons (m0 _ s09) (.cons (.inr ⟨rfl, _, .base .non, kn (by decide +kernel)⟩) .nil), rfl⟩
        · have e : H9 T3 = some (.tup [.ref b0, .ref b0, .ref b0, .ref b0, .ref b0]) := s89 _ _ e7
          have mm := m0 _ s09
          exact .inl ⟨T3, _, [true, true, true, true, true], rfl, .inl (.inl e), .base (.tup e), .cons mm (.cons mm (.cons mm (.cons mm (.cons mm .nil)))), rfl⟩
      have lo1 : [V.ref l, .ref T1, .ref T2, .ref T3, .non, .int 5, .str "abc", .ref Dd].length = 8 := rfl
      have e9' : H9 F = some (.lst [V.ref l, .ref T1, .ref T2, .ref T3, .non, .int 5, .str "abc", .ref Dd]) := e9
      clear e9
      generalize [V.ref l, .ref T1, .ref T2, .ref T3, .non, .int 5, .str "abc", .ref Dd] = o1 at *
      refine ⟨_, rfl, _, rfl, _, rfl, sl 2 (by decide), fun I1 A1 i1 ea1 sa1 => ⟨sl 1 (by decide), fun O1 B1 j1 eb1 sb1 => ?_⟩⟩
      refine ⟨_, rfl, _, rfl, _, rfl, sl 4 (by decide), fun I2 A2 i2 ea2 sa2 => ⟨sl 1 (by decide), fun O2 B2 j2 eb2 sb2 => ?_⟩⟩
      refine ⟨_, rfl, _, rfl, _, rfl, sl 3 (by decide), fun I3 A3 i3 ea3 sa3 => ⟨sl 1 (by decide), fun O3 B3 j3 eb3 sb3 => ?_⟩⟩
      refine ⟨_, rfl, _, rfl, sl 3 (by decide), fun I4 A4 i4 ea4 sa4 => ⟨sl 1 (by decide), fun O4 B4 j4 eb4 sb4 => ?_⟩⟩
      refine ⟨_, rfl, _, rfl, sl 3 (by decide), fun I5 A5 i5 ea5 sa5 => ⟨sl 1 (by decide), fun O5 B5 j5 eb5 sb5 => ⟨sl 5 (by decide), fun F2 C1 nc1 ec1 sc1 => ?_⟩⟩⟩
      have t5 := sa5.trans sb5
      have t4 := sa4.trans sb4
      have t3 := sa3.trans sb3
      have t2 := sa2.trans sb2
      have t1 := sa1.trans sb1
      have u4 := t5.trans sc1
      have u3 := t4.trans u4
      have u2 := t3.trans u3
      have u1 := t2.trans u2
      have u0 := t1.trans u1
      refine ⟨F, F2, _, _, rfl, rfl, u0 _ _ e9', ec1, by rw [lo1]; exact sl 13 (by decide), fun F3 C2 nc2 ec2 sc2 => ?_⟩
      have b2 : ∀ y ∈ o1 ++ [V.ref O1, .ref O2, .ref O3, .ref O4, .ref O5], MvsV K C1 y false := by
        refine all_app (fun y hy => (b1 y hy).same u0) (all_cons (mvs_one (u1 _ _ eb1) ?_) (all_cons (mvs_one (u2 _ _ eb2) ?_) (all_cons (mvs_one (u3 _ _ eb3) ?_) (all_cons (mvs_one (u4 _ _ eb4) ?_) (all_cons (mvs_one (sc1 _ _ eb5) ?_) all_nil)))))
        · exact mv_bad (u1 _ _ (sb1 _ _ ea1)) (.cons (nm_w w1) (.cons (nm_w w2) .nil)) rfl
        · exact mv_bad (u2 _ _ (sb2 _ _ ea2)) (.cons (nm_w w1) (.cons (nm_w w2) (.cons (nm_w w3) (.cons (nm_w (s := "s") (by decide +kernel)) .nil)))) rfl
        · exact .inr ⟨rfl, _, .base (.lst (u3 _ _ (sb3 _ _ ea3))), kn (by decide +kernel)⟩
        · exact mv_bad (u4 _ _ (sb4 _ _ ea4)) (.cons (nm_w w1) (.cons (nm_w w2) (.cons (nm_no (s := "") (by decide +kernel) (by decide +kernel)) .nil))) rfl
        · exact mv_bad (sc1 _ _ (sb5 _ _ ea5)) (.cons (nm_w w1) (.cons (nm_w w2) (.cons (.inr ⟨rfl, _, .base (.int 1), kit_ty (by decide +kernel)⟩) .nil))) rfl
      have lo2 : (o1 ++ [V.ref O1, .ref O2, .ref O3, .ref O4, .ref O5]).length = 13 := by
        rw [List.length_append, lo1]
        rfl
      have s02 : Same H C2 := s09.trans (u0.trans sc2)
      have b2 : ∀ y ∈ o1 ++ [V.ref O1, .ref O2, .ref O3, .ref O4, .ref O5], MvsV K C2 y false := fun y hy => (b2 y hy).same sc2
      generalize o1 ++ [V.ref O1, .ref O2, .ref O3, .ref O4, .ref O5] = o2 at *
      have lu : (Txt.upper m.1).length ≤ 100000 := by
        have h := PyProof.Rows.len_upper m.1
        have h' := (isW_len w1).2
        omega
      refine ⟨_, rfl, _, rfl, _, rfl, ⟨_, rfl⟩, _, rfl, rfl, by have := (isW_len w1).2; omega, _, rfl, _, rfl, sl 3 (by decide), fun I6 A6 i6 ea6 sa6 => ⟨sl 1 (by decide), fun O6 B6 j6 eb6 sb6 => ?_⟩⟩
      refine ⟨_, rfl, _, rfl, sl 3 (by decide), fun I7 A7 i7 ea7 sa7 => ⟨sl 1 (by decide), fun O7 B7 j7 eb7 sb7 => ?_⟩⟩
      refine ⟨_, rfl, _, rfl, _, rfl, sl 1 (by decide), fun J8 X8 x8 ex8 sx8 => ⟨sl 3 (by decide), fun I8 A8 i8 ea8 sa8 => ⟨sl 1 (by decide), fun O8 B8 j8 eb8 sb8 => ⟨sl 3 (by decide), fun F4 C3 nc3 ec3 sc3 => ?_⟩⟩⟩⟩
      have v8 := sa8.trans (sb8.trans sc3)
      have v7 := sx8.trans v8
      have v6 := (sa7.trans sb7).trans v7
      have v0 := (sa6.trans sb6).trans v6
      refine ⟨F3, F4, _, _, rfl, rfl, v0 _ _ ec2, ec3, by rw [lo2]; exact sl 16 (by decide), fun F5 HZ nZ eZ sZ => ?_⟩
      have b3 : ∀ y ∈ o2 ++ [V.ref O6, .ref O7, .ref O8], MvsV K C3 y false := by
        refine all_app (fun y hy => (b2 y hy).same v0) (all_cons (mvs_one (v6 _ _ eb6) ?_) (all_cons (mvs_one (v7 _ _ eb7) ?_) (all_cons (mvs_one (sc3 _ _ eb8) ?_) all_nil)))
        · exact mv_bad (v6 _ _ (sb6 _ _ ea6)) (.cons (nm_no (up_no w1) lu) (.cons (nm_w w2) (.cons (nm_w w3) .nil))) rfl
        · exact mv_bad (v7 _ _ (sb7 _ _ ea7)) (.cons (nm_w w1) (.cons (nm_w w2) (.cons (nm_no (s := "zzzzzzzzz") (by decide +kernel) (by decide +kernel)) .nil))) rfl
        · exact mv_bad (sc3 _ _ (sb8 _ _ ea8)) (.cons (nm_w w1) (.cons (nm_w w2) (.cons (.inr ⟨rfl, _, .base (.tup (v8 _ _ ex8)), kit_ty (by decide +kernel)⟩) .nil))) rfl
      have lo3 : (o2 ++ [V.ref O6, .ref O7, .ref O8]).length = 16 := by
        rw [List.length_append, lo2]
        rfl
      have kC : Kt t H C3 := Kt.same hT (s02.trans v0)
      have kZ : Kt t H HZ := kC.trans (Kt.same kC.tp sZ)
      generalize o2 ++ [V.ref O6, .ref O7, .ref O8] = o3 at *
      exact ⟨t, .ref F5, o3, rfl, kZ.tp, .inl ⟨F5, rfl, Kt.ne kC.tp nZ, .inl (SqL.of eZ)⟩, by omega, by omega, fun y HY hy kY => q y HY (mvs_kt kY kZ.tp ((b3 y hy).same sZ)) (kZ.trans kY)⟩
end
end Gk

set_option Elab.async false
set_option linter.all false
set_option maxRecDepth 100000
set_option maxHeartbeats 8000000
namespace Gk
open PySem PySem.Spec PyProof.Rows L2 LamX
abbrev s_met : Stmt := topS 24
theorem sc_met : FnScope ["call", "error"] ["call"] (defScope s_met) := ⟨rfl, rfl, rfl, by decide +kernel, rfl, by decide +kernel, by decide +kernel⟩
section
variable {X : Cx}
/-- a name that has just been set, whatever the other slots hold -/
def tVarSet (i : Nat) : TE := fun σ H Q => ∃ (σ0 : L2.St) (v : V), σ = σ0.set i (some v) ∧ Q v H
theorem pe_varSet {i : Nat} {x : Str} {pos : Pos} (hN : X.N[i]? = some x) (hv : Vis X.env.scope x) (hd : (x == ("__debug__" : Str)) = false := by decide) (hcd : (x == ("__classdict__" : Str)) = false := by decide) : PE X (.Name x pos) (tVarSet i) := by
  refine ⟨fun pins s σ H Q I h => (pe_var hN hv hd hcd).run pins s σ H Q I ?_⟩
  obtain ⟨σ0, v, rfl, q⟩ := h
  have hl := I.len
  rw [List.length_set] at hl
  have hi : i < σ0.length := by
    have := (List.getElem?_eq_some_iff.mp hN).1
    omega
  exact ⟨v, by rw [List.getElem?_set_self hi], q⟩
theorem call_repr_non : CallR X (.builtin "repr") (fun xs H Q => xs = [.non] ∧ Q (.str (Str.ofString "None")) H) := by
  intro pins s σ H xs us Q I r h
  obtain ⟨rfl, q⟩ := h
  obtain ⟨u, rfl, r1⟩ := vals1 r
  cases r1
  exact PySem.P.repr_of_none ⟨.str _, H, I.tok _, ⟨_, rfl⟩, q⟩
def TTmet (K : PySem.W.Frag) (CP CN CA : Addr) : (XK → Hp → VK → Prop) → Hp → VK → Prop := fun tl H Q =>
  tl (fun cls d H' => ∃ b, PySem.W.exmOne K cls (.ref CP) = some b ∧ (b = true → cls = .ref CP ∧ ∃ dd, d = some dd ∧ H' dd = some (.xd [("line", .non)]) ∧ Q (.str (Str.ofString "parse None")) H') ∧
    (b = false → ∃ b2, PySem.W.exmOne K cls (.ref CN) = some b2 ∧ (b2 = true → Q (.str (Str.ofString "name")) H') ∧ (b2 = false → ∃ b3, PySem.W.exmOne K cls (.ref CA) = some b3 ∧ (b3 = true → Q (.str (Str.ofString "action")) H') ∧ (b3 = false → False)))) H (fun _ H' => Q (.str (Str.ofString "fine")) H')
theorem met_gives {q : Str} {g CP CN CA : Addr} {cdg : Value} (T : XfC X.K CP) (hno : PySem.W.findIn X.K (.ref CP) "line" = some none) (mr : X.mg "repr" = none) (m1 : X.mg "ParseError" = some (.ref CP)) (m2 : X.mg "InvalidName" = some (.ref CN)) (m3 : X.mg "InvalidAction" = some (.ref CA)) :
    GivesTo X ["call", "error"] "_law_met" (defScope s_met) g cdg (defBody s_met) "call" q (TTmet X.K CP CN CA) := by
  intro f c' s H Q tl act hc h
  have ls : ∀ n : Nat, n ≤ 1000 → n ≤ sizeLine := fun n hn => by rw [sizeLine_eq]; omega
  refine ⟨_, pss_cons (ps_try_asMany (X := (cxOf C8.CX0 X.prog X.w X.K X.mg X.base ["call", "error"] "_law_met" (defScope s_met) g cdg X.A X.stack s H C8.E0).nox) (i := 1) (c := .ref CP) (l := [(.ref CN, fun _ _ _ => tRet (tC (.str (Str.ofString "name")))), (.ref CA, fun _ _ _ => tRet (tC (.str (Str.ofString "action"))))])
      (tb := fun W D σ H => ∃ Ech : XK, (∀ cls d σ' H', Ech cls d H' → W cls d σ' H') ∧ σ[0]? = some (some (.ref f)) ∧ H c' = some (CodeO c' q) ∧ tl Ech H fun _ H' => D.nx σ H')
      (ts := fun a cls d => tRet (tOp (fun x y H Q => ∃ i j, x = .str i ∧ y = .str j ∧ i.length + j.length ≤ sizeLine ∧ Q (.str (i ++ j)) H) (tC (.str (Str.ofString "parse "))) (tCB (fun xs H Q => xs = [.non] ∧ Q (.str (Str.ofString "None")) H) (tCons (tXf a cls d CP "line" (tVarSet 1)) tNil))))
      rfl rfl sc_met.nd rfl rfl ⟨rfl, by decide, Or.inl m1⟩ L2.takes0 (fun W pn xe tk _ => ?_) (fun a oe cls d pn hz hf => ?_) (.cons ⟨rfl, by decide, Or.inl m2⟩ (fun a oe cls d pn hz hf => pss_one (ps_ret pe_str)) (.cons ⟨rfl, by decide, Or.inl m3⟩ (fun a oe cls d pn hz hf => pss_one (ps_ret pe_str)) .nil))) (pss_one (ps_ret pe_str)), ?_⟩
  · refine ⟨fun pins s' σ H' D I h' => ?_⟩
    obtain ⟨Ech, hW, h1, h2, h3⟩ := h'
    exact (pss_one (ps_expr (act W pn xe Ech _ _ tk hW))).run pins s' σ H' D I ⟨h1, h2, h3⟩
  · exact pss_one (ps_ret (pe_op op_add_str pe_str (pe_callB call_repr_non (by rfl) mr (by decide +kernel) (pa_cons (pe_xf T hno hz hf (pe_varSet (i := 1) rfl (.inl rfl))) pa_nil))))
  · refine ⟨_, fun cls d σ' H' hE => ?_, rfl, hc, h⟩
    obtain ⟨b, e1, e2, e3⟩ := hE
    refine ⟨b, e1, fun hb a _ => ?_, fun hb => ?_⟩
    · obtain ⟨rfl, dd, rfl, ed, q⟩ := e2 hb
      refine ⟨_, .ref a, rfl, rfl, rfl, dd, _, .non, rfl, ed, rfl, rfl, _, _, rfl, rfl, by decide +kernel, ?_⟩
      have ep : (Str.ofString "parse " ++ Str.ofString "None" : Str) = Str.ofString "parse None" := by decide +kernel
      rw [ep]
      exact q
    · obtain ⟨b2, g1, g2, g3⟩ := e3 hb
      refine ⟨b2, g1, fun hb2 a _ => g2 hb2, fun hb2 => ?_⟩
      obtain ⟨b3, k1, k2, k3⟩ := g3 hb2
      exact ⟨b3, k1, fun hb3 a _ => k2 hb3, fun hb3 => (k3 hb3).elim⟩
end
end Gk

set_option Elab.async false
set_option linter.all false
set_option maxRecDepth 100000
set_option maxHeartbeats 16000000
namespace Gk
open PySem PySem.Spec PyProof.Rows L2 LamX
abbrev s_right : Stmt := topS 27
theorem sc_right : FnScope ["tape", "called", "moves", "line", "made", "told", "same", "others", "turn", "odd", "name", "bad", "move", "one"] ["tape"] (defScope s_right) := ⟨rfl, rfl, rfl, by decide +kernel, rfl, by decide +kernel, by decide +kernel⟩
/-- what the text's top has left of the class Action -/
structure ActK (K : PySem.W.Frag) (mg : Str → Option Value) (C fI fF pF fC pC fM pM fO pO fL fE fS : Addr) (dI dF dC dM dO dL dE dS : FuncData) (mc : Value) : Prop where
  g : mg "Action" = some (.ref C)
  AC : ActC K C
  IC : C8.InsC K C
  M : Mk K C fI
  BI : Binds K dI ["self", "called", "moves"] []
  R : ClX.CRead K C mc
  CM : ClX.CMet K C mc "from_line" pF fF
  BF : Binds K dF ["cls", "line"] []
  P_called : PropOf K C "called" pC fC
  B_called : Binds K dC ["self"] []
  P_moves : PropOf K C "moves" pM fM
  B_moves : Binds K dM ["self"] []
  P_owners : PropOf K C "owners" pO fO
  B_owners : Binds K dO ["self"] []
  OL : OwnD K C "__len__" fL
  BL : Binds K dL ["self"] []
  OE : OwnD K C "__eq__" fE
  BE : Binds K dE ["self", "other"] []
  NE : PySem.W.findIn K (.ref C) "__ne__" = some (some (.builtin "object.__ne__"))
  HO : PySem.W.mroIn K C (.type "object") = some true
  OS : OwnD K C "__str__" fS
  BS : Binds K dS ["self"] []
  nf : ∀ T ∈ ["str", "NoneType", "tuple"], PySem.W.notFirst K C (.type T) = true
  kf : ∀ T ∈ ["str", "NoneType", "tuple"], PySem.W.kitOne K (.type T) (.ref C) = some false
abbrev qR : Str := "_law_right.<locals>." ++ "<lambda>"
def spRight (TT : List (Addr × Str)) : Sp := fun vs H Q _ => ∃ t : Addr, vs = [.ref t] ∧ Tp H t ∧ Tabs TT H ∧ ∀ H', Kl TT t H H' → Q (.bl true) H'
/-- an action made of good parts -/
theorem make_act {K : PySem.W.Frag} {C CN CA p : Addr} {c : Str} {ys : List V} {ms : List Mv} {H : Hp} {Q : VK} {E : XK} (hc : isW c = true) (h1 : SqT K H p ys) (h2 : TyX K H (.ref p) (.type "tuple")) (h3 : Paired (MvR K H) ys ms) (l1 : 1 ≤ ms.length) (l4 : ms.length ≤ 4) (hw : OkMv ms)
    (q : ∀ a H', Same H H' → ActV K H' C a c (sortM ms) → Q (.ref a) H') : MakeS C (spAct K C CN CA) E [.str c, .ref p] H Q := fun a dx na ndx ne => by
  have sN : Same H (upd (upd H dx (.own a)) a (.ins C dx [])) := (gSame_new ndx).trans (gSame_new (by rw [upd_ne ne.symm]; exact na))
  refine ⟨a, dx, .str c, .ref p, rfl, upd_same, .inr ⟨c, rfl, hc, .inr ⟨p, ys, ms, rfl, gSeqT sN h1, h2.same sN, paired_mono (fun _ _ h => h.same sN) h3, l1, l4, hw, fun H3 k3 v3 => ⟨rfl, q a H3 (fun b o e => ?_) v3⟩⟩⟩⟩
  have nb : b ≠ a := fun z => by
    rw [z, na] at e
    cases e
  exact k3 b o nb (sN _ _ e)
theorem strOk_lt {s : Str} (h : ∀ a ∈ TL.tl s, a < 128) : PyData.strOk s = true := by
  unfold PyData.strOk
  rw [Array.all_eq_true_iff_forall_mem]
  intro c hc
  have := h c (by unfold TL.tl; exact Array.mem_toList_iff.mpr hc)
  exact decide_eq_true (by omega)
theorem paired_perm {α : Type} {R : V → α → Prop} {xs' xs : List V} (p : xs'.Perm xs) : ∀ {as : List α}, Paired R xs as → ∃ as', Paired R xs' as' ∧ as'.Perm as := by
  induction p with
  | nil =>
    intro as h
    cases h
    exact ⟨[], .nil, .nil⟩
  | cons x _ ih =>
    intro as h
    cases h with
    | cons h1 h2 =>
      obtain ⟨as', p1, p2⟩ := ih h2
      exact ⟨_ :: as', .cons h1 p1, .cons _ p2⟩
  | swap x y l =>
    intro as h
    cases h with
    | cons h1 h2 =>
      cases h2 with
      | cons h2 h3 => exact ⟨_, .cons h2 (.cons h1 h3), .swap _ _ _⟩
  | trans _ _ ih1 ih2 =>
    intro as h
    obtain ⟨b, p1, p2⟩ := ih2 h
    obtain ⟨a, p3, p4⟩ := ih1 p1
    exact ⟨a, p3, p4.trans p2⟩
theorem of_nil {C : Addr} {sp : Sp} {E : XK} {σ : L2.St} {a b : V} {H : Hp} {Q : VK} (h : MakeS C sp E [a, b] H Q) : tNil σ H fun xs H2 => MakeS C sp E (a :: b :: xs) H2 Q := h
theorem ActV.ins {K : PySem.W.Frag} {H : Hp} {C a : Addr} {c : Str} {ms : List Mv} (v : ActV K H C a c ms) : InsAt C H a := by
  obtain ⟨dx, p, ys, h1, _⟩ := v
  exact ⟨dx, _, h1⟩
theorem ActV.sp {K : PySem.W.Frag} {H : Hp} {C a : Addr} {c : Str} {ms : List Mv} {Q : VK} {E : XK} {G : Str → List Mv → Addr → List V → Hp → VK → Prop} (v : ActV K H C a c ms) (q : ∀ p ys, SqT K H p ys → TyX K H (.ref p) (.type "tuple") → Paired (MvR K H) ys ms → G c ms p ys H Q) : spGet K C G [.ref a] H Q E := by
  obtain ⟨dx, p, ys, h1, h2, h3, h4, h5, h6, h7⟩ := v
  exact ⟨a, p, c, ms, ys, dx, rfl, h1, h2, h3, h4, h5, h6, h7, q p ys h2 h3 h4⟩
theorem ActV.prop {K : PySem.W.Frag} {H : Hp} {C a : Addr} {c : Str} {ms : List Mv} {Q : VK} {E : XK} {G : Str → List Mv → Addr → List V → Hp → VK → Prop} (v : ActV K H C a c ms) (q : ∀ p ys, SqT K H p ys → TyX K H (.ref p) (.type "tuple") → Paired (MvR K H) ys ms → G c ms p ys H Q) : ∃ a' dx fs, V.ref a = .ref a' ∧ H a' = some (.ins C dx fs) ∧ spGet K C G (.ref a' :: []) H Q E := by
  obtain ⟨dx, fs, e⟩ := v.ins
  exact ⟨a, dx, fs, rfl, e, v.sp q⟩
theorem act_ty {K : PySem.W.Frag} {H : Hp} {C a : Addr} {c : Str} {ms : List Mv} (IC : C8.InsC K C) (v : ActV K H C a c ms) : TyX K H (.ref a) (.ref C) := by
  obtain ⟨dx, fs, e⟩ := v.ins
  exact .base (.ins e IC.cl IC.ha IC.hn IC.htk IC.hm)
/-- two actions compared -/
theorem act_eq {K : PySem.W.Frag} {H : Hp} {C a b : Addr} {c c' : Str} {ms ms' : List Mv} {E : XK} {neg : Bool} {Q : VK} (IC : C8.InsC K C) (v : ActV K H C a c ms) (v' : ActV K H C b c' ms') (q : Q (.bl (neg ^^ (decide (c = c') && decide (ms = ms')))) H) : rEqO K C (spEqA K C) E neg (.ref a) (.ref b) H Q := by
  refine ⟨a, .ref C, rfl, v.ins, act_ty IC v', ?_, a, .ref b, c, ms, rfl, v, .inl ⟨b, c', ms', rfl, v', _, rfl, q⟩⟩
  unfold PySem.W.notFirst
  simp
/-- .. with what is none -/
theorem act_no {K : PySem.W.Frag} {H : Hp} {C a : Addr} {y : V} {T : String} {c : Str} {ms : List Mv} {E : XK} {neg : Bool} {Q : VK} (v : ActV K H C a c ms) (ty : TyX K H y (.type T)) (nf : PySem.W.notFirst K C (.type T) = true) (kit : PySem.W.kitOne K (.type T) (.ref C) = some false) (q : Q (.bl neg) H) : rEqO K C (spEqA K C) E neg (.ref a) y H Q := by
  refine ⟨a, .type T, rfl, v.ins, ty, nf, a, y, c, ms, rfl, v, .inr ⟨.type T, ty, kit, false, rfl, ?_⟩⟩
  rw [Bool.xor_false]
  exact q
/-- a list that is written to changes no action -/
theorem act_mut {K : PySem.W.Frag} {H : Hp} {C a o : Addr} {c : Str} {ms : List Mv} {xs : List V} {u : HO} (v : ActV K H C a c ms) (e : H o = some (.lst xs)) : ActV K (upd H o u) C a c ms := by
  have go : ∀ (p : Addr) (w : HO), (∀ zs, w ≠ .lst zs) → H p = some w → upd H o u p = some w := fun p w n e2 => by
    rw [upd_ne fun z => ?_]
    · exact e2
    · rw [z, e] at e2
      exact n _ (Option.some.inj e2).symm
  have gs : ∀ {p : Addr} {zs : List V}, SqT K H p zs → SqT K (upd H o u) p zs := fun {p zs} h => by
    rcases h with (h | ⟨w, h⟩) | h
    · exact .inl (.inl (go _ _ (fun _ z => by cases z) h))
    · exact .inl (.inr ⟨w, go _ _ (fun _ z => by cases z) h⟩)
    · exact .inr h
  have gt : ∀ {x : V}, TyX K H x (.type "tuple") → TyX K (upd H o u) x (.type "tuple") := fun {x} h => by
    generalize ht : Value.type "tuple" = w at h
    cases h with
    | base b =>
      cases b with
      | tup e =>
        rw [← ht]
        exact .base (.tup (go _ _ (fun _ z => by cases z) e))
      | _ => first | exact absurd ht (by decide) | (injection ht with q; exact absurd q (by decide)) | cases ht
    | kTuple e c =>
      rw [← ht]
      exact .kTuple e c
    | fTuple e =>
      rw [← ht]
      exact .fTuple (go _ _ (fun _ z => by cases z) e)
    | _ => first | exact absurd ht (by decide) | (injection ht with q; exact absurd q (by decide)) | cases ht
  obtain ⟨dx, p, ys, h1, h2, h3, h4, h5, h6, h7⟩ := v
  exact ⟨dx, p, ys, go _ _ (fun _ z => by cases z) h1, gs h2, gt h3, paired_mono (fun _ _ ⟨b, g1, g2, g3⟩ => ⟨b, g1, gs g2, gt g3⟩) h4, h5, h6, h7⟩
theorem ty_ext {K : PySem.W.Frag} {H H' : Hp} {x : V} {u : Value} (e : ExtN H H') (h : TyX K H x u) : TyX K H' x u := by
  cases h with
  | base h =>
    cases h with
    | non => exact .base .non
    | bl b => exact .base (.bl b)
    | int i => exact .base (.int i)
    | str z => exact .base (.str z)
    | flt z => exact .base (.flt z)
    | lst q => exact .base (.lst (e _ _ q fun _ z => by cases z))
    | frz q => exact .base (.frz (e _ _ q fun _ z => by cases z))
    | tup q => exact .base (.tup (e _ _ q fun _ z => by cases z))
    | dK q => exact .base (.dK (e _ _ q fun _ z => by cases z))
    | dT q => exact .base (.dT (e _ _ q fun _ z => by cases z))
    | ins q cl ha hn htk hm => exact .base (.ins (e _ _ q fun _ z => by cases z) cl ha hn htk hm)
  | byt b => exact .byt b
  | set q => exact .set (e _ _ q fun _ z => by cases z)
  | kList q c => exact .kList q c
  | kTuple q c => exact .kTuple q c
  | kDict q c => exact .kDict q c
  | fTuple q => exact .fTuple (e _ _ q fun _ z => by cases z)
  | fDict q => exact .fDict (e _ _ q fun _ z => by cases z)
theorem sqT_ext {K : PySem.W.Frag} {H H' : Hp} {p : Addr} {xs : List V} (e : ExtN H H') (h : SqT K H p xs) : SqT K H' p xs := by
  rcases h with (h | ⟨w, h⟩) | h
  · exact .inl (.inl (e _ _ h fun _ z => by cases z))
  · exact .inl (.inr ⟨w, e _ _ h fun _ z => by cases z⟩)
  · exact .inr h
theorem mvR_ext {K : PySem.W.Frag} {H H' : Hp} {x : V} {m : Mv} (e : ExtN H H') (h : MvR K H x m) : MvR K H' x m := by
  obtain ⟨b, rfl, h1, h2⟩ := h
  exact ⟨b, rfl, sqT_ext e h1, ty_ext e h2⟩
theorem lnV_ext {K : PySem.W.Frag} {H H' : Hp} {x : V} (e : ExtN H H') (h : LnV K H x) : LnV K H' x := by
  rcases h with h | ⟨t, h1, h2⟩
  · exact .inl h
  · exact .inr ⟨t, ty_ext e h1, h2⟩
theorem nm_ext {K : PySem.W.Frag} {H H' : Hp} {x : V} {b : Bool} (e : ExtN H H') (h : NmV K H x b) : NmV K H' x b := by
  rcases h with h | ⟨e1, u, hu, hk⟩
  · exact .inl h
  · exact .inr ⟨e1, u, ty_ext e hu, hk⟩
theorem mv_ext {K : PySem.W.Frag} {H H' : Hp} {x : V} {b : Bool} (e : ExtN H H') (h : MvV K H x b) : MvV K H' x b := by
  rcases h with ⟨a, xs, bs, rfl, h1, h2, h3, h4⟩ | ⟨e1, u, hu, hk⟩
  · exact .inl ⟨a, xs, bs, rfl, sqT_ext e h1, ty_ext e h2, paired_mono (fun _ _ h => nm_ext e h) h3, h4⟩
  · exact .inr ⟨e1, u, ty_ext e hu, hk⟩
theorem mvs_ext {K : PySem.W.Frag} {H H' : Hp} {x : V} {b : Bool} (e : ExtN H H') (h : MvsV K H x b) : MvsV K H' x b := by
  rcases h with ⟨a, xs, bs, rfl, h1, h2, h3, h4⟩ | ⟨e1, u, hu, hk⟩
  · exact .inl ⟨a, xs, bs, rfl, sqT_ext e h1, ty_ext e h2, paired_mono (fun _ _ h => mv_ext e h) h3, h4⟩
  · exact .inr ⟨e1, u, ty_ext e hu, hk⟩
theorem kl_mut {T : List (Addr × Str)} {t p : Addr} {H H1 H2 : Hp} {xs : List V} {u : HO} (a : Kl T t H H1) (n : H1 p = none) (b : Kl T t H1 H2) (e : H2 p = some (.lst xs)) : Kl T t H (upd H2 p u) := by
  have np : p ≠ t := Kt.ne a.tp n
  have kk : ∀ q w, q ≠ p → H2 q = some w → upd H2 p u q = some w := fun q w h e => by rw [upd_ne h]; exact e
  obtain ⟨x, y, z, q⟩ := b.tp
  refine ⟨⟨x, y, z, kk _ _ np.symm q⟩, fun r hr => ?_, fun c o nc m ho => ?_⟩
  · obtain ⟨ps, e1, ok, h3⟩ := b.tb r hr
    refine ⟨ps, kk _ _ (fun z => by rw [z, e] at e1; cases e1) e1, ok, fun pos cv hc => ?_⟩
    obtain ⟨c', e2, e3⟩ := h3 pos cv hc
    refine ⟨c', e2, kk _ _ (fun z => ?_) e3⟩
    rw [z, e] at e3
    unfold CodeO at e3
    cases e3
  · have h1 := a.kp _ _ nc m ho
    exact kk _ _ (fun z => by rw [z, n] at h1; cases h1) (b.kp _ _ nc m h1)
section
variable {P : Program} {w : World} {K : PySem.W.Frag} {mg : Str → Option Value} {base : Heap}
theorem ok_right {TT : List (Addr × Str)} {C_Action CP CN CA fI fF pF fC pC fM pM fO pO fL fE fS fIe : Addr} {dI dF dC dM dO dL dE dS fde : FuncData} {mc : Value} (B : Blt mg) (TA : ActK K mg C_Action fI fF pF fC pC fM pM fO pO fL fE fS dI dF dC dM dO dL dE dS mc)
    (T_ParseError : IniT K mg "ParseError" "line" s_ParseError___init CP fIe fde) (X_ParseError : XfC K CP) (T_InvalidName : OwnT K mg "InvalidName" CN) (T_InvalidAction : OwnT K mg "InvalidAction" CA)
    (eNP : PySem.W.exmOne K (.ref CN) (.ref CP) = some false) (eAP : PySem.W.exmOne K (.ref CA) (.ref CP) = some false) (eAN : PySem.W.exmOne K (.ref CA) (.ref CN) = some false)
    (TBl : LamX.TabB base mg (He.cT K ("_law_right", none)).1 (He.cT K ("_law_right", none)).2) (hmT : ((He.cT K ("_law_right", none)).2, qR) ∈ TT) (huT : ∀ p ∈ TT, p.1 = (He.cT K ("_law_right", none)).2 → p.2 = qR)
    (G_init : FnOk P w K mg base (L2.CX P w) 4 fI dI ["self", "called", "moves"] (spAct K C_Action CN CA)) (G_from_line : FnOk P w K mg base (L2.CX P w) 6 fF dF ["cls", "line"] (spFrom K C_Action CP))
    (G_called : FnOk P w K mg base CX0 1 fC dC ["self"] (spGet K C_Action gCalled)) (G_moves : FnOk P w K mg base CX0 1 fM dM ["self"] (spGet K C_Action gMoves)) (G_owners : FnOk P w K mg base CX0 1 fO dO ["self"] (spGet K C_Action gOwners))
    (G_len : FnOk P w K mg base CX0 1 fL dL ["self"] (spGet K C_Action gLen)) (G_eq : FnOk P w K mg base CX0 1 fE dE ["self", "other"] (spEqA K C_Action)) (G_str : FnOk P w K mg base CX0 2 fS dS ["self"] (spGet K C_Action gStr))
    {f1 f2 f3 f4 f5 f6 f7 f8 f : Addr} {d1 d2 d3 d4 d5 d6 d7 d8 fd : FuncData}
    (D_word_drawn : Df K mg "_law_word_drawn" s_word_drawn ["tape"] f1 d1) (G_word_drawn : FnOk P w K mg base CX0 3 f1 d1 ["tape"] spWord4)
    (D_moves_drawn : Df K mg "_law_moves_drawn" s_moves_drawn ["tape"] f2 d2) (G_moves_drawn : FnOk P w K mg base CX0 5 f2 d2 ["tape"] (spMvsD K))
    (D_action_line : Df K mg "_law_action_line" s_action_line ["called", "moves"] f3 d3) (G_action_line : FnOk P w K mg base CX0 1 f3 d3 ["called", "moves"] (spLine K))
    (D_few : Df K mg "_law_few" s_few ["tape", "items", "many"] f4 d4) (G_few : FnOk P w K mg base CX0 2 f4 d4 ["tape", "items", "many"] (spFewV K))
    (D_wrong_line : Df K mg "_law_wrong_line" s_wrong_line ["tape", "called", "moves"] f5 d5) (G_wrong_line : FnOk P w K mg base CX0 3 f5 d5 ["tape", "called", "moves"] (spWL K))
    (D_wrong_moves : Df K mg "_law_wrong_moves" s_wrong_moves ["tape", "moves"] f6 d6) (G_wrong_moves : FnOk P w K mg base CX0 3 f6 d6 ["tape", "moves"] (spWM K))
    (D_pick : Df K mg "_law_pick" s_pick ["tape", "items"] f7 d7) (G_pick : FnOk P w K mg base CX0 2 f7 d7 ["tape", "items"] (spPick K))
    (D_met : Df K mg "_law_met" s_met ["call"] f8 d8)
    (D : Df K mg "_law_right" s_right ["tape"] (He.fAd K ("_law_right", none)) fd) : FnOk P w K mg base CX0 11 (He.fAd K ("_law_right", none)) fd ["tape"] (spRight TT) := by
  refine fun_okC (p := ("_law_right", none)) rfl D.F sc_right (fun vs H Q E h => ?_) (fun A outer s H vs Q E hr h => ?_)
  · obtain ⟨t, rfl, _⟩ := h
    rfl
  · obtain ⟨t, rfl, hT, hTb, q⟩ := h
    refine ⟨_, (pss_cons (ps_asg (pe_tupN (pa_cons (pe_call G_word_drawn (hr.mono (by decide)) (by rfl) D_word_drawn.g D_word_drawn.F.kp D_word_drawn.b .nil pass0 (pa_cons (pv 0) pa_nil)) (pa_cons (pe_call G_moves_drawn (hr.mono (by decide)) (by rfl) D_moves_drawn.g D_moves_drawn.F.kp D_moves_drawn.b .nil pass0 (pa_cons (pv 0) pa_nil)) pa_nil))) (pg_tup (by rfl) (pgs_cons (pg_name (i := 1) sc_right.nd rfl (Or.inr rfl)) (pgs_cons (pg_name (i := 2) sc_right.nd rfl (Or.inl rfl)) pgs_nil))))
    (pss_cons (ps_set (i := 3) sc_right.nd rfl (Or.inr rfl) (pe_call G_action_line (hr.mono (by decide)) (by rfl) D_action_line.g D_action_line.F.kp D_action_line.b .nil pass0 (pa_cons (pv 1) (pa_cons (pv 2) pa_nil))))
    (pss_cons (ps_set (i := 4) sc_right.nd rfl (Or.inr rfl) (pe_makeS TA.M G_init (hr.mono (by decide)) (by rfl) TA.g TA.BI (fun σ pins H s e s' I c => passL0 pins σ H s e s' I c) (pa_cons (pv 1) (pa_cons (pe_callTy call_tupN (by rfl) B.tuple_ (by decide +kernel) (pa_cons (pv 2) pa_nil)) pa_nil))))
    (pss_cons (ps_set (i := 5) sc_right.nd rfl (Or.inl rfl) (pe_lstN (pa_cons (pe_prop (pv 4) TA.AC.cl TA.P_called G_called (hr.mono (by decide)) TA.B_called .nil pass0 rfl) (pa_cons (pe_prop (pv 4) TA.AC.cl TA.P_moves G_moves (hr.mono (by decide)) TA.B_moves .nil pass0 rfl) (pa_cons (pe_prop (pv 4) TA.AC.cl TA.P_owners G_owners (hr.mono (by decide)) TA.B_owners .nil pass0 rfl) (pa_cons (pe_callB (cr_lenO TA.OL G_len TA.BL pass0 (hr.mono (by decide))) (by rfl) B.len_ (by decide +kernel) (pa_cons (pv 4) pa_nil)) (pa_cons (pe_callTy (cr_strO TA.OS G_str TA.BS pass0 (hr.mono (by decide))) (by rfl) B.str_ (by decide +kernel) (pa_cons (pv 4) pa_nil)) pa_nil)))))))
    (pss_cons (ps_if (pt_cmpR (op_neD hr.units) (pv 5) (pe_lstN (pa_cons (pv 1) (pa_cons (pe_callTy call_tupN (by rfl) B.tuple_ (by decide +kernel) (pa_cons (pe_callB (cr_sortM hr) (by rfl) B.sorted_ (by decide +kernel) (pa_cons (pv 2) pa_nil)) pa_nil)) (pa_cons (pe_callTy call_tupN (by rfl) B.tuple_ (by decide +kernel) (pa_cons (pe_sortSet (by rfl) (by rfl) B.sorted_ (by rfl) B.set_ (pe_lc (own := [("move", 12)]) (g := gName 12) (tt := tYes) (by rfl) sc_right.nd (pi_list (pv 2)) (blkOk_by (N := ["tape", "called", "moves", "line", "made", "told", "same", "others", "turn", "odd", "name", "bad", "move", "one"]) (sc := defScope s_right) (by decide +kernel)) (fun _ _ _ _ _ => (pg_name (i := 12) sc_right.nd rfl (Or.inl rfl))) (fun _ _ _ _ _ => pts_nil) (fun _ _ _ _ _ => (pe_ix (ix_tupK K rfl) (pv 12) pe_int (fun _ _ => rfl))))) pa_nil)) (pa_cons (pe_callB call_len_seq (by rfl) B.len_ (by decide +kernel) (pa_cons (pv 2) pa_nil)) (pa_cons (pv 3) pa_nil)))))) (nomark _))
    (pss_one (ps_ret pe_bl)) pss_nil)
    (pss_cons (ps_set (i := 6) sc_right.nd rfl (Or.inl rfl) (pe_lstN (pa_cons (pe_makeS TA.M G_init (hr.mono (by decide)) (by rfl) TA.g TA.BI (fun σ pins H s e s' I c => passL0 pins σ H s e s' I c) (pa_cons (pv 1) (pa_cons (pe_callTy call_tupN (by rfl) B.tuple_ (by decide +kernel) (pa_cons (pe_call G_few (hr.mono (by decide)) (by rfl) D_few.g D_few.F.kp D_few.b .nil pass0 (pa_cons (pv 0) (pa_cons (pv 2) (pa_cons pe_int pa_nil)))) pa_nil)) pa_nil))) (pa_cons (ClX.pe_cmeth (pe_glob (v := .ref C_Action) rfl TA.g rfl) TA.R TA.CM (G_from_line.raw TA.BF .nil) (hr.mono (by decide)) passL (pa_cons (pv 3) pa_nil)) pa_nil))))
    (pss_cons (ps_if (pt_cmpR (op_neE hr.units) (pe_lc (own := [("one", 13)]) (g := gName 13)  (by rfl) sc_right.nd (pi_list (pv 6)) (blkOk_by (N := ["tape", "called", "moves", "line", "made", "told", "same", "others", "turn", "odd", "name", "bad", "move", "one"]) (sc := defScope s_right) (by decide +kernel)) (fun _ _ _ _ _ => (pg_name (i := 13) sc_right.nd rfl (Or.inl rfl))) (fun _ _ _ _ _ => pts_one (PW.pt (pw_or (pt_cmpR (op_neOK K rfl TA.OE TA.NE TA.HO G_eq TA.BE pass0 (hr.mono (by decide))) (pv 4) (pv 13) (nomark _)) (pw_or (pt_not (pt_cmpR (op_eqOK K rfl TA.OE G_eq TA.BE pass0 (hr.mono (by decide))) (pv 13) (pv 4) (nomark _))) (pw_or1 (pt_cmpR op_ne (pe_callTy (cr_strO TA.OS G_str TA.BS pass0 (hr.mono (by decide))) (by rfl) B.str_ (by decide +kernel) (pa_cons (pv 13) pa_nil)) (pv 3) (nomark _))))))) (fun _ _ _ _ _ => (pv 13))) (pe_lstN pa_nil) (nomark _))
    (pss_one (ps_ret pe_bl)) pss_nil)
    (pss_cons (ps_set (i := 7) sc_right.nd rfl (Or.inl rfl) (pe_lstN (pa_cons (pe_makeS TA.M G_init (hr.mono (by decide)) (by rfl) TA.g TA.BI (fun σ pins H s e s' I c => passL0 pins σ H s e s' I c) (pa_cons (pe_ifExp (pt_cmpR op_lt (pe_callB call_len_str (by rfl) B.len_ (by decide +kernel) (pa_cons (pv 1) pa_nil)) pe_int (nomark _)) (pe_op op_add_str (pv 1) pe_str) pe_str) (pa_cons (pe_callTy call_tupN (by rfl) B.tuple_ (by decide +kernel) (pa_cons (pv 2) pa_nil)) pa_nil))) (pa_cons (pv 3) (pa_cons pe_non (pa_cons (pe_tupN (pa_cons (pv 1) (pa_cons (pe_callTy call_tupN (by rfl) B.tuple_ (by decide +kernel) (pa_cons (pv 2) pa_nil)) pa_nil))) pa_nil))))))
    (pss_cons (ps_expr (pe_bm PySem.F.plainAttrs_list PySem.F.slot_list_append PySem.F.type_list_append mt_append (pv 7) (pa_cons (pe_makeS TA.M G_init (hr.mono (by decide)) (by rfl) TA.g TA.BI (fun σ pins H s e s' I c => passL0 pins σ H s e s' I c) (pa_cons (pv 1) (pa_cons (pe_callTy call_tupN (by rfl) B.tuple_ (by decide +kernel) (pa_cons (pe_op op_catN (pe_slice sl_listN (pv 2) (po_some pe_int) po_none) (pe_lstN (pa_cons (pe_tupN (pa_cons (pe_ix ix_tup (pe_ix ix_list (pv 2) pe_int (fun _ _ => rfl)) pe_int (fun _ _ => rfl)) (pa_cons (pe_ix ix_tup (pe_ix ix_list (pv 2) pe_int (fun _ _ => rfl)) pe_int (fun _ _ => rfl)) (pa_cons pe_str pa_nil)))) pa_nil))) pa_nil)) pa_nil))) pa_nil)))
    (pss_cons (ps_expr (pe_bm PySem.F.plainAttrs_list PySem.F.slot_list_append PySem.F.type_list_append mt_append (pv 7) (pa_cons (pe_ifExp (pt_cmpR op_lt (pe_callB call_len_seq (by rfl) B.len_ (by decide +kernel) (pa_cons (pv 2) pa_nil)) pe_int (nomark _)) (pe_makeS TA.M G_init (hr.mono (by decide)) (by rfl) TA.g TA.BI (fun σ pins H s e s' I c => passL0 pins σ H s e s' I c) (pa_cons (pv 1) (pa_cons (pe_callTy call_tupN (by rfl) B.tuple_ (by decide +kernel) (pa_cons (pe_op op_catN (pv 2) (pe_slice sl_listN (pv 2) po_none (po_some pe_int))) pa_nil)) pa_nil))) pe_non) pa_nil)))
    (pss_cons (ps_if (pt_cmpR (op_neE hr.units) (pe_lc (own := [("one", 13)]) (g := gName 13)  (by rfl) sc_right.nd (pi_list (pv 7)) (blkOk_by (N := ["tape", "called", "moves", "line", "made", "told", "same", "others", "turn", "odd", "name", "bad", "move", "one"]) (sc := defScope s_right) (by decide +kernel)) (fun _ _ _ _ _ => (pg_name (i := 13) sc_right.nd rfl (Or.inl rfl))) (fun _ _ _ _ _ => pts_one (PW.pt (pw_or (pt_cmpR (op_eqOK K rfl TA.OE G_eq TA.BE pass0 (hr.mono (by decide))) (pv 4) (pv 13) (nomark _)) (pw_or1 (pt_not (pt_cmpR (op_neOK K rfl TA.OE TA.NE TA.HO G_eq TA.BE pass0 (hr.mono (by decide))) (pv 4) (pv 13) (nomark _))))))) (fun _ _ _ _ _ => (pv 13))) (pe_lstN pa_nil) (nomark _))
    (pss_one (ps_ret pe_bl)) pss_nil)
    (pss_cons (ps_for PassesOwn.never rfl (pi_range1 (by rfl) B.range (pa_cons pe_int pa_nil)) (pg_name (i := 8) sc_right.nd rfl (Or.inl rfl))
    (pss_cons (ps_set (i := 9) sc_right.nd rfl (Or.inr rfl) (pe_call G_wrong_line (hr.mono (by decide)) (by rfl) D_wrong_line.g D_wrong_line.F.kp D_wrong_line.b .nil pass0 (pa_cons (pv 0) (pa_cons (pv 1) (pa_cons (pv 2) pa_nil)))))
    (pss_one (ps_if (pt_cmpR op_ne (pe_metT (k := 7) (T := TT) (by rfl) D_met sc_met rfl (.inl rfl) (fun cdg => met_gives X_ParseError T_ParseError.no B.repr_ T_ParseError.g T_InvalidName.g T_InvalidAction.g) TBl rfl hmT huT (hr.mono (by decide)) (LamX.lamS_by (sc := defScope s_right) (by decide +kernel)) rfl (fun _ _ _ _ _ => rfl) (fun A2 outer2 s2 H2 E2 f2 c2 hr2 => (ClX.pe_cmeth (E := E2) (pe_glob (v := .ref C_Action) rfl TA.g rfl) TA.R TA.CM (G_from_line.raw TA.BF .nil) (hr2.mono (by decide)) (fun pins σ H s e s' I c => passAt (takes_of rfl rfl rfl rfl) σ pins H s e s' I c) (by exact (pa_cons (pvF 9) pa_nil))))) pe_str (nomark _))
    (pss_one (ps_ret pe_bl)) pss_nil))))
    (pss_cons (ps_asg (pe_tupN (pa_cons (pe_call G_pick (hr.mono (by decide)) (by rfl) D_pick.g D_pick.F.kp D_pick.b .nil pass0 (pa_cons (pv 0) (pa_cons (pe_lstN (pa_cons pe_non (pa_cons pe_int (pa_cons pe_str (pa_cons pe_str (pa_cons (pe_op op_add_str (pv 1) pe_str) (pa_cons pe_str (pa_cons (pe_tupN (pa_cons (pv 1) pa_nil)) pa_nil)))))))) pa_nil))) (pa_cons (pe_call G_wrong_moves (hr.mono (by decide)) (by rfl) D_wrong_moves.g D_wrong_moves.F.kp D_wrong_moves.b .nil pass0 (pa_cons (pv 0) (pa_cons (pv 2) pa_nil))) pa_nil))) (pg_tup (by rfl) (pgs_cons (pg_name (i := 10) sc_right.nd rfl (Or.inr rfl)) (pgs_cons (pg_name (i := 11) sc_right.nd rfl (Or.inr rfl)) pgs_nil))))
    (pss_cons (ps_set (i := 5) sc_right.nd rfl (Or.inl rfl) (pe_lstN (pa_cons (pe_metT (k := 7) (T := TT) (by rfl) D_met sc_met rfl (.inl rfl) (fun cdg => met_gives X_ParseError T_ParseError.no B.repr_ T_ParseError.g T_InvalidName.g T_InvalidAction.g) TBl rfl hmT huT (hr.mono (by decide)) (LamX.lamS_by (sc := defScope s_right) (by decide +kernel)) rfl (fun _ _ _ _ _ => rfl) (fun A2 outer2 s2 H2 E2 f2 c2 hr2 => (pe_makeS TA.M G_init (hr2.mono (by decide)) (by rfl) TA.g TA.BI (fun σ => passAt (takes_of rfl rfl rfl rfl) σ) (by exact (pa_cons (pvF 10) (pa_cons (pvF 11) pa_nil)))))) pa_nil)))
    (pss_cons (ps_expr (pe_bm PySem.F.plainAttrs_list PySem.F.slot_list_append PySem.F.type_list_append mt_append (pv 5) (pa_cons (pe_metT (k := 7) (T := TT) (by rfl) D_met sc_met rfl (.inl rfl) (fun cdg => met_gives X_ParseError T_ParseError.no B.repr_ T_ParseError.g T_InvalidName.g T_InvalidAction.g) TBl rfl hmT huT (hr.mono (by decide)) (LamX.lamS_by (sc := defScope s_right) (by decide +kernel)) rfl (fun _ _ _ _ _ => rfl) (fun A2 outer2 s2 H2 E2 f2 c2 hr2 => (pe_makeS TA.M G_init (hr2.mono (by decide)) (by rfl) TA.g TA.BI (fun σ => passAt (takes_of rfl rfl rfl rfl) σ) (by exact (pa_cons (pvF 1) (pa_cons (pvF 11) pa_nil)))))) pa_nil)))
    (pss_one (ps_ret (pe_cmpR (op_eqD hr.units) (pv 5) (pe_lstN (pa_cons pe_str (pa_cons pe_str pa_nil))) (nomark _))))))))))))))))))), ?_⟩
    have sl : ∀ n : Nat, n ≤ 100000 → n ≤ sizeLine := fun n hn => by rw [sizeLine_eq]; omega
    refine ⟨_, rfl, t, rfl, hT, fun c H1 hcV k1 => ⟨_, rfl, t, rfl, k1.tp, fun l ys ms H2 el nlt py l1 l4 hw h4 k2 => ⟨sl 2 (by decide), fun T0 H3 n3 e3 s3 => ⟨T0, _, rfl, SqT.of e3, rfl, _, _, rfl, _, _, rfl, rfl, ?_⟩⟩⟩⟩
    have hc := isV_w hcV
    have K3 : Kl TT t H H3 := (Kl.of (k1.trans k2) hT hTb).same s3
    have el3 := s3 _ _ el
    have py3 := paired_mono (fun _ _ h => MvR.same s3 h) py
    refine ⟨_, rfl, _, rfl, c, l, ys, ms, rfl, hc, SqL.of el3, py3, l4, hw, fun H4 s4 => ?_⟩
    have hso := sortM_idem ms
    have hwn : OkMv (sortM ms) := fun m hm => hw m (sortM_mem.mp hm)
    have n1 : 1 ≤ (sortM ms).length := by rw [sortM_len]; exact l1
    have n4 : (sortM ms).length ≤ 4 := by rw [sortM_len]; exact l4
    have lme : (sortM ms).length = ms.length := sortM_len ms
    have py4 := paired_mono (fun _ _ h => MvR.same s4 h) py3
    refine ⟨_, rfl, _, rfl, l, ys, rfl, SqL.of (s4 _ _ el3), fun T5 H5 n5 e5 s5 => ?_⟩
    refine of_nil (make_act hc (.inl (.inl e5)) (.base (.tup e5)) (paired_mono (fun _ _ h => MvR.same s5 h) py4) l1 l4 hw fun a H6 s6 v6 => ?_)
    have K6 : Kl TT t H H6 := ((K3.same s4).same s5).same s6
    -- what it tells
    refine ⟨_, rfl, v6.prop fun _ _ _ _ _ => ?_⟩
    refine ⟨_, rfl, v6.prop fun pm ym g1 g2 g3 => ?_⟩
    refine ⟨_, rfl, v6.prop fun _ _ _ _ _ => fun os ro H7 so nd mo s7 eo => ?_⟩
    have v7 := v6.same s7
    refine ⟨_, rfl, a, rfl, v7.ins, v7.sp fun _ _ _ _ _ => ⟨_, rfl, by omega, by omega, ?_⟩⟩
    refine ⟨_, rfl, a, rfl, v7.ins, v7.sp fun _ _ _ _ _ => fun H8 s8 => ⟨_, rfl, sl 5 (by decide), fun L H9 n9 e9 s9 => ?_⟩⟩
    have s69 : Same H6 H9 := s7.trans (s8.trans s9)
    have s39 : Same H3 H9 := s4.trans (s5.trans (s6.trans s69))
    have K9 : Kl TT t H H9 := K6.same s69
    have py9 := paired_mono (fun _ _ h => MvR.same s39 h) py3
    have el9 := s39 _ _ el3
    have hlen := py.length
    refine ⟨_, rfl, _, rfl, _, rfl, l, ys, ms, rfl, .inl (SqL.of el9), py9, by omega, fun zs pz D1 HA nA eA sA => ⟨D1, zs, rfl, SqL.of eA, fun T6 HB nB eB sB => ?_⟩⟩
    have s9B : Same H9 HB := sA.trans sB
    refine ⟨_, rfl, l, rfl, ⟨ys, SqL.of (s9B _ _ el9)⟩, fun D2 hD2 => ?_⟩
    refine lc_list (K := K) (a := l) (xs := ys) (fun i H5' => Same HB H5' ∧ H5' D2 = some (.lst (((ms.take i).map fun m => m.1).map V.str))) ⟨gSame_new hD2, upd_same⟩ (fun i H5' _ h5 => SqL.of (h5.1 _ _ (s9B _ _ el9))) (fun i x H5' hx h5 => ?_) (fun H5' h5 => ?_)
    · obtain ⟨s5', d5⟩ := h5
      obtain ⟨m, hm, mr⟩ := paired_get py9 hx
      obtain ⟨b, rfl, m1, m2⟩ := mr.same (s9B.trans s5')
      refine ⟨rfl, _, rfl, b, _, 0, .str m.1, rfl, rfl, m1, rfl, _, d5, ?_, gSame_mut s5' hD2, ?_⟩
      · rw [List.length_map, List.length_map, List.length_take]
        exact small1000 (by omega)
      · rw [upd_same, List.take_add_one, hm, List.map_append, List.map_append]
        rfl
    · obtain ⟨s5', d5⟩ := h5
      have e : ms.take ys.length = ms := List.take_of_length_le (Nat.le_of_eq hlen.symm)
      rw [e] at d5
      refine ⟨D2, ms.map fun m => m.1, rfl, .inl (SqL.of d5), by rw [List.length_map]; omega, fun os2 p9 so2 nd2 mo2 hp9 => ⟨p9, _, rfl, SqL.of upd_same, fun T7 HC nC eC sC => ?_⟩⟩
      have sBC : Same HB HC := s5'.trans ((gSame_new hp9).trans sC)
      have s9C : Same H9 HC := s9B.trans sBC
      have eos : os2 = os := sorted_one so2 so ((List.perm_ext_iff_of_nodup nd2 nd).mpr fun k => by
        rw [mo2 k, mo k]
        simp only [List.mem_map]
        constructor
        · rintro ⟨m, hm, e⟩
          exact ⟨m, sortM_mem.mpr hm, e⟩
        · rintro ⟨m, hm, e⟩
          exact ⟨m, sortM_mem.mp hm, e⟩)
      subst eos
      refine ⟨_, rfl, l, ys, rfl, .inl (SqL.of (s9C _ _ el9)), _, rfl, sl 5 (by decide), fun L2 HD nD eD sD => ?_⟩
      have s9D := s9C.trans sD
      have hos : ∀ s ∈ os2, isW s = true := fun s hs => by
        obtain ⟨m, hm, rfl⟩ := List.mem_map.mp ((mo s).mp hs)
        exact hwn m hm _ (by simp [wds])
      have shp : SeqAt.shaped (.list [.str c, .tuple ((sortM ms).map encM), .tuple (os2.map .str), .int (ms.length : Nat), .str (liA c (sortM ms))]) = true := by
        have d1 := depth_mvs (sortM ms)
        have d2 := gDepS os2
        have c1 := can_mvs (sortM ms) hwn
        have c2 := gLayS os2 (.of hos)
        have c3 := strOk_w hc
        have c4 := strOk_lt (li_ascii hc hwn)
        simp [SeqAt.shaped, PyData.canLay0, PyData.canLayAll0, PyData.depth, PyData.depthAll, c1, c2, c3, c4, d2]
        omega
      refine ⟨.list [.str c, .tuple ((sortM ms).map encM), .tuple (os2.map .str), .int (ms.length : Nat), .str (liA c (sortM ms))], .list [.str c, .tuple ((sortM ms).map encM), .tuple (os2.map .str), .int (ms.length : Nat), .str (liA c (sortM ms))], ?_, ?_, shp, shp, ?_⟩
      · have eL := s9D _ _ e9
        rw [lme] at eL
        exact .lst (SqL.of eL) (.cons (.str c) (.cons (.tup (gSeqT (s69.trans s9D) g1) (mvs_dp (paired_mono (fun _ _ h => MvR.same (s69.trans s9D) h) g3))) (.cons (.tup (.inl (.inl (s9D _ _ (s9 _ _ (s8 _ _ eo))))) (dpAll_strs os2)) (.cons (.int _) (.cons (.str _) .nil)))))
      · rw [hlen] at eD
        exact .lst (SqL.of eD) (.cons (.str c) (.cons (.tup (.inl (.inl (sD _ _ (sBC _ _ eB)))) (mvs_dp (paired_mono (fun _ _ h => MvR.same s9D h) pz))) (.cons (.tup (.inl (.inl (sD _ _ eC))) (dpAll_strs os2)) (.cons (.int _) (.cons (.str _) .nil)))))
      · rw [SeqAt.eqv_refl_plain _ (PyData.plain_of_canLay0 _ (SeqAt.canLay_of_shaped shp))]
        refine ⟨_, rfl, ?_⟩
        have KD : Kl TT t H HD := K9.same s9D
        -- the same again
        have s3D : Same H3 HD := s39.trans s9D
        have elD := s3D _ _ el3
        have pyD := paired_mono (fun _ _ h => MvR.same s3D h) py3
        have hne : sortM ms ≠ [] := fun z => by
          rw [z] at n1
          simp at n1
        have lli : (liA c (sortM ms)).length ≤ 1000 := by
          have h1 := wrM_len n4 hwn
          have h2 := (isW_len hc).2
          have q1 : (Str.ofString " ").length = 1 := by decide +kernel
          unfold liA
          rw [Str.length_append, Str.length_append, q1]
          omega
        refine ⟨_, rfl, _, rfl, _, rfl, t, l, ys, 4, rfl, KD.tp, nlt, SqL.of elD, by omega, by decide, fun pf zf rest HE pmf lf npf epf kE => ⟨pf, zf, rfl, SqL.of epf, fun T8 HF nF eF sF => ?_⟩⟩
        have KE : Kl TT t H HE := KD.then kE
        have hz : zf.Perm ys := by
          have h1 := pmf.length_eq
          rw [List.length_append] at h1
          have h2 : zf.length = min 4 ys.length := lf
          have h3 : rest = [] := List.length_eq_zero_iff.mp (by omega)
          rw [h3, List.append_nil] at pmf
          exact pmf
        obtain ⟨ms2, pz2, pm2⟩ := paired_perm hz pyD
        have eM : sortM ms2 = sortM ms := sortM_eq pm2
        have vD : ActV K HD C_Action a c (sortM ms) := v6.same (s69.trans s9D)
        refine of_nil (make_act hc (.inl (.inl eF)) (.base (.tup eF)) (paired_mono (fun _ _ h => (kE.mvR KD.tp h).same sF) pz2) (by rw [pm2.length_eq]; exact l1) (by rw [pm2.length_eq]; exact l4) (fun m hm => hw m (pm2.mem_iff.mp hm)) fun a1 HG sG v1 => ?_)
        rw [eM] at v1
        refine ⟨rfl, _, rfl, .str (liA c (sortM ms)), rfl, .inl ⟨liA c (sortM ms), rfl, by omega, fun hn => ?_, fun c' ms' hrd a2 HH sH v2 => ?_⟩⟩
        · rw [rdA_li hc hne n4 hwn hso] at hn
          cases hn
        · rw [rdA_li hc hne n4 hwn hso] at hrd
          injection hrd with hrd
          injection hrd with hr1 hr2
          subst hr1
          subst hr2
          refine ⟨sl 2 (by decide), fun S1 HI nI eI sI => ?_⟩
          have sFH : Same HF HH := sG.trans sH
          have sFI : Same HF HI := sFH.trans sI
          have KI : Kl TT t H HI := (KE.same sF).same sFI
          have w1 : ActV K HI C_Action a1 c (sortM ms) := v1.same (sH.trans sI)
          have w2 : ActV K HI C_Action a2 c (sortM ms) := v2.same sI
          have vE : ActV K HI C_Action a c (sortM ms) := by
            obtain ⟨dx, p, ys0, g1, g2, g3, g4, g5, g6, g7⟩ := vD
            have at' : a ≠ t := fun z => by
              obtain ⟨x, y, z2, e⟩ := KD.tp
              rw [z, e] at g1
              cases g1
            have v' : ActV K HE C_Action a c (sortM ms) := ⟨dx, p, ys0, kE.kp _ _ at' g1, kE.sqT KD.tp g2, ty_kt kE KD.tp g3, paired_mono (fun _ _ h => kE.mvR KD.tp h) g4, g5, g6, g7⟩
            exact v'.same (sF.trans sFI)
          refine ⟨_, rfl, S1, rfl, ⟨_, SqL.of eI⟩, fun D3 hD3 => ?_⟩
          refine lc_list (K := K) (a := S1) (xs := [V.ref a1, .ref a2]) (fun i H5' => Same HI H5' ∧ H5' D3 = some (.lst [])) ⟨gSame_new hD3, upd_same⟩ (fun i H5' _ h5 => SqL.of (h5.1 _ _ eI)) (fun i x H5' hx h5 => ?_) (fun H5' h5 => ?_)
          · obtain ⟨s5', d5⟩ := h5
            obtain ⟨ax, rfl, vx⟩ : ∃ ax, x = .ref ax ∧ ActV K HI C_Action ax c (sortM ms) := by
              have hm := List.mem_of_getElem? hx
              simp only [List.mem_cons, List.not_mem_nil, or_false] at hm
              rcases hm with rfl | rfl
              · exact ⟨a1, rfl, w1⟩
              · exact ⟨a2, rfl, w2⟩
            have vE5 := vE.same s5'
            have vx5 := vx.same s5'
            have ee : (decide (c = c) && decide (sortM ms = sortM ms)) = true := by simp
            refine ⟨rfl, _, rfl, _, rfl, act_eq TA.IC vE5 vx5 ⟨_, rfl, ?_⟩⟩
            rw [ee]
            refine ⟨_, rfl, _, rfl, act_eq TA.IC vx5 vE5 ⟨_, rfl, ?_⟩⟩
            rw [ee]
            refine ⟨_, rfl, ax, rfl, vx5.ins, vx5.sp fun _ _ _ _ _ => fun H6' s6' => ⟨_, rfl, _, rfl, rfl, _, rfl, ?_⟩⟩
            have ed : (!decide (V.str (liA c (sortM ms)) = V.str (liA c (sortM ms)))) = false := by simp
            rw [ed]
            exact ⟨s5'.trans s6', s6' _ _ d5⟩
          · obtain ⟨s5', d5⟩ := h5
            refine ⟨sl 0 (by decide), fun D4 HJ nJ eJ sJ => ⟨D3, D4, [], rfl, rfl, SqL.of (sJ _ _ d5), SqL.of eJ, _, rfl, ?_⟩⟩
            have sIJ : Same HI HJ := s5'.trans sJ
            have KJ : Kl TT t H HJ := KI.same sIJ
            -- others
            have s3J : Same H3 HE → True := fun _ => trivial
            have elE := kE.kp _ _ nlt elD
            have sEJ : Same HE HJ := sF.trans (sFI.trans sIJ)
            have elJ := sEJ _ _ elE
            have pyE : Paired (MvR K HE) ys ms := paired_mono (fun _ _ h => kE.mvR KD.tp h) pyD
            have pyJ := paired_mono (fun _ _ h => MvR.same sEJ h) pyE
            have vJ := vE.same sIJ
            have lc8 := (isW_len hc).2
            have lc1 := (isW_len hc).1
            refine ⟨_, rfl, c, rfl, sl _ (by omega), _, _, rfl, rfl, _, rfl, ?_⟩
            refine meetR (fun v H1 => ∃ c2, v = .str c2 ∧ Same HJ H1 ∧ isW c2 = true ∧ c2 ≠ c) (fun cc Q qq => ?_) (fun cc Q qq => ?_) (fun v HK hv => ?_)
            · have hl7 : c.length < 8 := by
                have := of_decide_eq_true cc
                omega
              have qa : (Str.ofString "a").length = 1 := by decide +kernel
              have wa : isW (c ++ "a") = true := by
                refine isW_mk ?_ ?_ ?_
                · rw [Str.length_append, qa]
                  omega
                · rw [Str.length_append, qa]
                  omega
                · intro b hb
                  rw [TL.tl_append] at hb
                  rcases List.mem_append.mp hb with hb | hb
                  · exact isW_let hc b hb
                  · have : b = 97 := by
                      have e : TL.tl (Str.ofString "a") = [97] := by decide +kernel
                      rw [e] at hb
                      exact List.mem_singleton.mp hb
                    omega
              refine ⟨_, rfl, _, _, rfl, rfl, sl _ (by rw [qa]; omega), qq _ _ ⟨c ++ "a", rfl, Same.refl _, wa, fun z => ?_⟩⟩
              have := congrArg Str.length z
              rw [Str.length_append, qa] at this
              omega
            · refine qq _ _ ⟨"z", rfl, Same.refl _, by decide +kernel, fun z => cc (decide_eq_true ?_)⟩
              have qz : (Str.ofString "z").length = 1 := by decide +kernel
              rw [← z, qz]
              decide
            · obtain ⟨c2, rfl, sJK, hc2, nc2⟩ := hv
              refine ⟨_, rfl, l, ys, rfl, SqL.of (sJK _ _ elJ), fun T9 HL nL eL sL => ?_⟩
              refine of_nil (make_act hc2 (.inl (.inl eL)) (.base (.tup eL)) (paired_mono (fun _ _ h => MvR.same (sJK.trans sL) h) pyJ) l1 l4 hw fun a3 HM sM v3 => ?_)
              have sJM : Same HJ HM := sJK.trans (sL.trans sM)
              refine ⟨_, rfl, _, rfl, _, rfl, l, ys, rfl, SqL.of (sJM _ _ elJ), fun T10 HN nN eN sN => ⟨sl 2 (by decide), fun T11 HO nO eO sO => ⟨sl 4 (by decide), fun O1 HP nP eP sP => ?_⟩⟩⟩
              have sJP : Same HJ HP := sJM.trans (sN.trans (sO.trans sP))
              have eP' : HP O1 = some (.lst [V.ref a3, .str (liA c (sortM ms)), .non, .ref T11]) := eP
              clear eP
              -- one move's end another
              obtain ⟨m, r, rfl⟩ := List.exists_cons_of_ne_nil (l := ms) (fun z => by
                rw [z] at l1
                simp at l1)
              obtain ⟨x0, xr, rfl, h0, pr⟩ : ∃ x0 xr, ys = x0 :: xr ∧ MvR K HJ x0 m ∧ Paired (MvR K HJ) xr r := by
                cases pyJ with
                | cons h t => exact ⟨_, _, rfl, h, t⟩
              obtain ⟨b0, rfl, g1, g2⟩ := h0
              have okm := hw m (List.mem_cons_self ..)
              have at0 : ∀ (a : V) (q : List V), atI (a :: q) 0 = some a := fun a q => by
                unfold atI ixN
                simp
              have elP := sJP _ _ elJ
              have ec : cutV (V.ref b0 :: xr) (some 1) none = xr := by
                have := cut_from (fun x : V => x) (V.ref b0 :: xr) 1
                simpa using this
              refine ⟨_, rfl, .inl ⟨rfl, _, SqL.of eP'⟩, _, rfl, _, rfl, 1, rfl, l, _, rfl, SqL.of elP, fun S4 HQ nQ eQ sQ => ?_⟩
              rw [ec] at eQ
              have g1Q := gSeqT (sJP.trans sQ) g1
              refine ⟨_, rfl, l, _, 0, .ref b0, rfl, rfl, SqL.of (sQ _ _ elP), at0 _ _, b0, _, 0, .str m.1, rfl, rfl, g1Q, rfl, ?_⟩
              refine ⟨_, rfl, l, _, 0, .ref b0, rfl, rfl, SqL.of (sQ _ _ elP), at0 _ _, b0, _, 1, .str m.2.1, rfl, rfl, g1Q, rfl, ?_⟩
              have lxr : xr.length ≤ 3 := by
                have h1 := pr.length
                have h2 : r.length + 1 ≤ 4 := l4
                omega
              refine ⟨sl 3 (by decide), fun U1 HR nR eR sR => ⟨sl 1 (by decide), fun V1 HS nS eS sS => ⟨S4, V1, xr, _, rfl, rfl, sS _ _ (sR _ _ eQ), eS, sl _ (by show xr.length + 1 ≤ 100000; omega), fun W1 HT nT eT sT => ⟨W1, _, rfl, SqL.of eT, fun T12 HU nU eU sU => ?_⟩⟩⟩⟩
              have sPU : Same HP HU := sQ.trans (sR.trans (sS.trans (sT.trans sU)))
              have mU : MvR K HU (.ref U1) (m.1, m.2.1, "zzzz") := by
                have e : HU U1 = some (.tup [.str m.1, .str m.2.1, .str "zzzz"]) := sU _ _ (sT _ _ (sS _ _ eR))
                exact ⟨U1, rfl, .inl (.inl e), .base (.tup e)⟩
              have prU : Paired (MvR K HU) (xr ++ [.ref U1]) (r ++ [((m.1, m.2.1, "zzzz") : Mv)]) := paired_snoc mU (paired_mono (fun _ _ h => MvR.same (sJP.trans sPU) h) pr)
              have hw2 : OkMv (r ++ [((m.1, m.2.1, "zzzz") : Mv)]) := fun m' hm' s hs => by
                rcases List.mem_append.mp hm' with hm' | hm'
                · exact hw m' (List.mem_cons_of_mem _ hm') s hs
                · rw [List.mem_singleton.mp hm'] at hs
                  simp only [wds, List.mem_cons, List.not_mem_nil, or_false] at hs
                  rcases hs with rfl | rfl | rfl
                  · exact okm _ (by simp [wds])
                  · exact okm _ (by simp [wds])
                  · decide +kernel
              have lr2 : (r ++ [((m.1, m.2.1, "zzzz") : Mv)]).length = r.length + 1 := by
                rw [List.length_append]
                rfl
              refine of_nil (make_act hc (.inl (.inl eU)) (.base (.tup eU)) prU (by rw [lr2]; omega) (by rw [lr2]; exact l4) hw2 fun a4 HV sV v4 => ?_)
              have sPV : Same HP HV := sPU.trans sV
              have eO1 := sPV _ _ eP'
              refine ⟨O1, _, .ref a4, rfl, rfl, eO1, small1000 (by show 4 ≤ 1000; decide), ?_⟩
              have nd4 : sortM (r ++ [((m.1, m.2.1, "zzzz") : Mv)]) ≠ sortM (m :: r) := fun z => by
                have h1 : ((m.1, m.2.1, "zzzz") : Mv) ∈ m :: r := by
                  rw [← sortM_mem, ← z, sortM_mem]
                  exact List.mem_append_right _ (List.mem_singleton.mpr rfl)
                exact h4 _ h1 (show (Str.ofString "zzzz").length = 4 by decide +kernel)
              have sPM : Same HM HV := (sN.trans (sO.trans sP)).trans sPV
              have fM : HM O1 = none := (sN.trans sO).free nP
              have sJW := gSame_mut (o := .lst ([V.ref a3, .str (liA c (sortM (m :: r))), .non, .ref T11] ++ [.ref a4])) (sJP.trans sPV) (sJM.free fM)
              have w3 := v3.same (gSame_mut (o := .lst ([V.ref a3, .str (liA c (sortM (m :: r))), .non, .ref T11] ++ [.ref a4])) sPM fM)
              have w4 := act_mut (u := .lst ([V.ref a3, .str (liA c (sortM (m :: r))), .non, .ref T11] ++ [.ref a4])) v4 eO1
              have eT11 := gSame_mut (o := .lst ([V.ref a3, .str (liA c (sortM (m :: r))), .non, .ref T11] ++ [.ref a4])) (sP.trans sPV) nP _ _ eO
              have eW : (upd HV O1 (.lst ([V.ref a3, .str (liA c (sortM (m :: r))), .non, .ref T11] ++ [.ref a4]))) O1 = some (.lst [V.ref a3, .str (liA c (sortM (m :: r))), .non, .ref T11, .ref a4]) := upd_same
              have fJ : HJ O1 = none := sJM.free fM
              generalize upd HV O1 (.lst ([V.ref a3, .str (liA c (sortM (m :: r))), .non, .ref T11] ++ [.ref a4])) = HW at *
              have elW := sJW _ _ elJ
              have vW := vJ.same sJW
              have mW : MvR K HW (.ref b0) m := MvR.same sJW ⟨b0, rfl, g1, g2⟩
              have prW := paired_mono (fun _ _ h => MvR.same sJW h) pr
              have hlx : xr.length = r.length := pr.length
              refine ⟨_, rfl, .inl ⟨rfl, _, SqL.of eW⟩, _, rfl, l, _, rfl, .inl (SqL.of elW), _, _, rfl, rfl, _, rfl, ?_⟩
              refine meetR (fun v H1 => Same HW H1 ∧ (v = .non ∨ ∃ a5 ms3, v = .ref a5 ∧ ActV K H1 C_Action a5 c (sortM ms3) ∧ ms3.length ≠ (m :: r).length)) (fun cc Q qq => ?_) (fun cc Q qq => ?_) (fun v HX hv => ?_)
              · have hl3 : r.length < 3 := by
                  have h1 := of_decide_eq_true cc
                  have h2 : ((V.ref b0 :: xr).length : Int) < 4 := h1
                  rw [List.length_cons] at h2
                  omega
                have ec1 : cutV (V.ref b0 :: xr) none (some 1) = [.ref b0] := by
                  have := cut_to (fun x : V => x) (V.ref b0 :: xr) 1
                  simpa using this
                refine ⟨_, rfl, _, rfl, _, rfl, 1, rfl, l, _, rfl, SqL.of elW, fun S5 H1 n1 e1 s1 => ?_⟩
                rw [ec1] at e1
                refine ⟨l, S5, _, _, rfl, rfl, s1 _ _ elW, e1, sl _ (by show (xr.length + 1) + 1 ≤ 100000; omega), fun W2 H2 n2 e2 s2 => ⟨W2, _, rfl, SqL.of e2, fun T13 H3 n3 e3 s3 => ?_⟩⟩
                have sW3 : Same HW H3 := s1.trans (s2.trans s3)
                have p3 : Paired (MvR K H3) ((V.ref b0 :: xr) ++ [.ref b0]) ((m :: r) ++ [m]) := paired_snoc (mW.same sW3) (.cons (mW.same sW3) (paired_mono (fun _ _ h => MvR.same sW3 h) prW))
                have l3 : ((m :: r) ++ [m]).length = r.length + 2 := by
                  rw [List.length_append, List.length_cons]
                  rfl
                have hw3 : OkMv ((m :: r) ++ [m]) := fun m' hm' => by
                  rcases List.mem_append.mp hm' with h | h
                  · exact hw m' h
                  · rw [List.mem_singleton.mp h]
                    exact okm
                refine of_nil (make_act hc (.inl (.inl e3)) (.base (.tup e3)) p3 (by rw [l3]; omega) (by rw [l3]; omega) hw3 fun a5 H4 s4 v5 => qq _ _ ⟨sW3.trans s4, .inr ⟨a5, _, rfl, v5, by rw [l3, List.length_cons]; omega⟩⟩)
              · exact qq _ _ ⟨Same.refl _, .inl rfl⟩
              · obtain ⟨sWX, hv⟩ := hv
                refine ⟨O1, _, v, rfl, rfl, sWX _ _ eW, small1000 (by show 5 ≤ 1000; decide), ?_⟩
                have x3 := act_mut (u := .lst ([V.ref a3, .str (liA c (sortM (m :: r))), .non, .ref T11, .ref a4] ++ [v])) (w3.same sWX) (sWX _ _ eW)
                have x4 := act_mut (u := .lst ([V.ref a3, .str (liA c (sortM (m :: r))), .non, .ref T11, .ref a4] ++ [v])) (w4.same sWX) (sWX _ _ eW)
                have xM := act_mut (u := .lst ([V.ref a3, .str (liA c (sortM (m :: r))), .non, .ref T11, .ref a4] ++ [v])) (vW.same sWX) (sWX _ _ eW)
                have sJY := gSame_mut (o := .lst ([V.ref a3, .str (liA c (sortM (m :: r))), .non, .ref T11, .ref a4] ++ [v])) (sJW.trans sWX) fJ
                have nT11 : T11 ≠ O1 := fun z => by
                  rw [z, eW] at eT11
                  cases eT11
                have eT := (upd_ne (H := HX) (o := .lst ([V.ref a3, .str (liA c (sortM (m :: r))), .non, .ref T11, .ref a4] ++ [v])) nT11).trans (sWX _ _ eT11)
                have hv5 : v = .non ∨ ∃ a5 ms3, v = .ref a5 ∧ ActV K (upd HX O1 (.lst ([V.ref a3, .str (liA c (sortM (m :: r))), .non, .ref T11, .ref a4] ++ [v]))) C_Action a5 c (sortM ms3) ∧ ms3.length ≠ (m :: r).length :=
                  hv.imp id fun ⟨a5, ms3, h1, h2, h3⟩ => ⟨a5, ms3, h1, act_mut h2 (sWX _ _ eW), h3⟩
                have eY : (upd HX O1 (.lst ([V.ref a3, .str (liA c (sortM (m :: r))), .non, .ref T11, .ref a4] ++ [v]))) O1 = some (.lst [V.ref a3, .str (liA c (sortM (m :: r))), .non, .ref T11, .ref a4, v]) := upd_same
                generalize upd HX O1 (.lst ([V.ref a3, .str (liA c (sortM (m :: r))), .non, .ref T11, .ref a4] ++ [v])) = HY at *
                have KY : Kl TT t H HY := KJ.same sJY
                have neA : ∀ x ∈ [V.ref a3, .str (liA c (sortM (m :: r))), .non, .ref T11, .ref a4, v], ∀ H5', Same HY H5' → ∀ (neg : Bool) (Q : VK), Q (.bl neg) H5' → rEqO K C_Action (spEqA K C_Action) E0 neg (.ref a) x H5' Q := by
                  have pl : ∀ {x : V} {T : String}, T ∈ ["str", "NoneType", "tuple"] → (∀ H5', Same HY H5' → TyX K H5' x (.type T)) → ∀ H5', Same HY H5' → ∀ (neg : Bool) (Q : VK), Q (.bl neg) H5' → rEqO K C_Action (spEqA K C_Action) E0 neg (.ref a) x H5' Q :=
                    fun hT ty H5' s5 neg Q q => act_no (xM.same s5) (ty H5' s5) (TA.nf _ hT) (TA.kf _ hT) q
                  have pa : ∀ {b : Addr} {c' : Str} {ms' : List Mv}, ActV K HY C_Action b c' ms' → (decide (c = c') && decide (sortM (m :: r) = ms')) = false → ∀ H5', Same HY H5' → ∀ (neg : Bool) (Q : VK), Q (.bl neg) H5' → rEqO K C_Action (spEqA K C_Action) E0 neg (.ref a) (.ref b) H5' Q :=
                    fun v' hf H5' s5 neg Q q => act_eq TA.IC (xM.same s5) (v'.same s5) (by rw [hf, Bool.xor_false]; exact q)
                  refine all_cons (pa x3 ?_) (all_cons (pl (T := "str") (by simp) fun _ _ => .base (.str _)) (all_cons (pl (T := "NoneType") (by simp) fun _ _ => .base .non) (all_cons (pl (T := "tuple") (by simp) fun _ s => .base (.tup (s _ _ eT))) (all_cons (pa x4 ?_) (all_cons ?_ all_nil)))))
                  · rw [decide_eq_false fun z => nc2 z.symm, Bool.false_and]
                  · exact Bool.and_eq_false_iff.mpr (.inr (decide_eq_false fun z => nd4 z.symm))
                  · rcases hv5 with rfl | ⟨a5, ms3, rfl, v5, n5⟩
                    · exact pl (T := "NoneType") (by simp) fun _ _ => .base .non
                    · refine pa v5 ?_
                      refine Bool.and_eq_false_iff.mpr (.inr (decide_eq_false fun z => n5 ?_))
                      have := congrArg List.length z
                      rw [sortM_len, sortM_len] at this
                      exact this.symm
                refine ⟨_, rfl, O1, rfl, ⟨_, SqL.of eY⟩, fun D5 hD5 => ?_⟩
                refine lc_list (K := K) (a := O1) (xs := [V.ref a3, .str (liA c (sortM (m :: r))), .non, .ref T11, .ref a4, v]) (fun i H5' => Same HY H5' ∧ H5' D5 = some (.lst [])) ⟨gSame_new hD5, upd_same⟩ (fun i H5' _ h5 => SqL.of (h5.1 _ _ eY)) (fun i x H5' hx h5 => ?_) (fun H5' h5 => ?_)
                · obtain ⟨s5', d5⟩ := h5
                  have hm := List.mem_of_getElem? hx
                  refine ⟨rfl, _, rfl, _, rfl, neA x hm H5' s5' false _ ⟨_, rfl, _, rfl, _, rfl, neA x hm H5' s5' true _ ⟨_, rfl, ?_⟩⟩⟩
                  exact ⟨s5', d5⟩
                · obtain ⟨s5', d5⟩ := h5
                  refine ⟨sl 0 (by decide), fun D6 HZ nZ eZ sZ => ⟨D5, D6, [], rfl, rfl, SqL.of (sZ _ _ d5), SqL.of eZ, _, rfl, ?_⟩⟩
                  have sYZ : Same HY HZ := s5'.trans sZ
                  have KZ : Kl TT t H HZ := KY.same sYZ
                  have elZ := sYZ _ _ (sJY _ _ elJ)
                  have mZ : MvR K HZ (.ref b0) m := MvR.same (sJY.trans sYZ) ⟨b0, rfl, g1, g2⟩
                  have prZ : Paired (MvR K HZ) (V.ref b0 :: xr) (m :: r) := .cons mZ (paired_mono (fun _ _ h => MvR.same (sJY.trans sYZ) h) pr)
                  -- lines that are none
                  refine ⟨4, rfl, by decide, by decide, ?_⟩
                  refine for_range (lo := 0) (n := (4 : Int).toNat) (fun i σ H6 => ∃ (x8 x9 : Option V), σ = [some (.ref t), some (.str c), some (.ref l), some (.str (liA c (sortM (m :: r)))), some (.ref a), some (.ref L), some (.ref S1), some (.ref O1), x8, x9, none, none, none, none] ∧ H6 l = some (.lst (V.ref b0 :: xr)) ∧ Paired (MvR K H6) (V.ref b0 :: xr) (m :: r) ∧ Kl TT t H H6)
                    ⟨none, none, rfl, elZ, prZ, KZ⟩ (fun i σ H6 hi hP => ?_) (fun σ H6 hP => ?_)
                  · obtain ⟨x8, x9, rfl, e6, p6, k6⟩ := hP
                    refine ⟨_, rfl, _, rfl, _, rfl, t, l, c, _, _, rfl, k6.tp, nlt, hc, e6, p6, l1, l4, hw, fun y HA ly kA => ⟨tabs_kt kA k6.tp k6.tb, fun HB eN tB => ?_⟩⟩
                    have kB := (k6.then kA).lam eN tB
                    have lyB := lnV_ext eN ly
                    have eB := eN _ _ (kA.kp _ _ nlt e6) fun _ z => by cases z
                    have pB : Paired (MvR K HB) (V.ref b0 :: xr) (m :: r) := paired_mono (fun _ _ h => mvR_ext eN (kA.mvR k6.tp h)) p6
                    have fin : ∀ (d : Addr) (H' : Hp), Same HB H' → ∃ (x8 x9 : Option V), [some (V.ref t), some (.str c), some (.ref l), some (.str (liA c (sortM (m :: r)))), some (.ref a), some (.ref L), some (.ref S1), some (.ref O1), some (.int (0 + i)), some y, none, none, none, none] = [some (V.ref t), some (.str c), some (.ref l), some (.str (liA c (sortM (m :: r)))), some (.ref a), some (.ref L), some (.ref S1), some (.ref O1), x8, x9, none, none, none, none] ∧ H' l = some (.lst (V.ref b0 :: xr)) ∧ Paired (MvR K H') (V.ref b0 :: xr) (m :: r) ∧ Kl TT t H H' :=
                      fun d H' s' => ⟨_, _, rfl, s' _ _ eB, paired_mono (fun _ _ h => MvR.same s' h) pB, kB.same s'⟩
                    refine ⟨rfl, _, rfl, y, rfl, ?_⟩
                    rcases lyB with ⟨z, rfl, hz, hn⟩ | ⟨ty, h1, h2⟩
                    · refine .inl ⟨z, rfl, hz, fun _ d H' hd s' e => ⟨true, T_ParseError.te, fun _ => ⟨rfl, d, rfl, e, rfl, _, rfl, fin d H' s'⟩, fun q => nomatch q⟩, fun c' ms' hr => ?_⟩
                      rw [hn] at hr
                      cases hr
                    · exact .inr ⟨ty, h1, h2, fun d H' hd s' e => ⟨true, T_ParseError.te, fun _ => ⟨rfl, d, rfl, e, rfl, _, rfl, fin d H' s'⟩, fun q => nomatch q⟩⟩
                  · obtain ⟨x8, x9, rfl, e6, p6, k6⟩ := hP
                    have lcs : (c ++ " ").length ≤ 900 := by
                      have q1 : (Str.ofString " ").length = 1 := by decide +kernel
                      rw [Str.length_append, q1]
                      omega
                    have a2 : c.length + (Str.ofString " ").length ≤ sizeLine := by
                      have q1 : (Str.ofString " ").length = 1 := by decide +kernel
                      rw [q1]
                      exact sl _ (by omega)
                    refine ⟨_, rfl, _, rfl, _, _, rfl, rfl, a2, _, rfl, sl 1 (by decide), fun N1 H7 n7 e7 s7 => ⟨sl 7 (by decide), fun F1 H8 n8 e8 s8 => ?_⟩⟩
                    have k8 : Kl TT t H H8 := (k6.same s7).same s8
                    have kn : ∀ {q : String}, kitB q "str" = some false → PySem.W.kitOne K (.type q) (.type "str") = some false := fun h => kit_ty h
                    have hbad : isW (c ++ " ") = false := by
                      cases q : isW (c ++ " ") with
                      | false => rfl
                      | true =>
                        have := isW_let q 32 (by rw [TL.tl_append, tl_sp]; simp)
                        omega
                    have b8 : ∀ y ∈ [V.non, .int 5, .str "", .str "A", .str (c ++ " "), .str "zzzzzzzzz", .ref N1], NmV K H8 y false :=
                      all_cons (.inr ⟨rfl, _, .base .non, kn (by decide +kernel)⟩) (all_cons (.inr ⟨rfl, _, .base (.int 5), kn (by decide +kernel)⟩) (all_cons (nm_no (by decide +kernel) (by decide +kernel)) (all_cons (nm_no (by decide +kernel) (by decide +kernel))
                        (all_cons (nm_no hbad (by omega)) (all_cons (nm_no (by decide +kernel) (by decide +kernel)) (all_cons (.inr ⟨rfl, _, .base (.tup (s8 _ _ e7)), kn (by decide +kernel)⟩) all_nil))))))
                    have el8 := s8 _ _ (s7 _ _ e6)
                    have p8 : Paired (MvR K H8) (V.ref b0 :: xr) (m :: r) := paired_mono (fun _ _ h => MvR.same (s7.trans s8) h) p6
                    refine ⟨t, .ref F1, _, rfl, k8.tp, .inl ⟨F1, rfl, Kt.ne (k6.same s7).tp n8, .inl (SqL.of e8)⟩, by show 0 < 7; decide, by show 7 < 100000; decide, fun nm H9 hm k9 => ?_⟩
                    have bn9 := nm_kt k9 k8.tp (b8 nm hm)
                    have k9' := k8.then k9
                    refine ⟨_, rfl, _, rfl, t, l, _, _, rfl, k9'.tp, nlt, k9.kp _ _ nlt el8, paired_mono (fun _ _ h => k9.mvR k8.tp h) p8, l1, l4, hw, fun bad H10 hb k10 => ⟨sl 2 (by decide), fun T14 H11 n11 e11 s11 => ⟨T14, _, rfl, SqT.of e11, rfl, _, _, rfl, _, _, rfl, rfl, ?_⟩⟩⟩
                    have bn11 := (nm_kt k10 k9'.tp bn9).same s11
                    have bb11 := hb.same s11
                    have k11 := (k9'.then k10).same s11
                    refine ⟨k11.tb, fun H12 eN tB => ⟨_, rfl, _, rfl, fun x dx nx ndx ne => ?_⟩⟩
                    have k12 := k11.lam eN tB
                    have sN : Same H12 (upd (upd H12 dx (.own x)) x (.ins C_Action dx [])) := (gSame_new ndx).trans (gSame_new (by rw [upd_ne ne.symm]; exact nx))
                    refine ⟨x, dx, nm, bad, rfl, upd_same, .inl ⟨(nm_ext eN bn11).same sN, fun H13 s13 => ⟨false, eNP, fun h => (Bool.false_ne_true h).elim, fun _ => ⟨true, T_InvalidName.te, fun _ => ?_, fun q => nomatch q⟩⟩⟩⟩
                    have k13 := k12.same (sN.trans s13)
                    refine ⟨sl 1 (by decide), fun L1 H14 n14 e14 s14 => ?_⟩
                    have k14 := k13.same s14
                    have bb14 := ((mvs_ext eN bb11).same (sN.trans s13)).same s14
                    refine ⟨_, rfl, .inl ⟨rfl, _, SqL.of e14⟩, k14.tb, fun H15 eN2 tB2 => ⟨_, rfl, _, rfl, fun x2 dx2 nx2 ndx2 ne2 => ?_⟩⟩
                    have sN2 : Same H15 (upd (upd H15 dx2 (.own x2)) x2 (.ins C_Action dx2 [])) := (gSame_new ndx2).trans (gSame_new (by rw [upd_ne ne2.symm]; exact nx2))
                    refine ⟨x2, dx2, .str c, bad, rfl, upd_same, .inr ⟨c, rfl, hc, .inl ⟨(mvs_ext eN2 bb14).same sN2, fun H16 s16 => ⟨false, eAP, fun h => (Bool.false_ne_true h).elim, fun _ => ⟨false, eAN, fun h => (Bool.false_ne_true h).elim, fun _ => ⟨true, T_InvalidAction.te, fun _ => ?_, fun q => nomatch q⟩⟩⟩⟩⟩⟩
                    have kb : Kl TT t H14 H16 := ((Kl.refl k14.tp k14.tb).lam eN2 tB2).same (sN2.trans s16)
                    have e16 := (sN2.trans s16) _ _ (eN2 _ _ e14 fun _ z => by cases z)
                    have kc : Kl TT t H13 H16 := ((Kl.refl k13.tp k13.tb).same s14).trans kb
                    refine ⟨L1, _, _, rfl, rfl, e16, small1000 (by show 1 ≤ 1000; decide), ?_⟩
                    have kF := kl_mut (u := .lst ([V.str "name"] ++ [.str "action"])) k13 n14 kc e16
                    have eF2 : (upd H16 L1 (.lst ([V.str "name"] ++ [.str "action"]))) L1 = some (.lst [V.str "name", .str "action"]) := upd_same
                    refine ⟨_, rfl, sl 2 (by decide), fun L2 H17 n17 e17 s17 => ⟨.list [.str "name", .str "action"], .list [.str "name", .str "action"], .lst (SqL.of (s17 _ _ eF2)) (.cons (.str _) (.cons (.str _) .nil)), .lst (SqL.of e17) (.cons (.str _) (.cons (.str _) .nil)), by decide +kernel, by decide +kernel, ?_⟩⟩
                    have ev : PyData.eqv (.list [.str "name", .str "action"]) (.list [.str "name", .str "action"]) = true := by decide +kernel
                    rw [ev]
                    exact q _ (kF.same s17)
end
end Gk

set_option Elab.async false
set_option linter.all false
set_option maxRecDepth 100000
set_option maxHeartbeats 16000000
namespace Gk
open PySem PySem.Spec PyProof.Rows L2 LamX
abbrev s_law : Stmt := topS 28
theorem sc_law : FnScope ["script", "at", "tape", "twice", "told"] ["script"] (defScope s_law) := ⟨rfl, rfl, rfl, by decide +kernel, rfl, by decide +kernel, by decide +kernel⟩
abbrev qL : Str := "law.<locals>." ++ "<lambda>"
def spLaw (K : PySem.W.Frag) (TT : List (Addr × Str)) : Sp := fun vs H Q _ => ∃ (a : Addr) (ns : List Int), vs = [.ref a] ∧ SqL K H a (ns.map V.int) ∧ ns.length ≤ 63 ∧ Tabs TT H ∧ ∀ H', Q (.bl true) H'
section
variable {P : Program} {w : World} {K : PySem.W.Frag} {mg : Str → Option Value} {base : Heap}
theorem ok_law {TT : List (Addr × Str)} {C_Action CP CN CA fI fF pF fC pC fM pM fO pO fL fE fS fIe : Addr} {dI dF dC dM dO dL dE dS fde : FuncData} {mc : Value} (B : Blt mg) (TA : ActK K mg C_Action fI fF pF fC pC fM pM fO pO fL fE fS dI dF dC dM dO dL dE dS mc)
    (T_ParseError : IniT K mg "ParseError" "line" s_ParseError___init CP fIe fde) (X_ParseError : XfC K CP) (T_InvalidName : OwnT K mg "InvalidName" CN) (T_InvalidAction : OwnT K mg "InvalidAction" CA)
    (eNP : PySem.W.exmOne K (.ref CN) (.ref CP) = some false) (eAP : PySem.W.exmOne K (.ref CA) (.ref CP) = some false) (eAN : PySem.W.exmOne K (.ref CA) (.ref CN) = some false)
    (TBl : LamX.TabB base mg (He.cT K ("law", none)).1 (He.cT K ("law", none)).2) (hmT : ((He.cT K ("law", none)).2, qL) ∈ TT) (huT : ∀ p ∈ TT, p.1 = (He.cT K ("law", none)).2 → p.2 = qL)
    (G_init : FnOk P w K mg base (L2.CX P w) 4 fI dI ["self", "called", "moves"] (spAct K C_Action CN CA)) (G_from_line : FnOk P w K mg base (L2.CX P w) 6 fF dF ["cls", "line"] (spFrom K C_Action CP))
    (G_called : FnOk P w K mg base CX0 1 fC dC ["self"] (spGet K C_Action gCalled)) (G_moves : FnOk P w K mg base CX0 1 fM dM ["self"] (spGet K C_Action gMoves)) (G_owners : FnOk P w K mg base CX0 1 fO dO ["self"] (spGet K C_Action gOwners))
    (G_len : FnOk P w K mg base CX0 1 fL dL ["self"] (spGet K C_Action gLen)) (G_eq : FnOk P w K mg base CX0 1 fE dE ["self", "other"] (spEqA K C_Action)) (G_str : FnOk P w K mg base CX0 2 fS dS ["self"] (spGet K C_Action gStr))
    {f1 f2 f8 : Addr} {d1 d2 d8 fd : FuncData} {tl : Tok} (C_MAX_MOVES : mg "MAX_MOVES" = some (.int 4 tl))
    (D_tape : Df K mg "_law_tape" s_tape ["script", "spot"] f1 d1) (G_tape : FnOk P w K mg base CX0 1 f1 d1 ["script", "spot"] (spTape K))
    (D_right : Df K mg "_law_right" s_right ["tape"] f2 d2) (G_right : FnOk P w K mg base CX0 11 f2 d2 ["tape"] (spRight TT))
    (D_met : Df K mg "_law_met" s_met ["call"] f8 d8)
    (D : Df K mg "law" s_law ["script"] (He.fAd K ("law", none)) fd) : FnOk P w K mg base CX0 13 (He.fAd K ("law", none)) fd ["script"] (spLaw K TT) := by
  refine fun_okC (p := ("law", none)) rfl D.F sc_law (fun vs H Q E h => ?_) (fun A outer s H vs Q E hr h => ?_)
  · obtain ⟨a, ns, rfl, _⟩ := h
    rfl
  · obtain ⟨a, ns, rfl, hS, hl, hTb, q⟩ := h
    refine ⟨_, (pss_cons (ps_for PassesOwn.never rfl (pi_range1 (by rfl) B.range (pa_cons (pe_callB (call_max2 rfl) (by rfl) B.max_ (by decide +kernel) (pa_cons pe_int (pa_cons (pe_callB (call_min2 rfl) (by rfl) B.min_ (by decide +kernel) (pa_cons pe_int (pa_cons (pe_callB call_len_seq (by rfl) B.len_ (by decide +kernel) (pa_cons (pv 0) pa_nil)) pa_nil))) pa_nil))) pa_nil)) (pg_name (i := 1) sc_law.nd rfl (Or.inl rfl))
    (pss_cons (ps_set (i := 2) sc_law.nd rfl (Or.inl rfl) (pe_call G_tape (hr.mono (by decide)) (by rfl) D_tape.g D_tape.F.kp D_tape.b .nil pass0 (pa_cons (pv 0) (pa_cons (pv 1) pa_nil))))
    (pss_one (ps_if (PW.pt (pw_or (pt_not (pt_val (pe_call G_right (hr.mono (by decide)) (by rfl) D_right.g D_right.F.kp D_right.b .nil pass0 (pa_cons (pv 2) pa_nil)) (by intro _; rfl))) (pw_or1 (pt_not (pt_val (pe_call G_right (hr.mono (by decide)) (by rfl) D_right.g D_right.F.kp D_right.b .nil pass0 (pa_cons (pv 2) pa_nil)) (by intro _; rfl))))))
    (pss_one (ps_ret pe_bl)) pss_nil))))
    (pss_cons (ps_set (i := 3) sc_law.nd rfl (Or.inl rfl) (pe_makeS TA.M G_init (hr.mono (by decide)) (by rfl) TA.g TA.BI (fun σ pins H s e s' I c => passL0 pins σ H s e s' I c) (pa_cons pe_str (pa_cons (pe_tupN (pa_cons (pe_tupN (pa_cons pe_str (pa_cons pe_str (pa_cons pe_str pa_nil)))) (pa_cons (pe_tupN (pa_cons pe_str (pa_cons pe_str (pa_cons pe_str pa_nil)))) (pa_cons (pe_tupN (pa_cons pe_str (pa_cons pe_str (pa_cons pe_str pa_nil)))) pa_nil)))) pa_nil))))
    (pss_cons (ps_set (i := 4) sc_law.nd rfl (Or.inl rfl) (pe_lstN (pa_cons (pe_callTy (cr_strO TA.OS G_str TA.BS pass0 (hr.mono (by decide))) (by rfl) B.str_ (by decide +kernel) (pa_cons (pv 3) pa_nil)) (pa_cons (pe_prop (pv 3) TA.AC.cl TA.P_owners G_owners (hr.mono (by decide)) TA.B_owners .nil pass0 rfl) (pa_cons (pe_callB (cr_lenO TA.OL G_len TA.BL pass0 (hr.mono (by decide))) (by rfl) B.len_ (by decide +kernel) (pa_cons (pv 3) pa_nil)) (pa_cons (pe_glob (v := .int 4) rfl C_MAX_MOVES ⟨_, rfl⟩) (pa_cons (pe_cmpR (op_eqOK K rfl TA.OE G_eq TA.BE pass0 (hr.mono (by decide))) (ClX.pe_cmeth (pe_glob (v := .ref C_Action) rfl TA.g rfl) TA.R TA.CM (G_from_line.raw TA.BF .nil) (hr.mono (by decide)) passL (pa_cons (pe_callTy (cr_strO TA.OS G_str TA.BS pass0 (hr.mono (by decide))) (by rfl) B.str_ (by decide +kernel) (pa_cons (pv 3) pa_nil)) pa_nil)) (pv 3) (nomark _)) pa_nil)))))))
    (pss_cons (ps_expr (pe_bm PySem.F.plainAttrs_list PySem.F.slot_list_append PySem.F.type_list_append mt_append (pv 4) (pa_cons (pe_metT (k := 7) (T := TT) (by rfl) D_met sc_met rfl (.inl rfl) (fun cdg => met_gives X_ParseError T_ParseError.no B.repr_ T_ParseError.g T_InvalidName.g T_InvalidAction.g) TBl rfl hmT huT (hr.mono (by decide)) (LamX.lamS_by (sc := defScope s_law) (by decide +kernel)) rfl (fun _ _ _ _ _ => rfl) (fun A2 outer2 s2 H2 E2 f2 c2 hr2 => (ClX.pe_cmeth (E := E2) (pe_glob (v := .ref C_Action) rfl TA.g rfl) TA.R TA.CM (G_from_line.raw TA.BF .nil) (hr2.mono (by decide)) (fun pins σ H s e s' I c => passAt (takes_of rfl rfl rfl rfl) σ pins H s e s' I c) (by exact (pa_cons pe_str pa_nil))))) pa_nil)))
    (pss_one (ps_ret (pe_cmpR (op_eqD hr.units) (pv 4) (pe_lstN (pa_cons pe_str (pa_cons (pe_tupN (pa_cons pe_str (pa_cons pe_str pa_nil))) (pa_cons pe_int (pa_cons pe_int (pa_cons pe_bl (pa_cons pe_str pa_nil))))))) (nomark _)))))))), ?_⟩
    have sl : ∀ n : Nat, n ≤ 100000 → n ≤ sizeLine := fun n hn => by rw [sizeLine_eq]; omega
    refine ⟨_, rfl, a, _, rfl, .inl hS, _, _, rfl, _, _, rfl, _, rfl, ?_, ?_, ?_⟩
    · split <;> split <;> omega
    · split <;> split <;> omega
    · refine for_range (lo := 0) (fun i σ H1 => ExtN H H1 ∧ Tabs TT H1 ∧ ∃ b1 b2 b3 b4 : Option V, σ = [some (.ref a), b1, b2, b3, b4]) ⟨ExtN.refl H, hTb, _, _, _, _, rfl⟩ (fun i σ H1 hi hP => ?_) (fun σ H1 hP => ?_)
      · obtain ⟨e1, t1, b1, b2, b3, b4, rfl⟩ := hP
        have hS1 : SqL K H1 a (ns.map V.int) := by
          rcases hS with (h | ⟨w, h⟩) | h
          · exact .inl (.inl (e1 _ _ h fun _ z => by cases z))
          · exact .inl (.inr ⟨w, e1 _ _ h fun _ z => by cases z⟩)
          · exact .inr h
        refine ⟨_, rfl, _, rfl, a, ns, _, rfl, hS1, by omega, fun t x y z ht => ?_⟩
        have hT2 : Tp (upd H1 t (.lst [.int x, .int y, .int z])) t := ⟨x, y, z, upd_same⟩
        have s2 : Same H1 (upd H1 t (.lst [.int x, .int y, .int z])) := gSame_new ht
        generalize upd H1 t (.lst [.int x, .int y, .int z]) = H2 at hT2 s2
        have t2 : Tabs TT H2 := t1.ext s2
        have back : ∀ H3, Kl TT t H2 H3 → ExtN H H3 := fun H3 k b o e m => k.kp b o (fun q => by
          have e' := e1 _ _ e m
          rw [q, ht] at e'
          cases e') m (s2 _ _ (e1 _ _ e m))
        refine ⟨_, rfl, t, rfl, hT2, t2, fun H3 k3 => ⟨true, rfl, ?_⟩⟩
        refine ⟨_, rfl, t, rfl, k3.tp, k3.tb, fun H4 k4 => ⟨true, rfl, ?_⟩⟩
        exact ⟨back _ (k3.trans k4), k4.tb, _, _, _, _, rfl⟩
      · obtain ⟨e1, t1, b1, b2, b3, b4, rfl⟩ := hP
        refine ⟨sl 3 (by decide), fun P1 H2 n2 e2 s2 => ⟨sl 3 (by decide), fun P2 H3 n3 e3 s3 => ⟨sl 3 (by decide), fun P3 H4 n4 e4 s4 => ⟨sl 3 (by decide), fun P4 H5 n5 e5 s5 => ?_⟩⟩⟩⟩
        have e2' := s5 _ _ (s4 _ _ (s3 _ _ e2))
        have e3' := s5 _ _ (s4 _ _ e3)
        have e4' := s5 _ _ e4
        have m1 : MvR K H5 (.ref P1) (("kin" : Str), ("s" : Str), ("t" : Str)) := ⟨P1, rfl, .inl (.inl e2'), .base (.tup e2')⟩
        have m2 : MvR K H5 (.ref P2) (("ann" : Str), ("s" : Str), ("s" : Str)) := ⟨P2, rfl, .inl (.inl e3'), .base (.tup e3')⟩
        have m3 : MvR K H5 (.ref P3) (("kin" : Str), ("s" : Str), ("t" : Str)) := ⟨P3, rfl, .inl (.inl e4'), .base (.tup e4')⟩
        obtain ⟨ms, hms⟩ : ∃ ms : List Mv, ms = [(("kin" : Str), ("s" : Str), ("t" : Str)), (("ann" : Str), ("s" : Str), ("s" : Str)), (("kin" : Str), ("s" : Str), ("t" : Str))] := ⟨_, rfl⟩
        obtain ⟨os, hos⟩ : ∃ os : List Mv, os = [(("ann" : Str), ("s" : Str), ("s" : Str)), (("kin" : Str), ("s" : Str), ("t" : Str)), (("kin" : Str), ("s" : Str), ("t" : Str))] := ⟨_, rfl⟩
        obtain ⟨c, hc⟩ : ∃ c : Str, c = "swap" := ⟨_, rfl⟩
        have so : sortM ms = os := sortM_of (by rw [hos, hms]; decide +kernel) (by rw [hos]; decide +kernel)
        have okm : OkMv ms := by rw [hms]; decide +kernel
        have oko : OkMv os := by rw [hos]; decide +kernel
        have wc : isW c = true := by rw [hc]; decide +kernel
        have lim : liA c os = "swap ann s s, kin s t, kin s t" := by rw [hos, hc]; decide +kernel
        have soo : sortM os = os := by rw [← so, sortM_idem]
        have pm : Paired (MvR K H5) [.ref P1, .ref P2, .ref P3] ms := by
          rw [hms]
          exact .cons m1 (.cons m2 (.cons m3 .nil))
        have lm : ms.length = 3 := by rw [hms]; rfl
        have lo : os.length = 3 := by rw [hos]; rfl
        rw [show (.str (Str.ofString "swap") : V) = .str c by rw [hc]]
        refine of_nil (make_act wc (.inl (.inl e5)) (.base (.tup e5)) pm (by omega) (by omega) okm fun aa H6 s6 v6 => ?_)
        rw [so] at v6
        refine ⟨_, rfl, aa, rfl, v6.ins, v6.sp fun _ _ _ _ _ => fun H7 s7 => ⟨_, rfl, ?_⟩⟩
        have v7 := v6.same s7
        refine ⟨_, rfl, v7.prop fun _ _ _ _ _ => fun ws ro H8 sw nd mo s8 eo => ?_⟩
        have v8 := v7.same s8
        refine ⟨_, rfl, aa, rfl, v8.ins, v8.sp fun _ _ _ _ _ => ⟨_, rfl, by omega, by omega, ?_⟩⟩
        have hne : os ≠ [] := by rw [hos]; simp
        have ll : (liA c os).length ≤ 1000 := by rw [lim]; decide +kernel
        refine ⟨rfl, _, rfl, aa, rfl, v8.ins, v8.sp fun _ _ _ _ _ => fun H9 s9 => ⟨_, rfl, _, rfl, .inl ⟨_, rfl, by omega, fun hn => ?_, fun c' ms' hr a2 HA sA v2 => ?_⟩⟩⟩
        · rw [rdA_li wc hne (by omega) oko soo] at hn
          cases hn
        · rw [rdA_li wc hne (by omega) oko soo] at hr
          cases hr
          have v9 := (v8.same s9).same sA
          refine ⟨_, rfl, act_eq TA.IC v2 v9 ?_⟩
          have eb : (false ^^ (decide (c = c) && decide (os = os))) = true := by simp
          rw [eb]
          refine ⟨sl 5 (by show 5 ≤ 100000; decide), fun L HB nB eB sB => ?_⟩
          have tB : Tabs TT HB := t1.ext fun b o e => sB _ _ (sA _ _ (s9 _ _ (s8 _ _ (s7 _ _ (s6 _ _ (s5 _ _ (s4 _ _ (s3 _ _ (s2 _ _ e)))))))))
          have eoB := sB _ _ (sA _ _ (s9 _ _ eo))
          have hws : ws = [("ann" : Str), ("kin" : Str)] := sorted_one sw (by decide +kernel) ((List.perm_ext_iff_of_nodup nd (by decide +kernel)).mpr fun k => by
            rw [mo k, hos]
            simp [or_comm])
          refine ⟨_, rfl, .inl ⟨rfl, _, SqL.of eB⟩, tB, fun HC eN tC => ⟨rfl, _, rfl, .inl ⟨_, rfl, by decide +kernel, fun _ d HD hd sD eD => ⟨true, T_ParseError.te, fun _ => ⟨rfl, d, rfl, eD, ?_⟩, fun q => (Bool.false_ne_true q.symm).elim⟩, fun c' ms' hr => ?_⟩⟩⟩
          · have eBD := sD _ _ (eN _ _ eB fun _ z => by cases z)
            refine ⟨L, _, _, rfl, rfl, eBD, small1000 (by show 5 ≤ 1000; decide), ?_⟩
            rw [hws] at eoB
            rw [lo, lim]
            have eZ : (upd HD L (.lst ([V.str "swap ann s s, kin s t, kin s t", .ref ro, .int ((3 : Nat) : Int), .int 4, .bl true] ++ [.str "parse None"]))) L = some (.lst [V.str "swap ann s s, kin s t, kin s t", .ref ro, .int ((3 : Nat) : Int), .int 4, .bl true, .str "parse None"]) := upd_same
            have nL : ro ≠ L := fun z => by
              rw [z, eB] at eoB
              cases eoB
            have eoZ : (upd HD L (.lst ([V.str "swap ann s s, kin s t, kin s t", .ref ro, .int ((3 : Nat) : Int), .int 4, .bl true] ++ [.str "parse None"]))) ro = some (.tup ([("ann" : Str), ("kin" : Str)].map V.str)) := by
              rw [upd_ne nL]
              exact sD _ _ (eN _ _ eoB fun _ z => by cases z)
            generalize upd HD L (.lst ([V.str "swap ann s s, kin s t, kin s t", .ref ro, .int ((3 : Nat) : Int), .int 4, .bl true] ++ [.str "parse None"])) = HZ at *
            refine ⟨_, rfl, sl 2 (by decide), fun T1 HE nE eE sE => ⟨sl 6 (by decide), fun L2 HF nF eF sF => ⟨.list [.str "swap ann s s, kin s t, kin s t", .tuple [.str "ann", .str "kin"], .int ((3 : Nat) : Int), .int 4, .bool true, .str "parse None"], .list [.str "swap ann s s, kin s t, kin s t", .tuple [.str "ann", .str "kin"], .int 3, .int 4, .bool true, .str "parse None"],
              .lst (SqL.of (sF _ _ (sE _ _ eZ))) (.cons (.str _) (.cons (.tup (.inl (.inl (sF _ _ (sE _ _ eoZ)))) (.cons (.str _) (.cons (.str _) .nil))) (.cons (.int _) (.cons (.int _) (.cons (.bl _) (.cons (.str _) .nil)))))),
              .lst (SqL.of eF) (.cons (.str _) (.cons (.tup (.inl (.inl (sF _ _ eE))) (.cons (.str _) (.cons (.str _) .nil))) (.cons (.int _) (.cons (.int _) (.cons (.bl _) (.cons (.str _) .nil)))))), by decide +kernel, by decide +kernel, ?_⟩⟩⟩
            have ev : PyData.eqv (.list [.str "swap ann s s, kin s t, kin s t", .tuple [.str "ann", .str "kin"], .int ((3 : Nat) : Int), .int 4, .bool true, .str "parse None"]) (.list [.str "swap ann s s, kin s t, kin s t", .tuple [.str "ann", .str "kin"], .int 3, .int 4, .bool true, .str "parse None"]) = true := by decide +kernel
            rw [ev]
            exact q _
          · exfalso
            have e1 : (Str.ofString "swap kin s t, ann s s" : Str) = Str.ofString "swap" ++ " " ++ Str.ofString "kin s t, ann s s" := by decide +kernel
            have e2 : prs (Str.ofString "kin s t, ann s s") = [[("kin" : Str), ("s" : Str), ("t" : Str)], [("ann" : Str), ("s" : Str), ("s" : Str)]] := by decide +kernel
            have e3 : sortM ([[("kin" : Str), ("s" : Str), ("t" : Str)], [("ann" : Str), ("s" : Str), ("s" : Str)]].map toMv) = [(("ann" : Str), ("s" : Str), ("s" : Str)), (("kin" : Str), ("s" : Str), ("t" : Str))] := sortM_of (by decide +kernel) (by decide +kernel)
            have e4 : decide ([[("kin" : Str), ("s" : Str), ("t" : Str)], [("ann" : Str), ("s" : Str), ("s" : Str)]].map toMv = [(("ann" : Str), ("s" : Str), ("s" : Str)), (("kin" : Str), ("s" : Str), ("t" : Str))]) = false := by decide +kernel
            rw [e1, rdA_cut (by decide +kernel), e2, e3, e4, Bool.and_false, Bool.and_false] at hr
            cases hr
end
end Gk

set_option Elab.async false
set_option linter.all false
set_option maxRecDepth 1000000
set_option maxHeartbeats 0
namespace Gk
open PySem PySem.Spec PyProof.Rows L2
def xM_called : He5.DefA := ⟨fun K => He5.wf K (He.ga K "Action") "property" "called", "called", "Action.called", defArgs s_Action_called, defBody s_Action_called, defScope s_Action_called, [], []⟩
def xM_moves : He5.DefA := ⟨fun K => He5.wf K (He.ga K "Action") "property" "moves", "moves", "Action.moves", defArgs s_Action_moves, defBody s_Action_moves, defScope s_Action_moves, [], []⟩
def xM_owners : He5.DefA := ⟨fun K => He5.wf K (He.ga K "Action") "property" "owners", "owners", "Action.owners", defArgs s_Action_owners, defBody s_Action_owners, defScope s_Action_owners, [], []⟩
def xM_from_line : He5.DefA := ⟨fun K => He5.wf K (He.ga K "Action") "classmethod" "from_line", "from_line", "Action.from_line", defArgs s_Action_from_line, defBody s_Action_from_line, defScope s_Action_from_line, [], []⟩
def xFm : List He5.DefA := [xM_called, xM_moves, xM_owners, xM_from_line]
def xFn : List He.DefD := [⟨("is_name", none), "is_name", "is_name", defArgs s_is_name, defBody s_is_name, defScope s_is_name, [], []⟩, ⟨("_are_moves", none), "_are_moves", "_are_moves", defArgs s_are_moves, defBody s_are_moves, defScope s_are_moves, [], []⟩, ⟨("_are_all_names", none), "_are_all_names", "_are_all_names", defArgs s_are_all_names, defBody s_are_all_names, defScope s_are_all_names, [], []⟩, ⟨("_write_moves", none), "_write_moves", "_write_moves", defArgs s_write_moves, defBody s_write_moves, defScope s_write_moves, [], []⟩, ⟨("_read_action", none), "_read_action", "_read_action", defArgs s_read_action, defBody s_read_action, defScope s_read_action, [], []⟩, ⟨("_law_tape", none), "_law_tape", "_law_tape", defArgs s_tape, defBody s_tape, defScope s_tape, [], []⟩, ⟨("_law_roll", none), "_law_roll", "_law_roll", defArgs s_roll, defBody s_roll, defScope s_roll, [], []⟩, ⟨("_law_pick", none), "_law_pick", "_law_pick", defArgs s_pick, defBody s_pick, defScope s_pick, [], []⟩, ⟨("_law_few", none), "_law_few", "_law_few", defArgs s_few, defBody s_few, defScope s_few, [], []⟩, ⟨("_law_word_drawn", none), "_law_word_drawn", "_law_word_drawn", defArgs s_word_drawn, defBody s_word_drawn, defScope s_word_drawn, [], []⟩, ⟨("_law_words_drawn", none), "_law_words_drawn", "_law_words_drawn", defArgs s_words_drawn, defBody s_words_drawn, defScope s_words_drawn, [], []⟩, ⟨("_law_action_line", none), "_law_action_line", "_law_action_line", defArgs s_action_line, defBody s_action_line, defScope s_action_line, [], []⟩, ⟨("_law_moves_drawn", none), "_law_moves_drawn", "_law_moves_drawn", defArgs s_moves_drawn, defBody s_moves_drawn, defScope s_moves_drawn, [], []⟩, ⟨("_law_met", none), "_law_met", "_law_met", defArgs s_met, defBody s_met, defScope s_met, [], []⟩, ⟨("_law_wrong_line", none), "_law_wrong_line", "_law_wrong_line", defArgs s_wrong_line, defBody s_wrong_line, defScope s_wrong_line, [], []⟩, ⟨("_law_wrong_moves", none), "_law_wrong_moves", "_law_wrong_moves", defArgs s_wrong_moves, defBody s_wrong_moves, defScope s_wrong_moves, [], []⟩, ⟨("_law_right", none), "_law_right", "_law_right", defArgs s_right, defBody s_right, defScope s_right, [], []⟩, ⟨("law", none), "law", "law", defArgs s_law, defBody s_law, defScope s_law, [], []⟩, ⟨("ParseError", some "__init__"), "__init__", "ParseError.__init__", defArgs s_ParseError___init, defBody s_ParseError___init, defScope s_ParseError___init, [], []⟩, ⟨("Action", some "__init__"), "__init__", "Action.__init__", defArgs s_Action___init, defBody s_Action___init, defScope s_Action___init, [], []⟩, ⟨("Action", some "__len__"), "__len__", "Action.__len__", defArgs s_Action___len, defBody s_Action___len, defScope s_Action___len, [], []⟩, ⟨("Action", some "__eq__"), "__eq__", "Action.__eq__", defArgs s_Action___eq, defBody s_Action___eq, defScope s_Action___eq, [], []⟩, ⟨("Action", some "__str__"), "__str__", "Action.__str__", defArgs s_Action___str, defBody s_Action___str, defScope s_Action___str, [], []⟩]
def xFa : List He.Fa := [.glo "is_name", .glo "_are_moves", .glo "_are_all_names", .glo "_write_moves", .glo "_read_action", .glo "_law_tape", .glo "_law_roll", .glo "_law_pick", .glo "_law_few", .glo "_law_word_drawn", .glo "_law_words_drawn", .glo "_law_action_line", .glo "_law_moves_drawn", .glo "_law_met", .glo "_law_wrong_line", .glo "_law_wrong_moves", .glo "_law_right", .glo "law", .glo "ParseError", .glo "ClockError", .glo "Action", .glo "InvalidName", .glo "InvalidAction", .exc "InvalidName", .exm "InvalidName" "InvalidName" true, .exc "InvalidAction", .exm "InvalidAction" "InvalidAction" true, .exm "InvalidName" "ParseError" false, .exm "InvalidAction" "ParseError" false, .exm "InvalidAction" "InvalidName" false, .int "MAX_LETTERS" 8, .int "MAX_MOVES" 4, .free "len", .free "int", .free "abs", .free "max", .free "min", .free "range", .free "all", .free "isinstance", .free "str", .free "tuple", .free "list", .free "set", .free "sorted", .free "repr", .free "bool", .free "dict", .cls "Action", .noat "Action" "_called", .noat "Action" "_moves", .meth "Action" "__len__", .meth "Action" "__eq__", .meth "Action" "__str__", .mkr "Action"]
def xTf : List He.Defn := [("_law_right", none), ("law", none)]
def xEx (K : PySem.W.Frag) : Bool := (iniB "ParseError" "line" K && (cinB "ClockError" K && (propB K (He.ga K "Action") "called" && (propB K (He.ga K "Action") "moves" && (propB K (He.ga K "Action") "owners" && (insB K (He.ga K "Action") && (readB K (He.ga K "Action") && (cmetB K (He.ga K "Action") "from_line" && (neB K (He.ga K "Action") && (nfB K (He.ga K "Action") ["str", "NoneType", "tuple"] && (decide ((He.cT K ("_law_right", none)).2 ≠ (He.cT K ("law", none)).2) && (xM_called.ok K && (xM_moves.ok K && (xM_owners.ok K && (xM_from_line.ok K && true)))))))))))))))
abbrev xR : PySem.W.OpenRow := PySem.W.OpenLaw.row PySem.Challenge.rw_groupclocks_k05_actions_and_their_lines
abbrev xHk : PySem.W.Hook := L2.hookM 6 xFa xFn xTf xEx xFm
def xOb (s : PySem.W.SharedT) : He.AlX × List He5.FnW := L2.obsM 6 xFa xFn xTf xEx xFm (HandSHeadRun.getT s)
theorem xOb_eq (s : PySem.W.SharedT) : xOb s = xHk.obs s.abs := L2.obsM_eq (HandSHeadRun.getT_eq s)
theorem xRun (w : World) : HandSHeadRun.RunEq xR (PySem.W.view xR.prog [28]) xHk xOb 6000 ["ClockError", "InvalidName", "InvalidAction", "ParseError", "MAX_LETTERS", "is_name", "MAX_MOVES", "Action", "_are_moves", "_are_all_names", "_write_moves", "_read_action", "_law_tape", "_law_roll", "_law_pick", "_law_few", "_law_word_drawn", "_law_words_drawn", "_law_action_line", "_law_moves_drawn", "_law_met", "_law_wrong_line", "_law_wrong_moves", "_law_right"] w := by
  intro os
  kernel_rfl
/-- the law's tables, with their names -/
abbrev xTT (K : PySem.W.Frag) : List (Addr × Str) := [((He.cT K ("_law_right", none)).2, qR), ((He.cT K ("law", none)).2, qL)]
theorem xFacts {w : World} {K : PySem.W.Frag} {h : Heap} {mg : Str → Option Value} {fl : Addr} (X : K.In h) (G : h.Ns mainGlobals mg) (hfl : mg ("law" : Str) = some (.ref fl)) (c : He.SaysX xFa xFn [] xTf xEx w h K) (m : xFm.map (fun d => He5.fnA K (d.at_ K)) = xFm.map He5.DefA.val) : LamX.LawAtS PySem.Challenge.rw_groupclocks_k05_actions_and_their_lines w K CX0 13 63 "script" mg fl h := by
  have cd := c.t.d
  obtain ⟨d_is_name, F_is_name⟩ := cd.def_ 0 (d := ⟨("is_name", none), "is_name", "is_name", defArgs s_is_name, defBody s_is_name, defScope s_is_name, [], []⟩) rfl
  have D_is_name : Df K mg "is_name" s_is_name ["value"] _ d_is_name := df_he X G F_is_name (cd.fact 0 (f := .glo "is_name") rfl) fun _ _ _ _ _ _ us hl => match us, hl with | [_], _ => rfl
  obtain ⟨d_are_moves, F_are_moves⟩ := cd.def_ 1 (d := ⟨("_are_moves", none), "_are_moves", "_are_moves", defArgs s_are_moves, defBody s_are_moves, defScope s_are_moves, [], []⟩) rfl
  have D_are_moves : Df K mg "_are_moves" s_are_moves ["value"] _ d_are_moves := df_he X G F_are_moves (cd.fact 1 (f := .glo "_are_moves") rfl) fun _ _ _ _ _ _ us hl => match us, hl with | [_], _ => rfl
  obtain ⟨d_are_all_names, F_are_all_names⟩ := cd.def_ 2 (d := ⟨("_are_all_names", none), "_are_all_names", "_are_all_names", defArgs s_are_all_names, defBody s_are_all_names, defScope s_are_all_names, [], []⟩) rfl
  have D_are_all_names : Df K mg "_are_all_names" s_are_all_names ["words"] _ d_are_all_names := df_he X G F_are_all_names (cd.fact 2 (f := .glo "_are_all_names") rfl) fun _ _ _ _ _ _ us hl => match us, hl with | [_], _ => rfl
  obtain ⟨d_write_moves, F_write_moves⟩ := cd.def_ 3 (d := ⟨("_write_moves", none), "_write_moves", "_write_moves", defArgs s_write_moves, defBody s_write_moves, defScope s_write_moves, [], []⟩) rfl
  have D_write_moves : Df K mg "_write_moves" s_write_moves ["moves"] _ d_write_moves := df_he X G F_write_moves (cd.fact 3 (f := .glo "_write_moves") rfl) fun _ _ _ _ _ _ us hl => match us, hl with | [_], _ => rfl
  obtain ⟨d_read_action, F_read_action⟩ := cd.def_ 4 (d := ⟨("_read_action", none), "_read_action", "_read_action", defArgs s_read_action, defBody s_read_action, defScope s_read_action, [], []⟩) rfl
  have D_read_action : Df K mg "_read_action" s_read_action ["line"] _ d_read_action := df_he X G F_read_action (cd.fact 4 (f := .glo "_read_action") rfl) fun _ _ _ _ _ _ us hl => match us, hl with | [_], _ => rfl
  obtain ⟨d_tape, F_tape⟩ := cd.def_ 5 (d := ⟨("_law_tape", none), "_law_tape", "_law_tape", defArgs s_tape, defBody s_tape, defScope s_tape, [], []⟩) rfl
  have D_tape : Df K mg "_law_tape" s_tape ["script", "spot"] _ d_tape := df_he X G F_tape (cd.fact 5 (f := .glo "_law_tape") rfl) fun _ _ _ _ _ _ us hl => match us, hl with | [_, _], _ => rfl
  obtain ⟨d_roll, F_roll⟩ := cd.def_ 6 (d := ⟨("_law_roll", none), "_law_roll", "_law_roll", defArgs s_roll, defBody s_roll, defScope s_roll, [], []⟩) rfl
  have D_roll : Df K mg "_law_roll" s_roll ["tape", "total"] _ d_roll := df_he X G F_roll (cd.fact 6 (f := .glo "_law_roll") rfl) fun _ _ _ _ _ _ us hl => match us, hl with | [_, _], _ => rfl
  obtain ⟨d_pick, F_pick⟩ := cd.def_ 7 (d := ⟨("_law_pick", none), "_law_pick", "_law_pick", defArgs s_pick, defBody s_pick, defScope s_pick, [], []⟩) rfl
  have D_pick : Df K mg "_law_pick" s_pick ["tape", "items"] _ d_pick := df_he X G F_pick (cd.fact 7 (f := .glo "_law_pick") rfl) fun _ _ _ _ _ _ us hl => match us, hl with | [_, _], _ => rfl
  obtain ⟨d_few, F_few⟩ := cd.def_ 8 (d := ⟨("_law_few", none), "_law_few", "_law_few", defArgs s_few, defBody s_few, defScope s_few, [], []⟩) rfl
  have D_few : Df K mg "_law_few" s_few ["tape", "items", "many"] _ d_few := df_he X G F_few (cd.fact 8 (f := .glo "_law_few") rfl) fun _ _ _ _ _ _ us hl => match us, hl with | [_, _, _], _ => rfl
  obtain ⟨d_word_drawn, F_word_drawn⟩ := cd.def_ 9 (d := ⟨("_law_word_drawn", none), "_law_word_drawn", "_law_word_drawn", defArgs s_word_drawn, defBody s_word_drawn, defScope s_word_drawn, [], []⟩) rfl
  have D_word_drawn : Df K mg "_law_word_drawn" s_word_drawn ["tape"] _ d_word_drawn := df_he X G F_word_drawn (cd.fact 9 (f := .glo "_law_word_drawn") rfl) fun _ _ _ _ _ _ us hl => match us, hl with | [_], _ => rfl
  obtain ⟨d_words_drawn, F_words_drawn⟩ := cd.def_ 10 (d := ⟨("_law_words_drawn", none), "_law_words_drawn", "_law_words_drawn", defArgs s_words_drawn, defBody s_words_drawn, defScope s_words_drawn, [], []⟩) rfl
  have D_words_drawn : Df K mg "_law_words_drawn" s_words_drawn ["tape", "lots"] _ d_words_drawn := df_he X G F_words_drawn (cd.fact 10 (f := .glo "_law_words_drawn") rfl) fun _ _ _ _ _ _ us hl => match us, hl with | [_, _], _ => rfl
  obtain ⟨d_action_line, F_action_line⟩ := cd.def_ 11 (d := ⟨("_law_action_line", none), "_law_action_line", "_law_action_line", defArgs s_action_line, defBody s_action_line, defScope s_action_line, [], []⟩) rfl
  have D_action_line : Df K mg "_law_action_line" s_action_line ["called", "moves"] _ d_action_line := df_he X G F_action_line (cd.fact 11 (f := .glo "_law_action_line") rfl) fun _ _ _ _ _ _ us hl => match us, hl with | [_, _], _ => rfl
  obtain ⟨d_moves_drawn, F_moves_drawn⟩ := cd.def_ 12 (d := ⟨("_law_moves_drawn", none), "_law_moves_drawn", "_law_moves_drawn", defArgs s_moves_drawn, defBody s_moves_drawn, defScope s_moves_drawn, [], []⟩) rfl
  have D_moves_drawn : Df K mg "_law_moves_drawn" s_moves_drawn ["tape"] _ d_moves_drawn := df_he X G F_moves_drawn (cd.fact 12 (f := .glo "_law_moves_drawn") rfl) fun _ _ _ _ _ _ us hl => match us, hl with | [_], _ => rfl
  obtain ⟨d_met, F_met⟩ := cd.def_ 13 (d := ⟨("_law_met", none), "_law_met", "_law_met", defArgs s_met, defBody s_met, defScope s_met, [], []⟩) rfl
  have D_met : Df K mg "_law_met" s_met ["call"] _ d_met := df_he X G F_met (cd.fact 13 (f := .glo "_law_met") rfl) fun _ _ _ _ _ _ us hl => match us, hl with | [_], _ => rfl
  obtain ⟨d_wrong_line, F_wrong_line⟩ := cd.def_ 14 (d := ⟨("_law_wrong_line", none), "_law_wrong_line", "_law_wrong_line", defArgs s_wrong_line, defBody s_wrong_line, defScope s_wrong_line, [], []⟩) rfl
  have D_wrong_line : Df K mg "_law_wrong_line" s_wrong_line ["tape", "called", "moves"] _ d_wrong_line := df_he X G F_wrong_line (cd.fact 14 (f := .glo "_law_wrong_line") rfl) fun _ _ _ _ _ _ us hl => match us, hl with | [_, _, _], _ => rfl
  obtain ⟨d_wrong_moves, F_wrong_moves⟩ := cd.def_ 15 (d := ⟨("_law_wrong_moves", none), "_law_wrong_moves", "_law_wrong_moves", defArgs s_wrong_moves, defBody s_wrong_moves, defScope s_wrong_moves, [], []⟩) rfl
  have D_wrong_moves : Df K mg "_law_wrong_moves" s_wrong_moves ["tape", "moves"] _ d_wrong_moves := df_he X G F_wrong_moves (cd.fact 15 (f := .glo "_law_wrong_moves") rfl) fun _ _ _ _ _ _ us hl => match us, hl with | [_, _], _ => rfl
  obtain ⟨d_right, F_right⟩ := cd.def_ 16 (d := ⟨("_law_right", none), "_law_right", "_law_right", defArgs s_right, defBody s_right, defScope s_right, [], []⟩) rfl
  have D_right : Df K mg "_law_right" s_right ["tape"] _ d_right := df_he X G F_right (cd.fact 16 (f := .glo "_law_right") rfl) fun _ _ _ _ _ _ us hl => match us, hl with | [_], _ => rfl
  obtain ⟨d_law, F_law⟩ := cd.def_ 17 (d := ⟨("law", none), "law", "law", defArgs s_law, defBody s_law, defScope s_law, [], []⟩) rfl
  have D_law : Df K mg "law" s_law ["script"] _ d_law := df_he X G F_law (cd.fact 17 (f := .glo "law") rfl) fun _ _ _ _ _ _ us hl => match us, hl with | [_], _ => rfl
  have hex := c.more
  obtain ⟨ex_ini, hex⟩ := He.ba (show (iniB "ParseError" "line" K && _) = true from hex)
  obtain ⟨ex_cin, hex⟩ := He.ba (show (cinB "ClockError" K && _) = true from hex)
  obtain ⟨ex_pr_called, hex⟩ := He.ba (show (propB K (He.ga K "Action") "called" && _) = true from hex)
  obtain ⟨ex_pr_moves, hex⟩ := He.ba (show (propB K (He.ga K "Action") "moves" && _) = true from hex)
  obtain ⟨ex_pr_owners, hex⟩ := He.ba (show (propB K (He.ga K "Action") "owners" && _) = true from hex)
  obtain ⟨ex_ins, hex⟩ := He.ba (show (insB K (He.ga K "Action") && _) = true from hex)
  obtain ⟨ex_read, hex⟩ := He.ba (show (readB K (He.ga K "Action") && _) = true from hex)
  obtain ⟨ex_cmet, hex⟩ := He.ba (show (cmetB K (He.ga K "Action") "from_line" && _) = true from hex)
  obtain ⟨ex_ne, hex⟩ := He.ba (show (neB K (He.ga K "Action") && _) = true from hex)
  obtain ⟨ex_nf, hex⟩ := He.ba (show (nfB K (He.ga K "Action") ["str", "NoneType", "tuple"] && _) = true from hex)
  obtain ⟨ex_tabs, hex⟩ := He.ba (show (decide ((He.cT K ("_law_right", none)).2 ≠ (He.cT K ("law", none)).2) && _) = true from hex)
  obtain ⟨ex_m_called, hex⟩ := He.ba (show (xM_called.ok K && _) = true from hex)
  obtain ⟨ex_m_moves, hex⟩ := He.ba (show (xM_moves.ok K && _) = true from hex)
  obtain ⟨ex_m_owners, hex⟩ := He.ba (show (xM_owners.ok K && _) = true from hex)
  obtain ⟨ex_m_from_line, hex⟩ := He.ba (show (xM_from_line.ok K && _) = true from hex)
  have B : Blt mg := ⟨He.free_ok X G (cd.fact 32 (f := .free "len") rfl), He.free_ok X G (cd.fact 33 (f := .free "int") rfl), He.free_ok X G (cd.fact 34 (f := .free "abs") rfl), He.free_ok X G (cd.fact 35 (f := .free "max") rfl), He.free_ok X G (cd.fact 36 (f := .free "min") rfl), He.free_ok X G (cd.fact 37 (f := .free "range") rfl), He.free_ok X G (cd.fact 38 (f := .free "all") rfl), He.free_ok X G (cd.fact 39 (f := .free "isinstance") rfl), He.free_ok X G (cd.fact 40 (f := .free "str") rfl), He.free_ok X G (cd.fact 41 (f := .free "tuple") rfl), He.free_ok X G (cd.fact 42 (f := .free "list") rfl), He.free_ok X G (cd.fact 43 (f := .free "set") rfl), He.free_ok X G (cd.fact 44 (f := .free "sorted") rfl), He.free_ok X G (cd.fact 45 (f := .free "repr") rfl), He.free_ok X G (cd.fact 46 (f := .free "bool") rfl), He.free_ok X G (cd.fact 47 (f := .free "dict") rfl)⟩
  obtain ⟨d_ParseError, F_ParseError⟩ := cd.def_ 18 (d := ⟨("ParseError", some "__init__"), "__init__", "ParseError.__init__", defArgs s_ParseError___init, defBody s_ParseError___init, defScope s_ParseError___init, [], []⟩) rfl
  obtain ⟨T_ParseError, X_ParseError⟩ := ini_he X G (x := "ParseError") (fld := "line") (st := s_ParseError___init) (by decide +kernel) ex_ini (cd.fact 18 (f := .glo "ParseError") rfl) F_ParseError fun _ _ _ _ _ _ us hl => match us, hl with | [_, _], _ => rfl
  have I_ClockError := cin_he X G (cd.fact 19 (f := .glo "ClockError") rfl) ex_cin
  have T_InvalidName := own_he X G (cd.fact 21 (f := .glo "InvalidName") rfl) (cd.fact 23 (f := .exc "InvalidName") rfl) (cd.fact 24 (f := .exm "InvalidName" "InvalidName" true) rfl)
  have T_InvalidAction := own_he X G (cd.fact 22 (f := .glo "InvalidAction") rfl) (cd.fact 25 (f := .exc "InvalidAction") rfl) (cd.fact 26 (f := .exm "InvalidAction" "InvalidAction" true) rfl)
  obtain ⟨t_MAX_LETTERS, C_MAX_LETTERS⟩ := He.int_ok X G (cd.fact 30 (f := .int "MAX_LETTERS" 8) rfl)
  obtain ⟨t_MAX_MOVES, C_MAX_MOVES⟩ := He.int_ok X G (cd.fact 31 (f := .int "MAX_MOVES" 4) rfl)
  have eNP := He.exm_ok (cd.fact 27 (f := .exm "InvalidName" "ParseError" false) rfl)
  have eAP := He.exm_ok (cd.fact 28 (f := .exm "InvalidAction" "ParseError" false) rfl)
  have eAN := He.exm_ok (cd.fact 29 (f := .exm "InvalidAction" "InvalidName" false) rfl)
  have g_Action := He.glo_ok X G (cd.fact 20 (f := .glo "Action") rfl)
  have AC : ActC K (He.ga K "Action") := ⟨He.cls_ok (cd.fact 48 (f := .cls "Action") rfl), He.noat_ok (cd.fact 49 (f := .noat "Action" "_called") rfl), He.noat_ok (cd.fact 50 (f := .noat "Action" "_moves") rfl)⟩
  have IC := insB_ok AC.cl ex_ins
  have MK := He.mkr_ok (cd.fact 54 (f := .mkr "Action") rfl)
  obtain ⟨d_Minit, F_Minit⟩ := cd.def_ 19 (d := ⟨("Action", some "__init__"), "__init__", "Action.__init__", defArgs s_Action___init, defBody s_Action___init, defScope s_Action___init, [], []⟩) rfl
  have U_Minit : Fun K "__init__" "Action.__init__" s_Action___init (He.ma K (He.ga K "Action") "__init__") d_Minit := funD_fun F_Minit
  have B_Minit := U_Minit.binds (ps := ["self", "called", "moves"]) fun _ _ _ _ _ _ us hl => match us, hl with | [_, _, _], _ => rfl
  obtain ⟨d_Mlen, F_Mlen⟩ := cd.def_ 20 (d := ⟨("Action", some "__len__"), "__len__", "Action.__len__", defArgs s_Action___len, defBody s_Action___len, defScope s_Action___len, [], []⟩) rfl
  have U_Mlen : Fun K "__len__" "Action.__len__" s_Action___len (He.ma K (He.ga K "Action") "__len__") d_Mlen := funD_fun F_Mlen
  have B_Mlen := U_Mlen.binds (ps := ["self"]) fun _ _ _ _ _ _ us hl => match us, hl with | [_], _ => rfl
  have O_Mlen := own_meth (He.meth_ok (cd.fact 51 (f := .meth "Action" "__len__") rfl))
  obtain ⟨d_Meq, F_Meq⟩ := cd.def_ 21 (d := ⟨("Action", some "__eq__"), "__eq__", "Action.__eq__", defArgs s_Action___eq, defBody s_Action___eq, defScope s_Action___eq, [], []⟩) rfl
  have U_Meq : Fun K "__eq__" "Action.__eq__" s_Action___eq (He.ma K (He.ga K "Action") "__eq__") d_Meq := funD_fun F_Meq
  have B_Meq := U_Meq.binds (ps := ["self", "other"]) fun _ _ _ _ _ _ us hl => match us, hl with | [_, _], _ => rfl
  have O_Meq := own_meth (He.meth_ok (cd.fact 52 (f := .meth "Action" "__eq__") rfl))
  obtain ⟨d_Mstr, F_Mstr⟩ := cd.def_ 22 (d := ⟨("Action", some "__str__"), "__str__", "Action.__str__", defArgs s_Action___str, defBody s_Action___str, defScope s_Action___str, [], []⟩) rfl
  have U_Mstr : Fun K "__str__" "Action.__str__" s_Action___str (He.ma K (He.ga K "Action") "__str__") d_Mstr := funD_fun F_Mstr
  have B_Mstr := U_Mstr.binds (ps := ["self"]) fun _ _ _ _ _ _ us hl => match us, hl with | [_], _ => rfl
  have O_Mstr := own_meth (He.meth_ok (cd.fact 53 (f := .meth "Action" "__str__") rfl))
  obtain ⟨d_Wcalled, F_Wcalled⟩ := defA_at m 0 (d := xM_called) rfl ex_m_called
  have U_Wcalled : Fun K "called" "Action.called" s_Action_called (He5.wf K (He.ga K "Action") "property" "called") d_Wcalled := funD_fun F_Wcalled
  have B_Wcalled := U_Wcalled.binds (ps := ["self"]) fun _ _ _ _ _ _ us hl => match us, hl with | [_], _ => rfl
  have P_Wcalled := propB_ok ex_pr_called
  obtain ⟨d_Wmoves, F_Wmoves⟩ := defA_at m 1 (d := xM_moves) rfl ex_m_moves
  have U_Wmoves : Fun K "moves" "Action.moves" s_Action_moves (He5.wf K (He.ga K "Action") "property" "moves") d_Wmoves := funD_fun F_Wmoves
  have B_Wmoves := U_Wmoves.binds (ps := ["self"]) fun _ _ _ _ _ _ us hl => match us, hl with | [_], _ => rfl
  have P_Wmoves := propB_ok ex_pr_moves
  obtain ⟨d_Wowners, F_Wowners⟩ := defA_at m 2 (d := xM_owners) rfl ex_m_owners
  have U_Wowners : Fun K "owners" "Action.owners" s_Action_owners (He5.wf K (He.ga K "Action") "property" "owners") d_Wowners := funD_fun F_Wowners
  have B_Wowners := U_Wowners.binds (ps := ["self"]) fun _ _ _ _ _ _ us hl => match us, hl with | [_], _ => rfl
  have P_Wowners := propB_ok ex_pr_owners
  obtain ⟨d_Wfrom_line, F_Wfrom_line⟩ := defA_at m 3 (d := xM_from_line) rfl ex_m_from_line
  have U_Wfrom_line : Fun K "from_line" "Action.from_line" s_Action_from_line (He5.wf K (He.ga K "Action") "classmethod" "from_line") d_Wfrom_line := funD_fun F_Wfrom_line
  have B_Wfrom_line := U_Wfrom_line.binds (ps := ["cls", "line"]) fun _ _ _ _ _ _ us hl => match us, hl with | [_, _], _ => rfl
  obtain ⟨nf1, nf2⟩ := nfB_ok ex_nf
  have TA : ActK K mg _ _ _ _ _ _ _ _ _ _ _ _ _ d_Minit d_Wfrom_line d_Wcalled d_Wmoves d_Wowners d_Mlen d_Meq d_Mstr (.type "type") := ⟨g_Action, AC, IC, MK, B_Minit, readB_ok ex_read, cmetB_ok ex_cmet, B_Wfrom_line, P_Wcalled, B_Wcalled, P_Wmoves, B_Wmoves, P_Wowners, B_Wowners, O_Mlen, B_Mlen, O_Meq, B_Meq, He.eqO_ok ex_ne, IC.hm, O_Mstr, B_Mstr, nf1, nf2⟩
  have ntab : (He.cT K ("_law_right", none)).2 ≠ (He.cT K ("law", none)).2 := of_decide_eq_true ex_tabs
  have el := hfl.symm.trans D_law.g
  cases el
  refine ⟨d_law, [He.cT K ("_law_right", none), He.cT K ("law", none)], spLaw K (xTT K), ?_, ?_, ?_, ?_, ?_, fun base KB GB TB => ?_⟩
  · exact all2 (c.empty _ (List.mem_cons_self ..)) (c.empty _ (List.mem_cons_of_mem _ (List.mem_cons_self ..)))
  · exact all2 (c.out _ (List.mem_cons_self ..)) (c.out _ (List.mem_cons_of_mem _ (List.mem_cons_self ..)))
  · exact all2 (PySem.W.codeHd_of_K X (c.hd _ (List.mem_cons_self ..))) (PySem.W.codeHd_of_K X (c.hd _ (List.mem_cons_of_mem _ (List.mem_cons_self ..))))
  · exact fun s v => FunD.bindsA (ps := ["script"]) F_law (fun _ _ _ _ _ _ us hl => match us, hl with | [_], _ => rfl) s [v] rfl
  · exact fun H a ns hl _ hT hS => ⟨a, ns, rfl, hS, hl, all2 (LamX.TabS.nil (hT _ (List.mem_cons_self ..))) (LamX.TabS.nil (hT _ (List.mem_cons_of_mem _ (List.mem_cons_self ..)))), fun _ => rfl⟩
  have TBr := TB _ (List.mem_cons_self ..)
  have TBl := TB _ (List.mem_cons_of_mem _ (List.mem_cons_self ..))
  have G_tape := ok_tape (P := PySem.Challenge.rw_groupclocks_k05_actions_and_their_lines.prog) (w := w) (base := base) B D_tape
  have G_roll := ok_roll (P := PySem.Challenge.rw_groupclocks_k05_actions_and_their_lines.prog) (w := w) (base := base) B D_roll
  have G_pick := ok_pick (P := PySem.Challenge.rw_groupclocks_k05_actions_and_their_lines.prog) (w := w) (base := base) B D_roll D_pick
  have G_word := ok_word4 B D_pick G_pick D_word_drawn
  have G_words := ok_words4 B D_word_drawn G_word D_words_drawn
  have G_is_name := ok_is_name (P := PySem.Challenge.rw_groupclocks_k05_actions_and_their_lines.prog) (w := w) (base := base) B C_MAX_LETTERS D_is_name
  have G_ParseError := ok_ParseError (P := PySem.Challenge.rw_groupclocks_k05_actions_and_their_lines.prog) (w := w) (base := base) T_ParseError I_ClockError
  have G_are_all_names := ok_are_all_names B D_is_name G_is_name D_are_all_names
  have G_are_moves := ok_are_moves B C_MAX_MOVES D_are_all_names G_are_all_names D_are_moves
  have G_init := ok_Action___init B T_InvalidName T_InvalidAction AC U_Minit D_is_name G_is_name D_are_moves G_are_moves
  have G_called := ok_Action_called (P := PySem.Challenge.rw_groupclocks_k05_actions_and_their_lines.prog) (w := w) (base := base) B AC U_Wcalled
  have G_moves := ok_Action_moves (P := PySem.Challenge.rw_groupclocks_k05_actions_and_their_lines.prog) (w := w) (base := base) B AC U_Wmoves
  have G_owners := ok_Action_owners (P := PySem.Challenge.rw_groupclocks_k05_actions_and_their_lines.prog) (w := w) (base := base) B AC U_Wowners
  have G_len := ok_Action___len (P := PySem.Challenge.rw_groupclocks_k05_actions_and_their_lines.prog) (w := w) (base := base) B AC U_Mlen
  have G_write_moves := ok_write_moves (P := PySem.Challenge.rw_groupclocks_k05_actions_and_their_lines.prog) (w := w) (base := base) B D_write_moves
  have G_str := ok_Action___str B AC D_write_moves G_write_moves U_Mstr
  have G_eq := ok_Action___eq (P := PySem.Challenge.rw_groupclocks_k05_actions_and_their_lines.prog) (w := w) (base := base) B g_Action AC IC U_Meq
  have G_read_action := ok_read_action B D_is_name G_is_name D_are_moves G_are_moves D_read_action
  have G_from_line := ok_Action_from_line B T_ParseError G_ParseError D_read_action G_read_action MK B_Minit G_init U_Wfrom_line
  have G_few := ok_fewV B D_roll G_roll D_few
  have G_action_line := ok_action_line (P := PySem.Challenge.rw_groupclocks_k05_actions_and_their_lines.prog) (w := w) (base := base) B D_action_line
  have G_moves_drawn := ok_moves_drawn B D_roll G_roll D_pick G_pick D_words_drawn G_words D_moves_drawn
  have G_wrong_line := ok_wrong_line B D_pick G_pick D_action_line G_action_line D_wrong_line
  have G_wrong_moves := ok_wrong_moves B D_pick G_pick D_wrong_moves
  have hmR : ((He.cT K ("_law_right", none)).2, qR) ∈ xTT K := List.mem_cons_self ..
  have hmL : ((He.cT K ("law", none)).2, qL) ∈ xTT K := List.mem_cons_of_mem _ (List.mem_cons_self ..)
  have huR : ∀ p ∈ xTT K, p.1 = (He.cT K ("_law_right", none)).2 → p.2 = qR := all2 (fun _ => rfl) (fun z => absurd z.symm ntab)
  have huL : ∀ p ∈ xTT K, p.1 = (He.cT K ("law", none)).2 → p.2 = qL := all2 (fun z => absurd z ntab) (fun _ => rfl)
  have G_right := ok_right (f := 0) B TA T_ParseError X_ParseError T_InvalidName T_InvalidAction eNP eAP eAN TBr hmR huR G_init G_from_line G_called G_moves G_owners G_len G_eq G_str D_word_drawn G_word D_moves_drawn G_moves_drawn D_action_line G_action_line D_few G_few D_wrong_line G_wrong_line D_wrong_moves G_wrong_moves D_pick G_pick D_met D_right
  exact ok_law B TA T_ParseError X_ParseError T_InvalidName T_InvalidAction eNP eAP eAN TBl hmL huL G_init G_from_line G_called G_moves G_owners G_len G_eq G_str C_MAX_MOVES D_tape G_tape D_right G_right D_met D_law
end Gk
open PySem PySem.W PySem.Calls PyProof.Rows
set_option maxRecDepth 1000000 in
set_option maxHeartbeats 0 in
theorem PySem.Challenge.cw_groupclocks_k05_actions_and_their_lines_holds : PySem.Challenge.rw_groupclocks_k05_actions_and_their_lines.Holds := by
  w_on; o_law
  refine HandSHeadRun.head_any (r := OpenLaw.row PySem.Challenge.rw_groupclocks_k05_actions_and_their_lines) (q := view (OpenLaw.row PySem.Challenge.rw_groupclocks_k05_actions_and_their_lines).prog [28]) (H := Gk.xHk) (ob := Gk.xOb) (M := 6000) (loose := ["ClockError", "InvalidName", "InvalidAction", "ParseError", "MAX_LETTERS", "is_name", "MAX_MOVES", "Action", "_are_moves", "_are_all_names", "_write_moves", "_read_action", "_law_tape", "_law_roll", "_law_pick", "_law_few", "_law_word_drawn", "_law_words_drawn", "_law_action_line", "_law_moves_drawn", "_law_met", "_law_wrong_line", "_law_wrong_moves", "_law_right"]) (d := HandSHeadRun.topDef (OpenLaw.row PySem.Challenge.rw_groupclocks_k05_actions_and_their_lines).prog 28) (kwd := []) Gk.xOb_eq
    (by kernel_rfl) (fun s => by kernel_rfl) Gk.xRun (by kernel_rfl) (by kernel_rfl) (by kernel_rfl) (by rfl) (by first | assumption | decide +kernel) (by decide +kernel) ⟨rfl, rfl, rfl, rfl, rfl, by decide +kernel⟩ ?hw ?hc
  case hw => w_witness2
  case hc =>
    refine LamX.walk_ofTsE (l := PySem.Challenge.rw_groupclocks_k05_actions_and_their_lines) (n := 63) (k := 13) (x := "script") (CX := fun _ => L2.CX0) rfl (by decide) (by kernel_rfl) ⟨rfl, by decide, by decide⟩ ?F (fun _ _ _ _ _ z => z)
    intro w mg fa h Y G hmg0
    obtain ⟨K, KX, c, m⟩ := Y
    have hmg : mg ("law" : PySem.Str) = some (.ref fa) := by
      have e : (HandSHeadRun.topDef (OpenLaw.row PySem.Challenge.rw_groupclocks_k05_actions_and_their_lines).prog 28).name = ("law" : PySem.Str) := by kernel_rfl
      rw [← e]
      exact hmg0
    exact ⟨K, KX, Gk.xFacts KX G hmg c m⟩

