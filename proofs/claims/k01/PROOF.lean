import PyProof.Rows.All
import PySem.Challenge.RW_groupclocks_k01_integers_and_names_judge
import Wide.All
import OpenK.AllK
import Wide.FinOn
import HandS.Base
import HandS.Call
import HandS.List
import HandS.Comp
import HandS.Ends
import HandS.Dict
import HandS.Iter
import HandS.Text
import HandS.Words
import HandS.WordsList
import HandS.Wide
import HandS.ForMost
import HandS.Walk
import HandS.TupAny
import HandS.Style
import HandS.FStr
import HandS.IsInst
import HandS.ExcInit
import HandS.ExcOwn
import HandS.TryOnly
import HandS.WordsExc
import HandS.Strs
import HandS.RaiseMore
import HandS.Set
import PyProof.Rows.SortShellAny
import PyProof.NeKinds
import PyProof.ListStr
set_option Elab.async false
set_option linter.all false
set_option maxRecDepth 100000
set_option maxHeartbeats 4000000
namespace L2
open PySem PySem.Spec PyProof.Rows

/-! ### heaps: what stays -/
theorem gSame_new {H : Hp} {p : Addr} {o : HO} (h : H p = none) : Same H (upd H p o) := fun b x e => by
  rw [upd_ne (ne_of_none e h)]
  exact e
theorem gSame_back {H H' : Hp} {p : Addr} (e : Same H H') (h : H' p = none) : H p = none := e.free h
theorem gSame_mut {H H' : Hp} {p : Addr} {o : HO} (e : Same H H') (h : H p = none) : Same H (upd H' p o) := fun b u q => by
  rw [upd_ne (ne_of_none q h)]
  exact e b u q
theorem gSeqT {K : PySem.W.Frag} {H H' : Hp} {a : Addr} {xs : List V} (e : Same H H') (h : SqT K H a xs) : SqT K H' a xs := by
  rcases h with (h | ⟨o, h⟩) | h
  · exact .inl (.inl (e _ _ h))
  · exact .inl (.inr ⟨o, e _ _ h⟩)
  · exact .inr h

/-! ### the tape of draws: a list of three ints, the one thing that the drawing defs change -/
def Tp (H : Hp) (t : Addr) : Prop := ∃ a b c : Int, H t = some (.lst [.int a, .int b, .int c])
structure Kt (t : Addr) (H H' : Hp) : Prop where
  tp : Tp H' t
  kp : ∀ b o, b ≠ t → H b = some o → H' b = some o
theorem Kt.refl {t : Addr} {H : Hp} (h : Tp H t) : Kt t H H := ⟨h, fun _ _ _ e => e⟩
theorem Kt.trans {t : Addr} {H H1 H2 : Hp} (a : Kt t H H1) (b : Kt t H1 H2) : Kt t H H2 := ⟨b.tp, fun c o n e => b.kp c o n (a.kp c o n e)⟩
theorem Kt.same {t : Addr} {H H' : Hp} (h : Tp H t) (s : Same H H') : Kt t H H' := by
  obtain ⟨a, b, c, e⟩ := h
  exact ⟨⟨a, b, c, s _ _ e⟩, fun d o _ q => s d o q⟩
theorem Kt.wr {t : Addr} {H : Hp} {a b c : Int} (h : Tp H t) : Kt t H (upd H t (.lst [.int a, .int b, .int c])) := ⟨⟨a, b, c, upd_same⟩, fun d o n q => by
  rw [upd_ne n]
  exact q⟩
theorem Kt.ne {t p : Addr} {H : Hp} (h : Tp H t) (n : H p = none) : p ≠ t := fun z => by
  obtain ⟨a, b, c, e⟩ := h
  rw [z, e] at n
  cases n
theorem Kt.new {t p : Addr} {H : Hp} {o : HO} (h : Tp H t) (n : H p = none) : Kt t H (upd H p o) := Kt.same h (gSame_new n)
/-- a thing made since may change -/
theorem Kt.mut {t p : Addr} {H H' : Hp} {o : HO} (e : Kt t H H') (n : H p = none) (np : p ≠ t) : Kt t H (upd H' p o) := by
  obtain ⟨a, b, c, q⟩ := e.tp
  refine ⟨⟨a, b, c, by rw [upd_ne np.symm]; exact q⟩, fun d u nd r => ?_⟩
  rw [upd_ne (ne_of_none r n)]
  exact e.kp d u nd r
theorem Kt.free {t p : Addr} {H H' : Hp} (e : Kt t H H') (n : H' p = none) : H p = none := by
  have np := Kt.ne e.tp n
  cases q : H p with
  | none => rfl
  | some o =>
    rw [e.kp p o np q] at n
    cases n
theorem Tp.ne_tup {H : Hp} {t a : Addr} {xs : List V} (h : Tp H t) (e : H a = some (.tup xs)) : a ≠ t := by
  obtain ⟨x, y, z, q⟩ := h
  exact ne_of e q (by intro w; cases w)
theorem Tp.ne_frz {H : Hp} {t a : Addr} {o : Obj} {u : HO} (h : Tp H t) (e : H a = some (.frz o u)) : a ≠ t := by
  obtain ⟨x, y, z, q⟩ := h
  exact ne_of e q (by intro w; cases w)
theorem Tp.ne_strs {H : Hp} {t a : Addr} {ss : List Str} (h : Tp H t) (e : H a = some (.lst (ss.map V.str))) : a ≠ t := by
  obtain ⟨x, y, z, q⟩ := h
  refine ne_of e q ?_
  intro w
  cases ss with
  | nil => cases w
  | cons s r => cases w
theorem Kt.tup {t a : Addr} {H H' : Hp} {xs : List V} (k : Kt t H H') (h : Tp H t) (e : H a = some (.tup xs)) : H' a = some (.tup xs) := k.kp _ _ (h.ne_tup e) e
theorem Kt.strs {t a : Addr} {H H' : Hp} {ss : List Str} (k : Kt t H H') (h : Tp H t) (e : H a = some (.lst (ss.map V.str))) : H' a = some (.lst (ss.map V.str)) := k.kp _ _ (h.ne_strs e) e
theorem Kt.sqT {K : PySem.W.Frag} {t a : Addr} {H H' : Hp} {xs : List V} (k : Kt t H H') (h : Tp H t) (e : SqT K H a xs) : SqT K H' a xs := by
  rcases e with (e | ⟨o, e⟩) | e
  · exact .inl (.inl (k.tup h e))
  · exact .inl (.inr ⟨o, k.kp _ _ (h.ne_frz e) e⟩)
  · exact .inr e

/-! ### great powers -/
def CPowW (i j : Int) : Prop := 0 ≤ j ∧ (Builtin.Int.intBits i : Int) * j ≤ 2 ^ 27
section
variable {X : Cx}
theorem op_powW : OpR X (binaryOp .Pow) (rI CPowW fun i j => .int (i ^ j.toNat)) := opI fun _ _ _ _ _ _ _ hc q => pow_int hc.1 hc.2 q
end

theorem p570 : (((10 : Int) ^ Int.toNat 57) ^ Int.toNat 10) ≠ 0 := by decide +kernel
theorem c57 : CPowW 10 57 := ⟨by decide, by decide +kernel⟩
theorem c570 : CPowW ((10 : Int) ^ Int.toNat 57) 10 := ⟨by decide, by decide +kernel⟩
theorem c18 : CPowW 10 18 := ⟨by decide, by decide +kernel⟩
theorem cmL {i j : Int} (h : -(2 ^ 64) < i ∧ i < 2 ^ 64 := by constructor <;> decide) : CMul i j := .inl h
theorem cmR {i j : Int} (h : -(2 ^ 64) < j ∧ j < 2 ^ 64 := by constructor <;> decide) : CMul i j := .inr h
theorem fmod_rng {a n : Int} (h : 0 < n) : 0 ≤ a.fmod n ∧ a.fmod n < n := ⟨Int.fmod_nonneg_of_pos a h, Int.fmod_lt_of_pos a h⟩

/-! ### words -/
/-- a word: one to eight letters a to z -/
def isW (z : Str) : Bool := decide (1 ≤ z.length) && decide (z.length ≤ 8) && (TL.tl z).all fun c => decide (97 ≤ c) && decide (c ≤ 122)
theorem isW_len {z : Str} (h : isW z = true) : 1 ≤ z.length ∧ z.length ≤ 8 := by
  unfold isW at h
  simp only [Bool.and_eq_true, decide_eq_true_eq] at h
  exact h.1
theorem isW_let {z : Str} (h : isW z = true) : ∀ c ∈ TL.tl z, 97 ≤ c ∧ c ≤ 122 := by
  unfold isW at h
  simp only [Bool.and_eq_true, decide_eq_true_eq, List.all_eq_true] at h
  exact h.2
theorem isW_mk {z : Str} (h1 : 1 ≤ z.length) (h2 : z.length ≤ 8) (h3 : ∀ c ∈ TL.tl z, 97 ≤ c ∧ c ≤ 122) : isW z = true := by
  unfold isW
  simp only [Bool.and_eq_true, decide_eq_true_eq, List.all_eq_true]
  exact ⟨⟨h1, h2⟩, h3⟩
end L2

set_option Elab.async false
set_option linter.all false
set_option maxRecDepth 100000
set_option maxHeartbeats 4000000
namespace L2
open PySem PySem.Spec PyProof.Rows

/-! ### the built-in names that the text leaves as they are -/
structure Blt (mg : Str → Option Value) : Prop where
  len_ : mg "len" = none
  int_ : mg "int" = none
  abs_ : mg "abs" = none
  max_ : mg "max" = none
  min_ : mg "min" = none
  range : mg "range" = none
  all_ : mg "all" = none
  isinstance_ : mg "isinstance" = none
  str_ : mg "str" = none
  tuple_ : mg "tuple" = none
  list_ : mg "list" = none
  set_ : mg "set" = none
  sorted_ : mg "sorted" = none
  repr_ : mg "repr" = none
  bool_ : mg "bool" = none
  dict_ : mg "dict" = none
/-- a def of the text: where it stands, how it is called -/
structure Df (K : PySem.W.Frag) (mg : Str → Option Value) (x : Str) (st : Stmt) (ps : List Str) (f : Addr) (fd : FuncData) : Prop where
  F : Fun K x x st f fd
  g : mg x = some (.ref f)
  b : Binds K fd ps []
theorem passL0 {X : Cx} : Passes (L2.CX X.prog X.w) X (fun _ _ _ => False) := passL
/-- a branch that comes to one value -/
theorem meetI {c : Prop} [Decidable c] {A B : VK → Prop} {Q : VK} (H : Hp) (v : V) (h1 : c → ∀ Q : VK, Q v H → A Q) (h2 : ¬ c → ∀ Q : VK, Q v H → B Q) (q : Q v H) : if c then A Q else B Q := by
  by_cases h : c
  · rw [if_pos h]
    exact h1 h Q q
  · rw [if_neg h]
    exact h2 h Q q

/-! ### promises of the drawing defs -/
def spTape (K : PySem.W.Frag) : Sp := fun vs H Q _ => ∃ (a : Addr) (ns : List Int) (n : Int), vs = [.ref a, .int n] ∧ SqL K H a (ns.map V.int) ∧ 0 ≤ n ∧ ∀ t x y z, H t = none → Q (.ref t) (upd H t (.lst [.int x, .int y, .int z]))
def spRoll : Sp := fun vs H Q _ => ∃ (t : Addr) (n : Int), vs = [.ref t, .int n] ∧ Tp H t ∧ 0 < n ∧ n < 1073741824 ∧ ∀ r H', 0 ≤ r → r < n → Kt t H H' → Q (.int r) H'
/-- the items of a list, a tuple, a text -/
def Items (K : PySem.W.Frag) (H : Hp) (t : Addr) (x : V) (xs : List V) : Prop :=
  (∃ p, x = .ref p ∧ p ≠ t ∧ (SqL K H p xs ∨ SqT K H p xs)) ∨ ∃ z : Str, x = .str z ∧ xs = (TL.tl z).map fun c => V.str ⟨#[c]⟩
def spPick (K : PySem.W.Frag) : Sp := fun vs H Q _ => ∃ (t : Addr) (x : V) (xs : List V), vs = [.ref t, x] ∧ Tp H t ∧ Items K H t x xs ∧ 0 < xs.length ∧ xs.length < 100000 ∧ ∀ y H', y ∈ xs → Kt t H H' → Q y H'
end L2

set_option Elab.async false
set_option linter.all false
set_option maxRecDepth 100000
set_option maxHeartbeats 4000000
namespace L2
open PySem PySem.Spec PyProof.Rows
/-! ### texts in rows, as data -/
def OkS (ss : List Str) : Prop := ss.all PyData.strOk = true
theorem OkS.mk {ss : List Str} (h : ∀ s ∈ ss, PyData.strOk s = true) : OkS ss := List.all_eq_true.mpr h
theorem OkS.of {ss : List Str} (h : ∀ s ∈ ss, isW s = true) : OkS ss := OkS.mk fun s hs => by
  have hl := isW_let (h s hs)
  unfold PyData.strOk
  rw [Array.all_eq_true_iff_forall_mem]
  intro c hc
  have := hl c (by unfold TL.tl; exact Array.mem_toList_iff.mpr hc)
  exact decide_eq_true (by omega)
theorem gLayS (ss : List Str) (h : OkS ss) : PyData.canLayAll0 (ss.map PyData.str) = true := by
  rw [PyProof.Rows.canLayAll_strs']
  exact h
theorem gDepS : ∀ ss : List Str, PyData.depthAll (ss.map PyData.str) = 0
  | [] => by simp [PyData.depthAll]
  | s :: r => by
    have ih := gDepS r
    simp [PyData.depthAll, PyData.depth, ih]
theorem gShL (ss : List Str) (h : OkS ss) : SeqAt.shaped (.list (ss.map PyData.str)) = true := by
  simp [SeqAt.shaped, PyData.canLay0, PyData.depth, gLayS ss h, gDepS]
theorem gShT (ss : List Str) (h : OkS ss) : SeqAt.shaped (.tuple (ss.map PyData.str)) = true := by
  simp [SeqAt.shaped, PyData.canLay0, PyData.depth, gLayS ss h, gDepS]
theorem gEqvS : ∀ ss ts : List Str, PyData.eqvAll (ss.map PyData.str) (ts.map PyData.str) = decide (ss = ts)
  | [], [] => by simp [PyData.eqvAll]
  | [], t :: r => by simp [PyData.eqvAll]
  | s :: r, [] => by simp [PyData.eqvAll]
  | s :: r, t :: q => by
    have ih := gEqvS r q
    simp only [List.map_cons, PyData.eqvAll, PyData.eqv, ih]
    by_cases h : s = t
    · subst h
      simp
    · have hb : (s == t) = false := by simpa using h
      simp [hb, h]
theorem gEqvL (ss ts : List Str) : PyData.eqv (.list (ss.map PyData.str)) (.list (ts.map PyData.str)) = decide (ss = ts) := by
  rw [PyData.eqv]
  exact gEqvS ss ts
theorem gEqvT (ss ts : List Str) : PyData.eqv (.tuple (ss.map PyData.str)) (.tuple (ts.map PyData.str)) = decide (ss = ts) := by
  rw [PyData.eqv]
  exact gEqvS ss ts
theorem gDpS {K : PySem.W.Frag} {H : Hp} : ∀ ss : List Str, DpAll K H (ss.map V.str) (ss.map PyData.str)
  | [] => .nil
  | s :: r => .cons (.str s) (gDpS r)
theorem gDpL {K : PySem.W.Frag} {H : Hp} {a : Addr} {ss : List Str} (h : SqL K H a (ss.map V.str)) : Dp K H (.ref a) (.list (ss.map PyData.str)) := .lst h (gDpS ss)
theorem gDpT {K : PySem.W.Frag} {H : Hp} {a : Addr} {ss : List Str} (h : SqT K H a (ss.map V.str)) : Dp K H (.ref a) (.tuple (ss.map PyData.str)) := .tup h (gDpS ss)
/-- == and != of rows of texts: what the rule asks -/
theorem neLS {K : PySem.W.Frag} {H : Hp} {a b : Addr} {ss ts : List Str} {Q : VK} (oa : OkS ss) (ob : OkS ts) (ha : SqL K H a (ss.map V.str)) (hb : SqL K H b (ts.map V.str)) (q : Q (.bl (!decide (ss = ts))) H) : rNeD K (.ref a) (.ref b) H Q :=
  ⟨_, _, gDpL ha, gDpL hb, gShL ss oa, gShL ts ob, by rw [gEqvL]; exact q⟩
theorem neTS {K : PySem.W.Frag} {H : Hp} {a b : Addr} {ss ts : List Str} {Q : VK} (oa : OkS ss) (ob : OkS ts) (ha : SqT K H a (ss.map V.str)) (hb : SqT K H b (ts.map V.str)) (q : Q (.bl (!decide (ss = ts))) H) : rNeD K (.ref a) (.ref b) H Q :=
  ⟨_, _, gDpT ha, gDpT hb, gShT ss oa, gShT ts ob, by rw [gEqvT]; exact q⟩
theorem eqLS {K : PySem.W.Frag} {H : Hp} {a b : Addr} {ss ts : List Str} {Q : VK} (oa : OkS ss) (ob : OkS ts) (ha : SqL K H a (ss.map V.str)) (hb : SqL K H b (ts.map V.str)) (q : Q (.bl (decide (ss = ts))) H) : rEqD K (.ref a) (.ref b) H Q :=
  ⟨_, _, gDpL ha, gDpL hb, gShL ss oa, gShL ts ob, by rw [gEqvL]; exact q⟩
theorem eqTS {K : PySem.W.Frag} {H : Hp} {a b : Addr} {ss ts : List Str} {Q : VK} (oa : OkS ss) (ob : OkS ts) (ha : SqT K H a (ss.map V.str)) (hb : SqT K H b (ts.map V.str)) (q : Q (.bl (decide (ss = ts))) H) : rEqD K (.ref a) (.ref b) H Q :=
  ⟨_, _, gDpT ha, gDpT hb, gShT ss oa, gShT ts ob, by rw [gEqvT]; exact q⟩

/-! ### items -/
theorem Kt.sqL {K : PySem.W.Frag} {t a : Addr} {H H' : Hp} {xs : List V} (k : Kt t H H') (n : a ≠ t) (e : SqL K H a xs) : SqL K H' a xs := by
  rcases e with (e | ⟨o, e⟩) | e
  · exact .inl (.inl (k.kp _ _ n e))
  · exact .inl (.inr ⟨o, k.kp _ _ n e⟩)
  · exact .inr e
theorem Items.kt {K : PySem.W.Frag} {t : Addr} {H H' : Hp} {x : V} {xs : List V} (i : Items K H t x xs) (h : Tp H t) (k : Kt t H H') : Items K H' t x xs := by
  rcases i with ⟨p, e, n, hS | hS⟩ | i
  · exact .inl ⟨p, e, n, .inl (k.sqL n hS)⟩
  · exact .inl ⟨p, e, n, .inr (k.sqT h hS)⟩
  · exact .inr i
theorem Items.len {K : PySem.W.Frag} {t : Addr} {H : Hp} {x : V} {xs : List V} (i : Items K H t x xs) (h : xs.length < 100000) : LenV K x H xs.length := by
  rcases i with ⟨p, rfl, n, hS | hS⟩ | ⟨z, rfl, rfl⟩
  · exact .inl ⟨_, hS, rfl⟩
  · exact .inr ⟨_, hS, rfl⟩
  · rw [List.length_map] at h ⊢
    refine ⟨?_, (TL.len_tl z).symm⟩
    rw [TL.len_tl, sizeLine_eq]
    omega
theorem Items.ix {K : PySem.W.Frag} {t : Addr} {H : Hp} {x y : V} {xs : List V} {r : Int} {Q : VK} (i : Items K H t x xs) (h : xs.length < 100000) (ha : atI xs r = some y) (q : Q y H) : rIx K x (.int r) H Q := by
  rcases i with ⟨p, rfl, n, hS | hS⟩ | ⟨z, rfl, rfl⟩
  · exact .inl ⟨p, _, r, y, rfl, rfl, hS, ha, q⟩
  · exact .inr (.inl ⟨p, _, r, y, rfl, rfl, hS, ha, q⟩)
  · unfold atI at ha
    rw [List.length_map] at ha h
    cases hj : ixN (TL.tl z).length r with
    | none =>
      rw [hj] at ha
      cases ha
    | some j =>
      rw [hj] at ha
      have ha' : ((TL.tl z).map fun c => V.str ⟨#[c]⟩)[j]? = some y := ha
      rw [List.getElem?_map] at ha'
      cases hc : (TL.tl z)[j]? with
      | none =>
        rw [hc] at ha'
        cases ha'
      | some c =>
        rw [hc] at ha'
        have e : V.str ⟨#[c]⟩ = y := Option.some.inj ha'
        refine .inr (.inr ⟨z, r, c, rfl, rfl, by rw [TL.len_tl, sizeLine_eq]; omega, ?_, by rw [e]; exact q⟩)
        show (ixN (TL.tl z).length r).bind _ = _
        rw [hj]
        exact hc
theorem at_int {α : Type} {xs : List α} {r : Int} (h0 : 0 ≤ r) (h1 : r < xs.length) : ∃ y, atI xs r = some y ∧ y ∈ xs := by
  have hj : r.toNat < xs.length := by omega
  refine ⟨xs[r.toNat], ?_, List.getElem_mem hj⟩
  obtain ⟨k, rfl⟩ : ∃ k : Nat, r = (k : Int) := ⟨r.toNat, by omega⟩
  exact atI_nat (by rw [List.getElem?_eq_getElem]; rfl)

/-! ### few -/
def spFew (K : PySem.W.Frag) : Sp := fun vs H Q _ => ∃ (t a : Addr) (ss : List Str) (many : Int), vs = [.ref t, .ref a, .int many] ∧ Tp H t ∧ a ≠ t ∧ SqL K H a (ss.map V.str) ∧ OkS ss ∧ ss.length ≤ 1000 ∧ 0 ≤ many ∧
  ∀ (p : Addr) (ys rest : List Str) (H' : Hp), (ys ++ rest).Perm ss → ys.length = min many.toNat ss.length → H p = none → H' p = some (.lst (ys.map V.str)) → Kt t H H' → Q (.ref p) H'
theorem OkS.sub {ss ts : List Str} (h : OkS ss) (hs : ∀ x ∈ ts, x ∈ ss) : OkS ts := OkS.mk fun s hm => List.all_eq_true.mp h s (hs s hm)
theorem perm_pick {ys xs ss : List Str} {k : Nat} {x : Str} (h : (ys ++ xs).Perm ss) (hk : xs[k]? = some x) : ((ys ++ [x]) ++ xs.eraseIdx k).Perm ss := by
  refine List.Perm.trans ?_ h
  rw [List.append_assoc]
  refine List.Perm.append_left ys ?_
  exact erase_perm _ _ _ hk
theorem seqIx {r : Int} {n : Nat} (h0 : 0 ≤ r) (h1 : r < n) : seqIndex? r n = some r.toNat := PySem.StrLaws.seqIndex_nonneg h0 h1
theorem erase_len {α : Type} {l : List α} {k : Nat} (h : k < l.length) : (l.eraseIdx k).length + 1 = l.length := by
  rw [List.length_eraseIdx, if_pos h]
  omega
theorem map_erase {α β : Type} (f : α → β) : ∀ (l : List α) (k : Nat), (l.map f).eraseIdx k = (l.eraseIdx k).map f
  | [], k => by simp
  | a :: r, 0 => by simp
  | a :: r, k + 1 => by simp [map_erase f r k]

/-! ### signs and words -/
def sg (c : Nat) : Str := ⟨#[c]⟩
theorem sg_inj {a b : Nat} (h : sg a = sg b) : a = b := by
  have := congrArg TL.tl h
  have e : ([a] : List Nat) = [b] := this
  cases e
  rfl
theorem sg_W {c : Nat} (h : 97 ≤ c ∧ c ≤ 122) : isW (sg c) = true := isW_mk (by show 1 ≤ 1; decide) (by show 1 ≤ 8; decide) fun d hd => by
  have e : TL.tl (sg c) = [c] := rfl
  rw [e] at hd
  rw [List.mem_singleton.mp hd]
  exact h
abbrev abc : Str := "abcdefghijklmnopqrstuvwxyz"
theorem abc_rng : ∀ c ∈ TL.tl abc, 97 ≤ c ∧ c ≤ 122 := by decide +kernel
theorem abc_nd : (TL.tl abc).Nodup := by decide +kernel
theorem abc_len : (TL.tl abc).length = 26 := by decide +kernel
theorem joinL_nil : ∀ cs : List Nat, TL.joinL [] (cs.map fun c => [c]) = cs
  | [] => rfl
  | [c] => rfl
  | c :: d :: r => by
    have ih := joinL_nil (d :: r)
    show [c] ++ ([] ++ TL.joinL [] ((d :: r).map fun c => [c])) = c :: d :: r
    rw [ih]
    rfl
theorem tl_join0 (cs : List Nat) : TL.tl (Txt.join "" (cs.map sg)) = cs := by
  rw [TL.join_eq, TL.tl_join, List.map_map]
  exact joinL_nil cs
theorem join0_W {cs : List Nat} (h1 : 1 ≤ cs.length) (h2 : cs.length ≤ 8) (h : ∀ c ∈ cs, 97 ≤ c ∧ c ≤ 122) : isW (Txt.join "" (cs.map sg)) = true := by
  refine isW_mk ?_ ?_ ?_
  · rw [TL.len_tl, tl_join0]
    exact h1
  · rw [TL.len_tl, tl_join0]
    exact h2
  · rw [tl_join0]
    exact h
theorem inV_strs (s : Str) : ∀ ws : List Str, inV (.str s) (ws.map V.str) = decide (s ∈ ws)
  | [] => by simp [inV]
  | x :: r => by
    have ih := inV_strs s r
    unfold inV at ih ⊢
    rw [List.map_cons, List.any_cons, ih]
    by_cases h : s = x
    · subst h
      simp [eqV]
    · have hb : eqV (.str x) (.str s) = false := by
        show (x == s) = false
        simpa using fun z : x = s => h z.symm
      rw [hb]
      simp [h]
theorem nodup_sub_len {α : Type} [DecidableEq α] : ∀ (l m : List α), l.Nodup → (∀ x ∈ l, x ∈ m) → l.length ≤ m.length
  | [], _, _, _ => Nat.zero_le _
  | a :: r, m, hd, hs => by
    have ha : a ∈ m := hs a (List.mem_cons_self ..)
    have hn := List.nodup_cons.mp hd
    have ih := nodup_sub_len r (m.erase a) hn.2 fun x hx => by
      refine (List.mem_erase_of_ne ?_).mpr (hs x (List.mem_cons_of_mem _ hx))
      intro z
      exact hn.1 (z ▸ hx)
    rw [List.length_erase_of_mem ha] at ih
    have : 0 < m.length := List.length_pos_iff.mpr (List.ne_nil_of_mem ha)
    show r.length + 1 ≤ m.length
    omega
/-- a sign that is none of fewer than 26 words -/
theorem left_ne {ws : List Str} (h : ws.length < 26) : ((TL.tl abc).map sg).filter (fun s => decide (s ∉ ws)) ≠ [] := by
  intro z
  have h2 := nodup_sub_len ((TL.tl abc).map sg) ws (by
    rw [List.nodup_iff_pairwise_ne, List.pairwise_map]
    exact abc_nd.imp fun {a b} n e => n (sg_inj e)) fun x hx => by
      have := List.filter_eq_nil_iff.mp z x hx
      simpa using this
  rw [List.length_map, abc_len] at h2
  omega
def spWord : Sp := fun vs H Q _ => ∃ t : Addr, vs = [.ref t] ∧ Tp H t ∧ ∀ (x : Str) (H' : Hp), isW x = true → Kt t H H' → Q (.str x) H'
def spWords : Sp := fun vs H Q _ => ∃ (t : Addr) (n : Int), vs = [.ref t, .int n] ∧ Tp H t ∧ 0 ≤ n ∧ n ≤ 25 ∧
  ∀ (p : Addr) (ws : List Str) (H' : Hp), ws.length = n.toNat → (∀ x ∈ ws, isW x = true) → ws.Nodup → H p = none → H' p = some (.lst (ws.map V.str)) → Kt t H H' → Q (.ref p) H'
theorem lots6 {y : V} (h : y ∈ [V.int 1, .int 1, .int 2, .int 3, .int 5, .int 8]) : ∃ n : Nat, y = .int n ∧ 1 ≤ n ∧ n ≤ 8 := by
  simp only [List.mem_cons, List.not_mem_nil, or_false] at h
  rcases h with h | h | h | h | h | h
  · exact ⟨1, h, by decide, by decide⟩
  · exact ⟨1, h, by decide, by decide⟩
  · exact ⟨2, h, by decide, by decide⟩
  · exact ⟨3, h, by decide, by decide⟩
  · exact ⟨5, h, by decide, by decide⟩
  · exact ⟨8, h, by decide, by decide⟩

/-! ### rules with the written part told (within a comprehension) -/
section
variable {X : Cx} (K : PySem.W.Frag)
theorem op_in_seqK (h : X.K = K) : OpR X (compareOp .In) (rIn K false) := by subst h; exact op_in_seq
theorem op_notIn_seqK (h : X.K = K) : OpR X (compareOp .NotIn) (rIn K true) := by subst h; exact op_notIn_seq
theorem ix_listK (h : X.K = K) : IxR X (rIxL K) := by subst h; exact ix_list
theorem ix_tupK (h : X.K = K) : IxR X (rIxT K) := by subst h; exact ix_tup
theorem ix_seqK (h : X.K = K) : IxR X (rIx K) := by subst h; exact ix_seq
theorem sl_listK (h : X.K = K) : SlR X (rSlL K) := by subst h; exact sl_list
theorem sl_tupAK (h : X.K = K) : SlR X (rSlA K) := by subst h; exact sl_tupA
theorem op_catAK (h : X.K = K) : OpR X (binaryOp .Add) (rCatA K) := by subst h; exact op_catA
theorem op_eqDK (h : X.K = K) (hu : X.A.units + 64 < cLine) : OpR X (compareOp .Eq) (rEqD K) := by subst h; exact op_eqD hu
theorem op_neDK (h : X.K = K) (hu : X.A.units + 64 < cLine) : OpR X (compareOp .NotEq) (rNeD K) := by subst h; exact op_neD hu
theorem call_isiK' (h : X.K = K) : CallR X (.builtin "isinstance") (rIsi K) := by subst h; exact call_isi
theorem call_len_seqK (h : X.K = K) : CallR X (.builtin "len") (fun xs H Q => ∃ p ys, xs = [.ref p] ∧ (SqL K H p ys ∨ SqT K H p ys) ∧ Q (.int ys.length) H) := by subst h; exact call_len_seq
theorem call_lenK (h : X.K = K) : CallR X (.builtin "len") (fun xs H Q => ∃ x n, xs = [x] ∧ LenV K x H n ∧ Q (.int n) H) := by subst h; exact call_len
end
end L2

set_option Elab.async false
set_option linter.all false
set_option maxRecDepth 100000
set_option maxHeartbeats 6400000
/-! set(xs) of a list or a tuple of texts, of any length, equal ones among them: how many different ones there are -/
namespace Gs
open PySem PySem.Spec PyProof.Rows
/-- how many different ones stand among the first i -/
def dst (xs : List Str) : Nat → Nat
  | 0 => 0
  | i + 1 => if decide (xs.getD i Str.empty ∈ xs.take i) = true then dst xs i else dst xs i + 1
theorem dst_le (xs : List Str) : ∀ i, dst xs i ≤ i
  | 0 => Nat.le_refl _
  | i + 1 => by
    have := dst_le xs i
    unfold dst
    split <;> omega
theorem getD_at {xs : List Str} {i : Nat} (h : i < xs.length) : xs.getD i Str.empty = xs[i] := by
  rw [List.getD_eq_getElem?_getD, List.getElem?_eq_getElem h]
  rfl
theorem dst_nd {xs : List Str} : ∀ i, i ≤ xs.length → (dst xs i = i ↔ (xs.take i).Nodup)
  | 0, _ => by simp [dst]
  | i + 1, h => by
    have ih := dst_nd (xs := xs) i (by omega)
    have le := dst_le xs i
    have e : xs.take (i + 1) = xs.take i ++ [xs[i]] := by
      rw [List.take_add_one, List.getElem?_eq_getElem (show i < xs.length by omega)]
      rfl
    unfold dst
    rw [getD_at (show i < xs.length by omega), e, List.nodup_append]
    by_cases hm : xs[i] ∈ xs.take i
    · rw [if_pos (decide_eq_true hm)]
      constructor
      · intro z
        omega
      · intro z
        exact absurd rfl (z.2.2 _ hm _ (List.mem_singleton.mpr rfl))
    · rw [if_neg (by rw [decide_eq_false hm]; exact Bool.false_ne_true)]
      constructor
      · intro z
        refine ⟨ih.mp (by omega), by simp, fun a ha b hb => ?_⟩
        rw [List.mem_singleton.mp hb]
        exact fun q => hm (q ▸ ha)
      · intro z
        have := ih.mpr z.1
        omega
theorem dst_all (xs : List Str) : decide (dst xs xs.length = xs.length) = decide xs.Nodup := by
  have h := dst_nd (xs := xs) xs.length (Nat.le_refl _)
  rw [List.take_length] at h
  exact decide_eq_decide.mpr h
/-- the members behind i turns -/
def mem (xs : List Str) (i : Nat) : Str → Bool := fun k => decide (k ∈ xs.take i)
section
variable {prog : Program} {w : World} {A : Around} {R : Result → Shared → Prop} {I : Addr} {fp wr : List Addr} {G : Array GenState → Array GenState → Prop} {n : Nat} {P : Nat → Value → Prop} {St : Nat → Shared → Prop}
theorem setOf_same {S : Addr} {f : Str → Bool} {c : Nat} {h h' : Heap} (k : ∀ o, h.get? S = some o → h'.get? S = some o) (x : h.SetOf (PySem.strKind prog w) S f c) : h'.SetOf (PySem.strKind prog w) S f c := by
  obtain ⟨o, es, ep, tb, ho, r⟩ := x
  exact ⟨o, es, ep, tb, k o ho, r⟩
/-- the loop of set.update over m turns still to come -/
theorem upd_loop (W : WalksS prog w A.in1 I fp wr G n P St) (S : Addr) (nS : S ∉ fp) (xs : List Str) (len : xs.length = n) (few : n + 1 < scanBound) (val : ∀ i v, P i v → ∃ t, v = .str (xs.getD i Str.empty) t)
    (m : Nat) : ∀ (i : Nat) (s : Shared), i + m = n → St i s → s.heap.SetOf (PySem.strKind prog w) S (mem xs i) (dst xs i) →
      (∀ s', Moved (S :: wr) G s s' → s'.heap.SetOf (PySem.strKind prog w) S (mem xs n) (dst xs n) → R (.ok (.ret .none)) s') → codeAny (model prog w) A (.builtin "set.update.loop" ⟨[.ref S, .ref I], []⟩) R s := by
  have nW : S ∉ wr := fun z => nS (W.sub S z)
  have more : ∀ b, b ∈ wr → b ∈ S :: wr := fun b z => .tail _ z
  induction m with
  | zero =>
    intro i s e st hS fin
    obtain rfl : i = n := e
    refine codeAny_builtin F.entry_set_update_loop (by
      rw [Around.under_plainId F.plain_set_update_loop]
      exact wpAny_bind (W.done s _ _ st fun s2 mv => wpAny_pure (fin s2 (mv.mono more) (setOf_same (fun o q => mv.heap S o nW q) hS))))
  | succ m ih =>
    intro i s e st hS fin
    have lt : i < n := by omega
    refine codeAny_builtin F.entry_set_update_loop (by
      rw [Around.under_plainId F.plain_set_update_loop]
      refine wpAny_bind (W.item i s _ _ lt st fun v s2 pv st2 mv => ?_)
      obtain ⟨t, rfl⟩ := val i v pv
      have hS2 := setOf_same (fun o q => mv.heap S o nW q) hS
      have le := dst_le xs i
      refine wpAny_bind (wpAny_holding (wpAny_holding (wpAny_bind ((PySem.strKind prog w).pyHash (k := xs.getD i Str.empty) (strKind_is _ _ _ _) ?_))))
      refine wpAny_setAddHashed_of (knd := PySem.strKind prog w) (s := { s2 with toks := s2.toks + 1 }) (strKind_is _ _ _ _) rfl hS2 (by omega) fun h3 sb hS3 => ?_
      have nx : h3.SetOf (PySem.strKind prog w) S (mem xs (i + 1)) (dst xs (i + 1)) := by
        have lx : i < xs.length := by omega
        refine SetOf_congr hS3 (fun k => ?_) rfl
        have tk : xs.take (i + 1) = xs.take i ++ [xs[i]] := by
          rw [List.take_add_one, List.getElem?_eq_getElem lx]
          rfl
        unfold mem
        rw [getD_at lx, tk]
        rw [Bool.eq_iff_iff]
        simp only [Bool.or_eq_true, decide_eq_true_eq, List.mem_append, List.mem_singleton]
      refine wpAny_pure ⟨plainId_quiet F.plain_set_update_loop _, ih (i + 1) _ (by omega) (W.frame _ s2 _ _ st2 (Nat.le_succ _) fun b hb o q => ?_) nx fun s4 mv4 hS4 => fin s4 (Moved.trans W.gtrans ((mv.mono more).then_heap (Nat.le_succ _) fun b o nb q => ?_) mv4) hS4⟩
      · exact (sb.2 b (fun z => nS (z ▸ hb))).trans q
      · exact (sb.2 b (fun z => nb (z ▸ List.mem_cons_self))).trans q)
end
/-! ### the call -/
theorem off2 {a j l : Nat} (h1 : a < j) (h2 : l < a) : a ∉ [j, l] := by
  simp
  omega
theorem off2' {b a j : Nat} (h1 : b < a) (h2 : a < j) : b ∉ [a, j] := by
  simp
  omega
/-- what is asked of the row at l: of kind T, walked by an iterator that is laid next -/
structure Row (prog : Program) (w : World) (T : String) (l : Addr) (n : Nat) (Pv : Nat → Value → Prop) (hp : Heap) (St : Addr → Nat → Heap → Prop) : Prop where
  at_ : ∃ dd dt sl, hp.get? l = some { cls := .type T, dict := dd, data := dt, slots := sl }
  s1 : isSubtype (.type T) (.type "set") = pure false
  s2 : isSubtype (.type T) (.type "frozenset") = pure false
  nd : (Value.type T == Value.type "dict") = false
  iter : ∀ (A : Around) (E : Value → Shared → Prop) (Q : Value → Shared → Prop) (s : Shared), (∀ o, hp.get? l = some o → s.heap.get? l = some o) →
    (∀ o : Obj, St s.heap.objs.size 0 (s.heap.push o) → Q (.ref s.heap.objs.size) { s with heap := s.heap.push o }) → wpAny (model prog w) A (pyIter (.ref l)) Q E s
  walk : ∀ (A : Around) (J : Addr), A.handled = none → l ≠ J → Walks prog w A J [J, l] [J] n Pv (St J)
section
variable {prog : Program} {w : World} {A : Around} {E : Value → Shared → Prop} {s : Shared}
abbrev bare (led : Bool) : Obj := { cls := .type "set", dict := none, data := .set #[] 0 (.fresh 0 0 led) }
theorem set_init {T : String} {l : Addr} {n : Nat} {Pv : Nat → Value → Prop} {St : Addr → Nat → Heap → Prop} {xs : List Str} {led : Bool} {hp : Heap} {g : Array GenState} {d : Drawn} {tk : Nat} {os : OsState} (hh : A.handled = none) (r : Row prog w T l n Pv hp St)
    (len : xs.length = n) (few : n + 1 < scanBound) (val : ∀ i v, Pv i v → ∃ t, v = .str (xs.getD i Str.empty) t) :
    codeAny (model prog w) A (.call (.builtin "set.__init__") ⟨[.ref hp.objs.size, .ref l], []⟩)
      (wants (fun v s2 => v = .none ∧ ∃ h2 t2, s2 = ⟨h2, g, d, t2, os⟩ ∧ h2.SetOf (PySem.strKind prog w) hp.objs.size (mem xs n) (dst xs n) ∧ ∀ b o, hp.get? b = some o → h2.get? b = some o) E) ⟨hp.push (bare led), g, d, tk, os⟩ := by
  have oS : (hp.push (bare led)).get? hp.objs.size = some (bare led) := Heap.get?_push_size _ rfl
  have tS : Shared.TypeIs ⟨hp.push (bare led), g, d, tk, os⟩ (.ref hp.objs.size) "set" := ⟨_, oS, rfl⟩
  refine codeAny_call_builtin PySem.F.called_set.init.plain PySem.F.entry_set_init (check_set_init_1 tS ?_)
  obtain ⟨dd, dt, sl, ol⟩ := r.at_
  have ol2 : (hp.push (bare led)).get? l = some { cls := .type T, dict := dd, data := dt, slots := sl } := Heap.get?_push_of_some _ ol
  have q1 := r.s1
  have q2 := r.s2
  have q3 := r.nd
  unfold Builtin.«set.__init__» noKeywords Builtin.Frozenset.updateFrom
  generalize hI : pyIter = PI
  wp_walk
  subst hI
  have lt : l < hp.objs.size := Heap.lt_size ol
  refine r.iter _ _ _ _ (fun o q => Heap.get?_push_of_some _ q) fun o st => ?_
  have z1 : (hp.push (bare led)).objs.size = hp.objs.size + 1 := Heap.size_push ..
  have z2 : ∀ b u, hp.get? b = some u → ((hp.push (bare led)).push o).get? b = some u := fun b u q => Heap.get?_push_of_some _ (Heap.get?_push_of_some _ q)
  refine wpAny_bind (wpAny_runValue ?_)
  have W := (r.walk A.in1.in1 (hp.push (bare led)).objs.size (by simp [hh]) (by rw [z1]; exact Nat.ne_of_lt (Nat.lt_succ_of_lt lt))).toS
  refine upd_loop W hp.objs.size (off2 (by rw [z1]; exact Nat.lt_succ_self _) lt) xs len few val n 0 ⟨(hp.push (bare led)).push o, g, d, tk, os⟩ (by omega) st ?_ fun s3 mv hS => ?_
  · exact SetOf_congr ((setObjOf_fresh (knd := PySem.strKind prog w) led).setOf (Heap.get?_push_of_some _ oS) (by unfold scanBound; omega)) (fun k => by simp [mem]) rfl
  · obtain ⟨h3, g3, d3, t3, os3⟩ := s3
    obtain rfl : g3 = g := mv.gens
    obtain rfl : d3 = d := mv.drawn
    obtain rfl : os3 = os := mv.os
    refine wpAny_pure (wpAny_pure ⟨rfl, h3, t3, rfl, hS, fun b u q => mv.heap b u ?_ (z2 b u q)⟩)
    have lb : b < hp.objs.size := Heap.lt_size q
    exact off2' lb (by rw [z1]; exact Nat.lt_succ_self _)
/-- set(x) of such a row -/
theorem set_call {T : String} {l : Addr} {n : Nat} {Pv : Nat → Value → Prop} {St : Addr → Nat → Heap → Prop} {xs : List Str} {Q : Value → Shared → Prop} (hh : A.handled = none) (r : Row prog w T l n Pv s.heap St)
    (len : xs.length = n) (few : n + 1 < scanBound) (val : ∀ i v, Pv i v → ∃ t, v = .str (xs.getD i Str.empty) t)
    (q : ∀ h2 t2, h2.SetOf (PySem.strKind prog w) s.heap.objs.size (mem xs n) (dst xs n) → (∀ b o, s.heap.get? b = some o → h2.get? b = some o) → Q (.ref s.heap.objs.size) { s with heap := h2, toks := t2 }) :
    wpAny (model prog w) A (call (.type "set") [.ref l]) Q E s := by
  obtain ⟨hp, g, d, tk, os⟩ := s
  obtain ⟨c, tl, m1⟩ := PySem.F.called_set.mro
  have m2 := PySem.F.called_set.made
  have m3 := PySem.F.called_set.sub
  have m4 := PySem.F.called_set.notType
  have m5 := PySem.F.called_set.canCreate
  have m6 := PySem.F.typeCall_set_1 (.ref l)
  refine wpAny_call (codeAny_of_tree (wpAny_pure ⟨Code.quiet_builtin _ (by decide +kernel), codeAny_builtin PySem.F.entry_type_call ?_⟩))
  rw [Around.under_plain (weight_type_call_type "set" [.ref l] []) rfl]
  repeat (any_goals (first | assumption | wp_step))
  refine codeAny_mono (code_set_new_1 (.ref l) (E := E) (Q₁ := fun v s2 => ∃ led : Bool, v = .ref hp.objs.size ∧ s2 = ⟨hp.push (bare led), g, d, tk, os⟩) fun led => ⟨led, rfl, rfl⟩) fun a s2 h2 => ?_
  match a, h2 with
  | .error e, h2 => exact h2
  | .ok .next, h2 => exact h2.elim
  | .ok .brk, h2 => exact h2.elim
  | .ok .cont, h2 => exact h2.elim
  | .ok (.ret v), h2 =>
    obtain ⟨led, rfl, rfl⟩ := h2
    have m7 := PySem.F.called_set.init.lookup
    have m8 := PySem.F.called_set.init.bind (.ref hp.objs.size)
    have oS : (hp.push (bare led)).get? hp.objs.size = some (bare led) := Heap.get?_push_size _ rfl
    have tS : Shared.TypeIs ⟨hp.push (bare led), g, d, tk, os⟩ (.ref hp.objs.size) "set" := ⟨_, oS, rfl⟩
    repeat (any_goals (first | assumption | wp_step))
    refine codeAny_mono (set_init (E := E) ?_ r len few val) fun b s3 h3 => ?_
    · simp [hh]
    · match b, h3 with
      | .error e, h3 => exact h3
      | .ok .next, h3 => exact h3.elim
      | .ok .brk, h3 => exact h3.elim
      | .ok .cont, h3 => exact h3.elim
      | .ok (.ret v), h3 =>
        obtain ⟨rfl, h4, t4, rfl, hS, keep⟩ := h3
        repeat (any_goals (first | assumption | wp_step))
        exact q h4 t4 hS keep
theorem row_list {prog : Program} {w : World} {hp : Heap} {l : Addr} {items : Array Value} (h : hp.IsList l items) : Row prog w "list" l items.size (fun i v => items[i]? = some v) hp (fun J i h => h.IsListIter J l i ∧ h.IsList l items) := by
  obtain ⟨o, ho, hc, k, hd⟩ := id h
  refine ⟨?_, PySem.F.sub_list_set, PySem.F.sub_list_frozenset, by decide, fun A E Q s keep q => ?_, fun A J hh ne => Walks.list hh J l ne items⟩
  · obtain ⟨c, dd, dt, sl⟩ := o
    obtain rfl : c = Value.type "list" := hc
    exact ⟨dd, dt, sl, ho⟩
  · have h2 : s.heap.IsList l items := ⟨o, keep o ho, hc, k, hd⟩
    exact wpAny_pyIter_list h2 (q _ ⟨⟨_, Heap.get?_push_size _ rfl, rfl, rfl⟩, h2.push _⟩)
theorem row_tuple {prog : Program} {w : World} {hp : Heap} {l : Addr} {items : Array Value} (h : hp.IsTuple l items) : Row prog w "tuple" l items.size (fun i v => items[i]? = some v) hp (fun J i h => h.IsTupleIter J l i ∧ h.IsTuple l items) := by
  obtain ⟨o, ho, hc, k, hd⟩ := id h
  refine ⟨?_, PySem.F.sub_tuple_set, PySem.F.sub_tuple_frozenset, by decide, fun A E Q s keep q => ?_, fun A J hh ne => Walks.tuple hh J l ne items⟩
  · obtain ⟨c, dd, dt, sl⟩ := o
    obtain rfl : c = Value.type "tuple" := hc
    exact ⟨dd, dt, sl, ho⟩
  · have h2 : s.heap.IsTuple l items := ⟨o, keep o ho, hc, k, hd⟩
    exact wpAny_pyIter_tuple h2 (q _ ⟨⟨_, Heap.get?_push_size _ rfl, rfl, rfl⟩, h2.push _⟩)
end
end Gs
namespace L2
open PySem PySem.Spec PyProof.Rows
/-- len(set(xs)), xs a list or a tuple of texts -/
def tLenSetA (K : PySem.W.Frag) (ta : TE) : TE := fun σ H Q => ta σ H fun x H1 => ∃ (l : Addr) (xs : List Str), x = .ref l ∧ (SqL K H1 l (xs.map V.str) ∨ SqT K H1 l (xs.map V.str)) ∧ xs.length ≤ 1000 ∧ Q (.int (Gs.dst xs xs.length)) H1
theorem pe_lenSetA {X : Cx} {a : Expr} {ta : TE} {p p2 q pos : Pos} (hc : X.calm = true) (hg : Gl X "len") (hm : X.mg "len" = none) (hg2 : Gl X "set") (hm2 : X.mg "set" = none) (ha : PE X a ta)
    (na : starEach [a] X.env = (false, eval a X.env) :: starEach [] X.env := by rfl) : PE X (.Call (.Name "len" p) [.Call (.Name "set" p2) [a] [] q] [] pos) (tLenSetA X.K ta) := by
  refine ⟨fun pins s σ H Q I h => ?_⟩
  refine Call_ (ld_blt I hg hm boot_len (PyProof.Rows.callWith_builtin1 (PyProof.Rows.args_cons ?_ rfl) rfl rfl))
  refine Call_ (ld_blt I hg2 hm2 boot_set (PyProof.Rows.callWith_type1 (PyProof.Rows.args_cons (thn (ha.run pins s σ H _ I h) fun v s1 hv => PyProof.Rows.args_nil ?_) na) na rfl))
  obtain ⟨x, H1, I1, r1, l, xs, rfl, hq, h1, q1⟩ := hv
  cases r1
  have sb : (1001 : Nat) < scanBound := by unfold scanBound; decide
  have back : ∀ (h2 : Heap) (t2 : Nat), h2.SetOf (PySem.strKind X.prog X.w) s1.heap.objs.size (Gs.mem xs xs.length) (Gs.dst xs xs.length) → (∀ b o, s1.heap.get? b = some o → h2.get? b = some o) →
      wpAny (model X.prog X.w) X.A (spliced (backTo pos (starEach [] X.env))) (fun vs s2 => wpAny (model X.prog X.w) X.A (call (.builtin "len") (Value.ref s1.heap.objs.size :: vs)) (EP X pins σ Q) X.xe s2) X.xe { s1 with heap := h2, toks := t2 } := fun h2 t2 hS keep => by
    refine PyProof.Rows.args_nil ?_
    have le := Gs.dst_le xs xs.length
    obtain ⟨o, es, ep, t, ho, hex, hd, _, _, _, hf, hn⟩ := hS
    have I2 : Inv X pins σ H1 { s1 with heap := h2, toks := t2 } := I1.kept keep
    refine call_len_set ho hex hd hf (by rw [hn]; omega) ⟨.int (Gs.dst xs xs.length), H1, I2.tok _, ⟨_, by rw [hn]⟩, q1⟩
  have at_ : ∀ {its : List Value}, Vals (xs.map V.str) its → ∀ (i : Nat) (v : Value), its.toArray[i]? = some v → ∃ t, v = .str (xs.getD i Str.empty) t := fun {its} r i v hv => by
    have hv2 : its[i]? = some v := by simpa using hv
    have lx : i < xs.length := by
      obtain ⟨h3, _⟩ := List.getElem?_eq_some_iff.mp hv2
      have := r.length
      rw [List.length_map] at this
      omega
    obtain ⟨u, hu, ru⟩ := r.get (i := i) (x := .str xs[i]) (by rw [List.getElem?_map, List.getElem?_eq_getElem lx]; rfl)
    rw [hv2] at hu
    obtain rfl := Option.some.inj hu
    rw [Gs.getD_at lx]
    exact ru
  rcases hq with hq | hq
  · obtain ⟨its, r, pl, hz⟩ := I1.list hq
    have hl : xs.length = its.toArray.size := by rw [List.size_toArray, ← r.length, List.length_map]
    refine Gs.set_call (I1.ok.hd hc) (Gs.row_list pl.isList) hl (by omega) (at_ r) fun h2 t2 hS keep => back h2 t2 (by rw [hl]; exact hS) keep
  · obtain ⟨its, r, pl, hz⟩ := I1.tuple hq
    have hl : xs.length = its.toArray.size := by rw [List.size_toArray, ← r.length, List.length_map]
    refine Gs.set_call (I1.ok.hd hc) (Gs.row_tuple pl) hl (by omega) (at_ r) fun h2 t2 hS keep => back h2 t2 (by rw [hl]; exact hS) keep
end L2

set_option Elab.async false
set_option linter.all false
set_option maxRecDepth 100000
set_option maxHeartbeats 4000000
namespace L2
open PySem PySem.Spec PyProof.Rows
section
variable {X : Cx}
/-- {x!r} of None, a text, an int -/
def tFmtA (te : TE) : TE := fun σ H Q => te σ H fun x H1 => (x = .non ∧ Q (.str "None") H1) ∨ (∃ y : Str, x = .str y ∧ (reprText y).length ≤ sizeLine ∧ Q (.str (reprText y)) H1) ∨ ∃ i : Int, x = .int i ∧ i.natAbs.log2 < 1920 ∧ Q (.str (toString i)) H1
theorem pe_fmtA {e : Expr} {te : TE} {pos : Pos} (he : PE X e te) : PE X (.FormattedValue e 114 none pos) (tFmtA te) := by
  refine ⟨fun pins s σ H Q I h => wpAny_FormattedValue_repr (thn (he.run pins s σ H _ I h) fun v s1 hv => ?_)⟩
  obtain ⟨x, H1, I1, r1, q⟩ := hv
  have sn : (Str.ofString "None").length ≤ sizeLine := by decide +kernel
  rcases q with ⟨rfl, q⟩ | ⟨y, rfl, hz, q⟩ | ⟨i, rfl, hz, q⟩
  · cases r1
    exact pyReprObj_none (wpAny_formatField_str ⟨.str "None", H1, I1.tok _, ⟨_, rfl⟩, q⟩ ⟨.str "None", H1, I1.tok _, ⟨_, rfl⟩, q⟩ sn)
  · obtain ⟨t, rfl⟩ := r1
    exact pyReprObj_str (wpAny_formatField_str ⟨.str (reprText y), H1, I1.tok _, ⟨_, rfl⟩, q⟩ ⟨.str (reprText y), H1, I1.tok _, ⟨_, rfl⟩, q⟩ hz) hz
  · obtain ⟨t, rfl⟩ := r1
    exact pyReprObj_int hz (wpAny_formatField_str ⟨.str (toString i), H1, I1.tok _, ⟨_, rfl⟩, q⟩ ⟨.str (toString i), H1, I1.tok _, ⟨_, rfl⟩, q⟩ (int_text_fits hz))
end
/-- an exception class of the text whose __init__ is ValueError's, read off by its name -/
structure CIn (K : PySem.W.Frag) (mg : Str → Option Value) (n : Str) (CB : Addr) : Prop where
  g : mg n = some (.ref CB)
  ga : PySem.W.specialIn K (.ref CB) "__getattribute__" = some (some (.builtin "type.__getattribute__"))
  rd : PySem.W.readsIn K CB (.type "type") = true
  fi : PySem.W.findCls K (.ref CB) (.type "type") "__init__" = some (.val (.builtin "ValueError.__init__"))
section
variable {X : Cx} {e : Expr} {es : List Expr} {ta : TA} {p1 p2 pos : Pos} {n : Str} {CB : Addr}
theorem pe_cinit {pl : Sem Bool} (T : CIn X.K X.mg n CB) (hg : Gl X n) (ha : PA X (e :: es) ta)
    (hc : eval (.Call (.Attribute (.Name n p1) "__init__" p2) (e :: es) [] pos) X.env = (do
      let ov ← eval (.Name n p1) X.env
      standAt p2.atName
      let (f, first) ← holding [ov] (getMethod ov "__init__" pl)
      callWith pos f first (backTo pos (starEach (e :: es) X.env)) (backToKw pos (keywordEach [] X.env))) := by rfl)
    (hdb : (n == ("__debug__" : Str)) = false := by decide) (he : starEach (e :: es) X.env = (false, eval e X.env) :: starEach es X.env := by rfl) (hpl : (backTo pos (starEach es X.env)).any (·.1) = false := by rfl) :
    PE X (.Call (.Attribute (.Name n p1) "__init__" p2) (e :: es) [] pos) (tVeI X.K ta) := by
  refine ⟨fun pins s σ H Q I h => ?_⟩
  refine PySem.W.methodCall_KW (ld_glob I hg T.g ?_ hdb) hc
  refine PySem.W.method_cls I.kIn T.ga (PySem.W.cls_value I.kIn T.rd T.fi (by decide +kernel) ?_)
  show wpAny _ _ (callWith pos (Value.builtin "ValueError.__init__") [] (backTo pos (starEach (e :: es) X.env)) []) _ _ _
  refine PyProof.Rows.callWith_method1 (thn (ha.run pos pins _ σ H _ (I.tok _) h) fun us s1 hu => ?_) he hpl
  obtain ⟨vs, H1, I1, r1, a, C, ws, rfl, hl, oc, ea, q⟩ := hu
  match us, r1 with
  | _ :: ur, .cons ra rw' =>
    obtain rfl := ra
    exact oinit_ok oc I1 ea (by rw [← Paired.length rw', sizeLine_eq]; omega) fun s2 J => ⟨.non, H1, J, rfl, q⟩
end
/-- an exception class over ClockError with an own __init__ that keeps one field -/
structure IniT (K : PySem.W.Frag) (mg : Str → Option Value) (n fld : Str) (st : Stmt) (C fI : Addr) (fd : FuncData) : Prop where
  g : mg n = some (.ref C)
  o : OexC K C
  i : PySem.W.findIn K (.ref C) "__init__" = some (some (.ref fI))
  ti : PySem.W.typeIn K (.ref fI) = some (.type "function")
  te : PySem.W.exmOne K (.ref C) (.ref C) = some true
  no : PySem.W.findIn K (.ref C) fld = some none
  F : Fun K "__init__" (n ++ ".__init__") st fI fd
  bi : Binds K fd ["self", fld] []
/-- an exception class over ClockError without more -/
structure OwnT (K : PySem.W.Frag) (mg : Str → Option Value) (n : Str) (C : Addr) : Prop where
  g : mg n = some (.ref C)
  x : PySem.W.excIn K C [.type "ValueError", .type "Exception", .type "BaseException", .type "object"] "ValueError.__new__" = true
  k : PySem.W.keepIn K (.ref C) = true
  b : PySem.W.subIn K (.ref C) (.type "BaseException") = some true
  t : PySem.W.typeIn K (.ref C) = some (.type "type")
  te : PySem.W.exmOne K (.ref C) (.ref C) = some true
def spIni (C : Addr) (fld : Str) : Sp := fun vs H Q _ => ∃ (a : Addr) (v : V), vs = [.ref a, v] ∧ H a = some (exo a C none) ∧ (v = .non ∨ ∃ i : Int, v = .int i ∧ 0 ≤ i ∧ i < 10 ^ 9) ∧
  ∀ dx, H dx = none → dx ≠ a → Q .non (upd (upd H dx (exd dx [(fld, v)])) a (exo a C (some dx)))
/-- what the making of such an exception asks, from what is wished of it -/
theorem ini_mk {C : Addr} {fld : Str} {v : V} {σ : St} {H : Hp} {Q : XK} {ta : TE} (hv : v = .non ∨ ∃ i : Int, v = .int i ∧ 0 ≤ i ∧ i < 10 ^ 9) (ht : ∀ q : VK, q v H → ta σ H q)
    (q : ∀ d H', H d = none → Same H H' → H' d = some (.xd [(fld, v)]) → Q (.ref C) (some d) H') : tMkO C (spIni C fld) [] (tCons ta tNil) σ H Q := by
  refine ht _ ⟨by show 1 ≤ 1000; decide, fun a ha => ⟨a, v, rfl, upd_same, hv, fun dx hd ne => ⟨rfl, dx, [(fld, v)], upd_same, ?_, ?_, ?_⟩⟩⟩
  · rw [upd_ne ne, upd_same]
  · rw [upd_ne ne] at hd
    exact hd
  · have hd' : H dx = none := by
      rw [upd_ne ne] at hd
      exact hd
    refine q dx _ hd' (fun b o e => ?_) upd_same
    have nb : b ≠ dx := ne_of_none e hd'
    have na : b ≠ a := ne_of_none e ha
    rw [upd_ne nb, del_ne na, upd_ne na, upd_ne nb, upd_ne na]
    exact e

/-! ### what is a name, what are names -/
theorem TyOf.same {K : PySem.W.Frag} {H H' : Hp} {x : V} {t : Value} (s : Same H H') (h : TyOf K H x t) : TyOf K H' x t := by
  cases h with
  | non => exact .non
  | bl b => exact .bl b
  | int i => exact .int i
  | str z => exact .str z
  | flt z => exact .flt z
  | lst e => exact .lst (s _ _ e)
  | frz e => exact .frz (s _ _ e)
  | tup e => exact .tup (s _ _ e)
  | dK e => exact .dK (s _ _ e)
  | dT e => exact .dT (s _ _ e)
  | ins e cl ha hn htk hm => exact .ins (s _ _ e) cl ha hn htk hm
theorem TyX.same {K : PySem.W.Frag} {H H' : Hp} {x : V} {t : Value} (s : Same H H') (h : TyX K H x t) : TyX K H' x t := by
  cases h with
  | base b => exact .base (b.same s)
  | byt b => exact .byt b
  | set e => exact .set (s _ _ e)
  | kList e c => exact .kList e c
  | kTuple e c => exact .kTuple e c
  | kDict e c => exact .kDict e c
  | fTuple e => exact .fTuple (s _ _ e)
  | fDict e => exact .fDict (s _ _ e)
/-- x is a name or is none, as b says -/
def NmV (K : PySem.W.Frag) (H : Hp) (x : V) (b : Bool) : Prop :=
  (∃ z : Str, x = .str z ∧ z.length ≤ 100000 ∧ b = isW z) ∨ (b = false ∧ ∃ t, TyX K H x t ∧ PySem.W.kitOne K t (.type "str") = some false)
theorem NmV.same {K : PySem.W.Frag} {H H' : Hp} {x : V} {b : Bool} (s : Same H H') (h : NmV K H x b) : NmV K H' x b := by
  rcases h with h | ⟨e, t, ht, hk⟩
  · exact .inl h
  · exact .inr ⟨e, t, ht.same s, hk⟩
theorem NmV.yes {K : PySem.W.Frag} {H : Hp} {x : V} (h : NmV K H x true) : ∃ z : Str, x = .str z ∧ isW z = true := by
  rcases h with ⟨z, e, _, hw⟩ | ⟨e, _⟩
  · exact ⟨z, e, hw.symm⟩
  · cases e
theorem NmV.of {K : PySem.W.Frag} {H : Hp} {z : Str} (h : z.length ≤ 100000) : NmV K H (.str z) (isW z) := .inl ⟨z, rfl, h, rfl⟩
def spIsName (K : PySem.W.Frag) : Sp := fun vs H Q _ => ∃ (x : V) (b : Bool), vs = [x] ∧ NmV K H x b ∧ ∀ H', Same H H' → Q (.bl b) H'
/-- x is a row of names or is none, as b says -/
def NmsV (K : PySem.W.Frag) (H : Hp) (x : V) (b : Bool) : Prop :=
  (∃ (a : Addr) (xs : List V) (bs : List Bool), x = .ref a ∧ SqT K H a xs ∧ TyX K H x (.type "tuple") ∧ Paired (NmV K H) xs bs ∧ b = (decide (xs.length ≤ 16) && (bs.all id && decide xs.Nodup))) ∨
    (b = false ∧ ∃ t, TyX K H x t ∧ PySem.W.kitOne K t (.type "tuple") = some false)
def spIsNames (K : PySem.W.Frag) : Sp := fun vs H Q _ => ∃ (x : V) (b : Bool), vs = [x] ∧ NmsV K H x b ∧ ∀ H', Same H H' → Q (.bl b) H'
theorem nms_strs {K : PySem.W.Frag} {H : Hp} : ∀ {xs : List V} {bs : List Bool}, Paired (NmV K H) xs bs → bs.all id = true → ∃ ss : List Str, xs = ss.map V.str ∧ ∀ s ∈ ss, isW s = true
  | _, _, .nil, _ => ⟨[], rfl, by simp⟩
  | _, _, .cons (b := b) h t, e => by
    rw [List.all_cons, Bool.and_eq_true] at e
    obtain ⟨e1, e2⟩ := e
    have e1 : b = true := e1
    subst e1
    obtain ⟨z, rfl, hz⟩ := h.yes
    obtain ⟨ss, rfl, hs⟩ := nms_strs t e2
    refine ⟨z :: ss, rfl, fun s hm => ?_⟩
    rcases List.mem_cons.mp hm with rfl | hm
    · exact hz
    · exact hs s hm
theorem nd_strs (ss : List Str) : (ss.map V.str).Nodup ↔ ss.Nodup := by
  rw [List.nodup_iff_pairwise_ne, List.nodup_iff_pairwise_ne, List.pairwise_map]
  constructor
  · intro h
    exact h.imp fun {a b} n e => n (congrArg V.str e)
  · intro h
    exact h.imp fun {a b} n e => n (V.str.inj e)
/-- rows of texts -/
def okNames (ss : List Str) : Bool := decide (ss.length ≤ 16) && ((ss.map isW).all id && decide ss.Nodup)
theorem pair_strs {K : PySem.W.Frag} {H : Hp} : ∀ {ss : List Str}, (∀ s ∈ ss, s.length ≤ 100000) → Paired (NmV K H) (ss.map V.str) (ss.map isW)
  | [], _ => .nil
  | s :: r, h => .cons (.of (h s (List.mem_cons_self ..))) (pair_strs fun x hx => h x (List.mem_cons_of_mem _ hx))
theorem NmsV.strs {K : PySem.W.Frag} {H : Hp} {a : Addr} {ss : List Str} (h : H a = some (.tup (ss.map V.str))) (hl : ∀ s ∈ ss, s.length ≤ 100000) : NmsV K H (.ref a) (okNames ss) := by
  refine .inl ⟨a, _, ss.map isW, rfl, .inl (.inl h), .base (.tup h), pair_strs hl, ?_⟩
  unfold okNames
  rw [List.length_map, decide_eq_decide.mpr (nd_strs ss)]
theorem okNames_mk {ss : List Str} (h1 : ss.length ≤ 16) (h2 : ∀ s ∈ ss, isW s = true) (h3 : ss.Nodup) : okNames ss = true := by
  unfold okNames
  simp only [Bool.and_eq_true, decide_eq_true_eq, List.all_map, List.all_eq_true]
  exact ⟨h1, h2, h3⟩
theorem okNames_of {ss : List Str} (h : okNames ss = true) : ss.length ≤ 16 ∧ (∀ s ∈ ss, isW s = true) ∧ ss.Nodup := by
  unfold okNames at h
  simp only [Bool.and_eq_true, decide_eq_true_eq, List.all_map, List.all_eq_true] at h
  exact h
theorem lt_abc {a c : Nat} : decide (([a] : List Nat) < [c]) = decide (a < c) := by
  by_cases h : a < c
  · rw [decide_eq_true h]
    exact decide_eq_true (List.Lex.rel h)
  · rw [decide_eq_false h]
    refine decide_eq_false fun z => ?_
    cases z with
    | rel q => exact h q
    | cons q => cases q
theorem sum_names : ∀ (ss : List Str), ss.length ≤ 16 → (∀ s ∈ ss, isW s = true) → (ss.map (·.length)).sum + ss.length * (Str.ofString " ").length ≤ 16777216 := by
  have key : ∀ ss : List Str, (∀ s ∈ ss, isW s = true) → (ss.map (·.length)).sum ≤ ss.length * 8 := by
    intro ss
    induction ss with
    | nil => intro _; exact Nat.le_refl _
    | cons s r ih =>
      intro h
      have h1 := (isW_len (h s (List.mem_cons_self ..))).2
      have h2 := ih fun x hx => h x (List.mem_cons_of_mem _ hx)
      rw [List.map_cons, List.sum_cons, List.length_cons]
      omega
  intro ss hl hw
  have e : (Str.ofString " ").length = 1 := by decide +kernel
  have := key ss hw
  rw [e]
  omega
theorem spl_part_len (S : List Nat) : ∀ (l : List Nat) (k : Nat) (acc p : List Nat), p ∈ TL.spl S k acc l → p.length ≤ acc.length + l.length
  | [], k, acc, p, h => by
    rw [TL.spl_nil] at h
    rw [List.mem_singleton.mp h]
    exact Nat.le_add_right _ _
  | c :: r, k + 1, acc, p, h => by
    have h2 : p ∈ TL.spl S k acc r := h
    have := spl_part_len S r k acc p h2
    rw [List.length_cons]
    omega
  | c :: r, 0, acc, p, h => by
    rw [List.length_cons]
    cases hp : TL.pre S (c :: r) with
    | true =>
      rw [TL.spl_hit hp] at h
      rcases List.mem_cons.mp h with rfl | h
      · omega
      · have := spl_part_len S r _ [] p h
        rw [List.length_nil] at this
        omega
    | false =>
      rw [TL.spl_miss hp] at h
      have := spl_part_len S r 0 (acc ++ [c]) p h
      rw [List.length_append] at this
      have e : [c].length = 1 := rfl
      omega
/-- two ways that meet -/
theorem meetR {c : Prop} [Decidable c] {A B : VK → Prop} {Q : VK} (P : V → Hp → Prop) (h1 : c → ∀ Q : VK, (∀ v H, P v H → Q v H) → A Q) (h2 : ¬ c → ∀ Q : VK, (∀ v H, P v H → Q v H) → B Q) (q : ∀ v H, P v H → Q v H) : if c then A Q else B Q := by
  by_cases h : c
  · rw [if_pos h]
    exact h1 h Q q
  · rw [if_neg h]
    exact h2 h Q q
end L2

set_option Elab.async false
set_option linter.all false
set_option maxRecDepth 100000
set_option maxHeartbeats 4000000
namespace L2
open PySem PySem.Spec PyProof.Rows
/-! ### texts of names -/
abbrev dash : Str := "-"
abbrev jn (ss : List Str) : Str := Txt.join " " ss
def wr (ss : List Str) : Str := if ss = [] then "-" else jn ss
def rd (z : Str) : List Str := if z = "-" then [] else Txt.split z " "
theorem tl_sp : TL.tl " " = [32] := by decide +kernel
theorem tl_dash : TL.tl "-" = [45] := by decide +kernel
def NoSp (ss : List Str) : Prop := ∀ s ∈ ss, 32 ∉ TL.tl s
theorem NoSp.of {ss : List Str} (h : ∀ s ∈ ss, isW s = true) : NoSp ss := fun s hs hm => by
  have := isW_let (h s hs) 32 hm
  omega
theorem NoSp.app {ss ts : List Str} (a : NoSp ss) (b : NoSp ts) : NoSp (ss ++ ts) := fun s hs => (List.mem_append.mp hs).elim (a s) (b s)
theorem split_jn {ss : List Str} (h : ss ≠ []) (n : NoSp ss) : Txt.split (jn ss) " " = ss := TL.split_join tl_sp (by decide +kernel) h n
theorem rd_jn {ss : List Str} (h : ss ≠ []) (n : NoSp ss) : rd (jn ss) = if ss = [dash] then [] else ss := by
  by_cases e : ss = [dash]
  · subst e
    rw [if_pos rfl]
    unfold rd
    exact if_pos rfl
  · rw [if_neg e]
    unfold rd
    rw [if_neg, split_jn h n]
    intro z
    have h1 := split_jn h n
    rw [z] at h1
    have h2 : Txt.split "-" " " = [dash] := split_jn (ss := [dash]) (by simp) (by
      intro s hs
      rw [List.mem_singleton.mp hs, tl_dash]
      decide)
    exact e (h1.symm.trans h2)
theorem isW_dash : isW "-" = false := by decide +kernel
theorem ne_dash {ss : List Str} (h : ∀ s ∈ ss, isW s = true) : ss ≠ [dash] := fun e => by
  have := h dash (by rw [e]; exact List.mem_singleton.mpr rfl)
  rw [isW_dash] at this
  cases this
theorem rd_wr {ss : List Str} (h : ∀ s ∈ ss, isW s = true) : rd (wr ss) = ss := by
  unfold wr
  by_cases e : ss = []
  · subst e
    rw [if_pos rfl]
    exact if_pos rfl
  · rw [if_neg e, rd_jn e (.of h), if_neg (ne_dash h)]
theorem joinL_app (S : List Nat) : ∀ xs ys : List (List Nat), xs ≠ [] → ys ≠ [] → TL.joinL S (xs ++ ys) = TL.joinL S xs ++ (S ++ TL.joinL S ys)
  | [], _, h, _ => absurd rfl h
  | [x], [], _, h => absurd rfl h
  | [x], y :: r, _, _ => rfl
  | x :: z :: r, ys, _, h => by
    have ih := joinL_app S (z :: r) ys (by simp) h
    show x ++ (S ++ TL.joinL S ((z :: r) ++ ys)) = (x ++ (S ++ TL.joinL S (z :: r))) ++ (S ++ TL.joinL S ys)
    rw [ih]
    simp [List.append_assoc]
theorem jn_app {xs ys : List Str} (hx : xs ≠ []) (hy : ys ≠ []) : jn (xs ++ ys) = jn xs ++ " " ++ jn ys := by
  refine TL.ext_tl ?_
  rw [TL.tl_append, TL.tl_append]
  unfold jn
  rw [TL.join_eq, TL.join_eq, TL.join_eq, TL.tl_join, TL.tl_join, TL.tl_join, List.map_append, joinL_app _ _ _ (by simpa using hx) (by simpa using hy), List.append_assoc]
theorem wr_jn {ss : List Str} (h : ss ≠ []) : wr ss = jn ss := if_neg h
theorem jn_len : ∀ (ss : List Str), (∀ s ∈ ss, s.length ≤ 8) → (jn ss).length ≤ ss.length * 9
  | [], _ => Nat.zero_le _
  | [s], h => by
    have := h s (List.mem_cons_self ..)
    have e : jn [s] = s := TL.ext_tl (by
      unfold jn
      rw [TL.join_eq, TL.tl_join]
      rfl)
    rw [e]
    show s.length ≤ 1 * 9
    omega
  | s :: t :: r, h => by
    have h1 := h s (List.mem_cons_self ..)
    have ih := jn_len (t :: r) fun x hx => h x (List.mem_cons_of_mem _ hx)
    have e := jn_app (xs := [s]) (ys := t :: r) (by simp) (by simp)
    have e1 : jn [s] = s := TL.ext_tl (by
      unfold jn
      rw [TL.join_eq, TL.tl_join]
      rfl)
    have e2 : s :: t :: r = [s] ++ (t :: r) := rfl
    have e3 : (Str.ofString " ").length = 1 := by decide +kernel
    rw [e2, e, e1, Str.length_append, Str.length_append, e3]
    rw [List.length_append]
    have e4 : [s].length = 1 := rfl
    omega
theorem wr_len {ss : List Str} (h : ∀ s ∈ ss, isW s = true) (l : ss.length ≤ 16) : (wr ss).length ≤ 200 := by
  unfold wr
  split
  · decide +kernel
  · have := jn_len ss fun s hs => (isW_len (h s hs)).2
    omega
theorem okNames_perm {ss ts : List Str} (p : ss.Perm ts) (h : okNames ss = true) : okNames ts = true := by
  obtain ⟨h1, h2, h3⟩ := okNames_of h
  exact okNames_mk (by rw [← p.length_eq]; exact h1) (fun s hs => h2 s (p.mem_iff.mpr hs)) (p.nodup_iff.mp h3)
/-- two rows behind one another -/
theorem okNames_app {xs ys : List Str} (hx : okNames xs = true) (hy : okNames ys = true) : okNames (xs ++ ys) = (decide (xs.filter (fun s => decide (s ∈ ys)) = []) && decide ((xs ++ ys).length < 17)) := by
  obtain ⟨a1, a2, a3⟩ := okNames_of hx
  obtain ⟨b1, b2, b3⟩ := okNames_of hy
  have hd : xs.filter (fun s => decide (s ∈ ys)) = [] ↔ (xs ++ ys).Nodup := by
    rw [List.nodup_append]
    constructor
    · intro h
      refine ⟨a3, b3, fun a ha b hb e => ?_⟩
      have := List.filter_eq_nil_iff.mp h a ha
      exact this (decide_eq_true (e ▸ hb))
    · intro h
      refine List.filter_eq_nil_iff.mpr fun a ha e => ?_
      exact h.2.2 a ha a (of_decide_eq_true e) rfl
  rw [Bool.eq_iff_iff]
  constructor
  · intro h
    obtain ⟨h1, _, h3⟩ := okNames_of h
    rw [Bool.and_eq_true]
    exact ⟨decide_eq_true (hd.mpr h3), decide_eq_true (by omega)⟩
  · intro h
    rw [Bool.and_eq_true] at h
    have h1 := of_decide_eq_true h.1
    have h2 := of_decide_eq_true h.2
    refine okNames_mk (by omega) (fun s hs => (List.mem_append.mp hs).elim (a2 s) (b2 s)) (hd.mp h1)
theorem okNames_dash1 {ss : List Str} : okNames (dash :: ss) = false := by
  cases e : okNames (dash :: ss) with
  | false => rfl
  | true =>
    have := (okNames_of e).2.1 dash (List.mem_cons_self ..)
    rw [isW_dash] at this
    cases this
theorem okNames_dash2 {ss : List Str} : okNames (ss ++ [dash]) = false := by
  cases e : okNames (ss ++ [dash]) with
  | false => rfl
  | true =>
    have := (okNames_of e).2.1 dash (List.mem_append_right _ (List.mem_singleton.mpr rfl))
    rw [isW_dash] at this
    cases this
theorem NmsV.strsB {K : PySem.W.Frag} {H : Hp} {a : Addr} {ss : List Str} (h : SqT K H a (ss.map V.str)) (t : TyX K H (.ref a) (.type "tuple")) (hl : ∀ s ∈ ss, s.length ≤ 100000) : NmsV K H (.ref a) (okNames ss) := by
  refine .inl ⟨a, _, ss.map isW, rfl, h, t, pair_strs hl, ?_⟩
  unfold okNames
  rw [List.length_map, decide_eq_decide.mpr (nd_strs ss)]
theorem NmsV.strsT {K : PySem.W.Frag} {H : Hp} {a : Addr} {ss : List Str} (h : SqT K H a (ss.map V.str)) (t : TyX K H (.ref a) (.type "tuple")) (ok : okNames ss = true) : NmsV K H (.ref a) true := by
  have z := NmsV.strsB h t fun s hs => Nat.le_trans (isW_len ((okNames_of ok).2.1 s hs)).2 (by decide)
  rw [ok] at z
  exact z
theorem cut_from {α : Type} (f : α → V) (ws : List α) (j : Nat) : cutV (ws.map f) (some (j : Int)) none = (ws.drop j).map f := by
  unfold cutV
  rw [HT.sIx_nat, HT.sIx_none, List.length_map, ← List.map_drop, ← List.map_take]
  congr 1
  by_cases h : j ≤ ws.length
  · rw [Nat.min_eq_left h]
    exact List.take_of_length_le (by rw [List.length_drop]; exact Nat.le_refl _)
  · rw [Nat.min_eq_right (by omega), Nat.sub_self, List.take_zero, List.drop_of_length_le (by omega)]
theorem cut_to {α : Type} (f : α → V) (ws : List α) (j : Nat) : cutV (ws.map f) none (some (j : Int)) = (ws.take j).map f := by
  unfold cutV
  rw [HT.sIx_nat, HT.sIx_none, List.length_map, List.drop_zero, Nat.sub_zero, ← List.map_take]
  congr 1
  by_cases h : j ≤ ws.length
  · rw [Nat.min_eq_left h]
  · rw [Nat.min_eq_right (by omega), List.take_of_length_le (Nat.le_refl _), List.take_of_length_le (by omega)]
theorem rot_ok {ws : List Str} (j : Nat) (h : okNames ws = true) : okNames (ws.drop j ++ ws.take j) = true := okNames_perm (ss := ws) (by
  have p : (ws.take j ++ ws.drop j).Perm (ws.drop j ++ ws.take j) := List.perm_append_comm
  rw [List.take_append_drop] at p
  exact p) h
theorem take_ok {ws : List Str} (j : Nat) (h : okNames ws = true) : okNames (ws.take j) = true := by
  obtain ⟨h1, h2, h3⟩ := okNames_of h
  refine okNames_mk (by rw [List.length_take]; omega) (fun s hs => h2 s (List.mem_of_mem_take hs)) (h3.sublist (List.take_sublist j ws))
theorem drop_ok {ws : List Str} (j : Nat) (h : okNames ws = true) : okNames (ws.drop j) = true := by
  obtain ⟨h1, h2, h3⟩ := okNames_of h
  refine okNames_mk (by rw [List.length_drop]; omega) (fun s hs => h2 s (List.mem_of_mem_drop hs)) (h3.sublist (List.drop_sublist j ws))
/-- a statement whose ways meet -/
theorem seq_meet {t u : TS} {D : Ends} {σ : St} {H : Hp} (P : St → Hp → Prop) (h : ∀ N : St → Hp → Prop, (∀ σ' H', P σ' H' → N σ' H') → t { D with nx := N } σ H) (q : ∀ σ' H', P σ' H' → u D σ' H') : tSeq t u D σ H := h (u D) q
theorem slA_to {K : PySem.W.Frag} {H : Hp} {a : Addr} {ss : List Str} {j : Nat} {Q : VK} (h : H a = some (.tup (ss.map V.str))) (q : ∀ p H', Same H H' → H' p = some (.tup ((ss.take j).map V.str)) → Q (.ref p) H') : rSlA K (.ref a) none (some (j : Int)) H Q := by
  refine ⟨a, _, rfl, SqT.of h, fun hw => ?_, fun _ p hp => ?_⟩
  · have h2 := hw.2
    rw [HT.sIx_nat, List.length_map] at h2
    refine q a H (Same.refl H) ?_
    rw [List.take_of_length_le (by omega)]
    exact h
  · rw [cut_to]
    exact q p _ (gSame_new hp) upd_same
theorem slA_from {K : PySem.W.Frag} {H : Hp} {a : Addr} {ss : List Str} {j : Nat} {Q : VK} (h : H a = some (.tup (ss.map V.str))) (q : ∀ p H', Same H H' → H' p = some (.tup ((ss.drop j).map V.str)) → Q (.ref p) H') : rSlA K (.ref a) (some (j : Int)) none H Q := by
  refine ⟨a, _, rfl, SqT.of h, fun hw => ?_, fun _ p hp => ?_⟩
  · have h1 := hw.1
    rw [HT.sIx_nat, List.length_map] at h1
    refine q a H (Same.refl H) ?_
    have e : ss.drop j = ss := by
      cases j with
      | zero => rfl
      | succ j =>
        have : ss.length = 0 := by omega
        rw [List.length_eq_zero_iff.mp this]
        rfl
    rw [e]
    exact h
  · rw [cut_from]
    exact q p _ (gSame_new hp) upd_same
theorem catA_strs {K : PySem.W.Frag} {H : Hp} {a b : Addr} {xs ys : List Str} {Q : VK} (ha : H a = some (.tup (xs.map V.str))) (hb : H b = some (.tup (ys.map V.str))) (hl : xs.length + ys.length ≤ 1000) (q : ∀ p H', Same H H' → H' p = some (.tup ((xs ++ ys).map V.str)) → Q (.ref p) H') : rCatA K (.ref a) (.ref b) H Q := by
  refine ⟨a, b, _, _, rfl, rfl, SqT.of ha, SqT.of hb, by rw [List.length_map, List.length_map, sizeLine_eq]; omega, fun e => ?_, fun _ e => ?_, fun _ _ p hp => ?_⟩
  · refine q b H (Same.refl H) ?_
    rw [List.map_append, e]
    exact hb
  · refine q a H (Same.refl H) ?_
    rw [List.map_append, e, List.append_nil]
    exact ha
  · refine q p _ (gSame_new hp) ?_
    rw [upd_same, List.map_append]
end L2

set_option Elab.async false
set_option linter.all false
set_option maxRecDepth 100000
set_option maxHeartbeats 4000000
namespace L2
open PySem PySem.Spec PyProof.Rows
/-! ### what the text's top has written -/
/-- an error of the class at S is what «except S» names -/
theorem exm_self {K : PySem.W.Frag} {S : Addr} (h1 : PySem.W.subIn K (.ref S) (.type "BaseException") = some true) (h2 : PySem.W.isClsIn K S = true) (h3 : PySem.W.typeIn K (.ref S) = some (.type "type")) (h4 : PySem.W.subIn K (.ref S) (.ref S) = some true) :
    PySem.W.exmOne K (.ref S) (.ref S) = some true := by
  have e1 : (PySem.W.subIn K (.ref S) (.type "BaseException") == some true) = true := by rw [h1] <;> rfl
  have e2 : ((PySem.W.clsIn K S).isSome && PySem.W.typeIn K (.ref S) == some (.type "type")) = true := by
    have h2' : (PySem.W.clsIn K S).isSome = true := h2
    rw [h2', h3] <;> rfl
  show (if (PySem.W.subIn K (.ref S) (.type "BaseException") == some true) = true then (if ((PySem.W.clsIn K S).isSome && PySem.W.typeIn K (.ref S) == some (.type "type")) = true then PySem.W.subIn K (.ref S) (.ref S) else none) else none) = some true
  rw [if_pos e1, if_pos e2]
  exact h4
section
variable {K : PySem.W.Frag} {h : Heap} {mg : Str → Option Value} (X : K.In h) (G : h.Ns mainGlobals mg)
include X G
theorem blt_mk (z1 : PySem.W.nsIn K mainGlobals "len" = some none) (z2 : PySem.W.nsIn K mainGlobals "int" = some none) (z3 : PySem.W.nsIn K mainGlobals "abs" = some none) (z4 : PySem.W.nsIn K mainGlobals "max" = some none)
    (z5 : PySem.W.nsIn K mainGlobals "min" = some none) (z6 : PySem.W.nsIn K mainGlobals "range" = some none) (z7 : PySem.W.nsIn K mainGlobals "all" = some none) (z8 : PySem.W.nsIn K mainGlobals "isinstance" = some none)
    (z9 : PySem.W.nsIn K mainGlobals "str" = some none) (z10 : PySem.W.nsIn K mainGlobals "tuple" = some none) (z11 : PySem.W.nsIn K mainGlobals "list" = some none) (z12 : PySem.W.nsIn K mainGlobals "set" = some none)
    (z13 : PySem.W.nsIn K mainGlobals "sorted" = some none) (z14 : PySem.W.nsIn K mainGlobals "repr" = some none) (z15 : PySem.W.nsIn K mainGlobals "bool" = some none) (z16 : PySem.W.nsIn K mainGlobals "dict" = some none) : Blt mg :=
  ⟨PySem.W.mg_none_of X G z1, PySem.W.mg_none_of X G z2, PySem.W.mg_none_of X G z3, PySem.W.mg_none_of X G z4, PySem.W.mg_none_of X G z5, PySem.W.mg_none_of X G z6, PySem.W.mg_none_of X G z7, PySem.W.mg_none_of X G z8,
    PySem.W.mg_none_of X G z9, PySem.W.mg_none_of X G z10, PySem.W.mg_none_of X G z11, PySem.W.mg_none_of X G z12, PySem.W.mg_none_of X G z13, PySem.W.mg_none_of X G z14, PySem.W.mg_none_of X G z15, PySem.W.mg_none_of X G z16⟩
theorem df_mk {x : Str} {st : Stmt} {ps : List Str} {f : Addr} {oc : Value} {od an : Option Addr} {osl : Array (Option Value)} {kV doc pm cdv ct : Value} (a : PySem.W.nsIn K mainGlobals x = some (some (.ref f)))
    (l : K.lookup f = some ⟨oc, od, .func (PySem.W.fnOf x x (defArgs st) (defBody st) (defScope st) .none kV doc pm an cdv ct), osl⟩) (c : PySem.W.codeIn K cdv x = true) (k : PySem.W.keepIn K (.ref f) = true)
    (hb : ∀ (kV doc pm : Value) (an : Option Addr) (cdv ct : Value) (us : List Value), us.length = ps.length → bindArgs (PySem.W.fnOf x x (defArgs st) (defBody st) (defScope st) .none kV doc pm an cdv ct) ⟨us, []⟩ = pure (ps.zip us)) :
    Df K mg x st ps f (PySem.W.fnOf x x (defArgs st) (defBody st) (defScope st) .none kV doc pm an cdv ct) :=
  have F := fun_mk (st := st) l c k
  ⟨F, PySem.W.mg_of X G a, F.binds hb⟩
theorem iniT_mk {n fld q : Str} {st : Stmt} {C f : Addr} {nm q0 : Str} {N : Addr} {bs bm : List Value} {sn : List Str} {sub : List Value} {ab : Bool} {col : Option Bool} {dd : Option Addr} {m0 m1 m2 m3 m5 : Option Value}
    {oc : Value} {od an : Option Addr} {osl : Array (Option Value)} {kV doc pm cdv ct : Value} (hq : n ++ ".__init__" = q)
    (aC : PySem.W.nsIn K mainGlobals n = some (some (.ref C))) (xL : K.lookup C = some (excClassObj nm q0 C N bs bm true sn sub ab col dd m0 m1 m2 m3 m5 "ValueError.__new__")) (hbm : PySem.HandSPX.refsVE bm = true)
    (sa : PySem.W.findIn K (.ref C) "__setattr__" = some (some (.builtin "object.__setattr__"))) (nb : PySem.W.findIn K (.ref C) fld = some none)
    (a1 : PySem.W.findIn K (.ref C) "__init__" = some (some (.ref f))) (t1 : PySem.W.typeIn K (.ref f) = some (.type "function"))
    (l : K.lookup f = some ⟨oc, od, .func (PySem.W.fnOf "__init__" q (defArgs st) (defBody st) (defScope st) .none kV doc pm an cdv ct), osl⟩) (c : PySem.W.codeIn K cdv q = true) (k : PySem.W.keepIn K (.ref f) = true)
    (kC : PySem.W.keepIn K (.ref C) = true) (eC : PySem.W.subIn K (.ref C) (.type "BaseException") = some true) (tC : PySem.W.typeIn K (.ref C) = some (.type "type")) (iC : PySem.W.isClsIn K C = true) (sC : PySem.W.subIn K (.ref C) (.ref C) = some true)
    (hb : ∀ (kV doc pm : Value) (an : Option Addr) (cdv ct : Value) (us : List Value), us.length = (["self", fld] : List Str).length → bindArgs (PySem.W.fnOf "__init__" q (defArgs st) (defBody st) (defScope st) .none kV doc pm an cdv ct) ⟨us, []⟩ = pure ((["self", fld] : List Str).zip us)) :
    IniT K mg n fld st C f (PySem.W.fnOf "__init__" q (defArgs st) (defBody st) (defScope st) .none kV doc pm an cdv ct) := by
  subst hq
  have F := fun_mk (st := st) l c k
  exact ⟨PySem.W.mg_of X G aC, ⟨⟨nm, q0, N, bs, bm, sn, sub, ab, col, dd, m0, m1, m2, m3, m5, xL, hbm⟩, sa, eC, tC, kC⟩, a1, t1, exm_self eC iC tC sC, nb, F, F.binds hb⟩
theorem ownT_mk {n : Str} {C : Addr} (aC : PySem.W.nsIn K mainGlobals n = some (some (.ref C))) (xC : PySem.W.excIn K C [.type "ValueError", .type "Exception", .type "BaseException", .type "object"] "ValueError.__new__" = true)
    (kC : PySem.W.keepIn K (.ref C) = true) (eC : PySem.W.subIn K (.ref C) (.type "BaseException") = some true) (tC : PySem.W.typeIn K (.ref C) = some (.type "type")) (iC : PySem.W.isClsIn K C = true) (sC : PySem.W.subIn K (.ref C) (.ref C) = some true) : OwnT K mg n C :=
  ⟨PySem.W.mg_of X G aC, xC, kC, eC, tC, exm_self eC iC tC sC⟩
theorem cin_mk {n : Str} {C : Addr} (aC : PySem.W.nsIn K mainGlobals n = some (some (.ref C))) (ga : PySem.W.specialIn K (.ref C) "__getattribute__" = some (some (.builtin "type.__getattribute__")))
    (rd : PySem.W.readsIn K C (.type "type") = true) (fi : PySem.W.findCls K (.ref C) (.type "type") "__init__" = some (.val (.builtin "ValueError.__init__"))) : CIn K mg n C := ⟨PySem.W.mg_of X G aC, ga, rd, fi⟩
end
end L2

set_option Elab.async false
set_option linter.all false
set_option maxRecDepth 100000
set_option maxHeartbeats 6400000
/-! sets of texts at their places: set(xs), sorted(set(xs)), sorted(xs) of tuples -/
namespace Gt
open PySem PySem.Spec PyProof.Rows L2
def keyOf (e : Int × Value) : Str := match e.2 with | .str k _ => k | _ => Str.empty
def GoodE (P : Program) (w : World) (e : Int × Value) : Prop := ∃ k tk, e.2 = Value.str k tk ∧ e.1 = (PySem.strKind P w).hash k
def SetS (P : Program) (w : World) (h : Heap) (a : Addr) (S : Str → Bool) (n : Nat) : Prop :=
  ∃ o es ep t, h.get? a = some o ∧ o.ExactSet ∧ o.data = .set es ep t ∧ (∀ e ∈ es.toList, GoodE P w e) ∧ (es.toList.map keyOf).Nodup ∧ (∀ k, S k = true ↔ k ∈ es.toList.map keyOf) ∧
    es.size < scanBound ∧ t.fits es.size = true ∧ es.size = n ∧ Ris t.place.toList ∧ (w.params.followText "set-order" = true ∨ t.led = true)
section
variable {P : Program} {w : World} {h h' : Heap} {a : Addr} {S : Str → Bool} {n : Nat}
theorem SetS.at (R : SetS P w h a S n) (k : ∀ o, h.get? a = some o → h'.get? a = some o) : SetS P w h' a S n := by
  obtain ⟨o, es, ep, t, ho, r⟩ := R
  exact ⟨o, es, ep, t, k o ho, r⟩
theorem SetS.congr {S' : Str → Bool} (R : SetS P w h a S n) (e : ∀ k, S' k = S k) : SetS P w h a S' n := by
  have q : S' = S := funext e
  rw [q]; exact R
theorem good_elems {l : List (Int × Value)} (g : ∀ e ∈ l, GoodE P w e) : ElemsOf (PySem.strKind P w) l := fun e he => by
  obtain ⟨k, tk, h1, h2⟩ := g e he
  exact ⟨⟨k, by rw [h1]; exact strKind_is P w k tk, h2⟩, by rw [h1] <;> rfl⟩
theorem good_is {e : Int × Value} (g : GoodE P w e) (k : Str) : (PySem.strKind P w).is k e.2 = true ↔ keyOf e = k := by
  obtain ⟨k0, tk, h1, _⟩ := g
  unfold keyOf
  rw [h1]
  show (Value.isStrOf k (.str k0 tk) = true) ↔ k0 = k
  simp [Value.isStrOf]
theorem good_mem {l : List (Int × Value)} (g : ∀ e ∈ l, GoodE P w e) (k : Str) : k ∈ l.map keyOf ↔ ∃ e ∈ l, (PySem.strKind P w).is k e.2 = true := by
  rw [List.mem_map]
  constructor
  · rintro ⟨e, he, q⟩
    exact ⟨e, he, (good_is (g e he) k).2 q⟩
  · rintro ⟨e, he, q⟩
    exact ⟨e, he, (good_is (g e he) k).1 q⟩
end
section
variable {P : Program} {w : World} {A : Around} {E : Value → Shared → Prop} {s : Shared} {a : Addr} {S : Str → Bool} {n : Nat}
theorem add_tail {g : Bool → Sem Unit} (hg : ∀ (b : Bool) (s₁ : Shared) (Q' : Unit → Shared → Prop), Q' () s₁ → wpAny (model P w) A (g b) Q' E s₁)
    {o : Obj} {es : Array (Int × Value)} {ep : Nat} {t : SetTable} (ho : s.heap.get? a = some o) (hex : o.ExactSet) (hd : o.data = .set es ep t)
    {es1 : Array (Int × Value)} {t2 : SetTable} {S' : Str → Bool} (g1 : ∀ e ∈ es1.toList, GoodE P w e) (nd1 : (es1.toList.map keyOf).Nodup) (m1 : ∀ k, S' k = true ↔ k ∈ es1.toList.map keyOf)
    (hb1 : es1.size < scanBound) (hf2 : t2.fits es1.size = true) (hr : Ris t2.place.toList) (hl : w.params.followText "set-order" = true ∨ t2.led = true) {wasDummy : Bool} {R : Option Bool → Shared → Prop}
    (hR : ∀ h', Heap.SameBut a s.heap h' → SetS P w h' a S' es1.size → R (some true) { s with heap := h' }) :
    wpAny (model P w) A (do
        storeSet a es1 t2
        if (!wasDummy && t2.tooFull) = true then do
            g (relayAll t2 es1 (SetTable.grown es1.size)).2.2
            storeSet a (relayAll t2 es1 (SetTable.grown es1.size)).1 (relayAll t2 es1 (SetTable.grown es1.size)).2.1
            pure (some true)
          else pure (some true)) R E s := by
  refine wpAny_bind (wpAny_storeSet_of ho hd ?_ (fits_of_scanBound hb1))
  have ho1 := store_at (es' := es1) (t' := t2) ho hd
  have sb1 := Heap.SameBut.update s.heap a (Obj.putSet es1 t2)
  split
  · have pm := relayAll_perm t2 es1 (SetTable.grown es1.size)
    have hf3 := relayAll_fits t2 es1 (SetTable.grown es1.size)
    have hr3 := relayAll_ris t2 es1 (SetTable.grown es1.size)
    have hl3 := relayAll_led t2 es1 (SetTable.grown es1.size)
    generalize relayAll t2 es1 (SetTable.grown es1.size) = Z at pm hf3 hr3 hl3 ⊢
    obtain ⟨es2, t3, gave⟩ := Z
    dsimp only at pm hf3 hr3 hl3 ⊢
    have hsz : es2.size = es1.size := by rw [← Array.length_toList, pm.length_eq, Array.length_toList]
    have hb2 : es2.size < scanBound := by rw [hsz]; exact hb1
    refine wpAny_bind (hg _ _ _ ?_)
    refine wpAny_bind (wpAny_storeSet_of ho1 rfl ?_ (fits_of_scanBound hb2))
    have ho2 := store_at (es' := es2) (t' := t3) ho1 rfl
    refine wpAny_pure (hR _ (sb1.trans (Heap.SameBut.update _ a _)) ?_)
    exact ⟨_, es2, _, t3, ho2, hex, rfl, fun e he => g1 e (pm.mem_iff.mp he), (pm.map keyOf).nodup_iff.mpr nd1, fun k => (m1 k).trans (pm.map keyOf).mem_iff.symm, hb2, hf3, hsz, hr3,
      hl.imp id fun z => by rw [hl3]; exact z⟩
  · exact wpAny_pure (hR _ sb1 ⟨_, es1, _, t2, ho1, hex, rfl, g1, nd1, m1, hb1, hf2, rfl, hr, hl⟩)
theorem add_hashed {k : Str} {tk : Tok} {Q : Bool → Shared → Prop} (R : SetS P w s.heap a S n) (room : n + 1 < scanBound)
    (hQ : ∀ h', Heap.SameBut a s.heap h' → SetS P w h' a (fun j => S j || decide (j = k)) (if S k = true then n else n + 1) → Q (!S k) { s with heap := h' }) :
    wpAny (model P w) A (setAddHashed a (.str k tk) ((PySem.strKind P w).hash k)) Q E s := by
  obtain ⟨o, es, ep, t, ho, hex, hd, g, nd, hm, hb, hf, hn, hr, hl⟩ := R
  have hkey : (PySem.strKind P w).is k (.str k tk) = true := strKind_is P w k tk
  have hsc : (Value.str k tk).scannable = true := rfl
  have hel : ElemsOf (PySem.strKind P w) es.toList := good_elems g
  unfold setAddHashed setAddHashedIn
  refine wpAny_holding (wpAny_bind (wpAny_setState_of ho hd hf ?_))
  dsimp only
  rw [byScan_of hsc hb hel]
  simp only [↓reduceIte]
  unfold setAddByScan
  refine wpAny_bind ?_
  refine wpAny_bind (wpAny_rule ?_)
  refine wpAny_bind (wpAny_setScan_of hkey ho hd hf hel ?_)
  cases hfi : List.findIdx? (fun e => (PySem.strKind P w).is k e.2) es.toList with
  | some j =>
    dsimp only
    obtain ⟨hj, pj, _⟩ := List.findIdx?_eq_some_iff_getElem.mp hfi
    have hSk : S k = true := (hm k).2 ((good_mem (P := P) (w := w) g k).2 ⟨es.toList[j], List.getElem_mem hj, pj⟩)
    refine wpAny_pure (wpAny_pure ?_)
    have q := hQ s.heap (Heap.SameBut.refl a s.heap) ⟨o, es, ep, t, ho, hex, hd, g, nd, fun i => by
      rw [Bool.or_eq_true, decide_eq_true_eq, ← hm i]
      exact ⟨fun z => z.elim id (fun e => e ▸ hSk), .inl⟩, hb, hf, by rw [if_pos hSk]; exact hn, hr, hl⟩
    rw [hSk] at q
    exact q
  | none =>
    dsimp only
    have hnk : k ∉ es.toList.map keyOf := fun z => by
      obtain ⟨e, he, q⟩ := (good_mem (P := P) (w := w) g k).1 z
      have c := List.findIdx?_eq_none_iff.mp hfi e he
      rw [q] at c
      cases c
    have hSk : S k = false := by
      cases q : S k with
      | false => rfl
      | true => exact absurd ((hm k).1 q) hnk
    have hgw : ∀ (b : Bool) {s₁ : Shared} {Q' : Unit → Shared → Prop}, Q' () s₁ → wpAny (model P w) A (match b with | true => rule "set.scan.the-table-gave-way" | false => pure ()) Q' E s₁ :=
      fun b s₁ Q' q => by cases b <;> first | exact wpAny_pure q | exact wpAny_rule q
    have pm := layNew_perm t es ((PySem.strKind P w).hash k) (.str k tk)
    have hf1 := layNew_fits t es ((PySem.strKind P w).hash k) (.str k tk)
    have hr1 := layNew_ris t es ((PySem.strKind P w).hash k) (.str k tk) hr
    have hl1 := layNew_led t es ((PySem.strKind P w).hash k) (.str k tk)
    generalize layNew t es ((PySem.strKind P w).hash k) (.str k tk) = Z at pm hf1 hr1 hl1 ⊢
    obtain ⟨es1, t1, wasDummy, gave⟩ := Z
    dsimp only at pm hf1 hr1 hl1 ⊢
    rw [Array.toList_push] at pm
    have pc : es1.toList.Perm (((PySem.strKind P w).hash k, Value.str k tk) :: es.toList) := pm.trans (List.perm_append_singleton _ _)
    have pk : (es1.toList.map keyOf).Perm (k :: es.toList.map keyOf) := pc.map keyOf
    have g1 : ∀ e ∈ es1.toList, GoodE P w e := fun e he => by
      rcases List.mem_cons.mp (pc.mem_iff.mp he) with z | z
      · rw [z]; exact ⟨k, tk, rfl, rfl⟩
      · exact g e z
    have nd1 : (es1.toList.map keyOf).Nodup := pk.nodup_iff.mpr (List.nodup_cons.mpr ⟨hnk, nd⟩)
    have m1 : ∀ i, (S i || decide (i = k)) = true ↔ i ∈ es1.toList.map keyOf := fun i => by
      rw [Bool.or_eq_true, decide_eq_true_eq, hm i, pk.mem_iff, List.mem_cons]
      exact Or.comm
    have hsz : es1.size = n + 1 := by rw [← Array.length_toList, pc.length_eq, List.length_cons, Array.length_toList, hn]
    have hb1 : es1.size < scanBound := by rw [hsz]; exact room
    have hled : w.params.followText "set-order" = true ∨ t1.led = true := hl.imp id fun z => by rw [hl1]; exact z
    have fin : ∀ h', Heap.SameBut a s.heap h' → SetS P w h' a (fun j => S j || decide (j = k)) es1.size → Q true { s with heap := h' } := fun h' sb r => by
      have q := hQ h' sb
      rw [hSk] at q
      rw [hsz] at r
      exact q r
    refine wpAny_bind (hgw _ ?_)
    split
    · refine wpAny_bind ?_
      rw [hashByValue_scannable 8 hsc]
      refine wpAny_pure ?_
      refine add_tail ?_ ho hex hd g1 nd1 m1 hb1 ?_ ?_ ?_ ?_
      · intro b s₁ Q' q; cases b <;> first | exact wpAny_pure q | exact wpAny_rule q
      · first | (split <;> first | exact hf1 | exact SetTable.fits_plain_off hf1) | exact hf1
      · first | (split <;> exact hr1) | exact hr1
      · first | (split <;> exact hled) | exact hled
      · intro h' sb r; dsimp only; exact wpAny_pure (fin h' sb r)
    · refine wpAny_bind (wpAny_pure ?_)
      simp only [↓reduceIte]
      refine add_tail ?_ ho hex hd g1 nd1 m1 hb1 hf1 hr1 hled ?_
      · intro b s₁ Q' q; cases b <;> first | exact wpAny_pure q | exact wpAny_rule q
      · intro h' sb r; dsimp only; exact wpAny_pure (fin h' sb r)
end
section
variable {prog : Program} {w : World} {A : Around} {R : Result → Shared → Prop} {I : Addr} {fp wr : List Addr} {G : Array GenState → Array GenState → Prop} {n : Nat} {P : Nat → Value → Prop} {St : Nat → Shared → Prop}
/-- the loop of set.update over m turns still to come -/
theorem upd_loop (W : WalksS prog w A.in1 I fp wr G n P St) (S : Addr) (nS : S ∉ fp) (xs : List Str) (len : xs.length = n) (few : n + 1 < scanBound) (val : ∀ i v, P i v → ∃ t, v = .str (xs.getD i Str.empty) t)
    (m : Nat) : ∀ (i : Nat) (s : Shared), i + m = n → St i s → SetS prog w s.heap S (Gs.mem xs i) (Gs.dst xs i) →
      (∀ s', Moved (S :: wr) G s s' → SetS prog w s'.heap S (Gs.mem xs n) (Gs.dst xs n) → R (.ok (.ret .none)) s') → codeAny (model prog w) A (.builtin "set.update.loop" ⟨[.ref S, .ref I], []⟩) R s := by
  have nW : S ∉ wr := fun z => nS (W.sub S z)
  have more : ∀ b, b ∈ wr → b ∈ S :: wr := fun b z => .tail _ z
  induction m with
  | zero =>
    intro i s e st hS fin
    obtain rfl : i = n := e
    refine codeAny_builtin F.entry_set_update_loop (by
      rw [Around.under_plainId F.plain_set_update_loop]
      exact wpAny_bind (W.done s _ _ st fun s2 mv => wpAny_pure (fin s2 (mv.mono more) (hS.at fun o q => mv.heap S o nW q))))
  | succ m ih =>
    intro i s e st hS fin
    have lt : i < n := by omega
    refine codeAny_builtin F.entry_set_update_loop (by
      rw [Around.under_plainId F.plain_set_update_loop]
      refine wpAny_bind (W.item i s _ _ lt st fun v s2 pv st2 mv => ?_)
      obtain ⟨t, rfl⟩ := val i v pv
      have hS2 := hS.at (h' := s2.heap) fun o q => mv.heap S o nW q
      have le := Gs.dst_le xs i
      refine wpAny_bind (wpAny_holding (wpAny_holding (wpAny_bind ((PySem.strKind prog w).pyHash (k := xs.getD i Str.empty) (strKind_is _ _ _ _) ?_))))
      refine add_hashed (s := { s2 with toks := s2.toks + 1 }) hS2 (by omega) fun h3 sb hS3 => ?_
      have nx : SetS prog w h3 S (Gs.mem xs (i + 1)) (Gs.dst xs (i + 1)) := by
        have lx : i < xs.length := by omega
        refine SetS.congr hS3 (fun k => ?_)
        have tk : xs.take (i + 1) = xs.take i ++ [xs[i]] := by
          rw [List.take_add_one, List.getElem?_eq_getElem lx]
          rfl
        unfold Gs.mem
        rw [Gs.getD_at lx, tk]
        rw [Bool.eq_iff_iff]
        simp only [Bool.or_eq_true, decide_eq_true_eq, List.mem_append, List.mem_singleton]
      refine wpAny_pure ⟨plainId_quiet F.plain_set_update_loop _, ih (i + 1) _ (by omega) (W.frame _ s2 _ _ st2 (Nat.le_succ _) fun b hb o q => ?_) nx fun s4 mv4 hS4 => fin s4 (Moved.trans W.gtrans ((mv.mono more).then_heap (Nat.le_succ _) fun b o nb q => ?_) mv4) hS4⟩
      · exact (sb.2 b (fun z => nS (z ▸ hb))).trans q
      · exact (sb.2 b (fun z => nb (z ▸ List.mem_cons_self))).trans q)
end
section
variable {prog : Program} {w : World} {A : Around} {E : Value → Shared → Prop} {s : Shared}
abbrev bareW (w : World) : Obj := { cls := .type "set", dict := none, data := .set #[] 0 (.fresh 0 0 (!w.params.followText "set-order")) }
theorem fresh_at {h : Heap} {a : Addr} (w : World) (ho : h.get? a = some (bareW w)) : SetS prog w h a (fun _ => false) 0 :=
  ⟨_, #[], 0, _, ho, ⟨rfl, rfl, rfl⟩, rfl, (fun e he => by simp at he), (by simp), (fun k => by simp), (by decide), (by rfl), rfl, List.Pairwise.nil, by
    show _ ∨ (!w.params.followText "set-order") = true
    cases w.params.followText "set-order"
    · exact .inr rfl
    · exact .inl rfl⟩
theorem code_new1 (a : Value) {Q₁ : Value → Shared → Prop}
    (h : Q₁ (.ref s.heap.objs.size) { s with heap := s.heap.push (bareW w) }) :
    codeAny (model prog w) A (.call (.builtin "set.__new__") ⟨[.type "set", a], []⟩) (wants Q₁ E) s := by
  refine codeAny_of_tree ?_
  show wpAny _ A.in1 (do checkBuiltinCall "set.__new__" ⟨[.type "set", a], []⟩; again (.builtin "set.__new__" ⟨[.type "set", a], []⟩)) _ _ s
  refine wpAny_bind (wpAny_of_eq (F.newCall_set_1 a) (wpAny_pure ⟨plainId_quiet F.plain_set_new _, codeAny_builtin F.entry_set_new ?_⟩))
  rw [Around.under_plainId F.plain_set_new _]
  unfold Builtin.«set.__new__» Builtin.Frozenset.newClass
  have hsub := sub_set_self
  obtain ⟨hp, g, d, tk, os⟩ := s
  dsimp only
  wp_walk
  refine wpAny_askSetting (wpAny_pure ?_)
  dsimp only
  simp only [newObj]
  refine wpAny_bind (wpAny_alloc (wpAny_pure ?_))
  exact wpAny_pure h
theorem set_init {T : String} {l : Addr} {n : Nat} {Pv : Nat → Value → Prop} {St : Addr → Nat → Heap → Prop} {xs : List Str} {hp : Heap} {g : Array GenState} {d : Drawn} {tk : Nat} {os : OsState} (hh : A.handled = none) (r : Gs.Row prog w T l n Pv hp St)
    (len : xs.length = n) (few : n + 1 < scanBound) (val : ∀ i v, Pv i v → ∃ t, v = .str (xs.getD i Str.empty) t) :
    codeAny (model prog w) A (.call (.builtin "set.__init__") ⟨[.ref hp.objs.size, .ref l], []⟩)
      (wants (fun v s2 => v = .none ∧ ∃ h2 t2, s2 = ⟨h2, g, d, t2, os⟩ ∧ SetS prog w h2 hp.objs.size (Gs.mem xs n) (Gs.dst xs n) ∧ ∀ b o, hp.get? b = some o → h2.get? b = some o) E) ⟨hp.push (bareW w), g, d, tk, os⟩ := by
  have oS : (hp.push (bareW w)).get? hp.objs.size = some (bareW w) := Heap.get?_push_size _ rfl
  have tS : Shared.TypeIs ⟨hp.push (bareW w), g, d, tk, os⟩ (.ref hp.objs.size) "set" := ⟨_, oS, rfl⟩
  refine codeAny_call_builtin PySem.F.called_set.init.plain PySem.F.entry_set_init (check_set_init_1 tS ?_)
  obtain ⟨dd, dt, sl, ol⟩ := r.at_
  have ol2 : (hp.push (bareW w)).get? l = some { cls := .type T, dict := dd, data := dt, slots := sl } := Heap.get?_push_of_some _ ol
  have q1 := r.s1
  have q2 := r.s2
  have q3 := r.nd
  unfold Builtin.«set.__init__» noKeywords Builtin.Frozenset.updateFrom
  generalize hI : pyIter = PI
  wp_walk
  subst hI
  have lt : l < hp.objs.size := Heap.lt_size ol
  refine r.iter _ _ _ _ (fun o q => Heap.get?_push_of_some _ q) fun o st => ?_
  have z1 : (hp.push (bareW w)).objs.size = hp.objs.size + 1 := Heap.size_push ..
  have z2 : ∀ b u, hp.get? b = some u → ((hp.push (bareW w)).push o).get? b = some u := fun b u q => Heap.get?_push_of_some _ (Heap.get?_push_of_some _ q)
  refine wpAny_bind (wpAny_runValue ?_)
  have W := (r.walk A.in1.in1 (hp.push (bareW w)).objs.size (by simp [hh]) (by rw [z1]; exact Nat.ne_of_lt (Nat.lt_succ_of_lt lt))).toS
  refine upd_loop W hp.objs.size (Gs.off2 (by rw [z1]; exact Nat.lt_succ_self _) lt) xs len few val n 0 ⟨(hp.push (bareW w)).push o, g, d, tk, os⟩ (by omega) st ?_ fun s3 mv hS => ?_
  · exact SetS.congr (fresh_at w (Heap.get?_push_of_some _ oS)) (fun k => by simp [Gs.mem])
  · obtain ⟨h3, g3, d3, t3, os3⟩ := s3
    obtain rfl : g3 = g := mv.gens
    obtain rfl : d3 = d := mv.drawn
    obtain rfl : os3 = os := mv.os
    refine wpAny_pure (wpAny_pure ⟨rfl, h3, t3, rfl, hS, fun b u q => mv.heap b u ?_ (z2 b u q)⟩)
    have lb : b < hp.objs.size := Heap.lt_size q
    exact Gs.off2' lb (by rw [z1]; exact Nat.lt_succ_self _)
/-- set(x) of such a row -/
theorem set_call {T : String} {l : Addr} {n : Nat} {Pv : Nat → Value → Prop} {St : Addr → Nat → Heap → Prop} {xs : List Str} {Q : Value → Shared → Prop} (hh : A.handled = none) (r : Gs.Row prog w T l n Pv s.heap St)
    (len : xs.length = n) (few : n + 1 < scanBound) (val : ∀ i v, Pv i v → ∃ t, v = .str (xs.getD i Str.empty) t)
    (q : ∀ h2 t2, SetS prog w h2 s.heap.objs.size (Gs.mem xs n) (Gs.dst xs n) → (∀ b o, s.heap.get? b = some o → h2.get? b = some o) → Q (.ref s.heap.objs.size) { s with heap := h2, toks := t2 }) :
    wpAny (model prog w) A (call (.type "set") [.ref l]) Q E s := by
  obtain ⟨hp, g, d, tk, os⟩ := s
  obtain ⟨c, tl, m1⟩ := PySem.F.called_set.mro
  have m2 := PySem.F.called_set.made
  have m3 := PySem.F.called_set.sub
  have m4 := PySem.F.called_set.notType
  have m5 := PySem.F.called_set.canCreate
  have m6 := PySem.F.typeCall_set_1 (.ref l)
  refine wpAny_call (codeAny_of_tree (wpAny_pure ⟨Code.quiet_builtin _ (by decide +kernel), codeAny_builtin PySem.F.entry_type_call ?_⟩))
  rw [Around.under_plain (weight_type_call_type "set" [.ref l] []) rfl]
  repeat (any_goals (first | assumption | wp_step))
  refine codeAny_mono (code_new1 (.ref l) (E := E) (Q₁ := fun v s2 => v = .ref hp.objs.size ∧ s2 = ⟨hp.push (bareW w), g, d, tk, os⟩) ⟨rfl, rfl⟩) fun a s2 h2 => ?_
  match a, h2 with
  | .error e, h2 => exact h2
  | .ok .next, h2 => exact h2.elim
  | .ok .brk, h2 => exact h2.elim
  | .ok .cont, h2 => exact h2.elim
  | .ok (.ret v), h2 =>
    obtain ⟨rfl, rfl⟩ := h2
    have m7 := PySem.F.called_set.init.lookup
    have m8 := PySem.F.called_set.init.bind (.ref hp.objs.size)
    have oS : (hp.push (bareW w)).get? hp.objs.size = some (bareW w) := Heap.get?_push_size _ rfl
    have tS : Shared.TypeIs ⟨hp.push (bareW w), g, d, tk, os⟩ (.ref hp.objs.size) "set" := ⟨_, oS, rfl⟩
    repeat (any_goals (first | assumption | wp_step))
    refine codeAny_mono (set_init (E := E) ?_ r len few val) fun b s3 h3 => ?_
    · simp [hh]
    · match b, h3 with
      | .error e, h3 => exact h3
      | .ok .next, h3 => exact h3.elim
      | .ok .brk, h3 => exact h3.elim
      | .ok .cont, h3 => exact h3.elim
      | .ok (.ret v), h3 =>
        obtain ⟨rfl, h4, t4, rfl, hS, keep⟩ := h3
        repeat (any_goals (first | assumption | wp_step))
        exact q h4 t4 hS keep
theorem strs_of : ∀ (l : List Value), (∀ v ∈ l, ∃ k tk, v = Value.str k tk) → StrsAre l (l.map fun v => keyOf (0, v))
  | [], _ => .nil
  | v :: r, h => by
    obtain ⟨k, tk, rfl⟩ := h v (List.mem_cons_self ..)
    exact .cons k tk (strs_of r fun x hx => h x (List.mem_cons_of_mem _ hx))
/-- sorted(s) of a set of texts -/
theorem sorted_set {a : Addr} {S : Str → Bool} {n : Nat} {Q : Value → Shared → Prop} (R : SetS prog w s.heap a S n) (hh : A.handled = none) (h64 : n < 64)
    (hQ : ∀ s' p (out : Array Value) (c : Nat) (ys : List Str), (∀ b o, s.heap.get? b = some o → s'.heap.get? b = some o) → s'.gens = s.gens → s'.os = s.os → s.heap.objs.size ≤ p →
      s'.heap.get? p = some (seqObj "list" out c) → StrsAre out.toList ys → sortedS ys = true → ys.Nodup → (∀ k, k ∈ ys ↔ S k = true) → Q (.ref p) s') :
    wpAny (model prog w) A (call (.builtin "sorted") [.ref a]) Q E s := by
  obtain ⟨o, es, ep, t, ho, hex, hd, g, nd, hm, hb, hf, hn, hr, hl⟩ := R
  refine Calls.call_function_entry kind_sorted plain_sorted entry_sorted (args_sorted1 _) ?_
  unfold Builtin.«sorted»
  refine wpAny_bind (m := checkCount "sorted" 1 1 _) (wpAny_pure ?_)
  refine wpAny_bind (collect_set (A := A.in1) hh ⟨o, ho, hex.1, hd⟩ hf hb hr hl fun s1 vs k1 hz g1 o1 pm => ?_)
  have hvl : vs.length = n := by rw [pm.length_eq, List.length_map, Array.length_toList]; exact hn
  have hI : StrsAre vs (vs.map fun v => keyOf (0, v)) := strs_of vs fun v hv => by
    obtain ⟨e, he, q⟩ := List.mem_map.mp (pm.mem_iff.mp hv)
    obtain ⟨k, tk, h1, _⟩ := g e he
    exact ⟨k, tk, by rw [← q]; exact h1⟩
  have pk : (vs.map fun v => keyOf (0, v)).Perm (es.toList.map keyOf) := by
    have q := pm.map fun v => keyOf (0, v)
    rw [List.map_map] at q
    exact q
  refine wpAny_bind (wpAny_newList ?_ (by rw [hvl, sizeLine_eq]; omega))
  have hoL : (s1.heap.push (seqObj "list" vs.toArray 0)).get? s1.heap.objs.size = some (seqObj "list" vs.toArray 0) := Heap.get?_push_size _ rfl
  refine wpAny_bind (wpAny_holding (wpAny_call_entry slot_list_sort ⟨_, hoL, rfl⟩ entry_list_sort (list_sort_treeKAny strKind_oneLt hoL hI.keysOf (fun v₁ v₂ rest e => keyKind_strs (by rw [← e]; exact hI)) (by rw [hvl, sizeLine_eq]; omega) fun st' a1 a2 => ⟨_, rfl, ?_⟩) (args_list_sort _)))
  obtain ⟨ys, b1, b2, b3⟩ := sorted_out_str hI a1 a2
  obtain ⟨c, hc⟩ := sortedHeap_at (vs := vs) (out := (arrOf st').map (·.2)) hoL
  have pn : ys.Perm (es.toList.map keyOf) := b2.trans pk
  refine wpAny_pure ⟨_, rfl, hQ _ s1.heap.objs.size _ c ys (fun b u e => ?_) g1 o1 hz hc b1 b3 (pn.nodup_iff.mpr nd) (fun k => by rw [pn.mem_iff, ← hm k])⟩
  have q := k1 b u e
  have hlt := Heap.lt_size q
  show (sortedHeap (s1.heap.push (seqObj "list" vs.toArray 0)) s1.heap.objs.size vs _).get? b = some u
  rw [sortedHeap_old (Nat.ne_of_lt hlt) (by rw [size_push']; exact Nat.lt_succ_of_lt hlt)]
  exact Heap.get?_push_of_some _ q
end
end Gt

set_option Elab.async false
set_option linter.all false
set_option maxRecDepth 100000
set_option maxHeartbeats 4000000
namespace L2
open PySem PySem.Spec PyProof.Rows
/-! ### sorted texts -/
def leT (a b : Str) : Prop := ¬ (TL.tl b < TL.tl a)
theorem leT_trans {a b c : Str} (h1 : leT a b) (h2 : leT b c) : leT a c := by
  unfold leT at *
  exact List.not_lt.mpr (List.le_trans (List.not_lt.mp h1) (List.not_lt.mp h2))
theorem leT_anti {a b : Str} (h1 : leT a b) (h2 : leT b a) : a = b := TL.ext_tl (List.le_antisymm (List.not_lt.mp h1) (List.not_lt.mp h2))
theorem rising_pw : ∀ (p : Str) (l : List Str), risingS p l = true → (p :: l).Pairwise leT
  | p, [], _ => by simp
  | p, x :: r, h => by
    have h' : (!ltCps x.cps.toList p.cps.toList && risingS x r) = true := h
    rw [Bool.and_eq_true] at h'
    obtain ⟨h1, h2⟩ := h'
    have ih := rising_pw x r h2
    have px : leT p x := by
      rw [ltCps_eq] at h1
      unfold leT TL.tl
      simpa using h1
    refine List.pairwise_cons.mpr ⟨fun y hy => ?_, ih⟩
    rcases List.mem_cons.mp hy with rfl | hy
    · exact px
    · exact leT_trans px ((List.pairwise_cons.mp ih).1 y hy)
theorem sorted_pw : ∀ {l : List Str}, sortedS l = true → l.Pairwise leT
  | [], _ => List.Pairwise.nil
  | x :: r, h => rising_pw x r h
theorem sorted_one {l m : List Str} (hl : sortedS l = true) (hm : sortedS m = true) (p : l.Perm m) : l = m := p.eq_of_pairwise (fun a b _ _ h1 h2 => leT_anti h1 h2) (sorted_pw hl) (sorted_pw hm)
/-- sorted(set(xs)) == sorted(xs) -/
theorem set_sorted {xs ys zs : List Str} (h1 : sortedS ys = true) (n1 : ys.Nodup) (m1 : ∀ k, k ∈ ys ↔ k ∈ xs) (h2 : sortedS zs = true) (p2 : zs.Perm xs) : decide (ys = zs) = decide xs.Nodup := by
  refine decide_eq_decide.mpr ⟨fun e => ?_, fun hn => ?_⟩
  · subst e
    exact p2.nodup_iff.mp n1
  · refine sorted_one h1 h2 ?_
    refine (List.perm_ext_iff_of_nodup n1 (p2.nodup_iff.mpr hn)).mpr fun k => ?_
    rw [m1 k, p2.mem_iff]
section
variable {prog : Program} {w : World} {A : Around} {E : Value → Shared → Prop} {s : Shared}
theorem collect_tup {l : Addr} {vs : List Value} {Q : List Value → Shared → Prop} (hl : s.heap.IsTuple l vs.toArray)
    (h : Q vs { s with heap := (s.heap.push (seqObj "list" #[] 0)).update s.heap.objs.size (Obj.mapSeq (· ++ vs.toArray)) }) (hsz : vs.length ≤ sizeLine) :
    wpAny (model prog w) A (collect (.ref l)) Q E s := by
  obtain ⟨o, ho, hc, n, hd⟩ := id hl
  unfold collect
  refine wpAny_bind (wpAny_runValue (codeAny_builtin entry_proto_collect' ?_))
  show wpAny _ _ (do again (.builtin "list.__iadd__" ⟨[← newList [], .ref l], []⟩)) _ _ s
  refine wpAny_bind (wpAny_newList (wpAny_pure ⟨Code.quiet_builtin _ (by decide +kernel), codeAny_builtin entry_list_iadd' ?_⟩))
  show wpAny _ _ (Builtin.List.listExtendWith (.ref s.heap.objs.size) (.ref l) (.ref s.heap.objs.size)) _ _ { s with heap := s.heap.push (seqObj "list" #[] 0) }
  unfold Builtin.List.listExtendWith
  have ho' : (s.heap.push (seqObj "list" #[] 0)).get? l = some o := Heap.get?_push_of_some _ ho
  refine wpAny_bind (wpAny_typeOf (T := "tuple") ⟨o, ho', hc⟩ ?_)
  have ht : (Value.type "tuple" == Value.type "tuple") = true := by rfl
  rw [if_pos (by rw [ht]; simp)]
  refine wpAny_bind (listItems_at ho' hd ?_)
  refine wpAny_bind (listItems_at (xs := #[]) (n := 0) (Heap.get?_push_size _ rfl) rfl ?_)
  rw [if_neg (by simp)]
  refine wpAny_bind (listUpdate_at (xs := #[]) (n := 0) (Heap.get?_push_size _ rfl) rfl ?_ (Nat.zero_le _) (by show (#[] ++ vs.toArray).size ≤ sizeLine + 1; simp only [Array.size_append, List.size_toArray, List.length_nil]; omega))
  refine wpAny_pure ?_
  show wpAny (model prog w) A (do
      let o ← load s.heap.objs.size
      match o.data with
      | .seq xs _ => pure xs.toList
      | _ => unsupported "internal:collect") Q E { s with heap := (s.heap.push (seqObj "list" #[] 0)).update s.heap.objs.size (Obj.mapSeq (· ++ vs.toArray)) }
  refine wpAny_bind (wpAny_load (get?_update_seq (Heap.get?_push_size _ rfl) _) ?_)
  show wpAny _ _ (pure ((#[] : Array Value) ++ vs.toArray).toList) Q E _
  rw [show ((#[] : Array Value) ++ vs.toArray).toList = vs by simp]
  exact wpAny_pure h
theorem sorted_strsT {l : Addr} {vs : List Value} {ss : List Str} {Q : Value → Shared → Prop} (hl : s.heap.IsTuple l vs.toArray) (hS : StrsAre vs ss) (hL : vs.length ≤ sizeLine)
    (h : ∀ (out : Array Value) (ss' : List Str), StrsAre out.toList ss' → ss'.Perm ss → sortedS ss' = true → Q (.ref (s.heap.objs.size + 1)) { s with heap := sortedAll s.heap vs out }) :
    wpAny (model prog w) A (call (.builtin "sorted") [.ref l]) Q E s := by
  refine Calls.call_function_entry kind_sorted plain_sorted entry_sorted (args_sorted1 _) ?_
  unfold Builtin.«sorted»
  refine wpAny_bind (m := checkCount "sorted" 1 1 _) (wpAny_pure ?_)
  refine wpAny_bind (collect_tup hl ?_ hL)
  refine wpAny_bind (wpAny_newList ?_ hL)
  have hsz : ((s.heap.push (seqObj "list" #[] 0)).update s.heap.objs.size (Obj.mapSeq (· ++ vs.toArray))).objs.size = s.heap.objs.size + 1 := by
    rw [Heap.size_update, size_push']
  have hoL : (((s.heap.push (seqObj "list" #[] 0)).update s.heap.objs.size (Obj.mapSeq (· ++ vs.toArray))).push (seqObj "list" vs.toArray 0)).get? (s.heap.objs.size + 1) = some (seqObj "list" vs.toArray 0) := by
    rw [← hsz]; exact Heap.get?_push_size _ rfl
  show wpAny _ _ _ _ _ { s with heap := ((s.heap.push (seqObj "list" #[] 0)).update s.heap.objs.size (Obj.mapSeq (· ++ vs.toArray))).push (seqObj "list" vs.toArray 0) }
  rw [hsz]
  refine wpAny_bind (wpAny_holding (wpAny_call_entry slot_list_sort ⟨_, hoL, rfl⟩ entry_list_sort (list_sort_treeKAny strKind_oneLt hoL hS.keysOf (fun v₁ v₂ rest e => keyKind_strs (by rw [← e]; exact hS)) hL fun st' a1 a2 => ⟨_, rfl, ?_⟩) (args_list_sort _)))
  obtain ⟨ys, b1, b2, b3⟩ := sorted_out_str hS a1 a2
  exact wpAny_pure ⟨_, rfl, h _ ys b1 b2 b3⟩
end
section
variable {X : Cx}
/-- sorted(t), a tuple of texts -/
def rSortTS (K : PySem.W.Frag) : List V → Hp → VK → Prop := fun vs H Q => ∃ (a : Addr) (xs : List Str), vs = [V.ref a] ∧ SqT K H a (xs.map V.str) ∧
  ∀ (ys : List Str) (p : Addr), ys.Perm xs → sortedS ys = true → H p = none → Q (.ref p) (upd H p (.lst (ys.map V.str)))
theorem cr_sortTS : CallR X (.builtin "sorted") (rSortTS X.K) := by
  intro pins s σ H vs us Q I r h
  obtain ⟨a, xs, rfl, hs, q⟩ := h
  obtain ⟨its, rv, hl, hz⟩ := I.tuple hs
  rw [Vals.ref1 r]
  have hlen0 := rv.length
  refine sorted_strsT hl rv.strs (by rw [← hlen0]; exact hz) fun out ys h1 h2 h3 => ?_
  obtain ⟨ep, he'⟩ := PyProof.Rows.sortedAll_at s.heap its out
  have hlen : (ys.map V.str).length ≤ sizeLine := by
    rw [List.length_map, h2.length_eq]
    rw [List.length_map] at hz
    exact hz
  exact ⟨.ref _, upd H (s.heap.objs.size + 1) (.lst (ys.map V.str)), I.laid (t' := s.toks) (fun _ _ => PyProof.Rows.sortedAll_old) (Nat.le_succ _) ⟨hlen, out.toList, ep, vals_of_strs h1, he'⟩, rfl, q ys _ h2 h3 (I.hok.fresh (Nat.le_succ _))⟩
/-- sorted(set(xs)), xs a list or a tuple of texts -/
def tSortSet (K : PySem.W.Frag) (ta : TE) : TE := fun σ H Q => ta σ H fun x H1 => ∃ (l : Addr) (xs : List Str), x = .ref l ∧ (SqL K H1 l (xs.map V.str) ∨ SqT K H1 l (xs.map V.str)) ∧ xs.length < 60 ∧
  ∀ (ys : List Str) (p : Addr), sortedS ys = true → ys.Nodup → (∀ k, k ∈ ys ↔ k ∈ xs) → H1 p = none → Q (.ref p) (upd H1 p (.lst (ys.map V.str)))
theorem pe_sortSet {a : Expr} {ta : TE} {p p2 q pos : Pos} (hc : X.calm = true) (hg : Gl X "sorted") (hm : X.mg "sorted" = none) (hg2 : Gl X "set") (hm2 : X.mg "set" = none) (ha : PE X a ta)
    (na : starEach [a] X.env = (false, eval a X.env) :: starEach [] X.env := by rfl) : PE X (.Call (.Name "sorted" p) [.Call (.Name "set" p2) [a] [] q] [] pos) (tSortSet X.K ta) := by
  refine ⟨fun pins s σ H Q I h => ?_⟩
  refine Call_ (ld_blt I hg hm (show bootBuiltins "sorted" = some (.builtin "sorted") from by decide +kernel) (PyProof.Rows.callWith_builtin1 (PyProof.Rows.args_cons ?_ rfl) rfl rfl))
  refine Call_ (ld_blt I hg2 hm2 boot_set (PyProof.Rows.callWith_type1 (PyProof.Rows.args_cons (thn (ha.run pins s σ H _ I h) fun v s1 hv => PyProof.Rows.args_nil ?_) na) na rfl))
  obtain ⟨x, H1, I1, r1, l, xs, rfl, hq, h1, q1⟩ := hv
  cases r1
  have sb : (61 : Nat) < scanBound := by unfold scanBound; decide
  have back : ∀ (h2 : Heap) (t2 : Nat), Gt.SetS X.prog X.w h2 s1.heap.objs.size (Gs.mem xs xs.length) (Gs.dst xs xs.length) → (∀ b o, s1.heap.get? b = some o → h2.get? b = some o) →
      wpAny (model X.prog X.w) X.A (spliced (backTo pos (starEach [] X.env))) (fun vs s2 => wpAny (model X.prog X.w) X.A (call (.builtin "sorted") (Value.ref s1.heap.objs.size :: vs)) (EP X pins σ Q) X.xe s2) X.xe { s1 with heap := h2, toks := t2 } := fun h2 t2 hS keep => by
    refine PyProof.Rows.args_nil ?_
    have le := Gs.dst_le xs xs.length
    have I2 : Inv X pins σ H1 { s1 with heap := h2, toks := t2 } := I1.kept keep
    refine Gt.sorted_set hS (I1.ok.hd hc) (by omega) fun s' p out c ys k2 g2 o2 hz hp hI hs hn hmem => ?_
    have hsz : s1.heap.objs.size ≤ h2.objs.size := by
      obtain ⟨o, es, ep, t, ho, _⟩ := hS
      exact Nat.le_of_lt (Heap.lt_size ho)
    have fr : H1 p = none := I2.hok.fresh hz
    have hlen : (ys.map V.str).length ≤ sizeLine := by
      rw [List.length_map]
      have sub := nodup_sub_len ys xs hn fun k hk => (hmem k).mp hk |> fun z => by
        unfold Gs.mem at z
        have z := of_decide_eq_true z
        exact List.mem_of_mem_take z
      rw [sizeLine_eq]
      omega
    have J : Inv X pins σ (upd H1 p (.lst (ys.map V.str))) { { s1 with heap := h2, toks := t2 } with heap := s'.heap, gens := s'.gens, drawn := s'.drawn, toks := s'.toks } :=
      I2.call (ch := []) (Un.laid k2 hz fr) (I2.hok.laid k2 hz ⟨hlen, out.toList, c, vals_of_strs hI, hp⟩) (by rw [g2]; exact I2.bare) (fun _ z => nomatch z)
    have e : s' = { { s1 with heap := h2, toks := t2 } with heap := s'.heap, gens := s'.gens, drawn := s'.drawn, toks := s'.toks } := by
      cases s'
      cases s1
      cases o2
      rfl
    rw [e]
    refine ⟨.ref p, _, J, rfl, q1 ys p hs hn (fun k => ?_) fr⟩
    rw [hmem k]
    unfold Gs.mem
    rw [decide_eq_true_eq, List.take_length]
  have at_ : ∀ {its : List Value}, Vals (xs.map V.str) its → ∀ (i : Nat) (v : Value), its.toArray[i]? = some v → ∃ t, v = .str (xs.getD i Str.empty) t := fun {its} r i v hv => by
    have hv2 : its[i]? = some v := by simpa using hv
    have lx : i < xs.length := by
      obtain ⟨h3, _⟩ := List.getElem?_eq_some_iff.mp hv2
      have := r.length
      rw [List.length_map] at this
      omega
    obtain ⟨u, hu, ru⟩ := r.get (i := i) (x := .str xs[i]) (by rw [List.getElem?_map, List.getElem?_eq_getElem lx]; rfl)
    rw [hv2] at hu
    obtain rfl := Option.some.inj hu
    rw [Gs.getD_at lx]
    exact ru
  rcases hq with hq | hq
  · obtain ⟨its, r, pl, hz⟩ := I1.list hq
    have hl : xs.length = its.toArray.size := by rw [List.size_toArray, ← r.length, List.length_map]
    refine Gt.set_call (I1.ok.hd hc) (Gs.row_list pl.isList) hl (by omega) (at_ r) fun h2 t2 hS keep => back h2 t2 (by rw [hl]; exact hS) keep
  · obtain ⟨its, r, pl, hz⟩ := I1.tuple hq
    have hl : xs.length = its.toArray.size := by rw [List.size_toArray, ← r.length, List.length_map]
    refine Gt.set_call (I1.ok.hd hc) (Gs.row_tuple pl) hl (by omega) (at_ r) fun h2 t2 hS keep => back h2 t2 (by rw [hl]; exact hS) keep
theorem call_repr_bl : CallR X (.builtin "repr") (fun xs H Q => ∃ b : Bool, xs = [.bl b] ∧ Q (.str (if b then "True" else "False")) H) := by
  intro pins s σ H xs us Q I r h
  obtain ⟨b, rfl, q⟩ := h
  obtain ⟨u, rfl, r1⟩ := vals1 r
  cases r1
  exact PySem.P.repr_of_bool ⟨.str _, H, I.tok _, ⟨_, rfl⟩, q⟩
/-- != of lists, where one of them is empty -/
def rNeE (K : PySem.W.Frag) : R2 := fun x y H Q => ∃ (a b : Addr) (xs : List V), x = .ref a ∧ y = .ref b ∧ SqL K H a xs ∧ SqL K H b [] ∧ Q (.bl (!xs.isEmpty)) H
theorem op_neE (hu : X.A.units + 64 < cLine) : OpR X (compareOp .NotEq) (rNeE X.K) := by
  intro pins s σ H x y v u Q I rx ry h
  obtain ⟨a, b, xs, rfl, rfl, ha, hb, q⟩ := h
  cases xs with
  | nil => exact op_neD hu pins s σ H _ _ v u Q I rx ry ⟨.list [], .list [], .lst ha .nil, .lst hb .nil, rfl, rfl, q⟩
  | cons z r =>
    cases rx
    cases ry
    obtain ⟨its, r1, pl, hz⟩ := I.list ha
    obtain ⟨its2, r2, pl2, hz2⟩ := I.list hb
    have e1 := r1.length
    have e2 := r2.length
    refine PySem.SeqAt.RcNeAt.lists_lengths pl.isList pl2.isList ?_ (by omega) X.prog X.w X.xe _ ⟨.bl _, H, I, rfl, q⟩
    have e3 : its.length = r.length + 1 := e1.symm
    have e4 : its2.length = 0 := e2.symm
    simp [e3, e4]
/-- == of lists, where one of them is empty -/
def rEqE (K : PySem.W.Frag) : R2 := fun x y H Q => ∃ (a b : Addr) (xs : List V), x = .ref a ∧ y = .ref b ∧ SqL K H a xs ∧ SqL K H b [] ∧ Q (.bl xs.isEmpty) H
theorem op_eqE (hu : X.A.units + 64 < cLine) : OpR X (compareOp .Eq) (rEqE X.K) := by
  intro pins s σ H x y v u Q I rx ry h
  obtain ⟨a, b, xs, rfl, rfl, ha, hb, q⟩ := h
  cases xs with
  | nil => exact op_eqD hu pins s σ H _ _ v u Q I rx ry ⟨.list [], .list [], .lst ha .nil, .lst hb .nil, rfl, rfl, q⟩
  | cons z r =>
    cases rx
    cases ry
    obtain ⟨its, r1, pl, hz⟩ := I.list ha
    obtain ⟨its2, r2, pl2, hz2⟩ := I.list hb
    have e1 := r1.length
    have e2 := r2.length
    refine PySem.SeqAt.RcAt.lists_lengths pl.isList pl2.isList ?_ (by omega) X.prog X.w X.xe _ ⟨.bl _, H, I, rfl, q⟩
    have e3 : its.length = r.length + 1 := e1.symm
    have e4 : its2.length = 0 := e2.symm
    simp [e3, e4]
end
end L2

set_option Elab.async false
set_option linter.all false
set_option maxRecDepth 100000
set_option maxHeartbeats 4000000
namespace L2
open PySem PySem.Spec PyProof.Rows
abbrev signs (z : Str) : List V := (TL.tl z).map fun c => V.str (sg c)
theorem signs_strs (z : Str) : signs z = ((TL.tl z).map sg).map V.str := by rw [List.map_map]; rfl
theorem vals_signs {z : Str} : ∀ {k : Nat} {vs : List Value} {cs : List Nat}, vs.length = cs.length → (∀ (j : Nat) (v : Value), vs[j]? = some v → ∃ (c : Nat) (u : Tok), cs[j]? = some c ∧ v = Value.str ⟨#[c]⟩ u) → Vals (cs.map fun c => V.str (sg c)) vs
  | _, [], [], _, _ => .nil
  | _, [], c :: r, h, _ => by cases h
  | _, v :: r, [], h, _ => by cases h
  | k, v :: r, c :: cs, h, hs => by
    obtain ⟨c', u, h1, h2⟩ := hs 0 v rfl
    have e : c = c' := Option.some.inj h1
    subst e
    refine .cons ⟨u, h2⟩ (vals_signs (z := z) (k := k) (Nat.succ.inj h) fun j w hw => hs (j + 1) w hw)
section
variable {X : Cx}
/-- list(z) of a text -/
def rListS : List V → Hp → VK → Prop := fun xs H Q => ∃ z : Str, xs = [.str z] ∧ z.length ≤ 100000 ∧ ∀ l, H l = none → Q (.ref l) (upd H l (.lst (signs z)))
theorem call_listS (hc : X.calm = true) : CallR X (.type "list") rListS := by
  intro pins s σ H xs us Q I r h
  obtain ⟨z, rfl, hz, q⟩ := h
  obtain ⟨u, rfl, t, rfl⟩ := vals1 r
  have hz' : z.cps.size ≤ sizeLine := by
    rw [sizeLine_eq]
    have e : z.cps.size = z.length := rfl
    omega
  refine call_list_str (I.ok.hd hc) z t (fun h' tk acc' c' kp e hi => ?_) hz'
  obtain ⟨h1, h2⟩ := hi
  have rv : Vals (signs z) acc'.toList := vals_signs (z := z) (k := 0) (by rw [Array.length_toList, h1]; rfl) fun j v hv => by
    obtain ⟨c, u, hc2, rfl⟩ := h2 j v (by simpa using hv)
    refine ⟨c, u, ?_, rfl⟩
    show z.cps.toList[j]? = some c
    rw [Array.getElem?_toList]
    exact hc2
  have hlen : (signs z).length ≤ sizeLine := by
    rw [List.length_map, TL.len_tl z |>.symm]
    exact hz'
  exact ⟨.ref s.heap.objs.size, _, I.laid (t' := tk) kp (Nat.le_refl _) (show ObjOk X.prog X.w _ h' _ (.lst (signs z)) from ⟨hlen, acc'.toList, c', rv, e⟩), rfl, q _ (I.hok.fresh (Nat.le_refl _))⟩
end
/-! ### values of other kinds -/
section
variable {K : PySem.W.Frag} {H : Hp}
theorem NmV.non : NmV K H .non false := .inr ⟨rfl, _, .base .non, kit_ty (by decide +kernel)⟩
theorem NmV.int (i : Int) : NmV K H (.int i) false := .inr ⟨rfl, _, .base (.int i), kit_ty (by decide +kernel)⟩
theorem NmV.lst {a : Addr} {xs : List V} (e : H a = some (.lst xs)) : NmV K H (.ref a) false := .inr ⟨rfl, _, .base (.lst e), kit_ty (by decide +kernel)⟩
theorem NmV.tup {a : Addr} {xs : List V} (e : H a = some (.tup xs)) : NmV K H (.ref a) false := .inr ⟨rfl, _, .base (.tup e), kit_ty (by decide +kernel)⟩
theorem NmV.dK {a : Addr} {kvs : List (Key × V)} (e : H a = some (.dK kvs)) : NmV K H (.ref a) false := .inr ⟨rfl, _, .base (.dK e), kit_ty (by decide +kernel)⟩
theorem NmsV.non : NmsV K H .non false := .inr ⟨rfl, _, .base .non, kit_ty (by decide +kernel)⟩
theorem NmsV.int (i : Int) : NmsV K H (.int i) false := .inr ⟨rfl, _, .base (.int i), kit_ty (by decide +kernel)⟩
theorem NmsV.txt (z : Str) : NmsV K H (.str z) false := .inr ⟨rfl, _, .base (.str z), kit_ty (by decide +kernel)⟩
theorem NmsV.lst {a : Addr} {xs : List V} (e : H a = some (.lst xs)) : NmsV K H (.ref a) false := .inr ⟨rfl, _, .base (.lst e), kit_ty (by decide +kernel)⟩
theorem NmsV.dK {a : Addr} {kvs : List (Key × V)} (e : H a = some (.dK kvs)) : NmsV K H (.ref a) false := .inr ⟨rfl, _, .base (.dK e), kit_ty (by decide +kernel)⟩
theorem pairedImp {α β : Type} {R S : α → β → Prop} (h : ∀ a b, R a b → S a b) : ∀ {xs : List α} {ys : List β}, Paired R xs ys → Paired S xs ys
  | _, _, .nil => .nil
  | _, _, .cons r t => .cons (h _ _ r) (pairedImp h t)
theorem NmsV.same {H' : Hp} {x : V} {b : Bool} (s : Same H H') (h : NmsV K H x b) : NmsV K H' x b := by
  rcases h with ⟨a, xs, bs, e, hS, hT, hP, hb⟩ | ⟨e, t, ht, hk⟩
  · exact .inl ⟨a, xs, bs, e, gSeqT s hS, hT.same s, pairedImp (fun _ _ q => q.same s) hP, hb⟩
  · exact .inr ⟨e, t, ht.same s, hk⟩
end
/-! ### what an integer is -/
def IntV (K : PySem.W.Frag) (H : Hp) (x : V) (b : Bool) : Prop :=
  (∃ i : Int, x = .int i ∧ b = (decide (-(10 ^ 60) < i) && decide (i < 10 ^ 60))) ∨ ((∃ c, x = .bl c) ∧ b = false) ∨ (b = false ∧ ∃ t, TyX K H x t ∧ PySem.W.kitOne K t (.type "int") = some false)
def spIsInt (K : PySem.W.Frag) : Sp := fun vs H Q _ => ∃ (x : V) (b : Bool), vs = [x] ∧ IntV K H x b ∧ Q (.bl b) H
section
variable {K : PySem.W.Frag} {H : Hp}
theorem IntV.non : IntV K H .non false := .inr (.inr ⟨rfl, _, .base .non, kit_ty (by decide +kernel)⟩)
theorem IntV.txt (z : Str) : IntV K H (.str z) false := .inr (.inr ⟨rfl, _, .base (.str z), kit_ty (by decide +kernel)⟩)
theorem IntV.lst {a : Addr} {xs : List V} (e : H a = some (.lst xs)) : IntV K H (.ref a) false := .inr (.inr ⟨rfl, _, .base (.lst e), kit_ty (by decide +kernel)⟩)
theorem IntV.tup {a : Addr} {xs : List V} (e : H a = some (.tup xs)) : IntV K H (.ref a) false := .inr (.inr ⟨rfl, _, .base (.tup e), kit_ty (by decide +kernel)⟩)
theorem IntV.dK {a : Addr} {kvs : List (Key × V)} (e : H a = some (.dK kvs)) : IntV K H (.ref a) false := .inr (.inr ⟨rfl, _, .base (.dK e), kit_ty (by decide +kernel)⟩)
theorem IntV.bl (c : Bool) : IntV K H (.bl c) false := .inr (.inl ⟨⟨c, rfl⟩, rfl⟩)
end
/-- what is laid anew, without its heap's words -/
theorem newO {H : Hp} {o : HO} {Q : VK} (h : ∀ (p : Addr) (H' : Hp), H p = none → H' p = some o → Same H H' → Q (.ref p) H') : ∀ p, H p = none → Q (.ref p) (upd H p o) := fun p hp => h p _ hp upd_same (gSame_new hp)
theorem sum8 : ∀ ss : List Str, (∀ s ∈ ss, isW s = true) → (ss.map (·.length)).sum ≤ ss.length * 8
  | [], _ => Nat.le_refl _
  | s :: r, h => by
    have h1 := (isW_len (h s (List.mem_cons_self ..))).2
    have h2 := sum8 r fun x hx => h x (List.mem_cons_of_mem _ hx)
    rw [List.map_cons, List.sum_cons, List.length_cons]
    omega
theorem IntV.same {K : PySem.W.Frag} {H H' : Hp} {x : V} {b : Bool} (s : Same H H') (h : IntV K H x b) : IntV K H' x b := by
  rcases h with h | h | ⟨e, t, ht, hk⟩
  · exact .inl h
  · exact .inr (.inl h)
  · exact .inr (.inr ⟨e, t, ht.same s, hk⟩)
theorem c60 : CPowW 10 60 := ⟨by decide, by decide +kernel⟩
theorem c54 : CPowW 10 54 := ⟨by decide, by decide +kernel⟩
theorem c55 : CPowW 10 55 := ⟨by decide, by decide +kernel⟩
theorem c39 : CPowW 10 39 := ⟨by decide, by decide +kernel⟩
theorem c6 : CPowW 10 6 := ⟨by decide, by decide +kernel⟩
end L2

set_option Elab.async false
set_option linter.all false
set_option maxRecDepth 100000
set_option maxHeartbeats 4000000
/-! what is laid anew stands in a heap of which only that is told -/
namespace L2
open PySem PySem.Spec PyProof.Rows
def New (H : Hp) (o : HO) (Q : VK) : Prop := ∀ (p : Addr) (H' : Hp), H p = none → H' p = some o → Same H H' → Q (.ref p) H'
theorem New.go {H : Hp} {o : HO} {Q : VK} (h : New H o Q) (p : Addr) (hp : H p = none) : Q (.ref p) (upd H p o) := h p _ hp upd_same (gSame_new hp)
def tTupN (t : TA) : TE := fun σ H Q => t σ H fun xs H1 => xs.length ≤ sizeLine ∧ New H1 (.tup xs) Q
def tLstN (t : TA) : TE := fun σ H Q => t σ H fun xs H1 => xs.length ≤ sizeLine ∧ New H1 (.lst xs) Q
section
variable {X : Cx} {es : List Expr} {t : TA} {pos : Pos}
theorem pe_tupN {x1} (h : PA X es t) : PE X (.Tuple es x1 pos) (tTupN t) := by
  refine ⟨fun pins s σ H Q I hq => ?_⟩
  refine wpAny_Tuple_spliced (thn (h.run pos pins s σ H _ I hq) fun us s1 ⟨xs, H1, I1, r, z, q⟩ => ⟨by rw [← r.length]; exact z, ?_⟩)
  have hf : H1 s1.heap.objs.size = none := I1.hok.fresh (Nat.le_refl _)
  refine ⟨.ref s1.heap.objs.size, upd H1 s1.heap.objs.size (.tup xs), I1.laid (t' := s1.toks) (fun b u e => Heap.get?_push_of_some _ e) (Nat.le_refl _) ?_, rfl, q.go _ hf⟩
  exact ⟨z, us, r, ⟨_, Heap.get?_push_size _ rfl, rfl, _, rfl⟩⟩
theorem pe_lstN (h : PA X es t) : PE X (.List es pos) (tLstN t) := by
  refine ⟨fun pins s σ H Q I hq => ?_⟩
  refine wpAny_List_spliced (thn (h.run pos pins s σ H _ I hq) fun us s1 ⟨xs, H1, I1, r, z, q⟩ => ⟨by rw [← r.length]; exact z, ?_⟩)
  have hf : H1 s1.heap.objs.size = none := I1.hok.fresh (Nat.le_refl _)
  refine ⟨.ref s1.heap.objs.size, upd H1 s1.heap.objs.size (.lst xs), I1.laid (t' := s1.toks) (fun b u e => Heap.get?_push_of_some _ e) (Nat.le_refl _) ?_, rfl, q.go _ hf⟩
  exact ⟨z, us, 0, r, Heap.get?_push_size _ rfl⟩
def rCatN : R2 := fun x y H Q => ∃ l b xs zs, x = .ref l ∧ y = .ref b ∧ H l = some (.lst xs) ∧ H b = some (.lst zs) ∧ xs.length + zs.length ≤ sizeLine ∧ New H (.lst (xs ++ zs)) Q
theorem op_catN : OpR X (binaryOp .Add) rCatN := fun pins s σ H x y v u Q I rx ry ⟨l, b, xs, zs, e1, e2, h1, h2, hl, q⟩ => op_cat pins s σ H x y v u Q I rx ry ⟨l, b, xs, zs, e1, e2, h1, h2, hl, q.go⟩
def rSlLN (K : PySem.W.Frag) : V → Option Int → Option Int → Hp → VK → Prop := fun x lo hi H Q => ∃ a xs, x = .ref a ∧ SqL K H a xs ∧ New H (.lst (cutV xs lo hi)) Q
theorem sl_listN : SlR X (rSlLN X.K) := fun pins s σ H x v vl vu lo hi sl Q I rx hs pl pu ⟨a, xs, e, hq, q⟩ => sl_list pins s σ H x v vl vu lo hi sl Q I rx hs pl pu ⟨a, xs, e, hq, q.go⟩
def rTupN (K : PySem.W.Frag) : List V → Hp → VK → Prop := fun xs H Q => ∃ p ys, xs = [.ref p] ∧ SqL K H p ys ∧ New H (.tup ys) Q
theorem call_tupN : CallR X (.type "tuple") (rTupN X.K) := fun pins s σ H xs us Q I r ⟨p, ys, e, h, q⟩ => call_tuple_of pins s σ H xs us Q I r ⟨p, ys, e, .inl ⟨h, q.go⟩⟩
def rLstN (K : PySem.W.Frag) : List V → Hp → VK → Prop := fun xs H Q => ∃ p ys, xs = [.ref p] ∧ (SqL K H p ys ∨ SqT K H p ys) ∧ New H (.lst ys) Q
theorem call_lstN : CallR X (.type "list") (rLstN X.K) := fun pins s σ H xs us Q I r ⟨p, ys, e, h, q⟩ => call_list_of pins s σ H xs us Q I r ⟨p, ys, e, h, q.go⟩
def rListSN : List V → Hp → VK → Prop := fun xs H Q => ∃ z : Str, xs = [.str z] ∧ z.length ≤ 100000 ∧ New H (.lst (signs z)) Q
theorem call_listSN (hc : X.calm = true) : CallR X (.type "list") rListSN := fun pins s σ H xs us Q I r ⟨z, e, h, q⟩ => call_listS hc pins s σ H xs us Q I r ⟨z, e, h, q.go⟩
def tDNewTN : TE := fun _ H Q => New H (.dT []) Q
theorem pe_dnewTN : PE X (.Dict [] [] pos) tDNewTN := ⟨fun pins s σ H Q I h => pe_dnewT.run pins s σ H Q I h.go⟩
def tDNewN : TE := fun _ H Q => New H (.dK []) Q
theorem pe_dnewN : PE X (.Dict [] [] pos) tDNewN := ⟨fun pins s σ H Q I h => pe_dnewK.run pins s σ H Q I h.go⟩
end
theorem New.kt {H : Hp} {o : HO} {Q : VK} {t : Addr} (hT : Tp H t) (h : ∀ (p : Addr) (H' : Hp), H' p = some o → Same H H' → Tp H' t → Q (.ref p) H') : New H o Q := fun p H' _ e s => h p H' e s (by
  obtain ⟨a, b, c, q⟩ := hT
  exact ⟨a, b, c, s _ _ q⟩)
end L2

set_option Elab.async false
set_option linter.all false
set_option maxRecDepth 100000
set_option maxHeartbeats 8000000
namespace Gk
open PySem PySem.Spec PyProof.Rows L2
def topS (i : Nat) : Stmt := PySem.Challenge.pw_groupclocks_k01_integers_and_names_judge.main.body.getD i (.Pass ⟨0, 0, 0, 0⟩)
abbrev s_tape : Stmt := topS 8
theorem sc_tape : FnScope ["script", "spot", "cell", "great", "begin"] ["script", "spot"] (defScope s_tape) := ⟨rfl, rfl, rfl, by decide +kernel, rfl, by decide +kernel, by decide +kernel⟩
abbrev s_roll : Stmt := topS 9
theorem sc_roll : FnScope ["tape", "total", "found", "one", "two"] ["tape", "total"] (defScope s_roll) := ⟨rfl, rfl, rfl, by decide +kernel, rfl, by decide +kernel, by decide +kernel⟩
abbrev s_pick : Stmt := topS 10
theorem sc_pick : FnScope ["tape", "items"] ["tape", "items"] (defScope s_pick) := ⟨rfl, rfl, rfl, by decide +kernel, rfl, by decide +kernel, by decide +kernel⟩
abbrev s_word_drawn : Stmt := topS 11
theorem sc_word_drawn : FnScope ["tape", "lots", "turn"] ["tape"] (defScope s_word_drawn) := ⟨rfl, rfl, rfl, by decide +kernel, rfl, by decide +kernel, by decide +kernel⟩
abbrev s_words_drawn : Stmt := topS 12
theorem sc_words_drawn : FnScope ["tape", "lots", "found", "turn", "word", "left", "sign"] ["tape", "lots"] (defScope s_words_drawn) := ⟨rfl, rfl, rfl, by decide +kernel, rfl, by decide +kernel, by decide +kernel⟩
section
variable {P : Program} {w : World} {K : PySem.W.Frag} {mg : Str → Option Value} {base : Heap}
theorem ok_tape {f : Addr} {fd : FuncData} (B : Blt mg) (D : Df K mg "_law_tape" s_tape ["script", "spot"] f fd) : FnOk P w K mg base CX0 1 f fd ["script", "spot"] (spTape K) := by
  refine D.F.ok sc_tape (fun vs H Q E h => ?_) (fun cdv A outer s H vs Q E hr h => ?_)
  · obtain ⟨a, ns, n, rfl, _⟩ := h
    rfl
  · obtain ⟨a, ns, n, rfl, hS, h0, q⟩ := h
    refine ⟨_, (pss_cons (ps_set (i := 2) sc_tape.nd rfl (Or.inl rfl) (pe_ifExp (pt_cmpR op_lt (pv 1) (pe_callB call_len_seq (by rfl) B.len_ (by decide +kernel) (pa_cons (pv 0) pa_nil)) (nomark _)) (pe_ix ix_list (pv 0) (pv 1) (fun _ _ => rfl)) (pe_op op_add (pe_op op_mul pe_int (pv 1)) pe_int)))
    (pss_cons (ps_set (i := 3) sc_tape.nd rfl (Or.inl rfl) (pe_op op_modN (pe_callTy call_int1 (by rfl) B.int_ (by decide +kernel) (pa_cons (pe_callB call_abs (by rfl) B.abs_ (by decide +kernel) (pa_cons (pv 2) pa_nil)) pa_nil)) (pe_op op_powW (pe_op op_powW pe_int pe_int) pe_int)))
    (pss_cons (ps_set (i := 4) sc_tape.nd rfl (Or.inl rfl) (pe_op op_add (pe_op op_add (pe_op op_add (pe_op op_mul (pv 3) pe_int) (pe_op op_mul pe_int (pv 1))) (pe_op op_mul pe_int (pe_callTy call_int1 (by rfl) B.int_ (by decide +kernel) (pa_cons (pe_cmpR op_lt (pv 2) pe_int (nomark _)) pa_nil)))) pe_int))
    (pss_one (ps_ret (pe_lst (pa_cons (pe_callB (call_max2 rfl) (by rfl) B.max_ (by decide +kernel) (pa_cons pe_int (pa_cons (pe_op op_sub (pv 3) (pe_op op_powW pe_int pe_int)) pa_nil))) (pa_cons (pe_op op_modN (pe_callTy call_int1 (by rfl) B.int_ (by decide +kernel) (pa_cons (pv 4) pa_nil)) pe_int) (pa_cons pe_int pa_nil))))))))), ?_⟩
    refine ⟨_, rfl, _, rfl, a, _, rfl, .inl hS, _, _, rfl, rfl, _, rfl, ?_⟩
    obtain ⟨c, hc⟩ : ∃ c : Int, c = if n < ns.length then ns.getD n.toNat 0 else 83 * n + 17 := ⟨_, rfl⟩
    refine meetI H (.int c) (fun hlt Q q => ?_) (fun hge Q q => ?_) ?_
    · have hlt' : n < ns.length := by
        have := of_decide_eq_true hlt
        rw [List.length_map] at this
        exact this
      have hj : n.toNat < ns.length := by omega
      refine ⟨_, rfl, _, rfl, a, _, n, .int c, rfl, rfl, hS, ?_, q⟩
      refine at_of (j := n.toNat) (by omega) ?_
      rw [List.getElem?_map, List.getElem?_eq_getElem hj, hc, if_pos hlt', List.getD_eq_getElem?_getD, List.getElem?_eq_getElem hj]
      rfl
    · have hge' : ¬ n < ns.length := fun z => hge (decide_eq_true (by rw [List.length_map]; exact z))
      rw [if_neg hge'] at hc
      refine ⟨_, rfl, _, _, rfl, rfl, .inl (by constructor <;> decide), _, _, rfl, rfl, ?_⟩
      rw [hc] at q
      exact q
    · refine ⟨_, rfl, _, rfl, .inl ⟨_, rfl, _, _, rfl, rfl, c57, _, _, rfl, rfl, c570, _, _, rfl, rfl, p570, ?_⟩⟩
      generalize (if c < 0 then -c else c).fmod ((10 ^ Int.toNat 57) ^ Int.toNat 10) = gr
      refine ⟨_, rfl, _, _, rfl, rfl, cmR, _, rfl, _, _, rfl, rfl, cmL, _, _, rfl, rfl, _, rfl, _, _, rfl, rfl, .inr ⟨_, rfl, _, _, rfl, rfl, cmL, _, _, rfl, rfl, _, _, rfl, rfl, ?_⟩⟩
      refine ⟨_, rfl, _, _, rfl, rfl, c18, _, _, rfl, rfl, _, _, rfl, _, rfl, .inl ⟨_, rfl, _, _, rfl, rfl, (show (_ : Int) ≠ 0 from by decide), by show 3 ≤ sizeLine; decide, fun t ht => q t _ _ _ ht⟩⟩
theorem ok_roll {f : Addr} {fd : FuncData} (B : Blt mg) (D : Df K mg "_law_roll" s_roll ["tape", "total"] f fd) : FnOk P w K mg base CX0 1 f fd ["tape", "total"] spRoll := by
  refine D.F.ok sc_roll (fun vs H Q E h => ?_) (fun cdv A outer s H vs Q E hr h => ?_)
  · obtain ⟨t, n, rfl, _⟩ := h
    rfl
  · obtain ⟨t, n, rfl, hT, h0, hn, q⟩ := h
    obtain ⟨a, b, c, e⟩ := hT
    have hT : Tp H t := ⟨a, b, c, e⟩
    have hS : SqL K H t [.int a, .int b, .int c] := .inl (.inl e)
    have hn0 : n ≠ 0 := by omega
    refine ⟨_, (pss_cons (ps_if (pt_cmpR op_gt (pe_ix ix_list (pv 0) pe_int (fun _ _ => rfl)) pe_int (nomark _))
    (pss_cons (ps_set (i := 2) sc_roll.nd rfl (Or.inl rfl) (pe_op op_modN (pe_callTy call_int1 (by rfl) B.int_ (by decide +kernel) (pa_cons (pe_ix ix_list (pv 0) pe_int (fun _ _ => rfl)) pa_nil)) (pv 1)))
    (pss_cons (ps_asg (pe_op op_fdivN (pe_ix ix_list (pv 0) pe_int (fun _ _ => rfl)) (pv 1)) (pg_sub (pv 0) pe_int set_list))
    (pss_one (ps_ret (pv 2))))) pss_nil)
    (pss_cons (ps_asg (pe_op op_add (pe_ix ix_list (pv 0) pe_int (fun _ _ => rfl)) pe_int) (pg_sub (pv 0) pe_int set_list))
    (pss_cons (ps_set (i := 3) sc_roll.nd rfl (Or.inl rfl) (pe_op op_modN (pe_callTy call_int1 (by rfl) B.int_ (by decide +kernel) (pa_cons (pe_op op_add (pe_ix ix_list (pv 0) pe_int (fun _ _ => rfl)) (pe_op op_mul pe_int (pe_ix ix_list (pv 0) pe_int (fun _ _ => rfl)))) pa_nil)) pe_int))
    (pss_cons (ps_set (i := 4) sc_roll.nd rfl (Or.inl rfl) (pe_op op_add (pe_op op_mul (pe_op op_modN (pe_callTy call_int1 (by rfl) B.int_ (by decide +kernel) (pa_cons (pe_op op_mul (pv 3) (pv 3)) pa_nil)) pe_int) (pv 3)) (pe_op op_mul pe_int (pe_ix ix_list (pv 0) pe_int (fun _ _ => rfl)))))
    (pss_one (ps_ret (pe_op op_modN (pe_callTy call_int1 (by rfl) B.int_ (by decide +kernel) (pa_cons (pe_op op_fdivN (pe_op op_modN (pe_callTy call_int1 (by rfl) B.int_ (by decide +kernel) (pa_cons (pe_op op_add (pv 4) (pe_ix ix_list (pv 0) pe_int (fun _ _ => rfl))) pa_nil)) pe_int) pe_int) pa_nil)) (pv 1)))))))), ?_⟩
    refine ⟨_, rfl, t, _, 0, _, rfl, rfl, hS, atI_nat (j := 0) rfl, _, _, rfl, rfl, _, rfl, ite2 (fun hp => ?_) (fun hp => ?_)⟩
    · refine ⟨_, rfl, t, _, 0, _, rfl, rfl, hS, atI_nat (j := 0) rfl, .inl ⟨_, rfl, _, rfl, _, _, rfl, rfl, hn0, ?_⟩⟩
      refine ⟨_, rfl, t, _, 0, _, rfl, rfl, hS, atI_nat (j := 0) rfl, _, rfl, _, _, rfl, rfl, ⟨hn0, by omega⟩, _, rfl, t, _, 0, 0, rfl, rfl, e, rfl, ?_⟩
      exact ⟨_, rfl, q _ _ (fmod_rng h0).1 (fmod_rng h0).2 (Kt.wr hT)⟩
    · refine ⟨_, rfl, t, _, 2, _, rfl, rfl, hS, atI_nat (j := 2) rfl, _, _, rfl, rfl, _, rfl, t, _, 2, 2, rfl, rfl, e, rfl, ?_⟩
      have e1 : (upd H t (.lst [.int a, .int b, .int (c + 1)])) t = some (.lst [.int a, .int b, .int (c + 1)]) := upd_same
      have hS1 : SqL K (upd H t (.lst [.int a, .int b, .int (c + 1)])) t [.int a, .int b, .int (c + 1)] := .inl (.inl e1)
      refine ⟨_, rfl, t, _, 1, _, rfl, rfl, hS1, atI_nat (j := 1) rfl, _, rfl, t, _, 2, _, rfl, rfl, hS1, atI_nat (j := 2) rfl, _, _, rfl, rfl, cmL, _, _, rfl, rfl, .inl ⟨_, rfl, _, _, rfl, rfl, (show (_ : Int) ≠ 0 from by decide), ?_⟩⟩
      obtain ⟨u, hu, hu2⟩ : ∃ u : Int, u = (b + 900107 * (c + 1)).fmod 2305843009213693951 ∧ (-(2 ^ 64) < u ∧ u < 2 ^ 64) := ⟨_, rfl, by
        have := fmod_rng (a := b + 900107 * (c + 1)) (n := 2305843009213693951) (by decide)
        omega⟩
      dsimp only
      rw [← hu]
      refine ⟨_, rfl, _, rfl, _, _, rfl, rfl, .inl hu2, .inl ⟨_, rfl, _, _, rfl, rfl, (show (_ : Int) ≠ 0 from by decide), _, rfl, _, _, rfl, rfl, .inr hu2, _, rfl, t, _, 2, _, rfl, rfl, hS1, atI_nat (j := 2) rfl, _, _, rfl, rfl, cmL, _, _, rfl, rfl, ?_⟩⟩
      refine ⟨_, rfl, _, rfl, t, _, 1, _, rfl, rfl, hS1, atI_nat (j := 1) rfl, _, _, rfl, rfl, .inl ⟨_, rfl, _, _, rfl, rfl, (show (_ : Int) ≠ 0 from by decide), _, _, rfl, rfl, ⟨by decide, by decide⟩, .inl ⟨_, rfl, _, rfl, _, _, rfl, rfl, hn0, ?_⟩⟩⟩
      exact q _ _ (fmod_rng h0).1 (fmod_rng h0).2 (Kt.wr hT)
end
end Gk

set_option Elab.async false
set_option linter.all false
set_option maxRecDepth 100000
set_option maxHeartbeats 8000000
namespace Gk
open PySem PySem.Spec PyProof.Rows L2
section
variable {P : Program} {w : World} {K : PySem.W.Frag} {mg : Str → Option Value} {base : Heap}
theorem ok_pick {f fR : Addr} {fd fdR : FuncData} (B : Blt mg) (D_roll : Df K mg "_law_roll" s_roll ["tape", "total"] fR fdR) (D : Df K mg "_law_pick" s_pick ["tape", "items"] f fd) : FnOk P w K mg base CX0 2 f fd ["tape", "items"] (spPick K) := by
  have G_roll : FnOk P w K mg base CX0 1 fR fdR ["tape", "total"] spRoll := ok_roll B D_roll
  refine D.F.ok sc_pick (fun vs H Q E h => ?_) (fun cdv A outer s H vs Q E hr h => ?_)
  · obtain ⟨t, x, xs, rfl, _⟩ := h
    rfl
  · obtain ⟨t, x, xs, rfl, hT, hI, h0, hl, q⟩ := h
    refine ⟨_, (pss_one (ps_ret (pe_ix ix_seq (pv 1) (pe_call G_roll (hr.mono (by decide)) (by rfl) D_roll.g D_roll.F.kp D_roll.b .nil pass0 (pa_cons (pv 0) (pa_cons (pe_callB call_len (by rfl) B.len_ (by decide +kernel) (pa_cons (pv 1) pa_nil)) pa_nil))) (fun _ _ => rfl)))), ?_⟩
    refine ⟨_, rfl, _, rfl, _, rfl, x, xs.length, rfl, hI.len hl, t, _, rfl, hT, by omega, by omega, fun r H' r0 r1 k => ?_⟩
    obtain ⟨y, hy, hm⟩ := at_int (xs := xs) r0 r1
    exact (hI.kt hT k).ix hl hy (q y H' hm k)
end
end Gk

set_option Elab.async false
set_option linter.all false
set_option maxRecDepth 100000
set_option maxHeartbeats 8000000
namespace Gk
open PySem PySem.Spec PyProof.Rows L2
section
variable {P : Program} {w : World} {K : PySem.W.Frag} {mg : Str → Option Value} {base : Heap}
theorem ok_word {f fP : Addr} {fd fdP : FuncData} (B : Blt mg) (D_pick : Df K mg "_law_pick" s_pick ["tape", "items"] fP fdP) (G_pick : FnOk P w K mg base CX0 2 fP fdP ["tape", "items"] (spPick K))
    (D : Df K mg "_law_word_drawn" s_word_drawn ["tape"] f fd) : FnOk P w K mg base CX0 3 f fd ["tape"] spWord := by
  refine D.F.ok sc_word_drawn (fun vs H Q E h => ?_) (fun cdv A outer s H vs Q E hr h => ?_)
  · obtain ⟨t, rfl, _⟩ := h
    rfl
  · obtain ⟨t, rfl, hT, q⟩ := h
    refine ⟨_, (pss_cons (ps_set (i := 1) sc_word_drawn.nd rfl (Or.inl rfl) (pe_call G_pick (hr.mono (by decide)) (by rfl) D_pick.g D_pick.F.kp D_pick.b .nil pass0 (pa_cons (pv 0) (pa_cons (pe_lst (pa_cons pe_int (pa_cons pe_int (pa_cons pe_int (pa_cons pe_int (pa_cons pe_int (pa_cons pe_int pa_nil))))))) pa_nil))))
    (pss_one (ps_ret (pe_join pe_str (pe_lc (own := [("turn", 2)]) (g := gName 2) (tt := tYes) (by rfl) sc_word_drawn.nd (pi_range1 (by rfl) B.range (pa_cons (pv 1) pa_nil)) (blkOk_by (N := ["tape", "lots", "turn"]) (sc := defScope s_word_drawn) (by decide +kernel)) (fun _ _ _ _ _ => (pg_name (i := 2) sc_word_drawn.nd rfl (Or.inl rfl))) (fun _ _ _ _ _ => pts_nil) (fun _ _ _ _ _ => (pe_call G_pick (hr.mono (by decide)) (by rfl) D_pick.g D_pick.F.kp D_pick.b .nil pass0 (pa_cons (pv 0) (pa_cons pe_str pa_nil))))))))), ?_⟩
    refine ⟨_, rfl, by show 6 ≤ sizeLine; decide, fun p hp => ⟨t, .ref p, _, rfl, (Kt.new hT hp).tp, .inl ⟨p, rfl, Kt.ne hT hp, .inl (SqL.of upd_same)⟩, by decide, by decide, fun y H1 hy k1 => ?_⟩⟩
    obtain ⟨n, rfl, n1, n2⟩ := lots6 hy
    have k1 : Kt t H H1 := (Kt.new hT hp).trans k1
    refine ⟨⟨_, rfl⟩, _, rfl, (n : Int), rfl, by omega, by omega, fun D hD => ?_⟩
    refine lc_range (lo := 0) (n := (n : Int).toNat) (fun i H3 => ∃ cs : List Nat, cs.length = i ∧ (∀ c ∈ cs, 97 ≤ c ∧ c ≤ 122) ∧ H3 D = some (.lst ((cs.map sg).map V.str)) ∧ Kt t H H3) ⟨[], rfl, by simp, upd_same, k1.mut (k1.free hD) (Kt.ne k1.tp hD)⟩ (fun i H3 hi hP => ?_) (fun H3 hP => ?_)
    · obtain ⟨cs, hl, hc, hd, k3⟩ := hP
      refine ⟨rfl, _, rfl, t, _, _, rfl, k3.tp, .inr ⟨_, rfl, rfl⟩, by decide +kernel, by decide +kernel, fun y H4 hy k4 => ?_⟩
      obtain ⟨c, hcm, rfl⟩ := List.mem_map.mp hy
      refine ⟨_, k4.strs k3.tp hd, ?_, cs ++ [c], ?_, ?_, ?_, ?_⟩
      · rw [List.length_map, List.length_map]
        exact small1000 (by omega)
      · rw [List.length_append, hl]
        rfl
      · intro d hdm
        rcases List.mem_append.mp hdm with h1 | h1
        · exact hc d h1
        · rw [List.mem_singleton.mp h1]
          exact abc_rng c hcm
      · rw [upd_same, List.map_append, List.map_append]
        rfl
      · exact (k3.trans k4).mut (k1.free hD) (Kt.ne k1.tp hD)
    · obtain ⟨cs, hl, hc, hd, k3⟩ := hP
      have hn : cs.length = n := by omega
      refine ⟨_, D, cs.map sg, rfl, rfl, .inl (SqL.of hd), ?_, q _ H3 (join0_W (by omega) (by omega) hc) k3⟩
      have e0 : (PySem.Str.ofString "").length = 0 := by decide +kernel
      have e1 : ((cs.map sg).map (·.length)).sum = cs.length := by
        rw [List.map_map]
        clear hl hc hd hn
        induction cs with
        | nil => rfl
        | cons c r ih =>
          rw [List.map_cons, List.sum_cons, ih]
          show 1 + r.length = r.length + 1
          omega
      rw [e1, e0]
      omega
theorem ok_words {f fP : Addr} {fd fdP : FuncData} (B : Blt mg) (D_word_drawn : Df K mg "_law_word_drawn" s_word_drawn ["tape"] fP fdP) (G_word_drawn : FnOk P w K mg base CX0 3 fP fdP ["tape"] spWord)
    (D : Df K mg "_law_words_drawn" s_words_drawn ["tape", "lots"] f fd) : FnOk P w K mg base CX0 4 f fd ["tape", "lots"] spWords := by
  refine D.F.ok sc_words_drawn (fun vs H Q E h => ?_) (fun cdv A outer s H vs Q E hr h => ?_)
  · obtain ⟨t, n, rfl, _⟩ := h
    rfl
  · obtain ⟨t, n, rfl, hT, h0, h25, q⟩ := h
    refine ⟨_, (pss_cons (ps_set (i := 2) sc_words_drawn.nd rfl (Or.inr rfl) (pe_lst pa_nil))
    (pss_cons (ps_for PassesOwn.never rfl (pi_range1 (by rfl) B.range (pa_cons (pv 1) pa_nil)) (pg_name (i := 3) sc_words_drawn.nd rfl (Or.inl rfl))
    (pss_cons (ps_set (i := 4) sc_words_drawn.nd rfl (Or.inl rfl) (pe_call G_word_drawn (hr.mono (by decide)) (by rfl) D_word_drawn.g D_word_drawn.F.kp D_word_drawn.b .nil pass0 (pa_cons (pv 0) pa_nil)))
    (pss_cons (ps_setLc (i := 5) (own := [("sign", 6)]) (g := gName 6)  (by rfl) sc_words_drawn.nd rfl rfl (sw_true rfl rfl rfl (by decide +kernel)) (pi_str pe_str) (blkOk_by (N := ["tape", "lots", "found", "turn", "word", "left", "sign"]) (sc := defScope s_words_drawn) (by decide +kernel)) (fun _ _ _ _ _ => (pg_name (i := 6) sc_words_drawn.nd rfl (Or.inl rfl))) (fun _ _ _ _ _ => pts_one (pt_cmpR (op_notIn_seqK K rfl) (pv 6) (pv 2) (by rfl))) (fun _ _ _ _ _ => (pv 6)))
    (pss_one (ps_expr (pe_bm PySem.F.plainAttrs_list PySem.F.slot_list_append PySem.F.type_list_append mt_append (pv 2) (pa_cons (pe_ifExp (pt_cmpR op_notIn_seq (pv 4) (pv 2) (by rfl)) (pv 4) (pe_ix ix_list (pv 5) pe_int (fun _ _ => rfl))) pa_nil)))))))
    (pss_one (ps_ret (pv 2))))), ?_⟩
    refine ⟨Nat.zero_le _, fun F hF => ?_⟩
    have kF : Kt t H (upd H F (.lst [])) := Kt.new hT hF
    have nFt : F ≠ t := Kt.ne hT hF
    refine ⟨_, rfl, n, rfl, by omega, by omega, ?_⟩
    refine for_range (lo := 0) (n := n.toNat) (fun i σ H3 => ∃ (ws : List Str) (a3 a4 a5 : Option V), σ = [some (.ref t), some (.int n), some (.ref F), a3, a4, a5, none] ∧ ws.length = i ∧ (∀ x ∈ ws, isW x = true) ∧ ws.Nodup ∧ H3 F = some (.lst (ws.map V.str)) ∧ Kt t H H3)
      ⟨[], none, none, none, rfl, rfl, by simp, List.nodup_nil, upd_same, kF⟩ (fun i σ H3 hi hP => ?_) (fun σ H3 hP => ?_)
    · obtain ⟨ws, a3, a4, a5, rfl, hl, hw, hnd, hf, k3⟩ := hP
      refine ⟨_, rfl, t, rfl, k3.tp, fun x H4 hx k4 => ?_⟩
      have f4 := k4.strs k3.tp hf
      have k4' : Kt t H H4 := k3.trans k4
      refine ⟨_, rfl, fun D hD => ?_⟩
      refine lc_it (J := Its abc) walk_str (fun j H5 => Same H4 H5 ∧ H5 D = some (.lst (((((TL.tl abc).take j).map sg).filter (fun s => decide (s ∉ ws))).map V.str))) ⟨gSame_new hD, upd_same⟩ (fun _ _ _ _ => trivial) (fun j y H5 H5' hj hP hy => ?_) (fun H5 hP => ?_)
      · obtain ⟨s5, d5⟩ := hP
        obtain ⟨rfl, c, hc, rfl⟩ := hy
        have hcl : (TL.tl abc)[j]? = some c := by
          show abc.cps.toList[j]? = some c
          rw [Array.getElem?_toList]
          exact hc
        have tk : ((TL.tl abc).take (j + 1)).map sg = ((TL.tl abc).take j).map sg ++ [sg c] := by
          rw [List.take_add_one, hcl, List.map_append]
          rfl
        refine ⟨rfl, _, rfl, _, rfl, F, _, rfl, .inl (SqL.of (s5 _ _ f4)), rfl, flat_strs ws, _, rfl, ?_⟩
        rw [inV_strs]
        refine ite2 (fun hin => ?_) (fun hin => ?_)
        · have hin' : sg c ∉ ws := fun z => by
            have h : (!decide (sg c ∈ ws)) = true := hin
            rw [decide_eq_true z] at h
            cases h
          refine ⟨_, rfl, _, d5, ?_, gSame_mut s5 hD, ?_⟩
          · rw [List.length_map]
            refine small1000 (Nat.le_trans (List.length_filter_le _ _) ?_)
            rw [List.length_map, List.length_take, abc_len]
            omega
          · rw [upd_same, tk, List.filter_append, List.map_append]
            have e : [sg c].filter (fun s => decide (s ∉ ws)) = [sg c] := by simp [hin']
            rw [e]
            rfl
        · have hin' : sg c ∈ ws := Classical.byContradiction fun z => hin (by
            show (!decide (sg c ∈ ws)) = true
            rw [decide_eq_false z]
            rfl)
          refine ⟨s5, ?_⟩
          have e : [sg c].filter (fun s => decide (s ∉ ws)) = [] := by simp [hin']
          rw [tk, List.filter_append, e, List.append_nil]
          exact d5
      · obtain ⟨s5, d5⟩ := hP
        have hsz : abc.cps.size = 26 := by decide +kernel
        have tk : (TL.tl abc).take abc.cps.size = TL.tl abc := List.take_of_length_le (by rw [abc_len, hsz]; exact Nat.le_refl _)
        rw [tk] at d5
        have k5 : Kt t H H5 := k4'.trans (Kt.same k4'.tp s5)
        have f5 := s5 _ _ f4
        have hw26 : ws.length < 26 := by omega
        -- found.append(..)
        refine ⟨_, rfl, .inl ⟨rfl, _, SqL.of f5⟩, ?_⟩
        refine ⟨_, rfl, _, rfl, F, _, rfl, .inl (SqL.of f5), rfl, flat_strs ws, _, rfl, ?_⟩
        rw [inV_strs]
        have fin : ∀ y : Str, isW y = true → y ∉ ws → rAppend (.ref F) [.str y] H5 fun _ H1 => ∃ (ws : List Str) (b3 b4 b5 : Option V), [some (V.ref t), some (.int n), some (.ref F), some (.int (0 + i)), some (.str x), some (.ref D), none] = [some (.ref t), some (.int n), some (.ref F), b3, b4, b5, none] ∧ ws.length = i + 1 ∧ (∀ x ∈ ws, isW x = true) ∧ ws.Nodup ∧ H1 F = some (.lst (ws.map V.str)) ∧ Kt t H H1 := by
          intro y hy hn
          refine ⟨F, _, _, rfl, rfl, f5, ?_, ws ++ [y], _, _, _, rfl, ?_, ?_, ?_, ?_, ?_⟩
          · rw [List.length_map]
            exact small1000 (by omega)
          · rw [List.length_append, hl]
            rfl
          · intro z hz
            rcases List.mem_append.mp hz with h | h
            · exact hw z h
            · rw [List.mem_singleton.mp h]
              exact hy
          · rw [List.nodup_append]
            refine ⟨hnd, by simp, fun a ha b hb => ?_⟩
            rw [List.mem_singleton.mp hb]
            exact fun e => hn (e ▸ ha)
          · rw [upd_same, List.map_append]
            rfl
          · exact k5.mut hF nFt
        refine ite2 (fun hin => ?_) (fun hin => ?_)
        · have hin' : x ∉ ws := fun z => by
            have h : (!decide (x ∈ ws)) = true := hin
            rw [decide_eq_true z] at h
            cases h
          exact ⟨_, rfl, fin x hx hin'⟩
        · obtain ⟨y, r, hy⟩ : ∃ y r, ((TL.tl abc).map sg).filter (fun s => decide (s ∉ ws)) = y :: r := List.exists_cons_of_ne_nil (left_ne hw26)
          have hm : y ∈ ((TL.tl abc).map sg).filter (fun s => decide (s ∉ ws)) := by
            rw [hy]
            exact List.mem_cons_self ..
          obtain ⟨h1, h2⟩ := List.mem_filter.mp hm
          obtain ⟨c, hc, rfl⟩ := List.mem_map.mp h1
          rw [hy] at d5
          refine ⟨_, rfl, D, _, 0, .str (sg c), rfl, rfl, SqL.of d5, atI_nat (j := 0) rfl, fin (sg c) (sg_W (abc_rng c hc)) (of_decide_eq_true h2)⟩
    · obtain ⟨ws, a3, a4, a5, rfl, hl, hw, hnd, hf, k3⟩ := hP
      exact ⟨_, rfl, q F ws H3 hl hw hnd hF hf k3⟩
end
end Gk

set_option Elab.async false
set_option linter.all false
set_option maxRecDepth 100000
set_option maxHeartbeats 8000000
namespace Gk
open PySem PySem.Spec PyProof.Rows L2
abbrev s_is_name : Stmt := topS 5
theorem sc_is_name : FnScope ["value", "letter"] ["value"] (defScope s_is_name) := ⟨rfl, rfl, rfl, by decide +kernel, rfl, by decide +kernel, by decide +kernel⟩
abbrev s_is_names : Stmt := topS 6
theorem sc_is_names : FnScope ["value", "name"] ["value"] (defScope s_is_names) := ⟨rfl, rfl, rfl, by decide +kernel, rfl, by decide +kernel, by decide +kernel⟩
section
variable {P : Program} {w : World} {K : PySem.W.Frag} {mg : Str → Option Value} {base : Heap}
theorem ok_is_name {f : Addr} {fd : FuncData} {tl : Tok} (B : Blt mg) (C_MAX_LETTERS : mg "MAX_LETTERS" = some (.int 8 tl)) (D : Df K mg "is_name" s_is_name ["value"] f fd) : FnOk P w K mg base CX0 1 f fd ["value"] (spIsName K) := by
  refine D.F.ok sc_is_name (fun vs H Q E h => ?_) (fun cdv A outer s H vs Q E hr h => ?_)
  · obtain ⟨x, b, rfl, _⟩ := h
    rfl
  · obtain ⟨x, b, rfl, hN, q⟩ := h
    refine ⟨_, (pss_cons (ps_if (PW.pt (pw_or (pt_not (pt_val (pe_callB call_isi (by rfl) B.isinstance_ (by decide +kernel) (pa_cons (pv 0) (pa_cons (pe_bltn (v := .ty "str") rfl B.str_ (by decide +kernel) rfl) pa_nil))) (by intro _; rfl))) (pw_or1 (pt_not (pt_chain op_le op_le pe_int (pe_callB call_len_str (by rfl) B.len_ (by decide +kernel) (pa_cons (pv 0) pa_nil)) (pe_glob (v := .int 8) rfl C_MAX_LETTERS ⟨_, rfl⟩))))))
    (pss_one (ps_ret pe_bl)) pss_nil)
    (pss_one (ps_ret (pe_callB (cr_all rfl) (by rfl) B.all_ (by decide +kernel) (pa_cons (pe_lc (own := [("letter", 1)]) (g := gName 1) (tt := tYes) (by rfl) sc_is_name.nd (pi_str (pv 0)) (blkOk_by (N := ["value", "letter"]) (sc := defScope s_is_name) (by decide +kernel)) (fun _ _ _ _ _ => (pg_name (i := 1) sc_is_name.nd rfl (Or.inl rfl))) (fun _ _ _ _ _ => pts_nil) (fun _ _ _ _ _ => (pe_chain op_le_str op_le_str pe_str (pv 1) pe_str))) pa_nil))))), ?_⟩
    rcases hN with ⟨z, rfl, hz, rfl⟩ | ⟨rfl, t, ht, hk⟩
    · refine ⟨_, rfl, .str z, .ty "str", _, _, true, rfl, .ty "str", .base (.str z), kit_ty (by decide +kernel), _, rfl, ?_⟩
      refine ⟨_, rfl, z, rfl, Nat.le_trans hz (by decide), _, _, rfl, rfl, _, rfl, ?_⟩
      have no : ¬ (1 ≤ z.length ∧ z.length ≤ 8) → isW z = false := fun n => by
        cases e : isW z with
        | false => rfl
        | true => exact absurd (isW_len e) n
      refine ite2 (fun h1 => ⟨_, _, rfl, rfl, _, rfl, ite2 (fun h2 => ?_) (fun h2 => ?_)⟩) (fun h1 => ⟨_, rfl, ?_⟩)
      · have h2' : ¬ z.length ≤ 8 := fun n => by
          have e : (!decide ((z.length : Int) ≤ 8)) = true := h2
          rw [decide_eq_true (by omega)] at e
          cases e
        have w := q H (Same.refl H)
        rw [no fun n => h2' n.2] at w
        exact w
      · have l1 : 1 ≤ z.length := by
          have := of_decide_eq_true h1
          omega
        have l2 : z.length ≤ 8 := by
          by_cases n : (z.length : Int) ≤ 8
          · omega
          · exact absurd (by
              show (!decide ((z.length : Int) ≤ 8)) = true
              rw [decide_eq_false n]
              rfl) h2
        refine ⟨_, rfl, z, rfl, fun D hD => ?_⟩
        refine lc_it (J := Its z) walk_str (fun j H5 => Same H H5 ∧ H5 D = some (.lst ((((TL.tl z).take j).map fun c => decide (97 ≤ c) && decide (c ≤ 122)).map V.bl))) ⟨gSame_new hD, upd_same⟩ (fun _ _ _ _ => trivial) (fun j y H5 H5' hj hP hy => ?_) (fun H5 hP => ?_)
        · obtain ⟨s5, d5⟩ := hP
          obtain ⟨rfl, c, hc, rfl⟩ := hy
          have hcl : (TL.tl z)[j]? = some c := by
            show z.cps.toList[j]? = some c
            rw [Array.getElem?_toList]
            exact hc
          have fin : ∀ b : Bool, b = (decide (97 ≤ c) && decide (c ≤ 122)) → ∃ acc, H5' D = some (.lst acc) ∧ acc.length < sizeLine ∧ Same H (upd H5' D (.lst (acc ++ [.bl b]))) ∧ (upd H5' D (.lst (acc ++ [.bl b]))) D = some (.lst ((((TL.tl z).take (j + 1)).map fun c => decide (97 ≤ c) && decide (c ≤ 122)).map V.bl)) := by
            intro b hb
            refine ⟨_, d5, ?_, gSame_mut s5 hD, ?_⟩
            · have := TL.len_tl z
              rw [List.length_map, List.length_map, List.length_take]
              exact small1000 (by omega)
            · rw [upd_same, List.take_add_one, hcl, List.map_append, List.map_append, hb]
              rfl
          refine ⟨rfl, _, rfl, _, _, rfl, rfl, _, rfl, ite2 (fun g1 => ⟨_, _, rfl, rfl, fin _ ?_⟩) (fun g1 => fin _ ?_)⟩
          · have g1' : ¬ c < 97 := by
              have e : (!decide (([c] : List Nat) < [97])) = true := g1
              rw [lt_abc] at e
              simpa using e
            show (!decide (([122] : List Nat) < [c])) = _
            rw [lt_abc]
            by_cases u : 122 < c
            · simp [u, show ¬ c ≤ 122 by omega]
            · simp [u, show c ≤ 122 by omega, show 97 ≤ c by omega]
          · have g1' : c < 97 := by
              by_cases u : c < 97
              · exact u
              · refine absurd ?_ g1
                show (!decide (([c] : List Nat) < [97])) = true
                rw [lt_abc, decide_eq_false u]
                rfl
            simp [show ¬ 97 ≤ c by omega]
        · obtain ⟨s5, d5⟩ := hP
          have e : (TL.tl z).take z.cps.size = TL.tl z := List.take_of_length_le (by
            show z.cps.toList.length ≤ z.cps.size
            rw [Array.length_toList]
            exact Nat.le_refl _)
          rw [e] at d5
          refine ⟨D, _, rfl, SqL.of d5, ?_⟩
          have w := q H5 s5
          have e2 : isW z = ((TL.tl z).map fun c => decide (97 ≤ c) && decide (c ≤ 122)).all id := by
            unfold isW
            rw [decide_eq_true l1, decide_eq_true l2, List.all_map]
            rfl
          rw [e2] at w
          exact w
      · have h1' : ¬ 1 ≤ z.length := fun n => h1 (decide_eq_true (by omega))
        have w := q H (Same.refl H)
        rw [no fun n => h1' n.1] at w
        exact w
    · refine ⟨_, rfl, x, .ty "str", t, _, false, rfl, .ty "str", ht, hk, _, rfl, ?_⟩
      exact q H (Same.refl H)
theorem ok_is_names {f fN : Addr} {fd fdN : FuncData} {tl : Tok} (B : Blt mg) (C_MAX_NAMES : mg "MAX_NAMES" = some (.int 16 tl)) (D_is_name : Df K mg "is_name" s_is_name ["value"] fN fdN) (G_is_name : FnOk P w K mg base CX0 1 fN fdN ["value"] (spIsName K))
    (D : Df K mg "is_names" s_is_names ["value"] f fd) : FnOk P w K mg base CX0 2 f fd ["value"] (spIsNames K) := by
  refine D.F.ok sc_is_names (fun vs H Q E h => ?_) (fun cdv A outer s H vs Q E hr h => ?_)
  · obtain ⟨x, b, rfl, _⟩ := h
    rfl
  · obtain ⟨x, b, rfl, hN, q⟩ := h
    refine ⟨_, (pss_cons (ps_if (PW.pt (pw_or (pt_not (pt_val (pe_callB call_isi (by rfl) B.isinstance_ (by decide +kernel) (pa_cons (pv 0) (pa_cons (pe_bltn (v := .ty "tuple") rfl B.tuple_ (by decide +kernel) rfl) pa_nil))) (by intro _; rfl))) (pw_or1 (pt_cmpR op_gt (pe_callB call_len_seq (by rfl) B.len_ (by decide +kernel) (pa_cons (pv 0) pa_nil)) (pe_glob (v := .int 16) rfl C_MAX_NAMES ⟨_, rfl⟩) (nomark _)))))
    (pss_one (ps_ret pe_bl)) pss_nil)
    (pss_one (ps_ret (pe_and (pe_callB (cr_all rfl) (by rfl) B.all_ (by decide +kernel) (pa_cons (pe_lc (own := [("name", 1)]) (g := gName 1) (tt := tYes) (by rfl) sc_is_names.nd (pi_tup (pv 0)) (blkOk_by (N := ["value", "name"]) (sc := defScope s_is_names) (by decide +kernel)) (fun _ _ _ _ _ => (pg_name (i := 1) sc_is_names.nd rfl (Or.inl rfl))) (fun _ _ _ _ _ => pts_nil) (fun _ _ _ _ _ => (pe_call G_is_name (hr.mono (by decide)) (by rfl) D_is_name.g D_is_name.F.kp D_is_name.b .nil pass0 (pa_cons (pv 1) pa_nil)))) pa_nil)) (pe_one (pe_cmpR op_eq (pe_lenSetA (by rfl) (by rfl) B.len_ (by rfl) B.set_ (pv 0)) (pe_callB call_len_seq (by rfl) B.len_ (by decide +kernel) (pa_cons (pv 0) pa_nil)) (nomark _))))))), ?_⟩
    rcases hN with ⟨a, xs, bs, rfl, hS, hT, hP, rfl⟩ | ⟨rfl, t, ht, hk⟩
    · refine ⟨_, rfl, .ref a, .ty "tuple", _, _, true, rfl, .ty "tuple", hT, kit_ty (by decide +kernel), _, rfl, ?_⟩
      refine ⟨_, rfl, a, xs, rfl, .inr hS, _, _, rfl, rfl, _, rfl, ite2 (fun h1 => ?_) (fun h1 => ?_)⟩
      · have h1' : ¬ xs.length ≤ 16 := by
          have := of_decide_eq_true h1
          omega
        have w := q H (Same.refl H)
        rw [decide_eq_false h1'] at w
        exact w
      · have l1 : xs.length ≤ 16 := by
          by_cases n : (16 : Int) < xs.length
          · exact absurd (decide_eq_true n) h1
          · omega
        rw [decide_eq_true l1, Bool.true_and] at q
        refine ⟨_, rfl, a, rfl, ⟨xs, hS⟩, fun D hD => ?_⟩
        refine lc_tup (K := K) (a := a) (xs := xs) (fun j H5 => Same H H5 ∧ H5 D = some (.lst ((bs.take j).map V.bl))) ⟨gSame_new hD, upd_same⟩ (fun j H5 _ h5 => gSeqT h5.1 hS) (fun j x H5 hx h5 => ?_) (fun H5 h5 => ?_)
        · obtain ⟨s5, d5⟩ := h5
          obtain ⟨b, hb, hn⟩ := paired_get hP hx
          refine ⟨rfl, _, rfl, x, b, rfl, hn.same s5, fun H6 s6 => ⟨_, s6 _ _ d5, ?_, gSame_mut (s5.trans s6) hD, ?_⟩⟩
          · rw [List.length_map, List.length_take]
            have := hP.length
            exact small1000 (by omega)
          · rw [upd_same, List.take_add_one, hb, List.map_append]
            rfl
        · obtain ⟨s5, d5⟩ := h5
          have e : bs.take xs.length = bs := List.take_of_length_le (Nat.le_of_eq hP.length.symm)
          rw [e] at d5
          refine ⟨D, bs, rfl, SqL.of d5, _, rfl, ?_⟩
          cases hall : bs.all id with
          | false =>
            rw [hall] at q
            exact q H5 s5
          | true =>
            obtain ⟨ss, rfl, hw⟩ := nms_strs hP hall
            rw [hall] at q
            refine ⟨_, rfl, a, ss, rfl, .inr (gSeqT s5 hS), ?_, _, rfl, a, _, rfl, .inr (gSeqT s5 hS), rfl, ?_⟩
            · rw [List.length_map] at l1
              omega
            · have w := q H5 s5
              rw [decide_eq_decide.mpr (nd_strs ss), ← Gs.dst_all ss] at w
              have e2 : decide (V.int (Gs.dst ss ss.length) = V.int ((ss.map V.str).length : Int)) = decide (Gs.dst ss ss.length = ss.length) := by
                rw [List.length_map]
                refine decide_eq_decide.mpr ⟨fun z => ?_, fun z => by rw [z]⟩
                have := V.int.inj z
                omega
              rw [e2]
              exact w
    · refine ⟨_, rfl, x, .ty "tuple", t, _, false, rfl, .ty "tuple", ht, hk, _, rfl, ?_⟩
      exact q H (Same.refl H)
end
end Gk

set_option Elab.async false
set_option linter.all false
set_option maxRecDepth 100000
set_option maxHeartbeats 8000000
namespace Gk
open PySem PySem.Spec PyProof.Rows L2
abbrev s_is_integer : Stmt := topS 4
theorem sc_is_integer : FnScope ["value"] ["value"] (defScope s_is_integer) := ⟨rfl, rfl, rfl, by decide +kernel, rfl, by decide +kernel, by decide +kernel⟩
abbrev s_law_is_name : Stmt := topS 13
theorem sc_law_is_name : FnScope ["value", "sign"] ["value"] (defScope s_law_is_name) := ⟨rfl, rfl, rfl, by decide +kernel, rfl, by decide +kernel, by decide +kernel⟩
abbrev s_law_is_names : Stmt := topS 14
theorem sc_law_is_names : FnScope ["value", "one"] ["value"] (defScope s_law_is_names) := ⟨rfl, rfl, rfl, by decide +kernel, rfl, by decide +kernel, by decide +kernel⟩
abbrev s_near : Stmt := topS 15
theorem sc_near : FnScope ["tape", "name", "at", "sign", "odd"] ["tape", "name"] (defScope s_near) := ⟨rfl, rfl, rfl, by decide +kernel, rfl, by decide +kernel, by decide +kernel⟩
abbrev s_cell_right : Stmt := topS 16
theorem sc_cell_right : FnScope ["tape", "name", "turn", "value", "names", "odd"] ["tape"] (defScope s_cell_right) := ⟨rfl, rfl, rfl, by decide +kernel, rfl, by decide +kernel, by decide +kernel⟩
abbrev s_integers_right : Stmt := topS 17
theorem sc_integers_right : FnScope ["tape", "many", "value", "odd"] ["tape"] (defScope s_integers_right) := ⟨rfl, rfl, rfl, by decide +kernel, rfl, by decide +kernel, by decide +kernel⟩
abbrev s_law : Stmt := topS 18
theorem sc_law : FnScope ["script", "at", "tape", "told", "many", "due", "value"] ["script"] (defScope s_law) := ⟨rfl, rfl, rfl, by decide +kernel, rfl, by decide +kernel, by decide +kernel⟩
theorem isW_abc {z : Str} : isW z = (!decide (z = "") && (!decide (8 < z.length) && decide ((TL.tl z).filter (fun c => decide (c ∉ TL.tl abc)) = []))) := by
  have hab : ∀ c, c ∈ TL.tl abc ↔ 97 ≤ c ∧ c ≤ 122 := by
    have e : TL.tl abc = List.range' 97 26 := by decide +kernel
    intro c
    rw [e, List.mem_range'_1]
    omega
  rw [Bool.eq_iff_iff]
  simp only [Bool.and_eq_true, Bool.not_eq_true', decide_eq_false_iff_not, decide_eq_true_eq, List.filter_eq_nil_iff, Decidable.not_not]
  constructor
  · intro h
    obtain ⟨l1, l8⟩ := isW_len h
    refine ⟨fun e => ?_, by omega, fun c hc => (hab c).mpr (isW_let h c hc)⟩
    rw [e] at l1
    have : ("" : Str).length = 0 := by decide +kernel
    omega
  · rintro ⟨h1, h2, h3⟩
    refine isW_mk ?_ (by omega) fun c hc => (hab c).mp (h3 c hc)
    cases hz : z.length with
    | zero =>
      refine absurd (TL.ext_tl ?_) h1
      have e : TL.tl z = [] := List.length_eq_zero_iff.mp (by rw [← TL.len_tl, hz])
      rw [e]
      decide +kernel
    | succ n => omega
section
variable {P : Program} {w : World} {K : PySem.W.Frag} {mg : Str → Option Value} {base : Heap}
theorem ok_is_integer {f : Addr} {fd : FuncData} {tg : Tok} (B : Blt mg) (C_TOO_GREAT : mg "TOO_GREAT" = some (.int 1000000000000000000000000000000000000000000000000000000000000 tg)) (D : Df K mg "is_integer" s_is_integer ["value"] f fd) : FnOk P w K mg base CX0 1 f fd ["value"] (spIsInt K) := by
  refine D.F.ok sc_is_integer (fun vs H Q E h => ?_) (fun cdv A outer s H vs Q E hr h => ?_)
  · obtain ⟨x, b, rfl, _⟩ := h
    rfl
  · obtain ⟨x, b, rfl, hV, q⟩ := h
    refine ⟨_, (pss_one (ps_ret (pe_and (pe_callB call_isi (by rfl) B.isinstance_ (by decide +kernel) (pa_cons (pv 0) (pa_cons (pe_bltn (v := .ty "int") rfl B.int_ (by decide +kernel) rfl) pa_nil))) (pe_and (pe_not (pe_callB call_isi (by rfl) B.isinstance_ (by decide +kernel) (pa_cons (pv 0) (pa_cons (pe_bltn (v := .ty "bool") rfl B.bool_ (by decide +kernel) rfl) pa_nil)))) (pe_one (pe_chain op_lt op_lt (pe_un un_neg (pe_glob (v := .int 1000000000000000000000000000000000000000000000000000000000000) rfl C_TOO_GREAT ⟨_, rfl⟩)) (pv 0) (pe_glob (v := .int 1000000000000000000000000000000000000000000000000000000000000) rfl C_TOO_GREAT ⟨_, rfl⟩))))))), ?_⟩
    rcases hV with ⟨i, rfl, rfl⟩ | ⟨⟨c, rfl⟩, rfl⟩ | ⟨rfl, t, ht, hk⟩
    · refine ⟨_, rfl, .int i, .ty "int", _, _, true, rfl, .ty "int", .base (.int i), kit_ty (by decide +kernel), _, rfl, ?_⟩
      refine ⟨_, rfl, .int i, .ty "bool", _, _, false, rfl, .ty "bool", .base (.int i), kit_ty (by decide +kernel), _, rfl, ?_⟩
      refine ⟨_, rfl, _, rfl, _, rfl, _, _, rfl, rfl, _, rfl, ?_⟩
      have e60 : (10 : Int) ^ 60 = 1000000000000000000000000000000000000000000000000000000000000 := by decide +kernel
      rw [e60] at q
      refine ite2 (fun hc => ?_) (fun hc => ?_)
      · rw [hc, Bool.true_and] at q
        exact ⟨_, _, rfl, rfl, q⟩
      · rw [Bool.not_eq_true] at hc
        rw [hc, Bool.false_and] at q
        exact q
    · refine ⟨_, rfl, .bl c, .ty "int", _, _, true, rfl, .ty "int", .base (.bl c), kit_ty (by decide +kernel), _, rfl, ?_⟩
      exact ⟨_, rfl, .bl c, .ty "bool", _, _, true, rfl, .ty "bool", .base (.bl c), kit_ty (by decide +kernel), _, rfl, _, rfl, q⟩
    · exact ⟨_, rfl, x, .ty "int", t, _, false, rfl, .ty "int", ht, hk, _, rfl, q⟩
theorem ok_law_is_name {f : Addr} {fd : FuncData} (B : Blt mg) (D : Df K mg "_law_is_name" s_law_is_name ["value"] f fd) : FnOk P w K mg base CX0 1 f fd ["value"] (spIsName K) := by
  refine D.F.ok sc_law_is_name (fun vs H Q E h => ?_) (fun cdv A outer s H vs Q E hr h => ?_)
  · obtain ⟨x, b, rfl, _⟩ := h
    rfl
  · obtain ⟨x, b, rfl, hV, q⟩ := h
    refine ⟨_, (pss_cons (ps_if (PW.pt (pw_or (pt_not (pt_val (pe_callB call_isi (by rfl) B.isinstance_ (by decide +kernel) (pa_cons (pv 0) (pa_cons (pe_bltn (v := .ty "str") rfl B.str_ (by decide +kernel) rfl) pa_nil))) (by intro _; rfl))) (pw_or (pt_cmpR op_eq (pv 0) pe_str (nomark _)) (pw_or1 (pt_cmpR op_gt (pe_callB call_len_str (by rfl) B.len_ (by decide +kernel) (pa_cons (pv 0) pa_nil)) pe_int (nomark _))))))
    (pss_one (ps_ret pe_bl)) pss_nil)
    (pss_one (ps_ret (pe_cmpR (op_eqE hr.units) (pe_lc (own := [("sign", 1)]) (g := gName 1)  (by rfl) sc_law_is_name.nd (pi_str (pv 0)) (blkOk_by (N := ["value", "sign"]) (sc := defScope s_law_is_name) (by decide +kernel)) (fun _ _ _ _ _ => (pg_name (i := 1) sc_law_is_name.nd rfl (Or.inl rfl))) (fun _ _ _ _ _ => pts_one (pt_cmpR (op_notIn_seqK K rfl) (pv 1) (pe_callTy (call_listS rfl) (by rfl) B.list_ (by decide +kernel) (pa_cons pe_str pa_nil)) (by rfl))) (fun _ _ _ _ _ => (pv 1))) (pe_lst pa_nil) (nomark _))))), ?_⟩
    rcases hV with ⟨z, rfl, hl, rfl⟩ | ⟨rfl, t, ht, hk⟩
    · refine ⟨_, rfl, .str z, .ty "str", _, _, true, rfl, .ty "str", .base (.str z), kit_ty (by decide +kernel), _, rfl, ?_⟩
      rw [isW_abc] at q
      refine ⟨_, rfl, rfl, _, rfl, ?_⟩
      refine ite2 (fun hc => ?_) (fun hc => ?_)
      · have e : z = "" := V.str.inj (of_decide_eq_true hc)
        rw [decide_eq_true e] at q
        exact q H (Same.refl H)
      have e : ¬ z = "" := fun n => hc (decide_eq_true (by rw [n]))
      rw [decide_eq_false e] at q
      refine ⟨_, rfl, z, rfl, by rw [sizeLine_eq]; omega, _, _, rfl, rfl, _, rfl, ?_⟩
      refine ite2 (fun h8 => ?_) (fun h8 => ?_)
      · have h8' : 8 < z.length := by
          have := of_decide_eq_true h8
          omega
        rw [decide_eq_true h8'] at q
        exact q H (Same.refl H)
      have h8' : ¬ 8 < z.length := fun n => h8 (decide_eq_true (by omega))
      rw [decide_eq_false h8'] at q
      refine ⟨_, rfl, _, rfl, fun D hD => ?_⟩
      refine lc_it (J := Its z) walk_str (fun j H5 => Same H H5 ∧ H5 D = some (.lst (((((TL.tl z).take j).filter (fun c => decide (c ∉ TL.tl abc))).map sg).map V.str))) ⟨gSame_new hD, upd_same⟩ (fun _ _ _ _ => trivial) (fun j y H5 H5' hj hP hy => ?_) (fun H5 hP => ?_)
      · obtain ⟨s5, d5⟩ := hP
        obtain ⟨rfl, c, hc2, rfl⟩ := hy
        have hcl : (TL.tl z)[j]? = some c := by
          show z.cps.toList[j]? = some c
          rw [Array.getElem?_toList]
          exact hc2
        have tk : (TL.tl z).take (j + 1) = (TL.tl z).take j ++ [c] := by
          rw [List.take_add_one, hcl]
          rfl
        refine ⟨rfl, _, rfl, abc, rfl, by decide +kernel, fun l hl => ⟨l, _, rfl, .inl (SqL.of upd_same), rfl, by rw [signs_strs]; exact flat_strs _, _, rfl, ?_⟩⟩
        have s6 : Same H (upd H5' l (.lst (signs abc))) := s5.trans (gSame_new hl)
        have d6 : (upd H5' l (.lst (signs abc))) D = _ := gSame_new hl _ _ d5
        generalize upd H5' l (.lst (signs abc)) = H6 at s6 d6
        have ein : inV (V.str ⟨#[c]⟩) (signs abc) = decide (c ∈ TL.tl abc) := by
          rw [signs_strs]
          refine (inV_strs (sg c) _).trans (decide_eq_decide.mpr ⟨fun hm => ?_, fun hm => List.mem_map.mpr ⟨c, hm, rfl⟩⟩)
          obtain ⟨c', hm', e'⟩ := List.mem_map.mp hm
          exact sg_inj e' ▸ hm'
        rw [ein]
        refine ite2 (fun hin => ?_) (fun hin => ?_)
        · have hin' : c ∉ TL.tl abc := fun z => by
            have h : (!decide (c ∈ TL.tl abc)) = true := hin
            rw [decide_eq_true z] at h
            cases h
          refine ⟨_, rfl, _, d6, ?_, gSame_mut s6 hD, ?_⟩
          · rw [List.length_map, List.length_map]
            refine small1000 (Nat.le_trans (List.length_filter_le _ _) ?_)
            rw [List.length_take, ← TL.len_tl]
            omega
          · rw [upd_same, tk, List.filter_append, List.map_append, List.map_append]
            have e : [c].filter (fun c => decide (c ∉ TL.tl abc)) = [c] := List.filter_eq_self.mpr fun a ha => by rw [List.mem_singleton.mp ha]; exact decide_eq_true hin'
            rw [e]
            rfl
        · have hin' : c ∈ TL.tl abc := Classical.byContradiction fun z => hin (by
            show (!decide (c ∈ TL.tl abc)) = true
            rw [decide_eq_false z]
            rfl)
          refine ⟨s6, ?_⟩
          have e : [c].filter (fun c => decide (c ∉ TL.tl abc)) = [] := List.filter_eq_nil_iff.mpr fun a ha h => by rw [List.mem_singleton.mp ha] at h; exact of_decide_eq_true h hin'
          rw [tk, List.filter_append, e, List.append_nil]
          exact d6
      · obtain ⟨s5, d5⟩ := hP
        have tk : (TL.tl z).take z.cps.size = TL.tl z := List.take_of_length_le (Nat.le_of_eq (TL.len_tl z).symm)
        rw [tk] at d5
        refine ⟨Nat.zero_le _, fun F hF => ⟨D, F, _, rfl, rfl, SqL.of (gSame_new hF _ _ d5), SqL.of upd_same, ?_⟩⟩
        have w := q _ (s5.trans (gSame_new (o := .lst []) hF))
        have e2 : ∀ l : List Nat, ((l.map sg).map V.str).isEmpty = decide (l = []) := fun l => by cases l <;> rfl
        rw [e2]
        exact w
    · exact ⟨_, rfl, x, .ty "str", t, _, false, rfl, .ty "str", ht, hk, _, rfl, q H (Same.refl H)⟩
theorem ok_law_is_names {f fN : Addr} {fd fdN : FuncData} (B : Blt mg) (D_law_is_name : Df K mg "_law_is_name" s_law_is_name ["value"] fN fdN) (G_law_is_name : FnOk P w K mg base CX0 1 fN fdN ["value"] (spIsName K))
    (D : Df K mg "_law_is_names" s_law_is_names ["value"] f fd) : FnOk P w K mg base CX0 2 f fd ["value"] (spIsNames K) := by
  refine D.F.ok sc_law_is_names (fun vs H Q E h => ?_) (fun cdv A outer s H vs Q E hr h => ?_)
  · obtain ⟨x, b, rfl, _⟩ := h
    rfl
  · obtain ⟨x, b, rfl, hV, q⟩ := h
    refine ⟨_, (pss_cons (ps_if (PW.pt (pw_or (pt_not (pt_val (pe_callB call_isi (by rfl) B.isinstance_ (by decide +kernel) (pa_cons (pv 0) (pa_cons (pe_bltn (v := .ty "tuple") rfl B.tuple_ (by decide +kernel) rfl) pa_nil))) (by intro _; rfl))) (pw_or (pt_cmpR op_gt (pe_callB call_len_seq (by rfl) B.len_ (by decide +kernel) (pa_cons (pv 0) pa_nil)) pe_int (nomark _)) (pw_or1 (pt_cmpR (op_neE hr.units) (pe_lc (own := [("one", 1)]) (g := gName 1)  (by rfl) sc_law_is_names.nd (pi_tup (pv 0)) (blkOk_by (N := ["value", "one"]) (sc := defScope s_law_is_names) (by decide +kernel)) (fun _ _ _ _ _ => (pg_name (i := 1) sc_law_is_names.nd rfl (Or.inl rfl))) (fun _ _ _ _ _ => pts_one (pt_not (pt_val (pe_call G_law_is_name (hr.mono (by decide)) (by rfl) D_law_is_name.g D_law_is_name.F.kp D_law_is_name.b .nil pass0 (pa_cons (pv 1) pa_nil)) (by intro _; rfl)))) (fun _ _ _ _ _ => (pv 1))) (pe_lst pa_nil) (nomark _))))))
    (pss_one (ps_ret pe_bl)) pss_nil)
    (pss_one (ps_ret (pe_cmpR (op_eqD hr.units) (pe_sortSet (by rfl) (by rfl) B.sorted_ (by rfl) B.set_ (pv 0)) (pe_callB cr_sortTS (by rfl) B.sorted_ (by decide +kernel) (pa_cons (pv 0) pa_nil)) (nomark _))))), ?_⟩
    rcases hV with ⟨a, xs, bs, rfl, hS, hT, hP, rfl⟩ | ⟨rfl, t, ht, hk⟩
    · refine ⟨_, rfl, .ref a, .ty "tuple", _, _, true, rfl, .ty "tuple", hT, kit_ty (by decide +kernel), _, rfl, ?_⟩
      refine ⟨_, rfl, a, xs, rfl, .inr hS, _, _, rfl, rfl, _, rfl, ?_⟩
      refine ite2 (fun h1 => ?_) (fun h1 => ?_)
      · have h1' : ¬ xs.length ≤ 16 := by
          have := of_decide_eq_true h1
          omega
        rw [decide_eq_false h1'] at q
        exact q H (Same.refl H)
      have l1 : xs.length ≤ 16 := by
        by_cases n : (16 : Int) < xs.length
        · exact absurd (decide_eq_true n) h1
        · omega
      rw [decide_eq_true l1, Bool.true_and] at q
      refine ⟨_, rfl, a, rfl, ⟨xs, hS⟩, fun D hD => ?_⟩
      refine lc_tup (K := K) (a := a) (xs := xs) (fun j H5 => Same H H5 ∧ ∃ ys, H5 D = some (.lst ys) ∧ ys.length ≤ j ∧ ys.isEmpty = (bs.take j).all id) ⟨gSame_new hD, [], upd_same, Nat.zero_le _, rfl⟩ (fun j H5 _ h5 => gSeqT h5.1 hS) (fun j x H5 hx h5 => ?_) (fun H5 h5 => ?_)
      · obtain ⟨s5, ys, d5, ly, ey⟩ := h5
        obtain ⟨b, hb, hn⟩ := paired_get hP hx
        have tk : (bs.take (j + 1)).all id = ((bs.take j).all id && b) := by
          rw [List.take_add_one, hb, List.all_append]
          simp
        have hj : j < xs.length := (List.getElem?_eq_some_iff.mp hx).1
        refine ⟨rfl, _, rfl, x, b, rfl, hn.same s5, fun H6 s6 => ⟨_, rfl, ite2 (fun hb2 => ?_) (fun hb2 => ?_)⟩⟩
        · have e : b = false := by
            cases b
            · rfl
            · cases hb2
          refine ⟨_, rfl, ys, s6 _ _ d5, small1000 (by omega), gSame_mut (s5.trans s6) hD, ys ++ [x], upd_same, by rw [List.length_append]; exact Nat.succ_le_succ ly, ?_⟩
          rw [tk, e, Bool.and_false]
          simp
        · have e : b = true := by
            cases b
            · exact absurd rfl hb2
            · rfl
          refine ⟨s5.trans s6, ys, s6 _ _ d5, by omega, ?_⟩
          rw [tk, e, Bool.and_true, ey]
      · obtain ⟨s5, ys, d5, ly, ey⟩ := h5
        have e : bs.take xs.length = bs := List.take_of_length_le (Nat.le_of_eq hP.length.symm)
        rw [e] at ey
        refine ⟨Nat.zero_le _, fun F hF => ⟨D, F, ys, rfl, rfl, SqL.of (gSame_new hF _ _ d5), SqL.of upd_same, _, rfl, ?_⟩⟩
        have s6 : Same H (upd H5 F (.lst [])) := s5.trans (gSame_new hF)
        generalize upd H5 F (.lst []) = H6 at s6
        rw [ey]
        cases hall : bs.all id with
        | false =>
          rw [hall] at q
          exact q H6 s6
        | true =>
          obtain ⟨ss, rfl, hw⟩ := nms_strs hP hall
          rw [hall] at q
          rw [List.length_map] at l1
          have hS6 := gSeqT s6 hS
          refine ⟨_, rfl, a, ss, rfl, .inr hS6, by omega, fun y1 p1 hy1 hn1 hm1 hp1 => ?_⟩
          refine ⟨_, rfl, a, ss, rfl, gSeqT (gSame_new hp1) hS6, fun y2 p2 pm2 hy2 hp2 => ?_⟩
          have w1 : ∀ z ∈ y1, isW z = true := fun z hz => hw z ((hm1 z).mp hz)
          have w2 : ∀ z ∈ y2, isW z = true := fun z hz => hw z (pm2.mem_iff.mp hz)
          refine eqLS (ss := y1) (ts := y2) (.of w1) (.of w2) (SqL.of ((gSame_new hp2) _ _ upd_same)) (SqL.of upd_same) ?_
          have w := q _ (s6.trans ((gSame_new hp1).trans (gSame_new (o := .lst (y2.map V.str)) hp2)))
          rw [decide_eq_decide.mpr (nd_strs ss)] at w
          rw [set_sorted hy1 hn1 hm1 hy2 pm2]
          exact w
    · exact ⟨_, rfl, x, .ty "tuple", t, _, false, rfl, .ty "tuple", ht, hk, _, rfl, q H (Same.refl H)⟩
def spNear (K : PySem.W.Frag) : Sp := fun vs H Q _ => ∃ (t : Addr) (z : Str), vs = [.ref t, .str z] ∧ Tp H t ∧ isW z = true ∧ ∀ (y : V) (b : Bool) (H' : Hp), NmV K H' y b → Kt t H H' → Q y H'
theorem len_cutS (z : Str) (lo hi : Option Int) : (cutS z lo hi).length ≤ z.length := cutS_length z lo hi
theorem ok_near {f fR fP : Addr} {fd fdR fdP : FuncData} (B : Blt mg) (D_roll : Df K mg "_law_roll" s_roll ["tape", "total"] fR fdR) (G_roll : FnOk P w K mg base CX0 1 fR fdR ["tape", "total"] spRoll)
    (D_pick : Df K mg "_law_pick" s_pick ["tape", "items"] fP fdP) (G_pick : FnOk P w K mg base CX0 2 fP fdP ["tape", "items"] (spPick K))
    (D : Df K mg "_law_near" s_near ["tape", "name"] f fd) : FnOk P w K mg base CX0 3 f fd ["tape", "name"] (spNear K) := by
  refine D.F.ok sc_near (fun vs H Q E h => ?_) (fun cdv A outer s H vs Q E hr h => ?_)
  · obtain ⟨t, z, rfl, _⟩ := h
    rfl
  · obtain ⟨t, z, rfl, hT, hz, q⟩ := h
    obtain ⟨l1, l8⟩ := isW_len hz
    have lz : z.length ≤ sizeLine := by rw [sizeLine_eq]; omega
    have ls : ∀ n : Nat, n ≤ 1000 → n ≤ sizeLine := fun n hn => by rw [sizeLine_eq]; omega
    refine ⟨_, (pss_cons (ps_set (i := 2) sc_near.nd rfl (Or.inl rfl) (pe_call G_roll (hr.mono (by decide)) (by rfl) D_roll.g D_roll.F.kp D_roll.b .nil pass0 (pa_cons (pv 0) (pa_cons (pe_op op_add (pe_callB call_len_str (by rfl) B.len_ (by decide +kernel) (pa_cons (pv 1) pa_nil)) pe_int) pa_nil))))
    (pss_cons (ps_set (i := 3) sc_near.nd rfl (Or.inl rfl) (pe_call G_pick (hr.mono (by decide)) (by rfl) D_pick.g D_pick.F.kp D_pick.b .nil pass0 (pa_cons (pv 0) (pa_cons (pe_lst (pa_cons pe_str (pa_cons pe_str (pa_cons pe_str (pa_cons pe_str (pa_cons pe_str (pa_cons pe_str (pa_cons pe_str (pa_cons pe_str (pa_cons pe_str (pa_cons pe_str (pa_cons pe_str (pa_cons pe_str pa_nil))))))))))))) pa_nil))))
    (pss_cons (ps_set (i := 4) sc_near.nd rfl (Or.inl rfl) (pe_lst (pa_cons (pe_op op_add_str (pe_op op_add_str (pe_slice sl_str (pv 1) po_none (po_some (pv 2))) (pv 3)) (pe_slice sl_str (pv 1) (po_some (pv 2)) po_none)) (pa_cons (pe_upper (pv 1)) (pa_cons (pe_op op_add_str (pv 1) (pv 1)) (pa_cons (pe_tup (pa_cons (pv 1) pa_nil)) (pa_cons (pe_lst (pa_cons (pv 1) pa_nil)) (pa_cons pe_non (pa_cons (pe_callB call_len_str (by rfl) B.len_ (by decide +kernel) (pa_cons (pv 1) pa_nil)) (pa_cons pe_str (pa_cons (pe_slice sl_str (pv 1) (po_some pe_int) po_none) pa_nil)))))))))))
    (pss_one (ps_ret (pe_call G_pick (hr.mono (by decide)) (by rfl) D_pick.g D_pick.F.kp D_pick.b .nil pass0 (pa_cons (pv 0) (pa_cons (pe_op op_cat (pv 4) (pe_lst (pa_cons (pe_op op_add_str (pv 1) pe_str) (pa_cons (pe_op op_add_str (pv 1) pe_str) (pa_cons (pe_disp (pps_cons (pv 1) (pv 1) pps_nil) (by rfl) (by rfl) (fun z => by cases z) (by decide)) (pa_cons (pe_op op_add_str (pv 1) pe_str) (pa_cons (pe_op op_add_str pe_str (pv 1)) pa_nil))))))) pa_nil)))))))), ?_⟩
    refine ⟨_, rfl, _, rfl, z, rfl, lz, _, _, rfl, rfl, t, _, rfl, hT, by omega, by omega, fun r H1 r0 r1 k1 => ?_⟩
    refine ⟨_, rfl, by show 12 ≤ sizeLine; decide, fun p hp => ⟨t, .ref p, _, rfl, (Kt.new k1.tp hp).tp, .inl ⟨p, rfl, Kt.ne k1.tp hp, .inl (SqL.of upd_same)⟩, by decide, by decide, fun y H2 hy k2 => ?_⟩⟩
    have k2 : Kt t H H2 := k1.trans ((Kt.new k1.tp hp).trans k2)
    obtain ⟨sn, hsn, rfl⟩ : ∃ sn : Str, sn.length ≤ 1 ∧ y = .str sn := by
      have hy' : y ∈ ([Str.ofString "A", Str.ofString "Z", Str.ofString "{", Str.ofString "`", Str.ofString " ", Str.ofString "-", Str.ofString "_", Str.ofString "0", Str.ofString "a", Str.ofString "z", Str.ofString "", Str.ofString "\n"] : List Str).map V.str := hy
      obtain ⟨sn, hs, rfl⟩ := List.mem_map.mp hy'
      have hall : (([Str.ofString "A", Str.ofString "Z", Str.ofString "{", Str.ofString "`", Str.ofString " ", Str.ofString "-", Str.ofString "_", Str.ofString "0", Str.ofString "a", Str.ofString "z", Str.ofString "", Str.ofString "\n"] : List Str).all fun s => decide (s.length ≤ 1)) = true := by decide +kernel
      exact ⟨sn, of_decide_eq_true (List.all_eq_true.mp hall sn hs), rfl⟩
    have c1 := len_cutS z none (some r)
    have c2 := len_cutS z (some r) none
    have c3 := len_cutS z (some 1) none
    have lu := PyProof.Rows.len_upper z
    have e8 : (Str.ofString "aaaaaaaa").length = 8 := by decide +kernel
    have e1 : (Str.ofString " ").length = 1 := by decide +kernel
    have en : (Str.ofString "\n").length = 1 := by decide +kernel
    refine ⟨_, rfl, _, rfl, _, rfl, z, rfl, lz, _, rfl, _, _, rfl, rfl, ls _ (by omega), _, rfl, _, rfl, _, rfl, z, rfl, lz, _, _, rfl, rfl, ls _ (by rw [Str.length_append]; omega), ?_⟩
    refine ⟨_, rfl, ⟨_, rfl⟩, z, rfl, rfl, by omega, _, rfl, _, rfl, _, _, rfl, rfl, ls _ (by omega), ?_⟩
    refine ⟨_, rfl, ls 1 (by decide), fun tu htu => ⟨_, rfl, ls 1 (by decide), fun li hli => ?_⟩⟩
    have ntu : tu ≠ t := Kt.ne k2.tp htu
    have stu : Same H2 (upd H2 tu (.tup [.str z])) := gSame_new htu
    have etu : (upd H2 tu (.tup [.str z])) tu = some (.tup [.str z]) := upd_same
    generalize upd H2 tu (.tup [.str z]) = H3 at stu etu hli ⊢
    have k3 : Kt t H H3 := k2.trans (Kt.same k2.tp stu)
    have nli : li ≠ t := Kt.ne k3.tp hli
    have sli : Same H3 (upd H3 li (.lst [.str z])) := gSame_new hli
    have eli : (upd H3 li (.lst [.str z])) li = some (.lst [.str z]) := upd_same
    generalize upd H3 li (.lst [.str z]) = H4 at sli eli ⊢
    have k4 : Kt t H H4 := k3.trans (Kt.same k3.tp sli)
    refine ⟨_, rfl, z, rfl, lz, _, rfl, _, rfl, z, rfl, lz, ls 9 (by decide), fun od hod => ?_⟩
    have sod : Same H4 (upd H4 od (.lst [.str (cutS z none (some r) ++ sn ++ cutS z (some r) none), .str (Txt.upper z), .str (z ++ z), .ref tu, .ref li, .non, .int z.length, .str (Str.ofString ""), .str (cutS z (some 1) none)])) := gSame_new hod
    have eod : (upd H4 od (.lst [.str (cutS z none (some r) ++ sn ++ cutS z (some r) none), .str (Txt.upper z), .str (z ++ z), .ref tu, .ref li, .non, .int z.length, .str (Str.ofString ""), .str (cutS z (some 1) none)])) od = some (.lst [.str (cutS z none (some r) ++ sn ++ cutS z (some r) none), .str (Txt.upper z), .str (z ++ z), .ref tu, .ref li, .non, .int z.length, .str (Str.ofString ""), .str (cutS z (some 1) none)]) := upd_same
    generalize upd H4 od (.lst [.str (cutS z none (some r) ++ sn ++ cutS z (some r) none), .str (Txt.upper z), .str (z ++ z), .ref tu, .ref li, .non, .int z.length, .str (Str.ofString ""), .str (cutS z (some 1) none)]) = H5 at sod eod ⊢
    have k5 : Kt t H H5 := k4.trans (Kt.same k4.tp sod)
    refine ⟨_, rfl, _, rfl, _, rfl, _, _, rfl, rfl, ls _ (by omega), _, rfl, _, _, rfl, rfl, ls _ (by omega), fun dd hdd => ⟨_, rfl, _, rfl, upd_same, [(Sum.inr z, .str z)], rfl, (by show 1 ≤ 15; decide), ?_⟩⟩
    have ndd : dd ≠ t := Kt.ne k5.tp hdd
    have sdd : Same H5 (upd (upd H5 dd (.dK [])) dd (.dK (mergeK [] [(Sum.inr z, .str z)]))) := gSame_mut (gSame_new hdd) hdd
    have edd : (upd (upd H5 dd (.dK [])) dd (.dK (mergeK [] [(Sum.inr z, .str z)]))) dd = some (.dK (mergeK [] [(Sum.inr z, .str z)])) := upd_same
    generalize upd (upd H5 dd (.dK [])) dd (.dK (mergeK [] [(Sum.inr z, .str z)])) = H6 at sdd edd ⊢
    have k6 : Kt t H H6 := k5.trans (Kt.same k5.tp sdd)
    refine ⟨_, rfl, _, _, rfl, rfl, ls _ (by omega), _, rfl, _, _, rfl, rfl, ls _ (by omega), ls 5 (by decide), fun l2 hl2 => ?_⟩
    have sl2 : Same H6 (upd H6 l2 (.lst [.str (z ++ Str.ofString "aaaaaaaa"), .str (z ++ Str.ofString " "), .ref dd, .str (z ++ Str.ofString "\n"), .str (Str.ofString "\n" ++ z)])) := gSame_new hl2
    have el2 : (upd H6 l2 (.lst [.str (z ++ Str.ofString "aaaaaaaa"), .str (z ++ Str.ofString " "), .ref dd, .str (z ++ Str.ofString "\n"), .str (Str.ofString "\n" ++ z)])) l2 = some (.lst [.str (z ++ Str.ofString "aaaaaaaa"), .str (z ++ Str.ofString " "), .ref dd, .str (z ++ Str.ofString "\n"), .str (Str.ofString "\n" ++ z)]) := upd_same
    generalize upd H6 l2 (.lst [.str (z ++ Str.ofString "aaaaaaaa"), .str (z ++ Str.ofString " "), .ref dd, .str (z ++ Str.ofString "\n"), .str (Str.ofString "\n" ++ z)]) = H7 at sl2 el2 ⊢
    have k7 : Kt t H H7 := k6.trans (Kt.same k6.tp sl2)
    refine ⟨od, l2, _, _, rfl, rfl, sl2 _ _ (sdd _ _ eod), el2, ls 14 (by decide), fun pq hpq => ⟨t, .ref pq, _, rfl, (Kt.new k7.tp hpq).tp, .inl ⟨pq, rfl, Kt.ne k7.tp hpq, .inl (SqL.of upd_same)⟩, Nat.zero_lt_succ _, by show 14 < 100000; decide, fun y H9 hy k9 => ?_⟩⟩
    have k9 : Kt t H7 H9 := (Kt.new k7.tp hpq).trans k9
    have s48 : Same H4 H7 := sod.trans (sdd.trans sl2)
    have atu : H9 tu = _ := k9.kp _ _ ntu (s48 _ _ (sli _ _ etu))
    have ali : H9 li = _ := k9.kp _ _ nli (s48 _ _ eli)
    have add : H9 dd = _ := k9.kp _ _ ndd (sl2 _ _ edd)
    have k9 : Kt t H H9 := k7.trans k9
    have tx : ∀ u : Str, u.length ≤ 1000 → Q (.str u) H9 := fun u hu => q _ _ _ (.of (by omega)) k9
    simp only [List.mem_append, List.mem_cons, List.not_mem_nil, or_false, List.cons_append, List.nil_append] at hy
    rcases hy with rfl | rfl | rfl | rfl | rfl | rfl | rfl | rfl | rfl | rfl | rfl | rfl | rfl | rfl
    · exact tx _ (by rw [Str.length_append, Str.length_append]; omega)
    · exact tx _ (by omega)
    · exact tx _ (by rw [Str.length_append]; omega)
    · exact q _ _ _ (.tup atu) k9
    · exact q _ _ _ (.lst ali) k9
    · exact q _ _ _ .non k9
    · exact q _ _ _ (.int _) k9
    · exact tx _ (by decide +kernel)
    · exact tx _ (by omega)
    · exact tx _ (by rw [Str.length_append]; omega)
    · exact tx _ (by rw [Str.length_append]; omega)
    · exact q _ _ _ (.dK add) k9
    · exact tx _ (by rw [Str.length_append]; omega)
    · exact tx _ (by rw [Str.length_append]; omega)
end
end Gk

set_option Elab.async false
set_option linter.all false
set_option maxRecDepth 100000
set_option maxHeartbeats 8000000
namespace Gk
open PySem PySem.Spec PyProof.Rows L2
theorem lots7 {y : V} (h : y ∈ [V.int 0, .int 1, .int 2, .int 3, .int 15, .int 16, .int 17]) : ∃ n : Nat, y = .int n ∧ n ≤ 17 := by
  simp only [List.mem_cons, List.not_mem_nil, or_false] at h
  rcases h with h | h | h | h | h | h | h
  · exact ⟨0, h, by decide⟩
  · exact ⟨1, h, by decide⟩
  · exact ⟨2, h, by decide⟩
  · exact ⟨3, h, by decide⟩
  · exact ⟨15, h, by decide⟩
  · exact ⟨16, h, by decide⟩
  · exact ⟨17, h, by decide⟩
section
variable {P : Program} {w : World} {K : PySem.W.Frag} {mg : Str → Option Value} {base : Heap}
def spCell : Sp := fun vs H Q _ => ∃ t : Addr, vs = [.ref t] ∧ Tp H t ∧ ∀ H', Kt t H H' → Q (.bl true) H'
theorem nmsT {H : Hp} {a : Addr} {xs : List V} {bs : List Bool} (e : H a = some (.tup xs)) (h : Paired (NmV K H) xs bs) : ∃ b, NmsV K H (.ref a) b := ⟨_, .inl ⟨a, xs, bs, rfl, SqT.of e, .base (.tup e), h, rfl⟩⟩
theorem pairApp {H : Hp} : ∀ {xs : List V} {bs : List Bool} {ys : List V} {cs : List Bool}, Paired (NmV K H) xs bs → Paired (NmV K H) ys cs → Paired (NmV K H) (xs ++ ys) (bs ++ cs)
  | _, _, _, _, .nil, h => h
  | _, _, _, _, .cons a r, h => .cons a (pairApp r h)
theorem nmsS {H : Hp} {a : Addr} {ss : List Str} (e : H a = some (.tup (ss.map V.str))) (h : ∀ s ∈ ss, s.length ≤ 100000) : ∃ b, NmsV K H (.ref a) b := nmsT e (pair_strs h)
theorem nmsX {H : Hp} {a : Addr} {ss : List Str} {y : V} {b : Bool} (e : H a = some (.tup (ss.map V.str ++ [y]))) (h : ∀ s ∈ ss, s.length ≤ 100000) (hy : NmV K H y b) : ∃ b, NmsV K H (.ref a) b := nmsT e (pairApp (pair_strs h) (.cons hy .nil))
theorem ok_cell_right {f f1 f2 f3 f4 f5 f6 f7 f8 : Addr} {fd d1 d2 d3 d4 d5 d6 d7 d8 : FuncData} (B : Blt mg)
    (D_word_drawn : Df K mg "_law_word_drawn" s_word_drawn ["tape"] f1 d1) (G_word_drawn : FnOk P w K mg base CX0 3 f1 d1 ["tape"] spWord)
    (D_words_drawn : Df K mg "_law_words_drawn" s_words_drawn ["tape", "lots"] f2 d2) (G_words_drawn : FnOk P w K mg base CX0 4 f2 d2 ["tape", "lots"] spWords)
    (D_pick : Df K mg "_law_pick" s_pick ["tape", "items"] f3 d3) (G_pick : FnOk P w K mg base CX0 2 f3 d3 ["tape", "items"] (spPick K))
    (D_near : Df K mg "_law_near" s_near ["tape", "name"] f4 d4) (G_near : FnOk P w K mg base CX0 3 f4 d4 ["tape", "name"] (spNear K))
    (D_is_name : Df K mg "is_name" s_is_name ["value"] f5 d5) (G_is_name : FnOk P w K mg base CX0 1 f5 d5 ["value"] (spIsName K))
    (D_is_names : Df K mg "is_names" s_is_names ["value"] f6 d6) (G_is_names : FnOk P w K mg base CX0 2 f6 d6 ["value"] (spIsNames K))
    (D_law_is_name : Df K mg "_law_is_name" s_law_is_name ["value"] f7 d7) (G_law_is_name : FnOk P w K mg base CX0 1 f7 d7 ["value"] (spIsName K))
    (D_law_is_names : Df K mg "_law_is_names" s_law_is_names ["value"] f8 d8) (G_law_is_names : FnOk P w K mg base CX0 2 f8 d8 ["value"] (spIsNames K))
    (D : Df K mg "_law_cell_right" s_cell_right ["tape"] f fd) : FnOk P w K mg base CX0 5 f fd ["tape"] spCell := by
  refine D.F.ok sc_cell_right (fun vs H Q E h => ?_) (fun cdv A outer s H vs Q E hr h => ?_)
  · obtain ⟨t, rfl, _⟩ := h
    rfl
  · obtain ⟨t, rfl, hT, q⟩ := h
    refine ⟨_, (pss_cons (ps_set (i := 1) sc_cell_right.nd rfl (Or.inl rfl) (pe_call G_word_drawn (hr.mono (by decide)) (by rfl) D_word_drawn.g D_word_drawn.F.kp D_word_drawn.b .nil pass0 (pa_cons (pv 0) pa_nil)))
    (pss_cons (ps_for PassesOwn.never rfl (pi_range1 (by rfl) B.range (pa_cons pe_int pa_nil)) (pg_name (i := 2) sc_cell_right.nd rfl (Or.inl rfl))
    (pss_cons (ps_set (i := 3) sc_cell_right.nd rfl (Or.inl rfl) (pe_ifExp (pt_cmpR op_gt (pv 2) pe_int (nomark _)) (pe_call G_near (hr.mono (by decide)) (by rfl) D_near.g D_near.F.kp D_near.b .nil pass0 (pa_cons (pv 0) (pa_cons (pv 1) pa_nil))) (pv 1)))
    (pss_one (ps_if (pt_cmpR op_ne (pe_callB call_repr_bl (by rfl) B.repr_ (by decide +kernel) (pa_cons (pe_call G_is_name (hr.mono (by decide)) (by rfl) D_is_name.g D_is_name.F.kp D_is_name.b .nil pass0 (pa_cons (pv 3) pa_nil)) pa_nil)) (pe_callB call_repr_bl (by rfl) B.repr_ (by decide +kernel) (pa_cons (pe_call G_law_is_name (hr.mono (by decide)) (by rfl) D_law_is_name.g D_law_is_name.F.kp D_law_is_name.b .nil pass0 (pa_cons (pv 3) pa_nil)) pa_nil)) (nomark _))
    (pss_one (ps_ret pe_bl)) pss_nil))))
    (pss_cons (ps_set (i := 4) sc_cell_right.nd rfl (Or.inl rfl) (pe_call G_words_drawn (hr.mono (by decide)) (by rfl) D_words_drawn.g D_words_drawn.F.kp D_words_drawn.b .nil pass0 (pa_cons (pv 0) (pa_cons (pe_call G_pick (hr.mono (by decide)) (by rfl) D_pick.g D_pick.F.kp D_pick.b .nil pass0 (pa_cons (pv 0) (pa_cons (pe_lstN (pa_cons pe_int (pa_cons pe_int (pa_cons pe_int (pa_cons pe_int (pa_cons pe_int (pa_cons pe_int (pa_cons pe_int pa_nil)))))))) pa_nil))) pa_nil))))
    (pss_cons (ps_set (i := 5) sc_cell_right.nd rfl (Or.inl rfl) (pe_lstN (pa_cons (pe_callTy call_tupN (by rfl) B.tuple_ (by decide +kernel) (pa_cons (pv 4) pa_nil)) (pa_cons (pv 4) (pa_cons (pe_callTy call_tupN (by rfl) B.tuple_ (by decide +kernel) (pa_cons (pe_op op_catN (pv 4) (pe_slice sl_listN (pv 4) po_none (po_some pe_int))) pa_nil)) (pa_cons (pe_callTy call_tupN (by rfl) B.tuple_ (by decide +kernel) (pa_cons (pe_op op_catN (pv 4) (pe_lstN (pa_cons (pe_call G_near (hr.mono (by decide)) (by rfl) D_near.g D_near.F.kp D_near.b .nil pass0 (pa_cons (pv 0) (pa_cons (pv 1) pa_nil))) pa_nil))) pa_nil)) (pa_cons (pe_callTy call_tupN (by rfl) B.tuple_ (by decide +kernel) (pa_cons (pe_slice sl_listN (pv 4) (po_some pe_int) po_none) pa_nil)) pa_nil)))))))
    (pss_cons (ps_set (i := 5) sc_cell_right.nd rfl (Or.inl rfl) (pe_op op_catN (pv 5) (pe_lstN (pa_cons (pe_callTy call_tupN (by rfl) B.tuple_ (by decide +kernel) (pa_cons (pe_op op_catN (pv 4) (pe_lstN (pa_cons pe_non pa_nil))) pa_nil)) (pa_cons (pe_callTy call_tupN (by rfl) B.tuple_ (by decide +kernel) (pa_cons (pe_op op_catN (pv 4) (pe_lstN (pa_cons (pe_lstN (pa_cons pe_str pa_nil)) pa_nil))) pa_nil)) (pa_cons (pe_join pe_str (pv 4)) (pa_cons pe_dnewN (pa_cons pe_non (pa_cons pe_int (pa_cons (pe_tupN (pa_cons (pe_callTy call_tupN (by rfl) B.tuple_ (by decide +kernel) (pa_cons (pv 4) pa_nil)) pa_nil)) pa_nil))))))))))
    (pss_cons (ps_for PassesOwn.never rfl (pi_list (pv 5)) (pg_name (i := 3) sc_cell_right.nd rfl (Or.inl rfl))
    (pss_one (ps_if (pt_cmpR op_ne (pe_callB call_repr_bl (by rfl) B.repr_ (by decide +kernel) (pa_cons (pe_call G_is_names (hr.mono (by decide)) (by rfl) D_is_names.g D_is_names.F.kp D_is_names.b .nil pass0 (pa_cons (pv 3) pa_nil)) pa_nil)) (pe_callB call_repr_bl (by rfl) B.repr_ (by decide +kernel) (pa_cons (pe_call G_law_is_names (hr.mono (by decide)) (by rfl) D_law_is_names.g D_law_is_names.F.kp D_law_is_names.b .nil pass0 (pa_cons (pv 3) pa_nil)) pa_nil)) (nomark _))
    (pss_one (ps_ret pe_bl)) pss_nil)))
    (pss_one (ps_ret pe_bl)))))))), ?_⟩
    refine ⟨_, rfl, t, rfl, hT, fun z H1 hz k1 => ?_⟩
    obtain ⟨l1, l8⟩ := isW_len hz
    refine ⟨_, rfl, by decide, by decide, ?_⟩
    refine for_range (lo := 0) (fun i σ H2 => Kt t H H2 ∧ ∃ b2 b3 : Option V, σ = [some (.ref t), some (.str z), b2, b3, none, none]) ⟨k1, none, none, rfl⟩ (fun i σ H2 hi hP => ?_) (fun σ H2 hP => ?_)
    · obtain ⟨k2, b2, b3, rfl⟩ := hP
      refine ⟨_, rfl, _, _, rfl, rfl, _, rfl, ?_⟩
      refine meetR (fun v H3 => Kt t H H3 ∧ ∃ b, NmV K H3 v b) (fun c Q qq => ?_) (fun c Q qq => ?_) (fun v H3 hv => ?_)
      · exact ⟨_, rfl, _, rfl, t, z, rfl, k2.tp, hz, fun y b H3 hN k3 => qq _ _ ⟨k2.trans k3, b, hN⟩⟩
      · exact ⟨_, rfl, qq _ _ ⟨k2, _, .of (by omega)⟩⟩
      · obtain ⟨k3, b, hN⟩ := hv
        refine ⟨_, rfl, v, b, rfl, hN, fun H4 s4 => ⟨b, rfl, _, rfl, v, b, rfl, hN.same s4, fun H5 s5 => ⟨b, rfl, rfl, _, rfl, ?_⟩⟩⟩
        rw [decide_eq_true rfl]
        exact ⟨k3.trans (Kt.same k3.tp (s4.trans s5)), _, _, rfl⟩
    · obtain ⟨k2, b2, b3, rfl⟩ := hP
      have ls : ∀ n : Nat, n ≤ 1000 → n ≤ sizeLine := fun n hn => by rw [sizeLine_eq]; omega
      refine ⟨_, rfl, _, rfl, by show 7 ≤ sizeLine; decide, fun p H3 hp ep sp => ⟨t, .ref p, _, rfl, (k2.trans (Kt.same k2.tp sp)).tp, .inl ⟨p, rfl, Kt.ne k2.tp hp, .inl (SqL.of ep)⟩, by decide, by decide, fun y H4 hy k4 => ?_⟩⟩
      obtain ⟨n, rfl, hn⟩ := lots7 hy
      have k4 : Kt t H H4 := (k2.trans (Kt.same k2.tp sp)).trans k4
      refine ⟨t, n, rfl, k4.tp, by omega, by omega, fun nm ws H5 hl hw hnd hnm e5 k5 => ?_⟩
      have k5 : Kt t H H5 := k4.trans k5
      have hlw : ws.length ≤ 17 := by omega
      have wl : ∀ s ∈ ws, s.length ≤ 100000 := fun s hs => Nat.le_trans (isW_len (hw s hs)).2 (by decide)
      have lm : (ws.map V.str).length = ws.length := List.length_map ..
      have ec1 : cutV (ws.map V.str) none (some 1) = (ws.take 1).map V.str := cut_to V.str ws 1
      have ec2 : cutV (ws.map V.str) (some 1) none = (ws.drop 1).map V.str := cut_from V.str ws 1
      -- odd
      refine ⟨_, rfl, nm, _, rfl, SqL.of e5, fun m1 H6 _ eM1 s6 => ?_⟩
      refine ⟨_, rfl, _, rfl, _, rfl, _, rfl, nm, _, rfl, SqL.of (s6 _ _ e5), fun p1 H7 _ eP1 s7 => ?_⟩
      rw [ec1] at eP1
      refine ⟨nm, p1, _, _, rfl, rfl, s7 _ _ (s6 _ _ e5), eP1, ls _ (by rw [lm, List.length_map, List.length_take]; omega), fun p2 H8 _ eP2 s8 => ⟨p2, _, rfl, SqL.of eP2, fun m2 H9 _ eM2 s9 => ?_⟩⟩
      have s59 : Same H5 H9 := s6.trans (s7.trans (s8.trans s9))
      have k9 : Kt t H H9 := k5.trans (Kt.same k5.tp s59)
      have e9 := s59 _ _ e5
      have eM1 := (s7.trans (s8.trans s9)) _ _ eM1
      refine ⟨_, rfl, _, rfl, _, rfl, t, z, rfl, k9.tp, hz, fun y b HA hN kA => ?_⟩
      have eA := kA.strs k9.tp e9
      have eM1 := kA.tup k9.tp eM1
      have eM2 := kA.tup k9.tp eM2
      have kA : Kt t H HA := k9.trans kA
      refine ⟨ls 1 (by decide), fun p3 HB _ eP3 sB => ⟨nm, p3, _, _, rfl, rfl, sB _ _ eA, eP3, ls _ (by rw [lm]; show ws.length + 1 ≤ 1000; omega), fun p4 HC _ eP4 sC => ⟨p4, _, rfl, SqL.of eP4, fun m3 HD _ eM3 sD => ?_⟩⟩⟩
      have sAD : Same HA HD := sB.trans (sC.trans sD)
      refine ⟨_, rfl, _, rfl, nm, _, rfl, SqL.of (sAD _ _ eA), fun p5 HE _ eP5 sE => ⟨p5, _, rfl, SqL.of eP5, fun m4 HF _ eM4 sF => ⟨ls 5 (by decide), fun od HG _ eOd sG => ?_⟩⟩⟩
      rw [ec2] at eM4
      have sAG : Same HA HG := sAD.trans (sE.trans (sF.trans sG))
      -- odd + ..
      refine ⟨_, rfl, _, rfl, ls 1 (by decide), fun p6 HH _ eP6 sH => ⟨nm, p6, _, _, rfl, rfl, sH _ _ (sAG _ _ eA), eP6, ls _ (by rw [lm]; show ws.length + 1 ≤ 1000; omega), fun p7 HI _ eP7 sI => ⟨p7, _, rfl, SqL.of eP7, fun m5 HJ _ eM5 sJ => ?_⟩⟩⟩
      have sAJ : Same HA HJ := sAG.trans (sH.trans (sI.trans sJ))
      refine ⟨_, rfl, ls 1 (by decide), fun la HK _ eLa sK => ⟨ls 1 (by decide), fun lb HL _ eLb sL => ⟨nm, lb, _, _, rfl, rfl, sL _ _ (sK _ _ (sAJ _ _ eA)), eLb, ls _ (by rw [lm]; show ws.length + 1 ≤ 1000; omega), fun p8 HM _ eP8 sM => ⟨p8, _, rfl, SqL.of eP8, fun m6 HN _ eM6 sN => ?_⟩⟩⟩⟩
      have sAN : Same HA HN := sAJ.trans (sK.trans (sL.trans (sM.trans sN)))
      have e0 : (Str.ofString "").length = 0 := by decide +kernel
      have sum := sum8 ws hw
      refine ⟨⟨_, rfl⟩, _, rfl, _, nm, ws, rfl, rfl, .inl (SqL.of (sAN _ _ eA)), by rw [e0]; omega, fun d HO _ eD sO => ?_⟩
      have sAO : Same HA HO := sAN.trans sO
      refine ⟨_, rfl, nm, _, rfl, SqL.of (sAO _ _ eA), fun m7 HP _ eM7 sP => ⟨ls 1 (by decide), fun tu HQ _ eTu sQ => ⟨ls 7 (by decide), fun l7 HR _ eL7 sR => ⟨od, l7, _, _, rfl, rfl, (sH.trans (sI.trans (sJ.trans (sK.trans (sL.trans (sM.trans (sN.trans (sO.trans (sP.trans (sQ.trans sR)))))))))) _ _ eOd, eL7, ls 12 (by decide), fun o2 HS _ eO2 sS => ?_⟩⟩⟩⟩
      have sQS : Same HQ HS := sR.trans sS
      have sPS : Same HP HS := sQ.trans sQS
      have sOS : Same HO HS := sP.trans sPS
      have sNS : Same HN HS := sO.trans sOS
      have sKS : Same HK HS := sL.trans (sM.trans (sN.trans sNS))
      have sJS : Same HJ HS := sK.trans sKS
      have sFS : Same HF HS := sG.trans (sH.trans (sI.trans (sJ.trans sJS)))
      have sDS : Same HD HS := sE.trans (sF.trans sFS)
      have sAS : Same HA HS := sAD.trans sDS
      rw [← List.map_append] at eM2
      have hall : ∀ x ∈ ([.ref m1, .ref nm, .ref m2, .ref m3, .ref m4] ++ [.ref m5, .ref m6, .str (Txt.join (Str.ofString "") ws), .ref d, .non, .int 5, .ref tu] : List V), ∃ b, NmsV K HS x b := by
        intro x hx
        simp only [List.mem_append, List.mem_cons, List.not_mem_nil, or_false] at hx
        rcases hx with (rfl | rfl | rfl | rfl | rfl) | (rfl | rfl | rfl | rfl | rfl | rfl | rfl)
        · exact nmsS (sAS _ _ eM1) wl
        · exact ⟨_, .lst (sAS _ _ eA)⟩
        · exact nmsS (sAS _ _ eM2) fun s hs => (List.mem_append.mp hs).elim (wl s) fun h => wl s (List.mem_of_mem_take h)
        · exact nmsX (sDS _ _ eM3) wl (hN.same sAS)
        · exact nmsS (sFS _ _ eM4) fun s hs => wl s (List.mem_of_mem_drop hs)
        · exact nmsX (sJS _ _ eM5) wl .non
        · exact nmsX (sNS _ _ eM6) wl (.lst (sKS _ _ eLa))
        · exact ⟨_, .txt _⟩
        · exact ⟨_, .dK (sOS _ _ eD)⟩
        · exact ⟨_, .non⟩
        · exact ⟨_, .int _⟩
        · exact nmsT (sQS _ _ eTu) (.cons (.tup (sPS _ _ eM7)) .nil)
      have kS : Kt t H HS := kA.trans (Kt.same kA.tp sAS)
      refine ⟨_, rfl, o2, rfl, ⟨_, SqL.of eO2⟩, ?_⟩
      refine for_list (K := K) (a := o2) (fun i σ H2 => Same HS H2 ∧ ∃ b2 b3 : Option V, σ = [some (.ref t), some (.str z), b2, b3, some (.ref nm), some (.ref o2)]) ⟨Same.refl _, _, _, rfl⟩ (fun i σ H2 _ h2 => SqL.of (h2.1 _ _ eO2)) (fun i x σ H2 hx hP => ?_) (fun σ H2 hP => ?_)
      · obtain ⟨s2, b2, b3, rfl⟩ := hP
        obtain ⟨b, hN⟩ := hall x (List.mem_of_getElem? hx)
        have hN := hN.same s2
        refine ⟨_, rfl, x, b, rfl, hN, fun H4 s4 => ⟨b, rfl, _, rfl, x, b, rfl, hN.same s4, fun H5 s5 => ⟨b, rfl, rfl, _, rfl, ?_⟩⟩⟩
        rw [decide_eq_true rfl]
        exact ⟨s2.trans (s4.trans s5), _, _, rfl⟩
      · obtain ⟨s2, b2, b3, rfl⟩ := hP
        exact q _ (kS.trans (Kt.same kS.tp s2))
theorem lots5 {y : V} (h : y ∈ [V.int 1, .int (-1), .int (10 ^ Int.toNat 54), .int (-(10 ^ Int.toNat 54)), .int (10 ^ Int.toNat 55)]) : ∃ v : Int, y = .int v ∧ v.natAbs < 2 ^ 190 := by
  simp only [List.mem_cons, List.not_mem_nil, or_false] at h
  rcases h with h | h | h | h | h
  · exact ⟨_, h, by decide +kernel⟩
  · exact ⟨_, h, by decide +kernel⟩
  · exact ⟨_, h, by decide +kernel⟩
  · exact ⟨_, h, by decide +kernel⟩
  · exact ⟨_, h, by decide +kernel⟩
theorem ok_integers_right {f f1 f2 f3 : Addr} {fd d1 d2 d3 : FuncData} (B : Blt mg)
    (D_roll : Df K mg "_law_roll" s_roll ["tape", "total"] f1 d1) (G_roll : FnOk P w K mg base CX0 1 f1 d1 ["tape", "total"] spRoll)
    (D_pick : Df K mg "_law_pick" s_pick ["tape", "items"] f2 d2) (G_pick : FnOk P w K mg base CX0 2 f2 d2 ["tape", "items"] (spPick K))
    (D_is_integer : Df K mg "is_integer" s_is_integer ["value"] f3 d3) (G_is_integer : FnOk P w K mg base CX0 1 f3 d3 ["value"] (spIsInt K))
    (D : Df K mg "_law_integers_right" s_integers_right ["tape"] f fd) : FnOk P w K mg base CX0 3 f fd ["tape"] spCell := by
  refine D.F.ok sc_integers_right (fun vs H Q E h => ?_) (fun cdv A outer s H vs Q E hr h => ?_)
  · obtain ⟨t, rfl, _⟩ := h
    rfl
  · obtain ⟨t, rfl, hT, q⟩ := h
    refine ⟨_, (pss_cons (ps_set (i := 1) sc_integers_right.nd rfl (Or.inl rfl) (pe_op op_mulW (pe_call G_roll (hr.mono (by decide)) (by rfl) D_roll.g D_roll.F.kp D_roll.b .nil pass0 (pa_cons (pv 0) (pa_cons (pe_op op_powW pe_int pe_int) pa_nil))) (pe_call G_pick (hr.mono (by decide)) (by rfl) D_pick.g D_pick.F.kp D_pick.b .nil pass0 (pa_cons (pv 0) (pa_cons (pe_lstN (pa_cons pe_int (pa_cons (pe_un un_neg pe_int) (pa_cons (pe_op op_powW pe_int pe_int) (pa_cons (pe_un un_neg (pe_op op_powW pe_int pe_int)) (pa_cons (pe_op op_powW pe_int pe_int) pa_nil)))))) pa_nil)))))
    (pss_cons (ps_for PassesOwn.never rfl (pi_list (pe_lstN (pa_cons (pv 1) (pa_cons (pe_op op_sub (pe_op op_powW pe_int pe_int) pe_int) (pa_cons (pe_op op_powW pe_int pe_int) (pa_cons (pe_op op_sub pe_int (pe_op op_powW pe_int pe_int)) (pa_cons (pe_un un_neg (pe_op op_powW pe_int pe_int)) (pa_cons pe_int (pa_cons (pe_op op_mulW (pe_op op_powW pe_int pe_int) (pe_op op_powW pe_int pe_int)) pa_nil))))))))) (pg_name (i := 2) sc_integers_right.nd rfl (Or.inl rfl))
    (pss_one (ps_if (pt_cmpR op_ne (pe_callB call_repr_bl (by rfl) B.repr_ (by decide +kernel) (pa_cons (pe_call G_is_integer (hr.mono (by decide)) (by rfl) D_is_integer.g D_is_integer.F.kp D_is_integer.b .nil pass0 (pa_cons (pv 2) pa_nil)) pa_nil)) (pe_callB call_repr_bl (by rfl) B.repr_ (by decide +kernel) (pa_cons (pe_chain op_lt op_lt (pe_un un_neg (pe_op op_powW pe_int pe_int)) (pv 2) (pe_op op_powW pe_int pe_int)) pa_nil)) (nomark _))
    (pss_one (ps_ret pe_bl)) pss_nil)))
    (pss_cons (ps_set (i := 3) sc_integers_right.nd rfl (Or.inl rfl) (pe_lstN (pa_cons pe_bl (pa_cons pe_bl (pa_cons pe_non (pa_cons pe_str (pa_cons (pe_tupN (pa_cons pe_int pa_nil)) (pa_cons (pe_lstN (pa_cons pe_int pa_nil)) (pa_cons pe_dnewN (pa_cons (pe_tupN pa_nil) (pa_cons pe_str (pa_cons (pe_callTy call_str_int (by rfl) B.str_ (by decide +kernel) (pa_cons (pv 1) pa_nil)) pa_nil))))))))))))
    (pss_one (ps_ret (pe_cmpR (op_eqD hr.units) (pe_lc (own := [("value", 2)]) (g := gName 2)  (by rfl) sc_integers_right.nd (pi_list (pv 3)) (blkOk_by (N := ["tape", "many", "value", "odd"]) (sc := defScope s_integers_right) (by decide +kernel)) (fun _ _ _ _ _ => (pg_name (i := 2) sc_integers_right.nd rfl (Or.inl rfl))) (fun _ _ _ _ _ => pts_one (pt_cmpR op_notBl (pe_call G_is_integer (hr.mono (by decide)) (by rfl) D_is_integer.g D_is_integer.F.kp D_is_integer.b .nil pass0 (pa_cons (pv 2) pa_nil)) pe_bl (nomark _))) (fun _ _ _ _ _ => (pv 2))) (pe_lstN pa_nil) (nomark _))))))), ?_⟩
    have ls : ∀ n : Nat, n ≤ 1000 → n ≤ sizeLine := fun n hn => by rw [sizeLine_eq]; omega
    refine ⟨_, rfl, _, _, rfl, rfl, c6, t, _, rfl, hT, by decide +kernel, by decide +kernel, fun r H1 r0 r1 k1 => ?_⟩
    refine ⟨_, rfl, _, rfl, _, _, rfl, rfl, c54, _, _, rfl, rfl, c54, _, rfl, _, _, rfl, rfl, c55, ls 5 (by decide), fun p H2 hp ep sp => ⟨t, .ref p, _, rfl, (k1.trans (Kt.same k1.tp sp)).tp, .inl ⟨p, rfl, Kt.ne k1.tp hp, .inl (SqL.of ep)⟩, by decide, by decide, fun y H3 hy k3 => ?_⟩⟩
    obtain ⟨v, rfl, hv⟩ := lots5 hy
    have k3 : Kt t H H3 := (k1.trans (Kt.same k1.tp sp)).trans k3
    have hr20 : r.natAbs < 2 ^ 20 := by
      have e6 : (10 : Int) ^ Int.toNat 6 = 1000000 := by decide +kernel
      rw [e6] at r1
      have e2 : (2 : Nat) ^ 20 = 1048576 := by decide
      omega
    have hM := wide_lt hr20 hv
    refine ⟨_, _, rfl, rfl, wide_mul hr20 hv (by decide) (by decide) (by decide), ?_⟩
    refine ⟨_, rfl, _, _, rfl, rfl, c60, _, _, rfl, rfl, _, _, rfl, rfl, c60, _, _, rfl, rfl, c60, _, _, rfl, rfl, _, _, rfl, rfl, c60, _, rfl, _, _, rfl, rfl, c60, _, _, rfl, rfl, c39, _, _, rfl, rfl, ?_, ls 7 (by decide), fun l H4 _ eL s4 => ⟨l, rfl, ⟨_, SqL.of eL⟩, ?_⟩⟩
    · exact wide_mul (a := 200) (b := 200) (by decide +kernel) (by decide +kernel) (by decide) (by decide) (by decide)
    have k4 : Kt t H H4 := k3.trans (Kt.same k3.tp s4)
    refine for_list (K := K) (a := l) (fun i σ H5 => Same H4 H5 ∧ ∃ b2 : Option V, σ = [some (.ref t), some (.int (r * v)), b2, none]) ⟨Same.refl _, _, rfl⟩ (fun i σ H5 _ h5 => SqL.of (h5.1 _ _ eL)) (fun i x σ H5 hx hP => ?_) (fun σ H5 hP => ?_)
    · obtain ⟨s5, b2, rfl⟩ := hP
      obtain ⟨u, rfl⟩ : ∃ u : Int, x = .int u := by
        have hx := List.mem_of_getElem? hx
        simp only [List.mem_cons, List.not_mem_nil, or_false] at hx
        rcases hx with rfl | rfl | rfl | rfl | rfl | rfl | rfl <;> exact ⟨_, rfl⟩
      refine ⟨_, rfl, .int u, _, rfl, .inl ⟨u, rfl, rfl⟩, _, rfl, ?_⟩
      refine ⟨_, _, rfl, rfl, c60, _, rfl, _, rfl, _, _, rfl, rfl, _, rfl, ?_⟩
      refine ite2 (fun h1 => ?_) (fun h1 => ?_)
      · refine ⟨_, _, rfl, rfl, c60, _, _, rfl, rfl, _, rfl, rfl, _, rfl, ?_⟩
        have e : (decide (-(10 ^ 60) < u) && decide (u < 10 ^ 60)) = decide (u < (10 : Int) ^ Int.toNat 60) := by
          have h1' : decide (-((10 : Int) ^ 60) < u) = true := h1
          rw [h1', Bool.true_and]
          rfl
        rw [e, decide_eq_true rfl]
        exact ⟨s5, _, rfl⟩
      · refine ⟨_, rfl, rfl, _, rfl, ?_⟩
        have e : (decide (-(10 ^ 60) < u) && decide (u < 10 ^ 60)) = false := by
          have h1' : decide (-((10 : Int) ^ 60) < u) = false := Bool.eq_false_iff.mpr h1
          rw [h1', Bool.false_and]
        rw [e]
        exact ⟨s5, _, rfl⟩
    · obtain ⟨s5, b2, rfl⟩ := hP
      have hlog : (r * v).natAbs.log2 < 1920 := Nat.lt_trans (PySem.Flt.log2_lt_of (by decide) hM) (by decide)
      refine ⟨ls 1 (by decide), fun a1 H6 _ e1 s6 => ⟨ls 1 (by decide), fun a2 H7 _ e2 s7 => fun a3 H8 _ e3 s8 => ⟨ls 0 (by decide), fun a4 H9 _ e4 s9 => ⟨_, rfl, r * v, rfl, hlog, ls 10 (by decide), fun od HA _ eO sA => ?_⟩⟩⟩⟩
      have s9A : Same H9 HA := sA
      have s8A : Same H8 HA := s9.trans sA
      have s7A : Same H7 HA := s8.trans s8A
      have s6A : Same H6 HA := s7.trans s7A
      have k5 : Kt t H HA := k4.trans (Kt.same k4.tp (s5.trans (s6.trans s6A)))
      refine ⟨_, rfl, od, rfl, ⟨_, SqL.of eO⟩, fun D hD => ?_⟩
      refine lc_list (K := K) (a := od) (fun j HB => Same HA HB ∧ HB D = some (.lst [])) ⟨gSame_new hD, upd_same⟩ (fun j HB _ h => SqL.of (h.1 _ _ eO)) (fun j x HB hx h => ?_) (fun HB h => ?_)
      · obtain ⟨sB, dB⟩ := h
        have hV : IntV K HA x false := by
          have hx := List.mem_of_getElem? hx
          simp only [List.mem_cons, List.not_mem_nil, or_false] at hx
          rcases hx with rfl | rfl | rfl | rfl | rfl | rfl | rfl | rfl | rfl | rfl
          · exact .bl _
          · exact .bl _
          · exact .non
          · exact .txt _
          · exact .tup (s6A _ _ e1)
          · exact .lst (s7A _ _ e2)
          · exact .dK (s8A _ _ e3)
          · exact .tup (s9A _ _ e4)
          · exact .txt _
          · exact .txt _
        exact ⟨rfl, _, rfl, x, false, rfl, hV.same sB, false, false, rfl, rfl, _, rfl, sB, dB⟩
      · obtain ⟨sB, dB⟩ := h
        refine ⟨ls 0 (by decide), fun F HC _ eF sC => eqLS (ss := []) (ts := []) rfl rfl (SqL.of (sC _ _ dB)) (SqL.of eF) ?_⟩
        exact q _ (k5.trans (Kt.same k5.tp (sB.trans sC)))
abbrev T8 : List Str := [Str.ofString "a", Str.ofString "abcdefgh", Str.ofString "abcdefghi", Str.ofString "", Str.ofString "A", Str.ofString "a1", Str.ofString "a b", Str.ofString "-"]
theorem lawTexts : T8.map isW = [true, true, false, false, false, false, false, false] := by decide +kernel
theorem lawAsk : isW (Str.ofString "ask\n") = false := by decide +kernel
abbrev seventeen : Str := "abcdefghijklmnopq"
theorem law17 : okNames ((TL.tl seventeen).map sg) = false := by decide +kernel
theorem law16 : okNames (((TL.tl seventeen).map sg).take 16) = true := by decide +kernel
theorem law0 : okNames [] = true := by decide +kernel
theorem lawAsk1 : okNames [Str.ofString "ask\n"] = false := by decide +kernel
theorem dpBools {H : Hp} : ∀ bs : List Bool, DpAll K H (bs.map V.bl) (bs.map PyData.bool)
  | [] => .nil
  | b :: r => .cons (.bl b) (dpBools r)
def spLaw (K : PySem.W.Frag) : Sp := fun vs H Q _ => ∃ (a : Addr) (ns : List Int), vs = [.ref a] ∧ SqL K H a (ns.map V.int) ∧ ns.length ≤ 63 ∧ ∀ H', Q (.bl true) H'
theorem ok_law {f f1 f2 f3 f4 f5 : Addr} {fd d1 d2 d3 d4 d5 : FuncData} {tl tn : Tok} (B : Blt mg) (C_MAX_LETTERS : mg "MAX_LETTERS" = some (.int 8 tl)) (C_MAX_NAMES : mg "MAX_NAMES" = some (.int 16 tn))
    (D_tape : Df K mg "_law_tape" s_tape ["script", "spot"] f1 d1) (G_tape : FnOk P w K mg base CX0 1 f1 d1 ["script", "spot"] (spTape K))
    (D_cell_right : Df K mg "_law_cell_right" s_cell_right ["tape"] f2 d2) (G_cell_right : FnOk P w K mg base CX0 5 f2 d2 ["tape"] spCell)
    (D_integers_right : Df K mg "_law_integers_right" s_integers_right ["tape"] f3 d3) (G_integers_right : FnOk P w K mg base CX0 3 f3 d3 ["tape"] spCell)
    (D_is_name : Df K mg "is_name" s_is_name ["value"] f4 d4) (G_is_name : FnOk P w K mg base CX0 1 f4 d4 ["value"] (spIsName K))
    (D_is_names : Df K mg "is_names" s_is_names ["value"] f5 d5) (G_is_names : FnOk P w K mg base CX0 2 f5 d5 ["value"] (spIsNames K))
    (D : Df K mg "law" s_law ["script"] f fd) : FnOk P w K mg base CX0 6 f fd ["script"] (spLaw K) := by
  refine D.F.ok sc_law (fun vs H Q E h => ?_) (fun cdv A outer s H vs Q E hr h => ?_)
  · obtain ⟨a, ns, rfl, _⟩ := h
    rfl
  · obtain ⟨a, ns, rfl, hS, hlen, q⟩ := h
    refine ⟨_, (pss_cons (ps_for PassesOwn.never rfl (pi_range1 (by rfl) B.range (pa_cons (pe_callB (call_max2 rfl) (by rfl) B.max_ (by decide +kernel) (pa_cons pe_int (pa_cons (pe_callB (call_min2 rfl) (by rfl) B.min_ (by decide +kernel) (pa_cons pe_int (pa_cons (pe_callB call_len_seq (by rfl) B.len_ (by decide +kernel) (pa_cons (pv 0) pa_nil)) pa_nil))) pa_nil))) pa_nil)) (pg_name (i := 1) sc_law.nd rfl (Or.inl rfl))
    (pss_cons (ps_set (i := 2) sc_law.nd rfl (Or.inl rfl) (pe_call G_tape (hr.mono (by decide)) (by rfl) D_tape.g D_tape.F.kp D_tape.b .nil pass0 (pa_cons (pv 0) (pa_cons (pv 1) pa_nil))))
    (pss_one (ps_if (PW.pt (pw_or (pt_not (pt_val (pe_call G_cell_right (hr.mono (by decide)) (by rfl) D_cell_right.g D_cell_right.F.kp D_cell_right.b .nil pass0 (pa_cons (pv 2) pa_nil)) (by intro _; rfl))) (pw_or1 (pt_not (pt_val (pe_call G_integers_right (hr.mono (by decide)) (by rfl) D_integers_right.g D_integers_right.F.kp D_integers_right.b .nil pass0 (pa_cons (pv 2) pa_nil)) (by intro _; rfl))))))
    (pss_one (ps_ret pe_bl)) pss_nil))))
    (pss_cons (ps_setLc (i := 3) (own := [("value", 6)]) (g := gName 6) (tt := tYes) (by rfl) sc_law.nd rfl rfl (sw_true rfl rfl rfl (by decide +kernel)) (pi_list (pe_lstN (pa_cons pe_str (pa_cons pe_str (pa_cons pe_str (pa_cons pe_str (pa_cons pe_str (pa_cons pe_str (pa_cons pe_str (pa_cons pe_str pa_nil)))))))))) (blkOk_by (N := ["script", "at", "tape", "told", "many", "due", "value"]) (sc := defScope s_law) (by decide +kernel)) (fun _ _ _ _ _ => (pg_name (i := 6) sc_law.nd rfl (Or.inl rfl))) (fun _ _ _ _ _ => pts_nil) (fun _ _ _ _ _ => (pe_call G_is_name (hr.mono (by decide)) (by rfl) D_is_name.g D_is_name.F.kp D_is_name.b .nil pass0 (pa_cons (pv 6) pa_nil))))
    (pss_cons (ps_set (i := 4) sc_law.nd rfl (Or.inl rfl) (pe_callTy call_tupN (by rfl) B.tuple_ (by decide +kernel) (pa_cons (pe_callTy (call_listSN rfl) (by rfl) B.list_ (by decide +kernel) (pa_cons pe_str pa_nil)) pa_nil)))
    (pss_cons (ps_set (i := 3) sc_law.nd rfl (Or.inl rfl) (pe_op op_catN (pv 3) (pe_lstN (pa_cons (pe_call G_is_names (hr.mono (by decide)) (by rfl) D_is_names.g D_is_names.F.kp D_is_names.b .nil pass0 (pa_cons (pe_slice sl_tupA (pv 4) po_none (po_some pe_int)) pa_nil)) (pa_cons (pe_call G_is_names (hr.mono (by decide)) (by rfl) D_is_names.g D_is_names.F.kp D_is_names.b .nil pass0 (pa_cons (pv 4) pa_nil)) (pa_cons (pe_call G_is_names (hr.mono (by decide)) (by rfl) D_is_names.g D_is_names.F.kp D_is_names.b .nil pass0 (pa_cons (pe_tupN pa_nil) pa_nil)) (pa_cons (pe_call G_is_name (hr.mono (by decide)) (by rfl) D_is_name.g D_is_name.F.kp D_is_name.b .nil pass0 (pa_cons pe_str pa_nil)) (pa_cons (pe_call G_is_names (hr.mono (by decide)) (by rfl) D_is_names.g D_is_names.F.kp D_is_names.b .nil pass0 (pa_cons (pe_tupN (pa_cons pe_str pa_nil)) pa_nil)) pa_nil))))))))
    (pss_cons (ps_set (i := 5) sc_law.nd rfl (Or.inl rfl) (pe_lstN (pa_cons pe_bl (pa_cons pe_bl (pa_cons pe_bl (pa_cons pe_bl (pa_cons pe_bl (pa_cons pe_bl (pa_cons pe_bl (pa_cons pe_bl (pa_cons pe_bl (pa_cons pe_bl (pa_cons pe_bl (pa_cons pe_bl (pa_cons pe_bl pa_nil)))))))))))))))
    (pss_one (ps_ret (pe_and (pe_cmpR (op_eqD hr.units) (pv 3) (pv 5) (nomark _)) (pe_one (pe_cmpR (op_eqD hr.units) (pe_lstN (pa_cons (pe_glob (v := .int 8) rfl C_MAX_LETTERS ⟨_, rfl⟩) (pa_cons (pe_glob (v := .int 16) rfl C_MAX_NAMES ⟨_, rfl⟩) pa_nil))) (pe_lstN (pa_cons pe_int (pa_cons pe_int pa_nil))) (nomark _))))))))))), ?_⟩
    have ls : ∀ n : Nat, n ≤ 1000 → n ≤ sizeLine := fun n hn => by rw [sizeLine_eq]; omega
    refine ⟨_, rfl, a, _, rfl, .inl hS, _, _, rfl, _, _, rfl, _, rfl, ?_, ?_, ?_⟩
    · split <;> split <;> omega
    · split <;> split <;> omega
    · refine for_range (lo := 0) (fun i σ H1 => Same H H1 ∧ ∃ b1 b2 : Option V, σ = [some (.ref a), b1, b2, none, none, none, none]) ⟨Same.refl H, _, _, rfl⟩ (fun i σ H1 hi hP => ?_) (fun σ H1 hP => ?_)
      · obtain ⟨s1, b1, b2, rfl⟩ := hP
        refine ⟨_, rfl, _, rfl, a, ns, _, rfl, s1.seq hS, by omega, fun t x y z ht => ?_⟩
        have hT2 : Tp (upd H1 t (.lst [.int x, .int y, .int z])) t := ⟨x, y, z, upd_same⟩
        have s2 : Same H1 (upd H1 t (.lst [.int x, .int y, .int z])) := gSame_new ht
        generalize upd H1 t (.lst [.int x, .int y, .int z]) = H2 at hT2 s2
        have back : ∀ H3, Kt t H2 H3 → Same H H3 := fun H3 k b o e => k.kp b o (ne_of_none (s1 _ _ e) ht) (s2 _ _ (s1 _ _ e))
        refine ⟨_, rfl, t, rfl, hT2, fun H3 k3 => ⟨_, rfl, _, rfl, t, rfl, k3.tp, fun H4 k4 => ⟨_, rfl, ?_⟩⟩⟩
        exact ⟨back _ (k3.trans k4), _, _, rfl⟩
      · obtain ⟨s1, b1, b2, rfl⟩ := hP
        dsimp only
        refine ⟨ls 8 (by decide), fun l8 H2 _ e8 s2 => ⟨l8, rfl, ⟨_, SqL.of e8⟩, fun D hD => ?_⟩⟩
        have e8' : H2 l8 = some (.lst (T8.map V.str)) := e8
        refine lc_list (K := K) (a := l8) (xs := T8.map V.str) (fun j H3 => Same H2 H3 ∧ H3 D = some (.lst (((T8.map isW).take j).map V.bl))) ⟨gSame_new hD, upd_same⟩ (fun j H3 _ h => SqL.of (h.1 _ _ e8')) (fun j x H3 hx h => ?_) (fun H3 h => ?_)
        · obtain ⟨s3, d3⟩ := h
          rw [List.getElem?_map] at hx
          cases hu : T8[j]? with
          | none =>
            rw [hu] at hx
            cases hx
          | some u =>
          rw [hu] at hx
          obtain rfl : V.str u = x := Option.some.inj hx
          have hj : j < 8 := (List.getElem?_eq_some_iff.mp hu).1
          have hul : u.length ≤ 100000 := by
            have hall : T8.all (fun s => decide (s.length ≤ 100000)) = true := by decide +kernel
            exact of_decide_eq_true (List.all_eq_true.mp hall u (List.mem_of_getElem? hu))
          refine ⟨rfl, _, rfl, .str u, _, rfl, .of hul, fun H4 s4 => ⟨_, s4 _ _ d3, ?_, gSame_mut (s3.trans s4) hD, ?_⟩⟩
          · rw [List.length_map, List.length_take]
            exact small1000 (by omega)
          · rw [upd_same, List.take_add_one, List.getElem?_map, hu, List.map_append]
            rfl
        · obtain ⟨s3, d3⟩ := h
          have d3 : H3 D = some (.lst ([true, true, false, false, false, false, false, false].map V.bl)) := by
            rw [d3, lawTexts]
            rfl
          refine ⟨seventeen, rfl, by decide +kernel, fun l H4 _ e4 s4 => ⟨l, _, rfl, SqL.of e4, fun m H5 _ e5 s5 => ?_⟩⟩
          rw [signs_strs] at e5
          refine ⟨_, rfl, _, rfl, _, rfl, ?_⟩
          refine slA_to (j := 16) e5 fun o1 H6 s6 e6 => ⟨.ref o1, true, rfl, .strsT (SqT.of e6) (.base (.tup e6)) law16, fun H7 s7 => ?_⟩
          have e7 := s7 _ _ (s6 _ _ e5)
          have n17 : NmsV K H7 (.ref m) false := by
            have h := NmsV.strs (K := K) e7 fun s hs => by
              obtain ⟨c, _, rfl⟩ := List.mem_map.mp hs
              show 1 ≤ 100000
              decide
            rw [law17] at h
            exact h
          refine ⟨_, rfl, .ref m, false, rfl, n17, fun H8 s8 => ⟨ls 0 (by decide), fun u0 H9 _ e9 s9 => ⟨.ref u0, true, rfl, .strsT (ss := []) (SqT.of e9) (.base (.tup e9)) law0, fun HA sA => ?_⟩⟩⟩
          have nAsk : NmV K HA (.str (Str.ofString "ask\n")) false := by
            have h := NmV.of (K := K) (H := HA) (z := Str.ofString "ask\n") (by decide +kernel)
            rw [lawAsk] at h
            exact h
          refine ⟨_, false, rfl, nAsk, fun HB sB => ⟨ls 1 (by decide), fun u2 HC _ eC sC => ?_⟩⟩
          have nAsk1 : NmsV K HC (.ref u2) false := by
            have h := NmsV.strs (K := K) (ss := [Str.ofString "ask\n"]) eC fun s hs => by
              rw [List.mem_singleton.mp hs]
              decide +kernel
            rw [lawAsk1] at h
            exact h
          refine ⟨.ref u2, false, rfl, nAsk1, fun HD sD => ⟨ls 5 (by decide), fun l5 HE _ eE sE => ⟨D, l5, _, _, rfl, rfl, (s4.trans (s5.trans (s6.trans (s7.trans (s8.trans (s9.trans (sA.trans (sB.trans (sC.trans (sD.trans sE)))))))))) _ _ d3, eE, ls 13 (by decide), fun t2 HF _ eF sF => ⟨ls 13 (by decide), fun du HG _ eG sG => ?_⟩⟩⟩⟩
          have eF' : HF t2 = some (.lst ([true, true, false, false, false, false, false, false, true, false, true, false, false].map V.bl)) := eF
          have eG' : HG du = some (.lst ([true, true, false, false, false, false, false, false, true, false, true, false, false].map V.bl)) := eG
          refine ⟨_, rfl, _, rfl, _, _, .lst (SqL.of (sG _ _ eF')) (dpBools _), .lst (SqL.of eG') (dpBools _), by decide +kernel, by decide +kernel, true, ?_, ?_⟩
          · exact congrArg V.bl (by decide +kernel)
          refine ⟨ls 2 (by decide), fun q1 HI _ eI sI => ⟨ls 2 (by decide), fun q2 HJ _ eJ sJ => ⟨_, _, .lst (SqL.of (sJ _ _ eI)) (.cons (.int 8) (.cons (.int 16) .nil)), .lst (SqL.of eJ) (.cons (.int 8) (.cons (.int 16) .nil)), by decide +kernel, by decide +kernel, ?_⟩⟩⟩
          have e1 : PyData.eqv (.list [.int 8, .int 16]) (.list [.int 8, .int 16]) = true := by decide +kernel
          rw [e1]
          exact q _
end
end Gk

set_option Elab.async false
set_option linter.all false
set_option maxRecDepth 100000
set_option maxHeartbeats 8000000
namespace Gk
open PySem PySem.Spec PyProof.Rows L2
theorem all_mk {P : Program} {w : World} {K : PySem.W.Frag} {h : Heap} {mg : Str → Option Value} {fa : Addr} (X : K.In h) (G : h.Ns mainGlobals mg) (hfa : mg "law" = some (.ref fa))
    {f_is_integer f_is_name f_is_names f_tape f_roll f_pick f_word_drawn f_words_drawn f_law_is_name f_law_is_names f_near f_cell_right f_integers_right f_law : Addr}
    {oc_is_integer kV_is_integer dc_is_integer pm_is_integer cd_is_integer ct_is_integer : Value} {od_is_integer an_is_integer : Option Addr} {sl_is_integer : Array (Option Value)}
    {oc_is_name kV_is_name dc_is_name pm_is_name cd_is_name ct_is_name : Value} {od_is_name an_is_name : Option Addr} {sl_is_name : Array (Option Value)}
    {oc_is_names kV_is_names dc_is_names pm_is_names cd_is_names ct_is_names : Value} {od_is_names an_is_names : Option Addr} {sl_is_names : Array (Option Value)}
    {oc_tape kV_tape dc_tape pm_tape cd_tape ct_tape : Value} {od_tape an_tape : Option Addr} {sl_tape : Array (Option Value)}
    {oc_roll kV_roll dc_roll pm_roll cd_roll ct_roll : Value} {od_roll an_roll : Option Addr} {sl_roll : Array (Option Value)}
    {oc_pick kV_pick dc_pick pm_pick cd_pick ct_pick : Value} {od_pick an_pick : Option Addr} {sl_pick : Array (Option Value)}
    {oc_word_drawn kV_word_drawn dc_word_drawn pm_word_drawn cd_word_drawn ct_word_drawn : Value} {od_word_drawn an_word_drawn : Option Addr} {sl_word_drawn : Array (Option Value)}
    {oc_words_drawn kV_words_drawn dc_words_drawn pm_words_drawn cd_words_drawn ct_words_drawn : Value} {od_words_drawn an_words_drawn : Option Addr} {sl_words_drawn : Array (Option Value)}
    {oc_law_is_name kV_law_is_name dc_law_is_name pm_law_is_name cd_law_is_name ct_law_is_name : Value} {od_law_is_name an_law_is_name : Option Addr} {sl_law_is_name : Array (Option Value)}
    {oc_law_is_names kV_law_is_names dc_law_is_names pm_law_is_names cd_law_is_names ct_law_is_names : Value} {od_law_is_names an_law_is_names : Option Addr} {sl_law_is_names : Array (Option Value)}
    {oc_near kV_near dc_near pm_near cd_near ct_near : Value} {od_near an_near : Option Addr} {sl_near : Array (Option Value)}
    {oc_cell_right kV_cell_right dc_cell_right pm_cell_right cd_cell_right ct_cell_right : Value} {od_cell_right an_cell_right : Option Addr} {sl_cell_right : Array (Option Value)}
    {oc_integers_right kV_integers_right dc_integers_right pm_integers_right cd_integers_right ct_integers_right : Value} {od_integers_right an_integers_right : Option Addr} {sl_integers_right : Array (Option Value)}
    {oc_law kV_law dc_law pm_law cd_law ct_law : Value} {od_law an_law : Option Addr} {sl_law : Array (Option Value)}
    {t_MAX_LETTERS : Tok}
    {t_MAX_NAMES : Tok}
    {t_TOO_GREAT : Tok}
    (a_is_integer : PySem.W.nsIn K mainGlobals "is_integer" = some (some (.ref f_is_integer)))
    (a_is_name : PySem.W.nsIn K mainGlobals "is_name" = some (some (.ref f_is_name)))
    (a_is_names : PySem.W.nsIn K mainGlobals "is_names" = some (some (.ref f_is_names)))
    (a_tape : PySem.W.nsIn K mainGlobals "_law_tape" = some (some (.ref f_tape)))
    (a_roll : PySem.W.nsIn K mainGlobals "_law_roll" = some (some (.ref f_roll)))
    (a_pick : PySem.W.nsIn K mainGlobals "_law_pick" = some (some (.ref f_pick)))
    (a_word_drawn : PySem.W.nsIn K mainGlobals "_law_word_drawn" = some (some (.ref f_word_drawn)))
    (a_words_drawn : PySem.W.nsIn K mainGlobals "_law_words_drawn" = some (some (.ref f_words_drawn)))
    (a_law_is_name : PySem.W.nsIn K mainGlobals "_law_is_name" = some (some (.ref f_law_is_name)))
    (a_law_is_names : PySem.W.nsIn K mainGlobals "_law_is_names" = some (some (.ref f_law_is_names)))
    (a_near : PySem.W.nsIn K mainGlobals "_law_near" = some (some (.ref f_near)))
    (a_cell_right : PySem.W.nsIn K mainGlobals "_law_cell_right" = some (some (.ref f_cell_right)))
    (a_integers_right : PySem.W.nsIn K mainGlobals "_law_integers_right" = some (some (.ref f_integers_right)))
    (a_law : PySem.W.nsIn K mainGlobals "law" = some (some (.ref f_law)))
    (l_is_integer : K.lookup f_is_integer = some ⟨oc_is_integer, od_is_integer, .func (PySem.W.fnOf "is_integer" "is_integer" (defArgs s_is_integer) (defBody s_is_integer) (defScope s_is_integer) .none kV_is_integer dc_is_integer pm_is_integer an_is_integer cd_is_integer ct_is_integer), sl_is_integer⟩)
    (c_is_integer : PySem.W.codeIn K cd_is_integer "is_integer" = true)
    (k_is_integer : PySem.W.keepIn K (.ref f_is_integer) = true)
    (l_is_name : K.lookup f_is_name = some ⟨oc_is_name, od_is_name, .func (PySem.W.fnOf "is_name" "is_name" (defArgs s_is_name) (defBody s_is_name) (defScope s_is_name) .none kV_is_name dc_is_name pm_is_name an_is_name cd_is_name ct_is_name), sl_is_name⟩)
    (c_is_name : PySem.W.codeIn K cd_is_name "is_name" = true)
    (k_is_name : PySem.W.keepIn K (.ref f_is_name) = true)
    (l_is_names : K.lookup f_is_names = some ⟨oc_is_names, od_is_names, .func (PySem.W.fnOf "is_names" "is_names" (defArgs s_is_names) (defBody s_is_names) (defScope s_is_names) .none kV_is_names dc_is_names pm_is_names an_is_names cd_is_names ct_is_names), sl_is_names⟩)
    (c_is_names : PySem.W.codeIn K cd_is_names "is_names" = true)
    (k_is_names : PySem.W.keepIn K (.ref f_is_names) = true)
    (l_tape : K.lookup f_tape = some ⟨oc_tape, od_tape, .func (PySem.W.fnOf "_law_tape" "_law_tape" (defArgs s_tape) (defBody s_tape) (defScope s_tape) .none kV_tape dc_tape pm_tape an_tape cd_tape ct_tape), sl_tape⟩)
    (c_tape : PySem.W.codeIn K cd_tape "_law_tape" = true)
    (k_tape : PySem.W.keepIn K (.ref f_tape) = true)
    (l_roll : K.lookup f_roll = some ⟨oc_roll, od_roll, .func (PySem.W.fnOf "_law_roll" "_law_roll" (defArgs s_roll) (defBody s_roll) (defScope s_roll) .none kV_roll dc_roll pm_roll an_roll cd_roll ct_roll), sl_roll⟩)
    (c_roll : PySem.W.codeIn K cd_roll "_law_roll" = true)
    (k_roll : PySem.W.keepIn K (.ref f_roll) = true)
    (l_pick : K.lookup f_pick = some ⟨oc_pick, od_pick, .func (PySem.W.fnOf "_law_pick" "_law_pick" (defArgs s_pick) (defBody s_pick) (defScope s_pick) .none kV_pick dc_pick pm_pick an_pick cd_pick ct_pick), sl_pick⟩)
    (c_pick : PySem.W.codeIn K cd_pick "_law_pick" = true)
    (k_pick : PySem.W.keepIn K (.ref f_pick) = true)
    (l_word_drawn : K.lookup f_word_drawn = some ⟨oc_word_drawn, od_word_drawn, .func (PySem.W.fnOf "_law_word_drawn" "_law_word_drawn" (defArgs s_word_drawn) (defBody s_word_drawn) (defScope s_word_drawn) .none kV_word_drawn dc_word_drawn pm_word_drawn an_word_drawn cd_word_drawn ct_word_drawn), sl_word_drawn⟩)
    (c_word_drawn : PySem.W.codeIn K cd_word_drawn "_law_word_drawn" = true)
    (k_word_drawn : PySem.W.keepIn K (.ref f_word_drawn) = true)
    (l_words_drawn : K.lookup f_words_drawn = some ⟨oc_words_drawn, od_words_drawn, .func (PySem.W.fnOf "_law_words_drawn" "_law_words_drawn" (defArgs s_words_drawn) (defBody s_words_drawn) (defScope s_words_drawn) .none kV_words_drawn dc_words_drawn pm_words_drawn an_words_drawn cd_words_drawn ct_words_drawn), sl_words_drawn⟩)
    (c_words_drawn : PySem.W.codeIn K cd_words_drawn "_law_words_drawn" = true)
    (k_words_drawn : PySem.W.keepIn K (.ref f_words_drawn) = true)
    (l_law_is_name : K.lookup f_law_is_name = some ⟨oc_law_is_name, od_law_is_name, .func (PySem.W.fnOf "_law_is_name" "_law_is_name" (defArgs s_law_is_name) (defBody s_law_is_name) (defScope s_law_is_name) .none kV_law_is_name dc_law_is_name pm_law_is_name an_law_is_name cd_law_is_name ct_law_is_name), sl_law_is_name⟩)
    (c_law_is_name : PySem.W.codeIn K cd_law_is_name "_law_is_name" = true)
    (k_law_is_name : PySem.W.keepIn K (.ref f_law_is_name) = true)
    (l_law_is_names : K.lookup f_law_is_names = some ⟨oc_law_is_names, od_law_is_names, .func (PySem.W.fnOf "_law_is_names" "_law_is_names" (defArgs s_law_is_names) (defBody s_law_is_names) (defScope s_law_is_names) .none kV_law_is_names dc_law_is_names pm_law_is_names an_law_is_names cd_law_is_names ct_law_is_names), sl_law_is_names⟩)
    (c_law_is_names : PySem.W.codeIn K cd_law_is_names "_law_is_names" = true)
    (k_law_is_names : PySem.W.keepIn K (.ref f_law_is_names) = true)
    (l_near : K.lookup f_near = some ⟨oc_near, od_near, .func (PySem.W.fnOf "_law_near" "_law_near" (defArgs s_near) (defBody s_near) (defScope s_near) .none kV_near dc_near pm_near an_near cd_near ct_near), sl_near⟩)
    (c_near : PySem.W.codeIn K cd_near "_law_near" = true)
    (k_near : PySem.W.keepIn K (.ref f_near) = true)
    (l_cell_right : K.lookup f_cell_right = some ⟨oc_cell_right, od_cell_right, .func (PySem.W.fnOf "_law_cell_right" "_law_cell_right" (defArgs s_cell_right) (defBody s_cell_right) (defScope s_cell_right) .none kV_cell_right dc_cell_right pm_cell_right an_cell_right cd_cell_right ct_cell_right), sl_cell_right⟩)
    (c_cell_right : PySem.W.codeIn K cd_cell_right "_law_cell_right" = true)
    (k_cell_right : PySem.W.keepIn K (.ref f_cell_right) = true)
    (l_integers_right : K.lookup f_integers_right = some ⟨oc_integers_right, od_integers_right, .func (PySem.W.fnOf "_law_integers_right" "_law_integers_right" (defArgs s_integers_right) (defBody s_integers_right) (defScope s_integers_right) .none kV_integers_right dc_integers_right pm_integers_right an_integers_right cd_integers_right ct_integers_right), sl_integers_right⟩)
    (c_integers_right : PySem.W.codeIn K cd_integers_right "_law_integers_right" = true)
    (k_integers_right : PySem.W.keepIn K (.ref f_integers_right) = true)
    (l_law : K.lookup f_law = some ⟨oc_law, od_law, .func (PySem.W.fnOf "law" "law" (defArgs s_law) (defBody s_law) (defScope s_law) .none kV_law dc_law pm_law an_law cd_law ct_law), sl_law⟩)
    (c_law : PySem.W.codeIn K cd_law "law" = true)
    (k_law : PySem.W.keepIn K (.ref f_law) = true)
    (n_MAX_LETTERS : PySem.W.nsIn K mainGlobals "MAX_LETTERS" = some (some (.int 8 t_MAX_LETTERS)))
    (n_MAX_NAMES : PySem.W.nsIn K mainGlobals "MAX_NAMES" = some (some (.int 16 t_MAX_NAMES)))
    (n_TOO_GREAT : PySem.W.nsIn K mainGlobals "TOO_GREAT" = some (some (.int 1000000000000000000000000000000000000000000000000000000000000 t_TOO_GREAT)))
    (z1 : PySem.W.nsIn K mainGlobals "len" = some none)
    (z2 : PySem.W.nsIn K mainGlobals "int" = some none)
    (z3 : PySem.W.nsIn K mainGlobals "abs" = some none)
    (z4 : PySem.W.nsIn K mainGlobals "max" = some none)
    (z5 : PySem.W.nsIn K mainGlobals "min" = some none)
    (z6 : PySem.W.nsIn K mainGlobals "range" = some none)
    (z7 : PySem.W.nsIn K mainGlobals "all" = some none)
    (z8 : PySem.W.nsIn K mainGlobals "isinstance" = some none)
    (z9 : PySem.W.nsIn K mainGlobals "str" = some none)
    (z10 : PySem.W.nsIn K mainGlobals "tuple" = some none)
    (z11 : PySem.W.nsIn K mainGlobals "list" = some none)
    (z12 : PySem.W.nsIn K mainGlobals "set" = some none)
    (z13 : PySem.W.nsIn K mainGlobals "sorted" = some none)
    (z14 : PySem.W.nsIn K mainGlobals "repr" = some none)
    (z15 : PySem.W.nsIn K mainGlobals "bool" = some none)
    (z16 : PySem.W.nsIn K mainGlobals "dict" = some none)
    : ∃ fd : FuncData, (∀ (s : Shared) (u : Value), BindsTo s fd ⟨[u], []⟩ [("script", u)]) ∧ ∀ base : Heap, K.In base → base.Ns mainGlobals mg → FnOk P w K mg base CX0 6 fa fd ["script"] (spLaw K) := by
  have e := hfa.symm.trans (PySem.W.mg_of X G a_law)
  cases e
  have D_is_integer := df_mk X G (st := s_is_integer) (ps := ["value"]) a_is_integer l_is_integer c_is_integer k_is_integer fun _ _ _ _ _ _ us hl => match us, hl with | [_], _ => rfl
  have D_is_name := df_mk X G (st := s_is_name) (ps := ["value"]) a_is_name l_is_name c_is_name k_is_name fun _ _ _ _ _ _ us hl => match us, hl with | [_], _ => rfl
  have D_is_names := df_mk X G (st := s_is_names) (ps := ["value"]) a_is_names l_is_names c_is_names k_is_names fun _ _ _ _ _ _ us hl => match us, hl with | [_], _ => rfl
  have D_tape := df_mk X G (st := s_tape) (ps := ["script", "spot"]) a_tape l_tape c_tape k_tape fun _ _ _ _ _ _ us hl => match us, hl with | [_, _], _ => rfl
  have D_roll := df_mk X G (st := s_roll) (ps := ["tape", "total"]) a_roll l_roll c_roll k_roll fun _ _ _ _ _ _ us hl => match us, hl with | [_, _], _ => rfl
  have D_pick := df_mk X G (st := s_pick) (ps := ["tape", "items"]) a_pick l_pick c_pick k_pick fun _ _ _ _ _ _ us hl => match us, hl with | [_, _], _ => rfl
  have D_word_drawn := df_mk X G (st := s_word_drawn) (ps := ["tape"]) a_word_drawn l_word_drawn c_word_drawn k_word_drawn fun _ _ _ _ _ _ us hl => match us, hl with | [_], _ => rfl
  have D_words_drawn := df_mk X G (st := s_words_drawn) (ps := ["tape", "lots"]) a_words_drawn l_words_drawn c_words_drawn k_words_drawn fun _ _ _ _ _ _ us hl => match us, hl with | [_, _], _ => rfl
  have D_law_is_name := df_mk X G (st := s_law_is_name) (ps := ["value"]) a_law_is_name l_law_is_name c_law_is_name k_law_is_name fun _ _ _ _ _ _ us hl => match us, hl with | [_], _ => rfl
  have D_law_is_names := df_mk X G (st := s_law_is_names) (ps := ["value"]) a_law_is_names l_law_is_names c_law_is_names k_law_is_names fun _ _ _ _ _ _ us hl => match us, hl with | [_], _ => rfl
  have D_near := df_mk X G (st := s_near) (ps := ["tape", "name"]) a_near l_near c_near k_near fun _ _ _ _ _ _ us hl => match us, hl with | [_, _], _ => rfl
  have D_cell_right := df_mk X G (st := s_cell_right) (ps := ["tape"]) a_cell_right l_cell_right c_cell_right k_cell_right fun _ _ _ _ _ _ us hl => match us, hl with | [_], _ => rfl
  have D_integers_right := df_mk X G (st := s_integers_right) (ps := ["tape"]) a_integers_right l_integers_right c_integers_right k_integers_right fun _ _ _ _ _ _ us hl => match us, hl with | [_], _ => rfl
  have D_law := df_mk X G (st := s_law) (ps := ["script"]) a_law l_law c_law k_law fun _ _ _ _ _ _ us hl => match us, hl with | [_], _ => rfl
  have C_MAX_LETTERS := PySem.W.mg_of X G n_MAX_LETTERS
  have C_MAX_NAMES := PySem.W.mg_of X G n_MAX_NAMES
  have C_TOO_GREAT := PySem.W.mg_of X G n_TOO_GREAT
  have B := blt_mk X G z1 z2 z3 z4 z5 z6 z7 z8 z9 z10 z11 z12 z13 z14 z15 z16
  refine ⟨PySem.W.fnOf "law" "law" (defArgs s_law) (defBody s_law) (defScope s_law) .none kV_law dc_law pm_law an_law cd_law ct_law, fun s v => .of_eq rfl, fun base _ _ => ?_⟩
  · have G_tape := ok_tape (P := P) (w := w) (base := base) B D_tape
    have G_roll := ok_roll (P := P) (w := w) (base := base) B D_roll
    have G_pick := ok_pick (P := P) (w := w) (base := base) B D_roll D_pick
    have G_word := ok_word (P := P) (w := w) (base := base) B D_pick G_pick D_word_drawn
    have G_words := ok_words (P := P) (w := w) (base := base) B D_word_drawn G_word D_words_drawn
    have G_is_integer := ok_is_integer (P := P) (w := w) (base := base) B C_TOO_GREAT D_is_integer
    have G_is_name := ok_is_name (P := P) (w := w) (base := base) B C_MAX_LETTERS D_is_name
    have G_is_names := ok_is_names (P := P) (w := w) (base := base) B C_MAX_NAMES D_is_name G_is_name D_is_names
    have G_lname := ok_law_is_name (P := P) (w := w) (base := base) B D_law_is_name
    have G_lnames := ok_law_is_names (P := P) (w := w) (base := base) B D_law_is_name G_lname D_law_is_names
    have G_near := ok_near (P := P) (w := w) (base := base) B D_roll G_roll D_pick G_pick D_near
    have G_cell := ok_cell_right (P := P) (w := w) (base := base) B D_word_drawn G_word D_words_drawn G_words D_pick G_pick D_near G_near D_is_name G_is_name D_is_names G_is_names D_law_is_name G_lname D_law_is_names G_lnames D_cell_right
    have G_ints := ok_integers_right (P := P) (w := w) (base := base) B D_roll G_roll D_pick G_pick D_is_integer G_is_integer D_integers_right
    exact ok_law B C_MAX_LETTERS C_MAX_NAMES D_tape G_tape D_cell_right G_cell D_integers_right G_ints D_is_name G_is_name D_is_names G_is_names D_law
end Gk
open PySem PySem.W PyProof.Rows
set_option maxRecDepth 100000 in
set_option maxHeartbeats 8000000 in
theorem PySem.Challenge.cw_groupclocks_k01_integers_and_names_judge_holds : PySem.Challenge.rw_groupclocks_k01_integers_and_names_judge.Holds := by
  w_on; o_law; k_head; (case hw => w_witness2)
  k_fill
  refine L2.walk_of (l := PySem.Challenge.rw_groupclocks_k01_integers_and_names_judge) (n := 63) (k := 6) (x := "script") (CX := fun _ => L2.CX0) (sp := fun w => Gk.spLaw _) rfl (by decide) rfl ⟨rfl, by decide, by decide⟩ (fun w h Y => PySem.W.kIn_of Y) ?F (fun _ _ a ns hl _ hS => ⟨a, ns, rfl, hS, hl, fun _ => rfl⟩) (fun _ _ _ _ _ h => h)
  case F =>
    intro w mg fa h KX G hmg
    refine' Gk.all_mk KX G hmg ?a_is_integer ?a_is_name ?a_is_names ?a_tape ?a_roll ?a_pick ?a_word_drawn ?a_words_drawn ?a_law_is_name ?a_law_is_names ?a_near ?a_cell_right ?a_integers_right ?a_law ?l_is_integer ?c_is_integer ?k_is_integer ?l_is_name ?c_is_name ?k_is_name ?l_is_names ?c_is_names ?k_is_names ?l_tape ?c_tape ?k_tape ?l_roll ?c_roll ?k_roll ?l_pick ?c_pick ?k_pick ?l_word_drawn ?c_word_drawn ?k_word_drawn ?l_words_drawn ?c_words_drawn ?k_words_drawn ?l_law_is_name ?c_law_is_name ?k_law_is_name ?l_law_is_names ?c_law_is_names ?k_law_is_names ?l_near ?c_near ?k_near ?l_cell_right ?c_cell_right ?k_cell_right ?l_integers_right ?c_integers_right ?k_integers_right ?l_law ?c_law ?k_law ?n_MAX_LETTERS ?n_MAX_NAMES ?n_TOO_GREAT ?z1 ?z2 ?z3 ?z4 ?z5 ?z6 ?z7 ?z8 ?z9 ?z10 ?z11 ?z12 ?z13 ?z14 ?z15 ?z16
    (case a_is_integer => k_is)
    (case a_is_name => k_is)
    (case a_is_names => k_is)
    (case a_tape => k_is)
    (case a_roll => k_is)
    (case a_pick => k_is)
    (case a_word_drawn => k_is)
    (case a_words_drawn => k_is)
    (case a_law_is_name => k_is)
    (case a_law_is_names => k_is)
    (case a_near => k_is)
    (case a_cell_right => k_is)
    (case a_integers_right => k_is)
    (case a_law => k_is)
    (case l_is_integer => k_is)
    (case c_is_integer => k_is)
    (case k_is_integer => k_is)
    (case l_is_name => k_is)
    (case c_is_name => k_is)
    (case k_is_name => k_is)
    (case l_is_names => k_is)
    (case c_is_names => k_is)
    (case k_is_names => k_is)
    (case l_tape => k_is)
    (case c_tape => k_is)
    (case k_tape => k_is)
    (case l_roll => k_is)
    (case c_roll => k_is)
    (case k_roll => k_is)
    (case l_pick => k_is)
    (case c_pick => k_is)
    (case k_pick => k_is)
    (case l_word_drawn => k_is)
    (case c_word_drawn => k_is)
    (case k_word_drawn => k_is)
    (case l_words_drawn => k_is)
    (case c_words_drawn => k_is)
    (case k_words_drawn => k_is)
    (case l_law_is_name => k_is)
    (case c_law_is_name => k_is)
    (case k_law_is_name => k_is)
    (case l_law_is_names => k_is)
    (case c_law_is_names => k_is)
    (case k_law_is_names => k_is)
    (case l_near => k_is)
    (case c_near => k_is)
    (case k_near => k_is)
    (case l_cell_right => k_is)
    (case c_cell_right => k_is)
    (case k_cell_right => k_is)
    (case l_integers_right => k_is)
    (case c_integers_right => k_is)
    (case k_integers_right => k_is)
    (case l_law => k_is)
    (case c_law => k_is)
    (case k_law => k_is)
    (case n_MAX_LETTERS => k_is)
    (case n_MAX_NAMES => k_is)
    (case n_TOO_GREAT => k_is)
    (case z1 => k_is)
    (case z2 => k_is)
    (case z3 => k_is)
    (case z4 => k_is)
    (case z5 => k_is)
    (case z6 => k_is)
    (case z7 => k_is)
    (case z8 => k_is)
    (case z9 => k_is)
    (case z10 => k_is)
    (case z11 => k_is)
    (case z12 => k_is)
    (case z13 => k_is)
    (case z14 => k_is)
    (case z15 => k_is)
    (case z16 => k_is)

