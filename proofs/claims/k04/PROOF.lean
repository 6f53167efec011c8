import PyProof.Rows.All
import PySem.Challenge.RW_groupclocks_k04_names_in_every_order
import Wide.All
import OpenK.AllK
import Wide.FinOn
import HandS.Base
import HandS.Call
import HandS.List
import HandS.Comp
import HandS.Ends
import HandS.Dict
import HandS.Iter
import HandS.Text
import HandS.Words
import HandS.WordsList
import HandS.Wide
import HandS.ForMost
import HandS.Walk
import HandS.TupAny
import HandS.Style
import HandS.FStr
import HandS.IsInst
import HandS.ExcInit
import HandS.ExcOwn
import HandS.TryOnly
import HandS.WordsExc
import HandS.Strs
import HandS.RaiseMore
set_option Elab.async false
set_option linter.all false
set_option maxRecDepth 100000
set_option maxHeartbeats 4000000
namespace L2
open PySem PySem.Spec PyProof.Rows

/-! ### heaps: what stays -/
theorem gSame_new {H : Hp} {p : Addr} {o : HO} (h : H p = none) : Same H (upd H p o) := fun b x e => by
  rw [upd_ne (ne_of_none e h)]
  exact e
theorem gSame_back {H H' : Hp} {p : Addr} (e : Same H H') (h : H' p = none) : H p = none := e.free h
theorem gSame_mut {H H' : Hp} {p : Addr} {o : HO} (e : Same H H') (h : H p = none) : Same H (upd H' p o) := fun b u q => by
  rw [upd_ne (ne_of_none q h)]
  exact e b u q
theorem gSeqT {K : PySem.W.Frag} {H H' : Hp} {a : Addr} {xs : List V} (e : Same H H') (h : SqT K H a xs) : SqT K H' a xs := by
  rcases h with (h | ⟨o, h⟩) | h
  · exact .inl (.inl (e _ _ h))
  · exact .inl (.inr ⟨o, e _ _ h⟩)
  · exact .inr h

/-! ### the tape of draws: a list of three ints, the one thing that the drawing defs change -/
def Tp (H : Hp) (t : Addr) : Prop := ∃ a b c : Int, H t = some (.lst [.int a, .int b, .int c])
structure Kt (t : Addr) (H H' : Hp) : Prop where
  tp : Tp H' t
  kp : ∀ b o, b ≠ t → H b = some o → H' b = some o
theorem Kt.refl {t : Addr} {H : Hp} (h : Tp H t) : Kt t H H := ⟨h, fun _ _ _ e => e⟩
theorem Kt.trans {t : Addr} {H H1 H2 : Hp} (a : Kt t H H1) (b : Kt t H1 H2) : Kt t H H2 := ⟨b.tp, fun c o n e => b.kp c o n (a.kp c o n e)⟩
theorem Kt.same {t : Addr} {H H' : Hp} (h : Tp H t) (s : Same H H') : Kt t H H' := by
  obtain ⟨a, b, c, e⟩ := h
  exact ⟨⟨a, b, c, s _ _ e⟩, fun d o _ q => s d o q⟩
theorem Kt.wr {t : Addr} {H : Hp} {a b c : Int} (h : Tp H t) : Kt t H (upd H t (.lst [.int a, .int b, .int c])) := ⟨⟨a, b, c, upd_same⟩, fun d o n q => by
  rw [upd_ne n]
  exact q⟩
theorem Kt.ne {t p : Addr} {H : Hp} (h : Tp H t) (n : H p = none) : p ≠ t := fun z => by
  obtain ⟨a, b, c, e⟩ := h
  rw [z, e] at n
  cases n
theorem Kt.new {t p : Addr} {H : Hp} {o : HO} (h : Tp H t) (n : H p = none) : Kt t H (upd H p o) := Kt.same h (gSame_new n)
/-- a thing made since may change -/
theorem Kt.mut {t p : Addr} {H H' : Hp} {o : HO} (e : Kt t H H') (n : H p = none) (np : p ≠ t) : Kt t H (upd H' p o) := by
  obtain ⟨a, b, c, q⟩ := e.tp
  refine ⟨⟨a, b, c, by rw [upd_ne np.symm]; exact q⟩, fun d u nd r => ?_⟩
  rw [upd_ne (ne_of_none r n)]
  exact e.kp d u nd r
theorem Kt.free {t p : Addr} {H H' : Hp} (e : Kt t H H') (n : H' p = none) : H p = none := by
  have np := Kt.ne e.tp n
  cases q : H p with
  | none => rfl
  | some o =>
    rw [e.kp p o np q] at n
    cases n
theorem Tp.ne_tup {H : Hp} {t a : Addr} {xs : List V} (h : Tp H t) (e : H a = some (.tup xs)) : a ≠ t := by
  obtain ⟨x, y, z, q⟩ := h
  exact ne_of e q (by intro w; cases w)
theorem Tp.ne_frz {H : Hp} {t a : Addr} {o : Obj} {u : HO} (h : Tp H t) (e : H a = some (.frz o u)) : a ≠ t := by
  obtain ⟨x, y, z, q⟩ := h
  exact ne_of e q (by intro w; cases w)
theorem Tp.ne_strs {H : Hp} {t a : Addr} {ss : List Str} (h : Tp H t) (e : H a = some (.lst (ss.map V.str))) : a ≠ t := by
  obtain ⟨x, y, z, q⟩ := h
  refine ne_of e q ?_
  intro w
  cases ss with
  | nil => cases w
  | cons s r => cases w
theorem Kt.tup {t a : Addr} {H H' : Hp} {xs : List V} (k : Kt t H H') (h : Tp H t) (e : H a = some (.tup xs)) : H' a = some (.tup xs) := k.kp _ _ (h.ne_tup e) e
theorem Kt.strs {t a : Addr} {H H' : Hp} {ss : List Str} (k : Kt t H H') (h : Tp H t) (e : H a = some (.lst (ss.map V.str))) : H' a = some (.lst (ss.map V.str)) := k.kp _ _ (h.ne_strs e) e
theorem Kt.sqT {K : PySem.W.Frag} {t a : Addr} {H H' : Hp} {xs : List V} (k : Kt t H H') (h : Tp H t) (e : SqT K H a xs) : SqT K H' a xs := by
  rcases e with (e | ⟨o, e⟩) | e
  · exact .inl (.inl (k.tup h e))
  · exact .inl (.inr ⟨o, k.kp _ _ (h.ne_frz e) e⟩)
  · exact .inr e

/-! ### great powers -/
def CPowW (i j : Int) : Prop := 0 ≤ j ∧ (Builtin.Int.intBits i : Int) * j ≤ 2 ^ 27
section
variable {X : Cx}
theorem op_powW : OpR X (binaryOp .Pow) (rI CPowW fun i j => .int (i ^ j.toNat)) := opI fun _ _ _ _ _ _ _ hc q => pow_int hc.1 hc.2 q
end

theorem p570 : (((10 : Int) ^ Int.toNat 57) ^ Int.toNat 10) ≠ 0 := by decide +kernel
theorem c57 : CPowW 10 57 := ⟨by decide, by decide +kernel⟩
theorem c570 : CPowW ((10 : Int) ^ Int.toNat 57) 10 := ⟨by decide, by decide +kernel⟩
theorem c18 : CPowW 10 18 := ⟨by decide, by decide +kernel⟩
theorem cmL {i j : Int} (h : -(2 ^ 64) < i ∧ i < 2 ^ 64 := by constructor <;> decide) : CMul i j := .inl h
theorem cmR {i j : Int} (h : -(2 ^ 64) < j ∧ j < 2 ^ 64 := by constructor <;> decide) : CMul i j := .inr h
theorem fmod_rng {a n : Int} (h : 0 < n) : 0 ≤ a.fmod n ∧ a.fmod n < n := ⟨Int.fmod_nonneg_of_pos a h, Int.fmod_lt_of_pos a h⟩

/-! ### words -/
/-- a word: one to eight letters a to z -/
def isW (z : Str) : Bool := decide (1 ≤ z.length) && decide (z.length ≤ 8) && (TL.tl z).all fun c => decide (97 ≤ c) && decide (c ≤ 122)
theorem isW_len {z : Str} (h : isW z = true) : 1 ≤ z.length ∧ z.length ≤ 8 := by
  unfold isW at h
  simp only [Bool.and_eq_true, decide_eq_true_eq] at h
  exact h.1
theorem isW_let {z : Str} (h : isW z = true) : ∀ c ∈ TL.tl z, 97 ≤ c ∧ c ≤ 122 := by
  unfold isW at h
  simp only [Bool.and_eq_true, decide_eq_true_eq, List.all_eq_true] at h
  exact h.2
theorem isW_mk {z : Str} (h1 : 1 ≤ z.length) (h2 : z.length ≤ 8) (h3 : ∀ c ∈ TL.tl z, 97 ≤ c ∧ c ≤ 122) : isW z = true := by
  unfold isW
  simp only [Bool.and_eq_true, decide_eq_true_eq, List.all_eq_true]
  exact ⟨⟨h1, h2⟩, h3⟩
end L2

set_option Elab.async false
set_option linter.all false
set_option maxRecDepth 100000
set_option maxHeartbeats 4000000
namespace L2
open PySem PySem.Spec PyProof.Rows

/-! ### the built-in names that the text leaves as they are -/
structure Blt (mg : Str → Option Value) : Prop where
  len_ : mg "len" = none
  int_ : mg "int" = none
  abs_ : mg "abs" = none
  max_ : mg "max" = none
  min_ : mg "min" = none
  range : mg "range" = none
  all_ : mg "all" = none
  isinstance_ : mg "isinstance" = none
  str_ : mg "str" = none
  tuple_ : mg "tuple" = none
  list_ : mg "list" = none
  set_ : mg "set" = none
  sorted_ : mg "sorted" = none
  repr_ : mg "repr" = none
  bool_ : mg "bool" = none
  dict_ : mg "dict" = none
/-- a def of the text: where it stands, how it is called -/
structure Df (K : PySem.W.Frag) (mg : Str → Option Value) (x : Str) (st : Stmt) (ps : List Str) (f : Addr) (fd : FuncData) : Prop where
  F : Fun K x x st f fd
  g : mg x = some (.ref f)
  b : Binds K fd ps []
theorem passL0 {X : Cx} : Passes (L2.CX X.prog X.w) X (fun _ _ _ => False) := passL
/-- a branch that comes to one value -/
theorem meetI {c : Prop} [Decidable c] {A B : VK → Prop} {Q : VK} (H : Hp) (v : V) (h1 : c → ∀ Q : VK, Q v H → A Q) (h2 : ¬ c → ∀ Q : VK, Q v H → B Q) (q : Q v H) : if c then A Q else B Q := by
  by_cases h : c
  · rw [if_pos h]
    exact h1 h Q q
  · rw [if_neg h]
    exact h2 h Q q

/-! ### promises of the drawing defs -/
def spTape (K : PySem.W.Frag) : Sp := fun vs H Q _ => ∃ (a : Addr) (ns : List Int) (n : Int), vs = [.ref a, .int n] ∧ SqL K H a (ns.map V.int) ∧ 0 ≤ n ∧ ∀ t x y z, H t = none → Q (.ref t) (upd H t (.lst [.int x, .int y, .int z]))
def spRoll : Sp := fun vs H Q _ => ∃ (t : Addr) (n : Int), vs = [.ref t, .int n] ∧ Tp H t ∧ 0 < n ∧ n < 1073741824 ∧ ∀ r H', 0 ≤ r → r < n → Kt t H H' → Q (.int r) H'
/-- the items of a list, a tuple, a text -/
def Items (K : PySem.W.Frag) (H : Hp) (t : Addr) (x : V) (xs : List V) : Prop :=
  (∃ p, x = .ref p ∧ p ≠ t ∧ (SqL K H p xs ∨ SqT K H p xs)) ∨ ∃ z : Str, x = .str z ∧ xs = (TL.tl z).map fun c => V.str ⟨#[c]⟩
def spPick (K : PySem.W.Frag) : Sp := fun vs H Q _ => ∃ (t : Addr) (x : V) (xs : List V), vs = [.ref t, x] ∧ Tp H t ∧ Items K H t x xs ∧ 0 < xs.length ∧ xs.length < 100000 ∧ ∀ y H', y ∈ xs → Kt t H H' → Q y H'
end L2

set_option Elab.async false
set_option linter.all false
set_option maxRecDepth 100000
set_option maxHeartbeats 4000000
namespace L2
open PySem PySem.Spec PyProof.Rows
/-! ### texts in rows, as data -/
def OkS (ss : List Str) : Prop := ss.all PyData.strOk = true
theorem OkS.mk {ss : List Str} (h : ∀ s ∈ ss, PyData.strOk s = true) : OkS ss := List.all_eq_true.mpr h
theorem OkS.of {ss : List Str} (h : ∀ s ∈ ss, isW s = true) : OkS ss := OkS.mk fun s hs => by
  have hl := isW_let (h s hs)
  unfold PyData.strOk
  rw [Array.all_eq_true_iff_forall_mem]
  intro c hc
  have := hl c (by unfold TL.tl; exact Array.mem_toList_iff.mpr hc)
  exact decide_eq_true (by omega)
theorem gLayS (ss : List Str) (h : OkS ss) : PyData.canLayAll0 (ss.map PyData.str) = true := by
  rw [PyProof.Rows.canLayAll_strs']
  exact h
theorem gDepS : ∀ ss : List Str, PyData.depthAll (ss.map PyData.str) = 0
  | [] => by simp [PyData.depthAll]
  | s :: r => by
    have ih := gDepS r
    simp [PyData.depthAll, PyData.depth, ih]
theorem gShL (ss : List Str) (h : OkS ss) : SeqAt.shaped (.list (ss.map PyData.str)) = true := by
  simp [SeqAt.shaped, PyData.canLay0, PyData.depth, gLayS ss h, gDepS]
theorem gShT (ss : List Str) (h : OkS ss) : SeqAt.shaped (.tuple (ss.map PyData.str)) = true := by
  simp [SeqAt.shaped, PyData.canLay0, PyData.depth, gLayS ss h, gDepS]
theorem gEqvS : ∀ ss ts : List Str, PyData.eqvAll (ss.map PyData.str) (ts.map PyData.str) = decide (ss = ts)
  | [], [] => by simp [PyData.eqvAll]
  | [], t :: r => by simp [PyData.eqvAll]
  | s :: r, [] => by simp [PyData.eqvAll]
  | s :: r, t :: q => by
    have ih := gEqvS r q
    simp only [List.map_cons, PyData.eqvAll, PyData.eqv, ih]
    by_cases h : s = t
    · subst h
      simp
    · have hb : (s == t) = false := by simpa using h
      simp [hb, h]
theorem gEqvL (ss ts : List Str) : PyData.eqv (.list (ss.map PyData.str)) (.list (ts.map PyData.str)) = decide (ss = ts) := by
  rw [PyData.eqv]
  exact gEqvS ss ts
theorem gEqvT (ss ts : List Str) : PyData.eqv (.tuple (ss.map PyData.str)) (.tuple (ts.map PyData.str)) = decide (ss = ts) := by
  rw [PyData.eqv]
  exact gEqvS ss ts
theorem gDpS {K : PySem.W.Frag} {H : Hp} : ∀ ss : List Str, DpAll K H (ss.map V.str) (ss.map PyData.str)
  | [] => .nil
  | s :: r => .cons (.str s) (gDpS r)
theorem gDpL {K : PySem.W.Frag} {H : Hp} {a : Addr} {ss : List Str} (h : SqL K H a (ss.map V.str)) : Dp K H (.ref a) (.list (ss.map PyData.str)) := .lst h (gDpS ss)
theorem gDpT {K : PySem.W.Frag} {H : Hp} {a : Addr} {ss : List Str} (h : SqT K H a (ss.map V.str)) : Dp K H (.ref a) (.tuple (ss.map PyData.str)) := .tup h (gDpS ss)
/-- == and != of rows of texts: what the rule asks -/
theorem neLS {K : PySem.W.Frag} {H : Hp} {a b : Addr} {ss ts : List Str} {Q : VK} (oa : OkS ss) (ob : OkS ts) (ha : SqL K H a (ss.map V.str)) (hb : SqL K H b (ts.map V.str)) (q : Q (.bl (!decide (ss = ts))) H) : rNeD K (.ref a) (.ref b) H Q :=
  ⟨_, _, gDpL ha, gDpL hb, gShL ss oa, gShL ts ob, by rw [gEqvL]; exact q⟩
theorem neTS {K : PySem.W.Frag} {H : Hp} {a b : Addr} {ss ts : List Str} {Q : VK} (oa : OkS ss) (ob : OkS ts) (ha : SqT K H a (ss.map V.str)) (hb : SqT K H b (ts.map V.str)) (q : Q (.bl (!decide (ss = ts))) H) : rNeD K (.ref a) (.ref b) H Q :=
  ⟨_, _, gDpT ha, gDpT hb, gShT ss oa, gShT ts ob, by rw [gEqvT]; exact q⟩
theorem eqLS {K : PySem.W.Frag} {H : Hp} {a b : Addr} {ss ts : List Str} {Q : VK} (oa : OkS ss) (ob : OkS ts) (ha : SqL K H a (ss.map V.str)) (hb : SqL K H b (ts.map V.str)) (q : Q (.bl (decide (ss = ts))) H) : rEqD K (.ref a) (.ref b) H Q :=
  ⟨_, _, gDpL ha, gDpL hb, gShL ss oa, gShL ts ob, by rw [gEqvL]; exact q⟩
theorem eqTS {K : PySem.W.Frag} {H : Hp} {a b : Addr} {ss ts : List Str} {Q : VK} (oa : OkS ss) (ob : OkS ts) (ha : SqT K H a (ss.map V.str)) (hb : SqT K H b (ts.map V.str)) (q : Q (.bl (decide (ss = ts))) H) : rEqD K (.ref a) (.ref b) H Q :=
  ⟨_, _, gDpT ha, gDpT hb, gShT ss oa, gShT ts ob, by rw [gEqvT]; exact q⟩

/-! ### items -/
theorem Kt.sqL {K : PySem.W.Frag} {t a : Addr} {H H' : Hp} {xs : List V} (k : Kt t H H') (n : a ≠ t) (e : SqL K H a xs) : SqL K H' a xs := by
  rcases e with (e | ⟨o, e⟩) | e
  · exact .inl (.inl (k.kp _ _ n e))
  · exact .inl (.inr ⟨o, k.kp _ _ n e⟩)
  · exact .inr e
theorem Items.kt {K : PySem.W.Frag} {t : Addr} {H H' : Hp} {x : V} {xs : List V} (i : Items K H t x xs) (h : Tp H t) (k : Kt t H H') : Items K H' t x xs := by
  rcases i with ⟨p, e, n, hS | hS⟩ | i
  · exact .inl ⟨p, e, n, .inl (k.sqL n hS)⟩
  · exact .inl ⟨p, e, n, .inr (k.sqT h hS)⟩
  · exact .inr i
theorem Items.len {K : PySem.W.Frag} {t : Addr} {H : Hp} {x : V} {xs : List V} (i : Items K H t x xs) (h : xs.length < 100000) : LenV K x H xs.length := by
  rcases i with ⟨p, rfl, n, hS | hS⟩ | ⟨z, rfl, rfl⟩
  · exact .inl ⟨_, hS, rfl⟩
  · exact .inr ⟨_, hS, rfl⟩
  · rw [List.length_map] at h ⊢
    refine ⟨?_, (TL.len_tl z).symm⟩
    rw [TL.len_tl, sizeLine_eq]
    omega
theorem Items.ix {K : PySem.W.Frag} {t : Addr} {H : Hp} {x y : V} {xs : List V} {r : Int} {Q : VK} (i : Items K H t x xs) (h : xs.length < 100000) (ha : atI xs r = some y) (q : Q y H) : rIx K x (.int r) H Q := by
  rcases i with ⟨p, rfl, n, hS | hS⟩ | ⟨z, rfl, rfl⟩
  · exact .inl ⟨p, _, r, y, rfl, rfl, hS, ha, q⟩
  · exact .inr (.inl ⟨p, _, r, y, rfl, rfl, hS, ha, q⟩)
  · unfold atI at ha
    rw [List.length_map] at ha h
    cases hj : ixN (TL.tl z).length r with
    | none =>
      rw [hj] at ha
      cases ha
    | some j =>
      rw [hj] at ha
      have ha' : ((TL.tl z).map fun c => V.str ⟨#[c]⟩)[j]? = some y := ha
      rw [List.getElem?_map] at ha'
      cases hc : (TL.tl z)[j]? with
      | none =>
        rw [hc] at ha'
        cases ha'
      | some c =>
        rw [hc] at ha'
        have e : V.str ⟨#[c]⟩ = y := Option.some.inj ha'
        refine .inr (.inr ⟨z, r, c, rfl, rfl, by rw [TL.len_tl, sizeLine_eq]; omega, ?_, by rw [e]; exact q⟩)
        show (ixN (TL.tl z).length r).bind _ = _
        rw [hj]
        exact hc
theorem at_int {α : Type} {xs : List α} {r : Int} (h0 : 0 ≤ r) (h1 : r < xs.length) : ∃ y, atI xs r = some y ∧ y ∈ xs := by
  have hj : r.toNat < xs.length := by omega
  refine ⟨xs[r.toNat], ?_, List.getElem_mem hj⟩
  obtain ⟨k, rfl⟩ : ∃ k : Nat, r = (k : Int) := ⟨r.toNat, by omega⟩
  exact atI_nat (by rw [List.getElem?_eq_getElem]; rfl)

/-! ### few -/
def spFew (K : PySem.W.Frag) : Sp := fun vs H Q _ => ∃ (t a : Addr) (ss : List Str) (many : Int), vs = [.ref t, .ref a, .int many] ∧ Tp H t ∧ a ≠ t ∧ SqL K H a (ss.map V.str) ∧ OkS ss ∧ ss.length ≤ 1000 ∧ 0 ≤ many ∧
  ∀ (p : Addr) (ys rest : List Str) (H' : Hp), (ys ++ rest).Perm ss → ys.length = min many.toNat ss.length → H p = none → H' p = some (.lst (ys.map V.str)) → Kt t H H' → Q (.ref p) H'
theorem OkS.sub {ss ts : List Str} (h : OkS ss) (hs : ∀ x ∈ ts, x ∈ ss) : OkS ts := OkS.mk fun s hm => List.all_eq_true.mp h s (hs s hm)
theorem perm_pick {ys xs ss : List Str} {k : Nat} {x : Str} (h : (ys ++ xs).Perm ss) (hk : xs[k]? = some x) : ((ys ++ [x]) ++ xs.eraseIdx k).Perm ss := by
  refine List.Perm.trans ?_ h
  rw [List.append_assoc]
  refine List.Perm.append_left ys ?_
  exact erase_perm _ _ _ hk
theorem seqIx {r : Int} {n : Nat} (h0 : 0 ≤ r) (h1 : r < n) : seqIndex? r n = some r.toNat := PySem.StrLaws.seqIndex_nonneg h0 h1
theorem erase_len {α : Type} {l : List α} {k : Nat} (h : k < l.length) : (l.eraseIdx k).length + 1 = l.length := by
  rw [List.length_eraseIdx, if_pos h]
  omega
theorem map_erase {α β : Type} (f : α → β) : ∀ (l : List α) (k : Nat), (l.map f).eraseIdx k = (l.eraseIdx k).map f
  | [], k => by simp
  | a :: r, 0 => by simp
  | a :: r, k + 1 => by simp [map_erase f r k]

/-! ### signs and words -/
def sg (c : Nat) : Str := ⟨#[c]⟩
theorem sg_inj {a b : Nat} (h : sg a = sg b) : a = b := by
  have := congrArg TL.tl h
  have e : ([a] : List Nat) = [b] := this
  cases e
  rfl
theorem sg_W {c : Nat} (h : 97 ≤ c ∧ c ≤ 122) : isW (sg c) = true := isW_mk (by show 1 ≤ 1; decide) (by show 1 ≤ 8; decide) fun d hd => by
  have e : TL.tl (sg c) = [c] := rfl
  rw [e] at hd
  rw [List.mem_singleton.mp hd]
  exact h
abbrev abc : Str := "abcdefghijklmnopqrstuvwxyz"
theorem abc_rng : ∀ c ∈ TL.tl abc, 97 ≤ c ∧ c ≤ 122 := by decide +kernel
theorem abc_nd : (TL.tl abc).Nodup := by decide +kernel
theorem abc_len : (TL.tl abc).length = 26 := by decide +kernel
theorem joinL_nil : ∀ cs : List Nat, TL.joinL [] (cs.map fun c => [c]) = cs
  | [] => rfl
  | [c] => rfl
  | c :: d :: r => by
    have ih := joinL_nil (d :: r)
    show [c] ++ ([] ++ TL.joinL [] ((d :: r).map fun c => [c])) = c :: d :: r
    rw [ih]
    rfl
theorem tl_join0 (cs : List Nat) : TL.tl (Txt.join "" (cs.map sg)) = cs := by
  rw [TL.join_eq, TL.tl_join, List.map_map]
  exact joinL_nil cs
theorem join0_W {cs : List Nat} (h1 : 1 ≤ cs.length) (h2 : cs.length ≤ 8) (h : ∀ c ∈ cs, 97 ≤ c ∧ c ≤ 122) : isW (Txt.join "" (cs.map sg)) = true := by
  refine isW_mk ?_ ?_ ?_
  · rw [TL.len_tl, tl_join0]
    exact h1
  · rw [TL.len_tl, tl_join0]
    exact h2
  · rw [tl_join0]
    exact h
theorem inV_strs (s : Str) : ∀ ws : List Str, inV (.str s) (ws.map V.str) = decide (s ∈ ws)
  | [] => by simp [inV]
  | x :: r => by
    have ih := inV_strs s r
    unfold inV at ih ⊢
    rw [List.map_cons, List.any_cons, ih]
    by_cases h : s = x
    · subst h
      simp [eqV]
    · have hb : eqV (.str x) (.str s) = false := by
        show (x == s) = false
        simpa using fun z : x = s => h z.symm
      rw [hb]
      simp [h]
theorem nodup_sub_len {α : Type} [DecidableEq α] : ∀ (l m : List α), l.Nodup → (∀ x ∈ l, x ∈ m) → l.length ≤ m.length
  | [], _, _, _ => Nat.zero_le _
  | a :: r, m, hd, hs => by
    have ha : a ∈ m := hs a (List.mem_cons_self ..)
    have hn := List.nodup_cons.mp hd
    have ih := nodup_sub_len r (m.erase a) hn.2 fun x hx => by
      refine (List.mem_erase_of_ne ?_).mpr (hs x (List.mem_cons_of_mem _ hx))
      intro z
      exact hn.1 (z ▸ hx)
    rw [List.length_erase_of_mem ha] at ih
    have : 0 < m.length := List.length_pos_iff.mpr (List.ne_nil_of_mem ha)
    show r.length + 1 ≤ m.length
    omega
/-- a sign that is none of fewer than 26 words -/
theorem left_ne {ws : List Str} (h : ws.length < 26) : ((TL.tl abc).map sg).filter (fun s => decide (s ∉ ws)) ≠ [] := by
  intro z
  have h2 := nodup_sub_len ((TL.tl abc).map sg) ws (by
    rw [List.nodup_iff_pairwise_ne, List.pairwise_map]
    exact abc_nd.imp fun {a b} n e => n (sg_inj e)) fun x hx => by
      have := List.filter_eq_nil_iff.mp z x hx
      simpa using this
  rw [List.length_map, abc_len] at h2
  omega
def spWord : Sp := fun vs H Q _ => ∃ t : Addr, vs = [.ref t] ∧ Tp H t ∧ ∀ (x : Str) (H' : Hp), isW x = true → Kt t H H' → Q (.str x) H'
def spWords : Sp := fun vs H Q _ => ∃ (t : Addr) (n : Int), vs = [.ref t, .int n] ∧ Tp H t ∧ 0 ≤ n ∧ n ≤ 25 ∧
  ∀ (p : Addr) (ws : List Str) (H' : Hp), ws.length = n.toNat → (∀ x ∈ ws, isW x = true) → ws.Nodup → H p = none → H' p = some (.lst (ws.map V.str)) → Kt t H H' → Q (.ref p) H'
theorem lots6 {y : V} (h : y ∈ [V.int 1, .int 1, .int 2, .int 3, .int 5, .int 8]) : ∃ n : Nat, y = .int n ∧ 1 ≤ n ∧ n ≤ 8 := by
  simp only [List.mem_cons, List.not_mem_nil, or_false] at h
  rcases h with h | h | h | h | h | h
  · exact ⟨1, h, by decide, by decide⟩
  · exact ⟨1, h, by decide, by decide⟩
  · exact ⟨2, h, by decide, by decide⟩
  · exact ⟨3, h, by decide, by decide⟩
  · exact ⟨5, h, by decide, by decide⟩
  · exact ⟨8, h, by decide, by decide⟩

/-! ### rules with the written part told (within a comprehension) -/
section
variable {X : Cx} (K : PySem.W.Frag)
theorem op_in_seqK (h : X.K = K) : OpR X (compareOp .In) (rIn K false) := by subst h; exact op_in_seq
theorem op_notIn_seqK (h : X.K = K) : OpR X (compareOp .NotIn) (rIn K true) := by subst h; exact op_notIn_seq
theorem ix_listK (h : X.K = K) : IxR X (rIxL K) := by subst h; exact ix_list
theorem ix_tupK (h : X.K = K) : IxR X (rIxT K) := by subst h; exact ix_tup
theorem ix_seqK (h : X.K = K) : IxR X (rIx K) := by subst h; exact ix_seq
theorem sl_listK (h : X.K = K) : SlR X (rSlL K) := by subst h; exact sl_list
theorem sl_tupAK (h : X.K = K) : SlR X (rSlA K) := by subst h; exact sl_tupA
theorem op_catAK (h : X.K = K) : OpR X (binaryOp .Add) (rCatA K) := by subst h; exact op_catA
theorem op_eqDK (h : X.K = K) (hu : X.A.units + 64 < cLine) : OpR X (compareOp .Eq) (rEqD K) := by subst h; exact op_eqD hu
theorem op_neDK (h : X.K = K) (hu : X.A.units + 64 < cLine) : OpR X (compareOp .NotEq) (rNeD K) := by subst h; exact op_neD hu
theorem call_isiK' (h : X.K = K) : CallR X (.builtin "isinstance") (rIsi K) := by subst h; exact call_isi
theorem call_len_seqK (h : X.K = K) : CallR X (.builtin "len") (fun xs H Q => ∃ p ys, xs = [.ref p] ∧ (SqL K H p ys ∨ SqT K H p ys) ∧ Q (.int ys.length) H) := by subst h; exact call_len_seq
theorem call_lenK (h : X.K = K) : CallR X (.builtin "len") (fun xs H Q => ∃ x n, xs = [x] ∧ LenV K x H n ∧ Q (.int n) H) := by subst h; exact call_len
end
end L2

set_option Elab.async false
set_option linter.all false
set_option maxRecDepth 100000
set_option maxHeartbeats 6400000
/-! set(xs) of a list or a tuple of texts, of any length, equal ones among them: how many different ones there are -/
namespace Gs
open PySem PySem.Spec PyProof.Rows
/-- how many different ones stand among the first i -/
def dst (xs : List Str) : Nat → Nat
  | 0 => 0
  | i + 1 => if decide (xs.getD i Str.empty ∈ xs.take i) = true then dst xs i else dst xs i + 1
theorem dst_le (xs : List Str) : ∀ i, dst xs i ≤ i
  | 0 => Nat.le_refl _
  | i + 1 => by
    have := dst_le xs i
    unfold dst
    split <;> omega
theorem getD_at {xs : List Str} {i : Nat} (h : i < xs.length) : xs.getD i Str.empty = xs[i] := by
  rw [List.getD_eq_getElem?_getD, List.getElem?_eq_getElem h]
  rfl
theorem dst_nd {xs : List Str} : ∀ i, i ≤ xs.length → (dst xs i = i ↔ (xs.take i).Nodup)
  | 0, _ => by simp [dst]
  | i + 1, h => by
    have ih := dst_nd (xs := xs) i (by omega)
    have le := dst_le xs i
    have e : xs.take (i + 1) = xs.take i ++ [xs[i]] := by
      rw [List.take_add_one, List.getElem?_eq_getElem (show i < xs.length by omega)]
      rfl
    unfold dst
    rw [getD_at (show i < xs.length by omega), e, List.nodup_append]
    by_cases hm : xs[i] ∈ xs.take i
    · rw [if_pos (decide_eq_true hm)]
      constructor
      · intro z
        omega
      · intro z
        exact absurd rfl (z.2.2 _ hm _ (List.mem_singleton.mpr rfl))
    · rw [if_neg (by rw [decide_eq_false hm]; exact Bool.false_ne_true)]
      constructor
      · intro z
        refine ⟨ih.mp (by omega), by simp, fun a ha b hb => ?_⟩
        rw [List.mem_singleton.mp hb]
        exact fun q => hm (q ▸ ha)
      · intro z
        have := ih.mpr z.1
        omega
theorem dst_all (xs : List Str) : decide (dst xs xs.length = xs.length) = decide xs.Nodup := by
  have h := dst_nd (xs := xs) xs.length (Nat.le_refl _)
  rw [List.take_length] at h
  exact decide_eq_decide.mpr h
/-- the members behind i turns -/
def mem (xs : List Str) (i : Nat) : Str → Bool := fun k => decide (k ∈ xs.take i)
section
variable {prog : Program} {w : World} {A : Around} {R : Result → Shared → Prop} {I : Addr} {fp wr : List Addr} {G : Array GenState → Array GenState → Prop} {n : Nat} {P : Nat → Value → Prop} {St : Nat → Shared → Prop}
theorem setOf_same {S : Addr} {f : Str → Bool} {c : Nat} {h h' : Heap} (k : ∀ o, h.get? S = some o → h'.get? S = some o) (x : h.SetOf (PySem.strKind prog w) S f c) : h'.SetOf (PySem.strKind prog w) S f c := by
  obtain ⟨o, es, ep, tb, ho, r⟩ := x
  exact ⟨o, es, ep, tb, k o ho, r⟩
/-- the loop of set.update over m turns still to come -/
theorem upd_loop (W : WalksS prog w A.in1 I fp wr G n P St) (S : Addr) (nS : S ∉ fp) (xs : List Str) (len : xs.length = n) (few : n + 1 < scanBound) (val : ∀ i v, P i v → ∃ t, v = .str (xs.getD i Str.empty) t)
    (m : Nat) : ∀ (i : Nat) (s : Shared), i + m = n → St i s → s.heap.SetOf (PySem.strKind prog w) S (mem xs i) (dst xs i) →
      (∀ s', Moved (S :: wr) G s s' → s'.heap.SetOf (PySem.strKind prog w) S (mem xs n) (dst xs n) → R (.ok (.ret .none)) s') → codeAny (model prog w) A (.builtin "set.update.loop" ⟨[.ref S, .ref I], []⟩) R s := by
  have nW : S ∉ wr := fun z => nS (W.sub S z)
  have more : ∀ b, b ∈ wr → b ∈ S :: wr := fun b z => .tail _ z
  induction m with
  | zero =>
    intro i s e st hS fin
    obtain rfl : i = n := e
    refine codeAny_builtin F.entry_set_update_loop (by
      rw [Around.under_plainId F.plain_set_update_loop]
      exact wpAny_bind (W.done s _ _ st fun s2 mv => wpAny_pure (fin s2 (mv.mono more) (setOf_same (fun o q => mv.heap S o nW q) hS))))
  | succ m ih =>
    intro i s e st hS fin
    have lt : i < n := by omega
    refine codeAny_builtin F.entry_set_update_loop (by
      rw [Around.under_plainId F.plain_set_update_loop]
      refine wpAny_bind (W.item i s _ _ lt st fun v s2 pv st2 mv => ?_)
      obtain ⟨t, rfl⟩ := val i v pv
      have hS2 := setOf_same (fun o q => mv.heap S o nW q) hS
      have le := dst_le xs i
      refine wpAny_bind (wpAny_holding (wpAny_holding (wpAny_bind ((PySem.strKind prog w).pyHash (k := xs.getD i Str.empty) (strKind_is _ _ _ _) ?_))))
      refine wpAny_setAddHashed_of (knd := PySem.strKind prog w) (s := { s2 with toks := s2.toks + 1 }) (strKind_is _ _ _ _) rfl hS2 (by omega) fun h3 sb hS3 => ?_
      have nx : h3.SetOf (PySem.strKind prog w) S (mem xs (i + 1)) (dst xs (i + 1)) := by
        have lx : i < xs.length := by omega
        refine SetOf_congr hS3 (fun k => ?_) rfl
        have tk : xs.take (i + 1) = xs.take i ++ [xs[i]] := by
          rw [List.take_add_one, List.getElem?_eq_getElem lx]
          rfl
        unfold mem
        rw [getD_at lx, tk]
        rw [Bool.eq_iff_iff]
        simp only [Bool.or_eq_true, decide_eq_true_eq, List.mem_append, List.mem_singleton]
      refine wpAny_pure ⟨plainId_quiet F.plain_set_update_loop _, ih (i + 1) _ (by omega) (W.frame _ s2 _ _ st2 (Nat.le_succ _) fun b hb o q => ?_) nx fun s4 mv4 hS4 => fin s4 (Moved.trans W.gtrans ((mv.mono more).then_heap (Nat.le_succ _) fun b o nb q => ?_) mv4) hS4⟩
      · exact (sb.2 b (fun z => nS (z ▸ hb))).trans q
      · exact (sb.2 b (fun z => nb (z ▸ List.mem_cons_self))).trans q)
end
/-! ### the call -/
theorem off2 {a j l : Nat} (h1 : a < j) (h2 : l < a) : a ∉ [j, l] := by
  simp
  omega
theorem off2' {b a j : Nat} (h1 : b < a) (h2 : a < j) : b ∉ [a, j] := by
  simp
  omega
/-- what is asked of the row at l: of kind T, walked by an iterator that is laid next -/
structure Row (prog : Program) (w : World) (T : String) (l : Addr) (n : Nat) (Pv : Nat → Value → Prop) (hp : Heap) (St : Addr → Nat → Heap → Prop) : Prop where
  at_ : ∃ dd dt sl, hp.get? l = some { cls := .type T, dict := dd, data := dt, slots := sl }
  s1 : isSubtype (.type T) (.type "set") = pure false
  s2 : isSubtype (.type T) (.type "frozenset") = pure false
  nd : (Value.type T == Value.type "dict") = false
  iter : ∀ (A : Around) (E : Value → Shared → Prop) (Q : Value → Shared → Prop) (s : Shared), (∀ o, hp.get? l = some o → s.heap.get? l = some o) →
    (∀ o : Obj, St s.heap.objs.size 0 (s.heap.push o) → Q (.ref s.heap.objs.size) { s with heap := s.heap.push o }) → wpAny (model prog w) A (pyIter (.ref l)) Q E s
  walk : ∀ (A : Around) (J : Addr), A.handled = none → l ≠ J → Walks prog w A J [J, l] [J] n Pv (St J)
section
variable {prog : Program} {w : World} {A : Around} {E : Value → Shared → Prop} {s : Shared}
abbrev bare (led : Bool) : Obj := { cls := .type "set", dict := none, data := .set #[] 0 (.fresh 0 0 led) }
theorem set_init {T : String} {l : Addr} {n : Nat} {Pv : Nat → Value → Prop} {St : Addr → Nat → Heap → Prop} {xs : List Str} {led : Bool} {hp : Heap} {g : Array GenState} {d : Drawn} {tk : Nat} {os : OsState} (hh : A.handled = none) (r : Row prog w T l n Pv hp St)
    (len : xs.length = n) (few : n + 1 < scanBound) (val : ∀ i v, Pv i v → ∃ t, v = .str (xs.getD i Str.empty) t) :
    codeAny (model prog w) A (.call (.builtin "set.__init__") ⟨[.ref hp.objs.size, .ref l], []⟩)
      (wants (fun v s2 => v = .none ∧ ∃ h2 t2, s2 = ⟨h2, g, d, t2, os⟩ ∧ h2.SetOf (PySem.strKind prog w) hp.objs.size (mem xs n) (dst xs n) ∧ ∀ b o, hp.get? b = some o → h2.get? b = some o) E) ⟨hp.push (bare led), g, d, tk, os⟩ := by
  have oS : (hp.push (bare led)).get? hp.objs.size = some (bare led) := Heap.get?_push_size _ rfl
  have tS : Shared.TypeIs ⟨hp.push (bare led), g, d, tk, os⟩ (.ref hp.objs.size) "set" := ⟨_, oS, rfl⟩
  refine codeAny_call_builtin PySem.F.called_set.init.plain PySem.F.entry_set_init (check_set_init_1 tS ?_)
  obtain ⟨dd, dt, sl, ol⟩ := r.at_
  have ol2 : (hp.push (bare led)).get? l = some { cls := .type T, dict := dd, data := dt, slots := sl } := Heap.get?_push_of_some _ ol
  have q1 := r.s1
  have q2 := r.s2
  have q3 := r.nd
  unfold Builtin.«set.__init__» noKeywords Builtin.Frozenset.updateFrom
  generalize hI : pyIter = PI
  wp_walk
  subst hI
  have lt : l < hp.objs.size := Heap.lt_size ol
  refine r.iter _ _ _ _ (fun o q => Heap.get?_push_of_some _ q) fun o st => ?_
  have z1 : (hp.push (bare led)).objs.size = hp.objs.size + 1 := Heap.size_push ..
  have z2 : ∀ b u, hp.get? b = some u → ((hp.push (bare led)).push o).get? b = some u := fun b u q => Heap.get?_push_of_some _ (Heap.get?_push_of_some _ q)
  refine wpAny_bind (wpAny_runValue ?_)
  have W := (r.walk A.in1.in1 (hp.push (bare led)).objs.size (by simp [hh]) (by rw [z1]; exact Nat.ne_of_lt (Nat.lt_succ_of_lt lt))).toS
  refine upd_loop W hp.objs.size (off2 (by rw [z1]; exact Nat.lt_succ_self _) lt) xs len few val n 0 ⟨(hp.push (bare led)).push o, g, d, tk, os⟩ (by omega) st ?_ fun s3 mv hS => ?_
  · exact SetOf_congr ((setObjOf_fresh (knd := PySem.strKind prog w) led).setOf (Heap.get?_push_of_some _ oS) (by unfold scanBound; omega)) (fun k => by simp [mem]) rfl
  · obtain ⟨h3, g3, d3, t3, os3⟩ := s3
    obtain rfl : g3 = g := mv.gens
    obtain rfl : d3 = d := mv.drawn
    obtain rfl : os3 = os := mv.os
    refine wpAny_pure (wpAny_pure ⟨rfl, h3, t3, rfl, hS, fun b u q => mv.heap b u ?_ (z2 b u q)⟩)
    have lb : b < hp.objs.size := Heap.lt_size q
    exact off2' lb (by rw [z1]; exact Nat.lt_succ_self _)
/-- set(x) of such a row -/
theorem set_call {T : String} {l : Addr} {n : Nat} {Pv : Nat → Value → Prop} {St : Addr → Nat → Heap → Prop} {xs : List Str} {Q : Value → Shared → Prop} (hh : A.handled = none) (r : Row prog w T l n Pv s.heap St)
    (len : xs.length = n) (few : n + 1 < scanBound) (val : ∀ i v, Pv i v → ∃ t, v = .str (xs.getD i Str.empty) t)
    (q : ∀ h2 t2, h2.SetOf (PySem.strKind prog w) s.heap.objs.size (mem xs n) (dst xs n) → (∀ b o, s.heap.get? b = some o → h2.get? b = some o) → Q (.ref s.heap.objs.size) { s with heap := h2, toks := t2 }) :
    wpAny (model prog w) A (call (.type "set") [.ref l]) Q E s := by
  obtain ⟨hp, g, d, tk, os⟩ := s
  obtain ⟨c, tl, m1⟩ := PySem.F.called_set.mro
  have m2 := PySem.F.called_set.made
  have m3 := PySem.F.called_set.sub
  have m4 := PySem.F.called_set.notType
  have m5 := PySem.F.called_set.canCreate
  have m6 := PySem.F.typeCall_set_1 (.ref l)
  refine wpAny_call (codeAny_of_tree (wpAny_pure ⟨Code.quiet_builtin _ (by decide +kernel), codeAny_builtin PySem.F.entry_type_call ?_⟩))
  rw [Around.under_plain (weight_type_call_type "set" [.ref l] []) rfl]
  repeat (any_goals (first | assumption | wp_step))
  refine codeAny_mono (code_set_new_1 (.ref l) (E := E) (Q₁ := fun v s2 => ∃ led : Bool, v = .ref hp.objs.size ∧ s2 = ⟨hp.push (bare led), g, d, tk, os⟩) fun led => ⟨led, rfl, rfl⟩) fun a s2 h2 => ?_
  match a, h2 with
  | .error e, h2 => exact h2
  | .ok .next, h2 => exact h2.elim
  | .ok .brk, h2 => exact h2.elim
  | .ok .cont, h2 => exact h2.elim
  | .ok (.ret v), h2 =>
    obtain ⟨led, rfl, rfl⟩ := h2
    have m7 := PySem.F.called_set.init.lookup
    have m8 := PySem.F.called_set.init.bind (.ref hp.objs.size)
    have oS : (hp.push (bare led)).get? hp.objs.size = some (bare led) := Heap.get?_push_size _ rfl
    have tS : Shared.TypeIs ⟨hp.push (bare led), g, d, tk, os⟩ (.ref hp.objs.size) "set" := ⟨_, oS, rfl⟩
    repeat (any_goals (first | assumption | wp_step))
    refine codeAny_mono (set_init (E := E) ?_ r len few val) fun b s3 h3 => ?_
    · simp [hh]
    · match b, h3 with
      | .error e, h3 => exact h3
      | .ok .next, h3 => exact h3.elim
      | .ok .brk, h3 => exact h3.elim
      | .ok .cont, h3 => exact h3.elim
      | .ok (.ret v), h3 =>
        obtain ⟨rfl, h4, t4, rfl, hS, keep⟩ := h3
        repeat (any_goals (first | assumption | wp_step))
        exact q h4 t4 hS keep
theorem row_list {prog : Program} {w : World} {hp : Heap} {l : Addr} {items : Array Value} (h : hp.IsList l items) : Row prog w "list" l items.size (fun i v => items[i]? = some v) hp (fun J i h => h.IsListIter J l i ∧ h.IsList l items) := by
  obtain ⟨o, ho, hc, k, hd⟩ := id h
  refine ⟨?_, PySem.F.sub_list_set, PySem.F.sub_list_frozenset, by decide, fun A E Q s keep q => ?_, fun A J hh ne => Walks.list hh J l ne items⟩
  · obtain ⟨c, dd, dt, sl⟩ := o
    obtain rfl : c = Value.type "list" := hc
    exact ⟨dd, dt, sl, ho⟩
  · have h2 : s.heap.IsList l items := ⟨o, keep o ho, hc, k, hd⟩
    exact wpAny_pyIter_list h2 (q _ ⟨⟨_, Heap.get?_push_size _ rfl, rfl, rfl⟩, h2.push _⟩)
theorem row_tuple {prog : Program} {w : World} {hp : Heap} {l : Addr} {items : Array Value} (h : hp.IsTuple l items) : Row prog w "tuple" l items.size (fun i v => items[i]? = some v) hp (fun J i h => h.IsTupleIter J l i ∧ h.IsTuple l items) := by
  obtain ⟨o, ho, hc, k, hd⟩ := id h
  refine ⟨?_, PySem.F.sub_tuple_set, PySem.F.sub_tuple_frozenset, by decide, fun A E Q s keep q => ?_, fun A J hh ne => Walks.tuple hh J l ne items⟩
  · obtain ⟨c, dd, dt, sl⟩ := o
    obtain rfl : c = Value.type "tuple" := hc
    exact ⟨dd, dt, sl, ho⟩
  · have h2 : s.heap.IsTuple l items := ⟨o, keep o ho, hc, k, hd⟩
    exact wpAny_pyIter_tuple h2 (q _ ⟨⟨_, Heap.get?_push_size _ rfl, rfl, rfl⟩, h2.push _⟩)
end
end Gs
namespace L2
open PySem PySem.Spec PyProof.Rows
/-- len(set(xs)), xs a list or a tuple of texts -/
def tLenSetA (K : PySem.W.Frag) (ta : TE) : TE := fun σ H Q => ta σ H fun x H1 => ∃ (l : Addr) (xs : List Str), x = .ref l ∧ (SqL K H1 l (xs.map V.str) ∨ SqT K H1 l (xs.map V.str)) ∧ xs.length ≤ 1000 ∧ Q (.int (Gs.dst xs xs.length)) H1
theorem pe_lenSetA {X : Cx} {a : Expr} {ta : TE} {p p2 q pos : Pos} (hc : X.calm = true) (hg : Gl X "len") (hm : X.mg "len" = none) (hg2 : Gl X "set") (hm2 : X.mg "set" = none) (ha : PE X a ta)
    (na : starEach [a] X.env = (false, eval a X.env) :: starEach [] X.env := by rfl) : PE X (.Call (.Name "len" p) [.Call (.Name "set" p2) [a] [] q] [] pos) (tLenSetA X.K ta) := by
  refine ⟨fun pins s σ H Q I h => ?_⟩
  refine Call_ (ld_blt I hg hm boot_len (PyProof.Rows.callWith_builtin1 (PyProof.Rows.args_cons ?_ rfl) rfl rfl))
  refine Call_ (ld_blt I hg2 hm2 boot_set (PyProof.Rows.callWith_type1 (PyProof.Rows.args_cons (thn (ha.run pins s σ H _ I h) fun v s1 hv => PyProof.Rows.args_nil ?_) na) na rfl))
  obtain ⟨x, H1, I1, r1, l, xs, rfl, hq, h1, q1⟩ := hv
  cases r1
  have sb : (1001 : Nat) < scanBound := by unfold scanBound; decide
  have back : ∀ (h2 : Heap) (t2 : Nat), h2.SetOf (PySem.strKind X.prog X.w) s1.heap.objs.size (Gs.mem xs xs.length) (Gs.dst xs xs.length) → (∀ b o, s1.heap.get? b = some o → h2.get? b = some o) →
      wpAny (model X.prog X.w) X.A (spliced (backTo pos (starEach [] X.env))) (fun vs s2 => wpAny (model X.prog X.w) X.A (call (.builtin "len") (Value.ref s1.heap.objs.size :: vs)) (EP X pins σ Q) X.xe s2) X.xe { s1 with heap := h2, toks := t2 } := fun h2 t2 hS keep => by
    refine PyProof.Rows.args_nil ?_
    have le := Gs.dst_le xs xs.length
    obtain ⟨o, es, ep, t, ho, hex, hd, _, _, _, hf, hn⟩ := hS
    have I2 : Inv X pins σ H1 { s1 with heap := h2, toks := t2 } := I1.kept keep
    refine call_len_set ho hex hd hf (by rw [hn]; omega) ⟨.int (Gs.dst xs xs.length), H1, I2.tok _, ⟨_, by rw [hn]⟩, q1⟩
  have at_ : ∀ {its : List Value}, Vals (xs.map V.str) its → ∀ (i : Nat) (v : Value), its.toArray[i]? = some v → ∃ t, v = .str (xs.getD i Str.empty) t := fun {its} r i v hv => by
    have hv2 : its[i]? = some v := by simpa using hv
    have lx : i < xs.length := by
      obtain ⟨h3, _⟩ := List.getElem?_eq_some_iff.mp hv2
      have := r.length
      rw [List.length_map] at this
      omega
    obtain ⟨u, hu, ru⟩ := r.get (i := i) (x := .str xs[i]) (by rw [List.getElem?_map, List.getElem?_eq_getElem lx]; rfl)
    rw [hv2] at hu
    obtain rfl := Option.some.inj hu
    rw [Gs.getD_at lx]
    exact ru
  rcases hq with hq | hq
  · obtain ⟨its, r, pl, hz⟩ := I1.list hq
    have hl : xs.length = its.toArray.size := by rw [List.size_toArray, ← r.length, List.length_map]
    refine Gs.set_call (I1.ok.hd hc) (Gs.row_list pl.isList) hl (by omega) (at_ r) fun h2 t2 hS keep => back h2 t2 (by rw [hl]; exact hS) keep
  · obtain ⟨its, r, pl, hz⟩ := I1.tuple hq
    have hl : xs.length = its.toArray.size := by rw [List.size_toArray, ← r.length, List.length_map]
    refine Gs.set_call (I1.ok.hd hc) (Gs.row_tuple pl) hl (by omega) (at_ r) fun h2 t2 hS keep => back h2 t2 (by rw [hl]; exact hS) keep
end L2

set_option Elab.async false
set_option linter.all false
set_option maxRecDepth 100000
set_option maxHeartbeats 4000000
namespace L2
open PySem PySem.Spec PyProof.Rows
section
variable {X : Cx}
/-- {x!r} of None, a text, an int -/
def tFmtA (te : TE) : TE := fun σ H Q => te σ H fun x H1 => (x = .non ∧ Q (.str "None") H1) ∨ (∃ y : Str, x = .str y ∧ (reprText y).length ≤ sizeLine ∧ Q (.str (reprText y)) H1) ∨ ∃ i : Int, x = .int i ∧ i.natAbs.log2 < 1920 ∧ Q (.str (toString i)) H1
theorem pe_fmtA {e : Expr} {te : TE} {pos : Pos} (he : PE X e te) : PE X (.FormattedValue e 114 none pos) (tFmtA te) := by
  refine ⟨fun pins s σ H Q I h => wpAny_FormattedValue_repr (thn (he.run pins s σ H _ I h) fun v s1 hv => ?_)⟩
  obtain ⟨x, H1, I1, r1, q⟩ := hv
  have sn : (Str.ofString "None").length ≤ sizeLine := by decide +kernel
  rcases q with ⟨rfl, q⟩ | ⟨y, rfl, hz, q⟩ | ⟨i, rfl, hz, q⟩
  · cases r1
    exact pyReprObj_none (wpAny_formatField_str ⟨.str "None", H1, I1.tok _, ⟨_, rfl⟩, q⟩ ⟨.str "None", H1, I1.tok _, ⟨_, rfl⟩, q⟩ sn)
  · obtain ⟨t, rfl⟩ := r1
    exact pyReprObj_str (wpAny_formatField_str ⟨.str (reprText y), H1, I1.tok _, ⟨_, rfl⟩, q⟩ ⟨.str (reprText y), H1, I1.tok _, ⟨_, rfl⟩, q⟩ hz) hz
  · obtain ⟨t, rfl⟩ := r1
    exact pyReprObj_int hz (wpAny_formatField_str ⟨.str (toString i), H1, I1.tok _, ⟨_, rfl⟩, q⟩ ⟨.str (toString i), H1, I1.tok _, ⟨_, rfl⟩, q⟩ (int_text_fits hz))
end
/-- an exception class of the text whose __init__ is ValueError's, read off by its name -/
structure CIn (K : PySem.W.Frag) (mg : Str → Option Value) (n : Str) (CB : Addr) : Prop where
  g : mg n = some (.ref CB)
  ga : PySem.W.specialIn K (.ref CB) "__getattribute__" = some (some (.builtin "type.__getattribute__"))
  rd : PySem.W.readsIn K CB (.type "type") = true
  fi : PySem.W.findCls K (.ref CB) (.type "type") "__init__" = some (.val (.builtin "ValueError.__init__"))
section
variable {X : Cx} {e : Expr} {es : List Expr} {ta : TA} {p1 p2 pos : Pos} {n : Str} {CB : Addr}
theorem pe_cinit {pl : Sem Bool} (T : CIn X.K X.mg n CB) (hg : Gl X n) (ha : PA X (e :: es) ta)
    (hc : eval (.Call (.Attribute (.Name n p1) "__init__" p2) (e :: es) [] pos) X.env = (do
      let ov ← eval (.Name n p1) X.env
      standAt p2.atName
      let (f, first) ← holding [ov] (getMethod ov "__init__" pl)
      callWith pos f first (backTo pos (starEach (e :: es) X.env)) (backToKw pos (keywordEach [] X.env))) := by rfl)
    (hdb : (n == ("__debug__" : Str)) = false := by decide) (he : starEach (e :: es) X.env = (false, eval e X.env) :: starEach es X.env := by rfl) (hpl : (backTo pos (starEach es X.env)).any (·.1) = false := by rfl) :
    PE X (.Call (.Attribute (.Name n p1) "__init__" p2) (e :: es) [] pos) (tVeI X.K ta) := by
  refine ⟨fun pins s σ H Q I h => ?_⟩
  refine PySem.W.methodCall_KW (ld_glob I hg T.g ?_ hdb) hc
  refine PySem.W.method_cls I.kIn T.ga (PySem.W.cls_value I.kIn T.rd T.fi (by decide +kernel) ?_)
  show wpAny _ _ (callWith pos (Value.builtin "ValueError.__init__") [] (backTo pos (starEach (e :: es) X.env)) []) _ _ _
  refine PyProof.Rows.callWith_method1 (thn (ha.run pos pins _ σ H _ (I.tok _) h) fun us s1 hu => ?_) he hpl
  obtain ⟨vs, H1, I1, r1, a, C, ws, rfl, hl, oc, ea, q⟩ := hu
  match us, r1 with
  | _ :: ur, .cons ra rw' =>
    obtain rfl := ra
    exact oinit_ok oc I1 ea (by rw [← Paired.length rw', sizeLine_eq]; omega) fun s2 J => ⟨.non, H1, J, rfl, q⟩
end
/-- an exception class over ClockError with an own __init__ that keeps one field -/
structure IniT (K : PySem.W.Frag) (mg : Str → Option Value) (n fld : Str) (st : Stmt) (C fI : Addr) (fd : FuncData) : Prop where
  g : mg n = some (.ref C)
  o : OexC K C
  i : PySem.W.findIn K (.ref C) "__init__" = some (some (.ref fI))
  ti : PySem.W.typeIn K (.ref fI) = some (.type "function")
  te : PySem.W.exmOne K (.ref C) (.ref C) = some true
  no : PySem.W.findIn K (.ref C) fld = some none
  F : Fun K "__init__" (n ++ ".__init__") st fI fd
  bi : Binds K fd ["self", fld] []
/-- an exception class over ClockError without more -/
structure OwnT (K : PySem.W.Frag) (mg : Str → Option Value) (n : Str) (C : Addr) : Prop where
  g : mg n = some (.ref C)
  x : PySem.W.excIn K C [.type "ValueError", .type "Exception", .type "BaseException", .type "object"] "ValueError.__new__" = true
  k : PySem.W.keepIn K (.ref C) = true
  b : PySem.W.subIn K (.ref C) (.type "BaseException") = some true
  t : PySem.W.typeIn K (.ref C) = some (.type "type")
  te : PySem.W.exmOne K (.ref C) (.ref C) = some true
def spIni (C : Addr) (fld : Str) : Sp := fun vs H Q _ => ∃ (a : Addr) (v : V), vs = [.ref a, v] ∧ H a = some (exo a C none) ∧ (v = .non ∨ ∃ i : Int, v = .int i ∧ 0 ≤ i ∧ i < 10 ^ 9) ∧
  ∀ dx, H dx = none → dx ≠ a → Q .non (upd (upd H dx (exd dx [(fld, v)])) a (exo a C (some dx)))
/-- what the making of such an exception asks, from what is wished of it -/
theorem ini_mk {C : Addr} {fld : Str} {v : V} {σ : St} {H : Hp} {Q : XK} {ta : TE} (hv : v = .non ∨ ∃ i : Int, v = .int i ∧ 0 ≤ i ∧ i < 10 ^ 9) (ht : ∀ q : VK, q v H → ta σ H q)
    (q : ∀ d H', H d = none → Same H H' → H' d = some (.xd [(fld, v)]) → Q (.ref C) (some d) H') : tMkO C (spIni C fld) [] (tCons ta tNil) σ H Q := by
  refine ht _ ⟨by show 1 ≤ 1000; decide, fun a ha => ⟨a, v, rfl, upd_same, hv, fun dx hd ne => ⟨rfl, dx, [(fld, v)], upd_same, ?_, ?_, ?_⟩⟩⟩
  · rw [upd_ne ne, upd_same]
  · rw [upd_ne ne] at hd
    exact hd
  · have hd' : H dx = none := by
      rw [upd_ne ne] at hd
      exact hd
    refine q dx _ hd' (fun b o e => ?_) upd_same
    have nb : b ≠ dx := ne_of_none e hd'
    have na : b ≠ a := ne_of_none e ha
    rw [upd_ne nb, del_ne na, upd_ne na, upd_ne nb, upd_ne na]
    exact e

/-! ### what is a name, what are names -/
theorem TyOf.same {K : PySem.W.Frag} {H H' : Hp} {x : V} {t : Value} (s : Same H H') (h : TyOf K H x t) : TyOf K H' x t := by
  cases h with
  | non => exact .non
  | bl b => exact .bl b
  | int i => exact .int i
  | str z => exact .str z
  | flt z => exact .flt z
  | lst e => exact .lst (s _ _ e)
  | frz e => exact .frz (s _ _ e)
  | tup e => exact .tup (s _ _ e)
  | dK e => exact .dK (s _ _ e)
  | dT e => exact .dT (s _ _ e)
  | ins e cl ha hn htk hm => exact .ins (s _ _ e) cl ha hn htk hm
theorem TyX.same {K : PySem.W.Frag} {H H' : Hp} {x : V} {t : Value} (s : Same H H') (h : TyX K H x t) : TyX K H' x t := by
  cases h with
  | base b => exact .base (b.same s)
  | byt b => exact .byt b
  | set e => exact .set (s _ _ e)
  | kList e c => exact .kList e c
  | kTuple e c => exact .kTuple e c
  | kDict e c => exact .kDict e c
  | fTuple e => exact .fTuple (s _ _ e)
  | fDict e => exact .fDict (s _ _ e)
/-- x is a name or is none, as b says -/
def NmV (K : PySem.W.Frag) (H : Hp) (x : V) (b : Bool) : Prop :=
  (∃ z : Str, x = .str z ∧ z.length ≤ 100000 ∧ b = isW z) ∨ (b = false ∧ ∃ t, TyX K H x t ∧ PySem.W.kitOne K t (.type "str") = some false)
theorem NmV.same {K : PySem.W.Frag} {H H' : Hp} {x : V} {b : Bool} (s : Same H H') (h : NmV K H x b) : NmV K H' x b := by
  rcases h with h | ⟨e, t, ht, hk⟩
  · exact .inl h
  · exact .inr ⟨e, t, ht.same s, hk⟩
theorem NmV.yes {K : PySem.W.Frag} {H : Hp} {x : V} (h : NmV K H x true) : ∃ z : Str, x = .str z ∧ isW z = true := by
  rcases h with ⟨z, e, _, hw⟩ | ⟨e, _⟩
  · exact ⟨z, e, hw.symm⟩
  · cases e
theorem NmV.of {K : PySem.W.Frag} {H : Hp} {z : Str} (h : z.length ≤ 100000) : NmV K H (.str z) (isW z) := .inl ⟨z, rfl, h, rfl⟩
def spIsName (K : PySem.W.Frag) : Sp := fun vs H Q _ => ∃ (x : V) (b : Bool), vs = [x] ∧ NmV K H x b ∧ ∀ H', Same H H' → Q (.bl b) H'
/-- x is a row of names or is none, as b says -/
def NmsV (K : PySem.W.Frag) (H : Hp) (x : V) (b : Bool) : Prop :=
  (∃ (a : Addr) (xs : List V) (bs : List Bool), x = .ref a ∧ SqT K H a xs ∧ TyX K H x (.type "tuple") ∧ Paired (NmV K H) xs bs ∧ b = (decide (xs.length ≤ 16) && (bs.all id && decide xs.Nodup))) ∨
    (b = false ∧ ∃ t, TyX K H x t ∧ PySem.W.kitOne K t (.type "tuple") = some false)
def spIsNames (K : PySem.W.Frag) : Sp := fun vs H Q _ => ∃ (x : V) (b : Bool), vs = [x] ∧ NmsV K H x b ∧ ∀ H', Same H H' → Q (.bl b) H'
theorem nms_strs {K : PySem.W.Frag} {H : Hp} : ∀ {xs : List V} {bs : List Bool}, Paired (NmV K H) xs bs → bs.all id = true → ∃ ss : List Str, xs = ss.map V.str ∧ ∀ s ∈ ss, isW s = true
  | _, _, .nil, _ => ⟨[], rfl, by simp⟩
  | _, _, .cons (b := b) h t, e => by
    rw [List.all_cons, Bool.and_eq_true] at e
    obtain ⟨e1, e2⟩ := e
    have e1 : b = true := e1
    subst e1
    obtain ⟨z, rfl, hz⟩ := h.yes
    obtain ⟨ss, rfl, hs⟩ := nms_strs t e2
    refine ⟨z :: ss, rfl, fun s hm => ?_⟩
    rcases List.mem_cons.mp hm with rfl | hm
    · exact hz
    · exact hs s hm
theorem nd_strs (ss : List Str) : (ss.map V.str).Nodup ↔ ss.Nodup := by
  rw [List.nodup_iff_pairwise_ne, List.nodup_iff_pairwise_ne, List.pairwise_map]
  constructor
  · intro h
    exact h.imp fun {a b} n e => n (congrArg V.str e)
  · intro h
    exact h.imp fun {a b} n e => n (V.str.inj e)
/-- rows of texts -/
def okNames (ss : List Str) : Bool := decide (ss.length ≤ 16) && ((ss.map isW).all id && decide ss.Nodup)
theorem pair_strs {K : PySem.W.Frag} {H : Hp} : ∀ {ss : List Str}, (∀ s ∈ ss, s.length ≤ 100000) → Paired (NmV K H) (ss.map V.str) (ss.map isW)
  | [], _ => .nil
  | s :: r, h => .cons (.of (h s (List.mem_cons_self ..))) (pair_strs fun x hx => h x (List.mem_cons_of_mem _ hx))
theorem NmsV.strs {K : PySem.W.Frag} {H : Hp} {a : Addr} {ss : List Str} (h : H a = some (.tup (ss.map V.str))) (hl : ∀ s ∈ ss, s.length ≤ 100000) : NmsV K H (.ref a) (okNames ss) := by
  refine .inl ⟨a, _, ss.map isW, rfl, .inl (.inl h), .base (.tup h), pair_strs hl, ?_⟩
  unfold okNames
  rw [List.length_map, decide_eq_decide.mpr (nd_strs ss)]
theorem okNames_mk {ss : List Str} (h1 : ss.length ≤ 16) (h2 : ∀ s ∈ ss, isW s = true) (h3 : ss.Nodup) : okNames ss = true := by
  unfold okNames
  simp only [Bool.and_eq_true, decide_eq_true_eq, List.all_map, List.all_eq_true]
  exact ⟨h1, h2, h3⟩
theorem okNames_of {ss : List Str} (h : okNames ss = true) : ss.length ≤ 16 ∧ (∀ s ∈ ss, isW s = true) ∧ ss.Nodup := by
  unfold okNames at h
  simp only [Bool.and_eq_true, decide_eq_true_eq, List.all_map, List.all_eq_true] at h
  exact h
theorem lt_abc {a c : Nat} : decide (([a] : List Nat) < [c]) = decide (a < c) := by
  by_cases h : a < c
  · rw [decide_eq_true h]
    exact decide_eq_true (List.Lex.rel h)
  · rw [decide_eq_false h]
    refine decide_eq_false fun z => ?_
    cases z with
    | rel q => exact h q
    | cons q => cases q
theorem sum_names : ∀ (ss : List Str), ss.length ≤ 16 → (∀ s ∈ ss, isW s = true) → (ss.map (·.length)).sum + ss.length * (Str.ofString " ").length ≤ 16777216 := by
  have key : ∀ ss : List Str, (∀ s ∈ ss, isW s = true) → (ss.map (·.length)).sum ≤ ss.length * 8 := by
    intro ss
    induction ss with
    | nil => intro _; exact Nat.le_refl _
    | cons s r ih =>
      intro h
      have h1 := (isW_len (h s (List.mem_cons_self ..))).2
      have h2 := ih fun x hx => h x (List.mem_cons_of_mem _ hx)
      rw [List.map_cons, List.sum_cons, List.length_cons]
      omega
  intro ss hl hw
  have e : (Str.ofString " ").length = 1 := by decide +kernel
  have := key ss hw
  rw [e]
  omega
theorem spl_part_len (S : List Nat) : ∀ (l : List Nat) (k : Nat) (acc p : List Nat), p ∈ TL.spl S k acc l → p.length ≤ acc.length + l.length
  | [], k, acc, p, h => by
    rw [TL.spl_nil] at h
    rw [List.mem_singleton.mp h]
    exact Nat.le_add_right _ _
  | c :: r, k + 1, acc, p, h => by
    have h2 : p ∈ TL.spl S k acc r := h
    have := spl_part_len S r k acc p h2
    rw [List.length_cons]
    omega
  | c :: r, 0, acc, p, h => by
    rw [List.length_cons]
    cases hp : TL.pre S (c :: r) with
    | true =>
      rw [TL.spl_hit hp] at h
      rcases List.mem_cons.mp h with rfl | h
      · omega
      · have := spl_part_len S r _ [] p h
        rw [List.length_nil] at this
        omega
    | false =>
      rw [TL.spl_miss hp] at h
      have := spl_part_len S r 0 (acc ++ [c]) p h
      rw [List.length_append] at this
      have e : [c].length = 1 := rfl
      omega
/-- two ways that meet -/
theorem meetR {c : Prop} [Decidable c] {A B : VK → Prop} {Q : VK} (P : V → Hp → Prop) (h1 : c → ∀ Q : VK, (∀ v H, P v H → Q v H) → A Q) (h2 : ¬ c → ∀ Q : VK, (∀ v H, P v H → Q v H) → B Q) (q : ∀ v H, P v H → Q v H) : if c then A Q else B Q := by
  by_cases h : c
  · rw [if_pos h]
    exact h1 h Q q
  · rw [if_neg h]
    exact h2 h Q q
end L2

set_option Elab.async false
set_option linter.all false
set_option maxRecDepth 100000
set_option maxHeartbeats 4000000
namespace L2
open PySem PySem.Spec PyProof.Rows
/-! ### texts of names -/
abbrev dash : Str := "-"
abbrev jn (ss : List Str) : Str := Txt.join " " ss
def wr (ss : List Str) : Str := if ss = [] then "-" else jn ss
def rd (z : Str) : List Str := if z = "-" then [] else Txt.split z " "
theorem tl_sp : TL.tl " " = [32] := by decide +kernel
theorem tl_dash : TL.tl "-" = [45] := by decide +kernel
def NoSp (ss : List Str) : Prop := ∀ s ∈ ss, 32 ∉ TL.tl s
theorem NoSp.of {ss : List Str} (h : ∀ s ∈ ss, isW s = true) : NoSp ss := fun s hs hm => by
  have := isW_let (h s hs) 32 hm
  omega
theorem NoSp.app {ss ts : List Str} (a : NoSp ss) (b : NoSp ts) : NoSp (ss ++ ts) := fun s hs => (List.mem_append.mp hs).elim (a s) (b s)
theorem split_jn {ss : List Str} (h : ss ≠ []) (n : NoSp ss) : Txt.split (jn ss) " " = ss := TL.split_join tl_sp (by decide +kernel) h n
theorem rd_jn {ss : List Str} (h : ss ≠ []) (n : NoSp ss) : rd (jn ss) = if ss = [dash] then [] else ss := by
  by_cases e : ss = [dash]
  · subst e
    rw [if_pos rfl]
    unfold rd
    exact if_pos rfl
  · rw [if_neg e]
    unfold rd
    rw [if_neg, split_jn h n]
    intro z
    have h1 := split_jn h n
    rw [z] at h1
    have h2 : Txt.split "-" " " = [dash] := split_jn (ss := [dash]) (by simp) (by
      intro s hs
      rw [List.mem_singleton.mp hs, tl_dash]
      decide)
    exact e (h1.symm.trans h2)
theorem isW_dash : isW "-" = false := by decide +kernel
theorem ne_dash {ss : List Str} (h : ∀ s ∈ ss, isW s = true) : ss ≠ [dash] := fun e => by
  have := h dash (by rw [e]; exact List.mem_singleton.mpr rfl)
  rw [isW_dash] at this
  cases this
theorem rd_wr {ss : List Str} (h : ∀ s ∈ ss, isW s = true) : rd (wr ss) = ss := by
  unfold wr
  by_cases e : ss = []
  · subst e
    rw [if_pos rfl]
    exact if_pos rfl
  · rw [if_neg e, rd_jn e (.of h), if_neg (ne_dash h)]
theorem joinL_app (S : List Nat) : ∀ xs ys : List (List Nat), xs ≠ [] → ys ≠ [] → TL.joinL S (xs ++ ys) = TL.joinL S xs ++ (S ++ TL.joinL S ys)
  | [], _, h, _ => absurd rfl h
  | [x], [], _, h => absurd rfl h
  | [x], y :: r, _, _ => rfl
  | x :: z :: r, ys, _, h => by
    have ih := joinL_app S (z :: r) ys (by simp) h
    show x ++ (S ++ TL.joinL S ((z :: r) ++ ys)) = (x ++ (S ++ TL.joinL S (z :: r))) ++ (S ++ TL.joinL S ys)
    rw [ih]
    simp [List.append_assoc]
theorem jn_app {xs ys : List Str} (hx : xs ≠ []) (hy : ys ≠ []) : jn (xs ++ ys) = jn xs ++ " " ++ jn ys := by
  refine TL.ext_tl ?_
  rw [TL.tl_append, TL.tl_append]
  unfold jn
  rw [TL.join_eq, TL.join_eq, TL.join_eq, TL.tl_join, TL.tl_join, TL.tl_join, List.map_append, joinL_app _ _ _ (by simpa using hx) (by simpa using hy), List.append_assoc]
theorem wr_jn {ss : List Str} (h : ss ≠ []) : wr ss = jn ss := if_neg h
theorem jn_len : ∀ (ss : List Str), (∀ s ∈ ss, s.length ≤ 8) → (jn ss).length ≤ ss.length * 9
  | [], _ => Nat.zero_le _
  | [s], h => by
    have := h s (List.mem_cons_self ..)
    have e : jn [s] = s := TL.ext_tl (by
      unfold jn
      rw [TL.join_eq, TL.tl_join]
      rfl)
    rw [e]
    show s.length ≤ 1 * 9
    omega
  | s :: t :: r, h => by
    have h1 := h s (List.mem_cons_self ..)
    have ih := jn_len (t :: r) fun x hx => h x (List.mem_cons_of_mem _ hx)
    have e := jn_app (xs := [s]) (ys := t :: r) (by simp) (by simp)
    have e1 : jn [s] = s := TL.ext_tl (by
      unfold jn
      rw [TL.join_eq, TL.tl_join]
      rfl)
    have e2 : s :: t :: r = [s] ++ (t :: r) := rfl
    have e3 : (Str.ofString " ").length = 1 := by decide +kernel
    rw [e2, e, e1, Str.length_append, Str.length_append, e3]
    rw [List.length_append]
    have e4 : [s].length = 1 := rfl
    omega
theorem wr_len {ss : List Str} (h : ∀ s ∈ ss, isW s = true) (l : ss.length ≤ 16) : (wr ss).length ≤ 200 := by
  unfold wr
  split
  · decide +kernel
  · have := jn_len ss fun s hs => (isW_len (h s hs)).2
    omega
theorem okNames_perm {ss ts : List Str} (p : ss.Perm ts) (h : okNames ss = true) : okNames ts = true := by
  obtain ⟨h1, h2, h3⟩ := okNames_of h
  exact okNames_mk (by rw [← p.length_eq]; exact h1) (fun s hs => h2 s (p.mem_iff.mpr hs)) (p.nodup_iff.mp h3)
/-- two rows behind one another -/
theorem okNames_app {xs ys : List Str} (hx : okNames xs = true) (hy : okNames ys = true) : okNames (xs ++ ys) = (decide (xs.filter (fun s => decide (s ∈ ys)) = []) && decide ((xs ++ ys).length < 17)) := by
  obtain ⟨a1, a2, a3⟩ := okNames_of hx
  obtain ⟨b1, b2, b3⟩ := okNames_of hy
  have hd : xs.filter (fun s => decide (s ∈ ys)) = [] ↔ (xs ++ ys).Nodup := by
    rw [List.nodup_append]
    constructor
    · intro h
      refine ⟨a3, b3, fun a ha b hb e => ?_⟩
      have := List.filter_eq_nil_iff.mp h a ha
      exact this (decide_eq_true (e ▸ hb))
    · intro h
      refine List.filter_eq_nil_iff.mpr fun a ha e => ?_
      exact h.2.2 a ha a (of_decide_eq_true e) rfl
  rw [Bool.eq_iff_iff]
  constructor
  · intro h
    obtain ⟨h1, _, h3⟩ := okNames_of h
    rw [Bool.and_eq_true]
    exact ⟨decide_eq_true (hd.mpr h3), decide_eq_true (by omega)⟩
  · intro h
    rw [Bool.and_eq_true] at h
    have h1 := of_decide_eq_true h.1
    have h2 := of_decide_eq_true h.2
    refine okNames_mk (by omega) (fun s hs => (List.mem_append.mp hs).elim (a2 s) (b2 s)) (hd.mp h1)
theorem okNames_dash1 {ss : List Str} : okNames (dash :: ss) = false := by
  cases e : okNames (dash :: ss) with
  | false => rfl
  | true =>
    have := (okNames_of e).2.1 dash (List.mem_cons_self ..)
    rw [isW_dash] at this
    cases this
theorem okNames_dash2 {ss : List Str} : okNames (ss ++ [dash]) = false := by
  cases e : okNames (ss ++ [dash]) with
  | false => rfl
  | true =>
    have := (okNames_of e).2.1 dash (List.mem_append_right _ (List.mem_singleton.mpr rfl))
    rw [isW_dash] at this
    cases this
theorem NmsV.strsB {K : PySem.W.Frag} {H : Hp} {a : Addr} {ss : List Str} (h : SqT K H a (ss.map V.str)) (t : TyX K H (.ref a) (.type "tuple")) (hl : ∀ s ∈ ss, s.length ≤ 100000) : NmsV K H (.ref a) (okNames ss) := by
  refine .inl ⟨a, _, ss.map isW, rfl, h, t, pair_strs hl, ?_⟩
  unfold okNames
  rw [List.length_map, decide_eq_decide.mpr (nd_strs ss)]
theorem NmsV.strsT {K : PySem.W.Frag} {H : Hp} {a : Addr} {ss : List Str} (h : SqT K H a (ss.map V.str)) (t : TyX K H (.ref a) (.type "tuple")) (ok : okNames ss = true) : NmsV K H (.ref a) true := by
  have z := NmsV.strsB h t fun s hs => Nat.le_trans (isW_len ((okNames_of ok).2.1 s hs)).2 (by decide)
  rw [ok] at z
  exact z
theorem cut_from {α : Type} (f : α → V) (ws : List α) (j : Nat) : cutV (ws.map f) (some (j : Int)) none = (ws.drop j).map f := by
  unfold cutV
  rw [HT.sIx_nat, HT.sIx_none, List.length_map, ← List.map_drop, ← List.map_take]
  congr 1
  by_cases h : j ≤ ws.length
  · rw [Nat.min_eq_left h]
    exact List.take_of_length_le (by rw [List.length_drop]; exact Nat.le_refl _)
  · rw [Nat.min_eq_right (by omega), Nat.sub_self, List.take_zero, List.drop_of_length_le (by omega)]
theorem cut_to {α : Type} (f : α → V) (ws : List α) (j : Nat) : cutV (ws.map f) none (some (j : Int)) = (ws.take j).map f := by
  unfold cutV
  rw [HT.sIx_nat, HT.sIx_none, List.length_map, List.drop_zero, Nat.sub_zero, ← List.map_take]
  congr 1
  by_cases h : j ≤ ws.length
  · rw [Nat.min_eq_left h]
  · rw [Nat.min_eq_right (by omega), List.take_of_length_le (Nat.le_refl _), List.take_of_length_le (by omega)]
theorem rot_ok {ws : List Str} (j : Nat) (h : okNames ws = true) : okNames (ws.drop j ++ ws.take j) = true := okNames_perm (ss := ws) (by
  have p : (ws.take j ++ ws.drop j).Perm (ws.drop j ++ ws.take j) := List.perm_append_comm
  rw [List.take_append_drop] at p
  exact p) h
theorem take_ok {ws : List Str} (j : Nat) (h : okNames ws = true) : okNames (ws.take j) = true := by
  obtain ⟨h1, h2, h3⟩ := okNames_of h
  refine okNames_mk (by rw [List.length_take]; omega) (fun s hs => h2 s (List.mem_of_mem_take hs)) (h3.sublist (List.take_sublist j ws))
theorem drop_ok {ws : List Str} (j : Nat) (h : okNames ws = true) : okNames (ws.drop j) = true := by
  obtain ⟨h1, h2, h3⟩ := okNames_of h
  refine okNames_mk (by rw [List.length_drop]; omega) (fun s hs => h2 s (List.mem_of_mem_drop hs)) (h3.sublist (List.drop_sublist j ws))
/-- a statement whose ways meet -/
theorem seq_meet {t u : TS} {D : Ends} {σ : St} {H : Hp} (P : St → Hp → Prop) (h : ∀ N : St → Hp → Prop, (∀ σ' H', P σ' H' → N σ' H') → t { D with nx := N } σ H) (q : ∀ σ' H', P σ' H' → u D σ' H') : tSeq t u D σ H := h (u D) q
theorem slA_to {K : PySem.W.Frag} {H : Hp} {a : Addr} {ss : List Str} {j : Nat} {Q : VK} (h : H a = some (.tup (ss.map V.str))) (q : ∀ p H', Same H H' → H' p = some (.tup ((ss.take j).map V.str)) → Q (.ref p) H') : rSlA K (.ref a) none (some (j : Int)) H Q := by
  refine ⟨a, _, rfl, SqT.of h, fun hw => ?_, fun _ p hp => ?_⟩
  · have h2 := hw.2
    rw [HT.sIx_nat, List.length_map] at h2
    refine q a H (Same.refl H) ?_
    rw [List.take_of_length_le (by omega)]
    exact h
  · rw [cut_to]
    exact q p _ (gSame_new hp) upd_same
theorem slA_from {K : PySem.W.Frag} {H : Hp} {a : Addr} {ss : List Str} {j : Nat} {Q : VK} (h : H a = some (.tup (ss.map V.str))) (q : ∀ p H', Same H H' → H' p = some (.tup ((ss.drop j).map V.str)) → Q (.ref p) H') : rSlA K (.ref a) (some (j : Int)) none H Q := by
  refine ⟨a, _, rfl, SqT.of h, fun hw => ?_, fun _ p hp => ?_⟩
  · have h1 := hw.1
    rw [HT.sIx_nat, List.length_map] at h1
    refine q a H (Same.refl H) ?_
    have e : ss.drop j = ss := by
      cases j with
      | zero => rfl
      | succ j =>
        have : ss.length = 0 := by omega
        rw [List.length_eq_zero_iff.mp this]
        rfl
    rw [e]
    exact h
  · rw [cut_from]
    exact q p _ (gSame_new hp) upd_same
theorem catA_strs {K : PySem.W.Frag} {H : Hp} {a b : Addr} {xs ys : List Str} {Q : VK} (ha : H a = some (.tup (xs.map V.str))) (hb : H b = some (.tup (ys.map V.str))) (hl : xs.length + ys.length ≤ 1000) (q : ∀ p H', Same H H' → H' p = some (.tup ((xs ++ ys).map V.str)) → Q (.ref p) H') : rCatA K (.ref a) (.ref b) H Q := by
  refine ⟨a, b, _, _, rfl, rfl, SqT.of ha, SqT.of hb, by rw [List.length_map, List.length_map, sizeLine_eq]; omega, fun e => ?_, fun _ e => ?_, fun _ _ p hp => ?_⟩
  · refine q b H (Same.refl H) ?_
    rw [List.map_append, e]
    exact hb
  · refine q a H (Same.refl H) ?_
    rw [List.map_append, e, List.append_nil]
    exact ha
  · refine q p _ (gSame_new hp) ?_
    rw [upd_same, List.map_append]
end L2

set_option Elab.async false
set_option linter.all false
set_option maxRecDepth 100000
set_option maxHeartbeats 4000000
namespace L2
open PySem PySem.Spec PyProof.Rows
/-! ### what the text's top has written -/
/-- an error of the class at S is what «except S» names -/
theorem exm_self {K : PySem.W.Frag} {S : Addr} (h1 : PySem.W.subIn K (.ref S) (.type "BaseException") = some true) (h2 : PySem.W.isClsIn K S = true) (h3 : PySem.W.typeIn K (.ref S) = some (.type "type")) (h4 : PySem.W.subIn K (.ref S) (.ref S) = some true) :
    PySem.W.exmOne K (.ref S) (.ref S) = some true := by
  have e1 : (PySem.W.subIn K (.ref S) (.type "BaseException") == some true) = true := by rw [h1] <;> rfl
  have e2 : ((PySem.W.clsIn K S).isSome && PySem.W.typeIn K (.ref S) == some (.type "type")) = true := by
    have h2' : (PySem.W.clsIn K S).isSome = true := h2
    rw [h2', h3] <;> rfl
  show (if (PySem.W.subIn K (.ref S) (.type "BaseException") == some true) = true then (if ((PySem.W.clsIn K S).isSome && PySem.W.typeIn K (.ref S) == some (.type "type")) = true then PySem.W.subIn K (.ref S) (.ref S) else none) else none) = some true
  rw [if_pos e1, if_pos e2]
  exact h4
section
variable {K : PySem.W.Frag} {h : Heap} {mg : Str → Option Value} (X : K.In h) (G : h.Ns mainGlobals mg)
include X G
theorem blt_mk (z1 : PySem.W.nsIn K mainGlobals "len" = some none) (z2 : PySem.W.nsIn K mainGlobals "int" = some none) (z3 : PySem.W.nsIn K mainGlobals "abs" = some none) (z4 : PySem.W.nsIn K mainGlobals "max" = some none)
    (z5 : PySem.W.nsIn K mainGlobals "min" = some none) (z6 : PySem.W.nsIn K mainGlobals "range" = some none) (z7 : PySem.W.nsIn K mainGlobals "all" = some none) (z8 : PySem.W.nsIn K mainGlobals "isinstance" = some none)
    (z9 : PySem.W.nsIn K mainGlobals "str" = some none) (z10 : PySem.W.nsIn K mainGlobals "tuple" = some none) (z11 : PySem.W.nsIn K mainGlobals "list" = some none) (z12 : PySem.W.nsIn K mainGlobals "set" = some none)
    (z13 : PySem.W.nsIn K mainGlobals "sorted" = some none) (z14 : PySem.W.nsIn K mainGlobals "repr" = some none) (z15 : PySem.W.nsIn K mainGlobals "bool" = some none) (z16 : PySem.W.nsIn K mainGlobals "dict" = some none) : Blt mg :=
  ⟨PySem.W.mg_none_of X G z1, PySem.W.mg_none_of X G z2, PySem.W.mg_none_of X G z3, PySem.W.mg_none_of X G z4, PySem.W.mg_none_of X G z5, PySem.W.mg_none_of X G z6, PySem.W.mg_none_of X G z7, PySem.W.mg_none_of X G z8,
    PySem.W.mg_none_of X G z9, PySem.W.mg_none_of X G z10, PySem.W.mg_none_of X G z11, PySem.W.mg_none_of X G z12, PySem.W.mg_none_of X G z13, PySem.W.mg_none_of X G z14, PySem.W.mg_none_of X G z15, PySem.W.mg_none_of X G z16⟩
theorem df_mk {x : Str} {st : Stmt} {ps : List Str} {f : Addr} {oc : Value} {od an : Option Addr} {osl : Array (Option Value)} {kV doc pm cdv ct : Value} (a : PySem.W.nsIn K mainGlobals x = some (some (.ref f)))
    (l : K.lookup f = some ⟨oc, od, .func (PySem.W.fnOf x x (defArgs st) (defBody st) (defScope st) .none kV doc pm an cdv ct), osl⟩) (c : PySem.W.codeIn K cdv x = true) (k : PySem.W.keepIn K (.ref f) = true)
    (hb : ∀ (kV doc pm : Value) (an : Option Addr) (cdv ct : Value) (us : List Value), us.length = ps.length → bindArgs (PySem.W.fnOf x x (defArgs st) (defBody st) (defScope st) .none kV doc pm an cdv ct) ⟨us, []⟩ = pure (ps.zip us)) :
    Df K mg x st ps f (PySem.W.fnOf x x (defArgs st) (defBody st) (defScope st) .none kV doc pm an cdv ct) :=
  have F := fun_mk (st := st) l c k
  ⟨F, PySem.W.mg_of X G a, F.binds hb⟩
theorem iniT_mk {n fld q : Str} {st : Stmt} {C f : Addr} {nm q0 : Str} {N : Addr} {bs bm : List Value} {sn : List Str} {sub : List Value} {ab : Bool} {col : Option Bool} {dd : Option Addr} {m0 m1 m2 m3 m5 : Option Value}
    {oc : Value} {od an : Option Addr} {osl : Array (Option Value)} {kV doc pm cdv ct : Value} (hq : n ++ ".__init__" = q)
    (aC : PySem.W.nsIn K mainGlobals n = some (some (.ref C))) (xL : K.lookup C = some (excClassObj nm q0 C N bs bm true sn sub ab col dd m0 m1 m2 m3 m5 "ValueError.__new__")) (hbm : PySem.HandSPX.refsVE bm = true)
    (sa : PySem.W.findIn K (.ref C) "__setattr__" = some (some (.builtin "object.__setattr__"))) (nb : PySem.W.findIn K (.ref C) fld = some none)
    (a1 : PySem.W.findIn K (.ref C) "__init__" = some (some (.ref f))) (t1 : PySem.W.typeIn K (.ref f) = some (.type "function"))
    (l : K.lookup f = some ⟨oc, od, .func (PySem.W.fnOf "__init__" q (defArgs st) (defBody st) (defScope st) .none kV doc pm an cdv ct), osl⟩) (c : PySem.W.codeIn K cdv q = true) (k : PySem.W.keepIn K (.ref f) = true)
    (kC : PySem.W.keepIn K (.ref C) = true) (eC : PySem.W.subIn K (.ref C) (.type "BaseException") = some true) (tC : PySem.W.typeIn K (.ref C) = some (.type "type")) (iC : PySem.W.isClsIn K C = true) (sC : PySem.W.subIn K (.ref C) (.ref C) = some true)
    (hb : ∀ (kV doc pm : Value) (an : Option Addr) (cdv ct : Value) (us : List Value), us.length = (["self", fld] : List Str).length → bindArgs (PySem.W.fnOf "__init__" q (defArgs st) (defBody st) (defScope st) .none kV doc pm an cdv ct) ⟨us, []⟩ = pure ((["self", fld] : List Str).zip us)) :
    IniT K mg n fld st C f (PySem.W.fnOf "__init__" q (defArgs st) (defBody st) (defScope st) .none kV doc pm an cdv ct) := by
  subst hq
  have F := fun_mk (st := st) l c k
  exact ⟨PySem.W.mg_of X G aC, ⟨⟨nm, q0, N, bs, bm, sn, sub, ab, col, dd, m0, m1, m2, m3, m5, xL, hbm⟩, sa, eC, tC, kC⟩, a1, t1, exm_self eC iC tC sC, nb, F, F.binds hb⟩
theorem ownT_mk {n : Str} {C : Addr} (aC : PySem.W.nsIn K mainGlobals n = some (some (.ref C))) (xC : PySem.W.excIn K C [.type "ValueError", .type "Exception", .type "BaseException", .type "object"] "ValueError.__new__" = true)
    (kC : PySem.W.keepIn K (.ref C) = true) (eC : PySem.W.subIn K (.ref C) (.type "BaseException") = some true) (tC : PySem.W.typeIn K (.ref C) = some (.type "type")) (iC : PySem.W.isClsIn K C = true) (sC : PySem.W.subIn K (.ref C) (.ref C) = some true) : OwnT K mg n C :=
  ⟨PySem.W.mg_of X G aC, xC, kC, eC, tC, exm_self eC iC tC sC⟩
theorem cin_mk {n : Str} {C : Addr} (aC : PySem.W.nsIn K mainGlobals n = some (some (.ref C))) (ga : PySem.W.specialIn K (.ref C) "__getattribute__" = some (some (.builtin "type.__getattribute__")))
    (rd : PySem.W.readsIn K C (.type "type") = true) (fi : PySem.W.findCls K (.ref C) (.type "type") "__init__" = some (.val (.builtin "ValueError.__init__"))) : CIn K mg n C := ⟨PySem.W.mg_of X G aC, ga, rd, fi⟩
end
end L2

set_option Elab.async false
set_option linter.all false
set_option maxRecDepth 100000
set_option maxHeartbeats 8000000
namespace Gk
open PySem PySem.Spec PyProof.Rows L2
def topS (i : Nat) : Stmt := PySem.Challenge.pw_groupclocks_k04_names_in_every_order.main.body.getD i (.Pass ⟨0, 0, 0, 0⟩)
abbrev s_tape : Stmt := topS 12
theorem sc_tape : FnScope ["script", "spot", "cell", "great", "begin"] ["script", "spot"] (defScope s_tape) := ⟨rfl, rfl, rfl, by decide +kernel, rfl, by decide +kernel, by decide +kernel⟩
abbrev s_roll : Stmt := topS 13
theorem sc_roll : FnScope ["tape", "total", "found", "one", "two"] ["tape", "total"] (defScope s_roll) := ⟨rfl, rfl, rfl, by decide +kernel, rfl, by decide +kernel, by decide +kernel⟩
abbrev s_pick : Stmt := topS 14
theorem sc_pick : FnScope ["tape", "items"] ["tape", "items"] (defScope s_pick) := ⟨rfl, rfl, rfl, by decide +kernel, rfl, by decide +kernel, by decide +kernel⟩
abbrev s_few : Stmt := topS 15
theorem sc_few : FnScope ["tape", "items", "many", "left", "found"] ["tape", "items", "many"] (defScope s_few) := ⟨rfl, rfl, rfl, by decide +kernel, rfl, by decide +kernel, by decide +kernel⟩
abbrev s_word_drawn : Stmt := topS 16
theorem sc_word_drawn : FnScope ["tape", "lots", "turn"] ["tape"] (defScope s_word_drawn) := ⟨rfl, rfl, rfl, by decide +kernel, rfl, by decide +kernel, by decide +kernel⟩
abbrev s_words_drawn : Stmt := topS 17
theorem sc_words_drawn : FnScope ["tape", "lots", "found", "turn", "word", "left", "sign"] ["tape", "lots"] (defScope s_words_drawn) := ⟨rfl, rfl, rfl, by decide +kernel, rfl, by decide +kernel, by decide +kernel⟩
section
variable {P : Program} {w : World} {K : PySem.W.Frag} {mg : Str → Option Value} {base : Heap}
theorem ok_tape {f : Addr} {fd : FuncData} (B : Blt mg) (D : Df K mg "_law_tape" s_tape ["script", "spot"] f fd) : FnOk P w K mg base CX0 1 f fd ["script", "spot"] (spTape K) := by
  refine D.F.ok sc_tape (fun vs H Q E h => ?_) (fun cdv A outer s H vs Q E hr h => ?_)
  · obtain ⟨a, ns, n, rfl, _⟩ := h
    rfl
  · obtain ⟨a, ns, n, rfl, hS, h0, q⟩ := h
    refine ⟨_, (pss_cons (ps_set (i := 2) sc_tape.nd rfl (Or.inl rfl) (pe_ifExp (pt_cmpR op_lt (pv 1) (pe_callB call_len_seq (by rfl) B.len_ (by decide +kernel) (pa_cons (pv 0) pa_nil)) (nomark _)) (pe_ix ix_list (pv 0) (pv 1) (fun _ _ => rfl)) (pe_op op_add (pe_op op_mul pe_int (pv 1)) pe_int)))
    (pss_cons (ps_set (i := 3) sc_tape.nd rfl (Or.inl rfl) (pe_op op_modN (pe_callTy call_int1 (by rfl) B.int_ (by decide +kernel) (pa_cons (pe_callB call_abs (by rfl) B.abs_ (by decide +kernel) (pa_cons (pv 2) pa_nil)) pa_nil)) (pe_op op_powW (pe_op op_powW pe_int pe_int) pe_int)))
    (pss_cons (ps_set (i := 4) sc_tape.nd rfl (Or.inl rfl) (pe_op op_add (pe_op op_add (pe_op op_add (pe_op op_mul (pv 3) pe_int) (pe_op op_mul pe_int (pv 1))) (pe_op op_mul pe_int (pe_callTy call_int1 (by rfl) B.int_ (by decide +kernel) (pa_cons (pe_cmpR op_lt (pv 2) pe_int (nomark _)) pa_nil)))) pe_int))
    (pss_one (ps_ret (pe_lst (pa_cons (pe_callB (call_max2 rfl) (by rfl) B.max_ (by decide +kernel) (pa_cons pe_int (pa_cons (pe_op op_sub (pv 3) (pe_op op_powW pe_int pe_int)) pa_nil))) (pa_cons (pe_op op_modN (pe_callTy call_int1 (by rfl) B.int_ (by decide +kernel) (pa_cons (pv 4) pa_nil)) pe_int) (pa_cons pe_int pa_nil))))))))), ?_⟩
    refine ⟨_, rfl, _, rfl, a, _, rfl, .inl hS, _, _, rfl, rfl, _, rfl, ?_⟩
    obtain ⟨c, hc⟩ : ∃ c : Int, c = if n < ns.length then ns.getD n.toNat 0 else 83 * n + 17 := ⟨_, rfl⟩
    refine meetI H (.int c) (fun hlt Q q => ?_) (fun hge Q q => ?_) ?_
    · have hlt' : n < ns.length := by
        have := of_decide_eq_true hlt
        rw [List.length_map] at this
        exact this
      have hj : n.toNat < ns.length := by omega
      refine ⟨_, rfl, _, rfl, a, _, n, .int c, rfl, rfl, hS, ?_, q⟩
      refine at_of (j := n.toNat) (by omega) ?_
      rw [List.getElem?_map, List.getElem?_eq_getElem hj, hc, if_pos hlt', List.getD_eq_getElem?_getD, List.getElem?_eq_getElem hj]
      rfl
    · have hge' : ¬ n < ns.length := fun z => hge (decide_eq_true (by rw [List.length_map]; exact z))
      rw [if_neg hge'] at hc
      refine ⟨_, rfl, _, _, rfl, rfl, .inl (by constructor <;> decide), _, _, rfl, rfl, ?_⟩
      rw [hc] at q
      exact q
    · refine ⟨_, rfl, _, rfl, .inl ⟨_, rfl, _, _, rfl, rfl, c57, _, _, rfl, rfl, c570, _, _, rfl, rfl, p570, ?_⟩⟩
      generalize (if c < 0 then -c else c).fmod ((10 ^ Int.toNat 57) ^ Int.toNat 10) = gr
      refine ⟨_, rfl, _, _, rfl, rfl, cmR, _, rfl, _, _, rfl, rfl, cmL, _, _, rfl, rfl, _, rfl, _, _, rfl, rfl, .inr ⟨_, rfl, _, _, rfl, rfl, cmL, _, _, rfl, rfl, _, _, rfl, rfl, ?_⟩⟩
      refine ⟨_, rfl, _, _, rfl, rfl, c18, _, _, rfl, rfl, _, _, rfl, _, rfl, .inl ⟨_, rfl, _, _, rfl, rfl, (show (_ : Int) ≠ 0 from by decide), by show 3 ≤ sizeLine; decide, fun t ht => q t _ _ _ ht⟩⟩
theorem ok_roll {f : Addr} {fd : FuncData} (B : Blt mg) (D : Df K mg "_law_roll" s_roll ["tape", "total"] f fd) : FnOk P w K mg base CX0 1 f fd ["tape", "total"] spRoll := by
  refine D.F.ok sc_roll (fun vs H Q E h => ?_) (fun cdv A outer s H vs Q E hr h => ?_)
  · obtain ⟨t, n, rfl, _⟩ := h
    rfl
  · obtain ⟨t, n, rfl, hT, h0, hn, q⟩ := h
    obtain ⟨a, b, c, e⟩ := hT
    have hT : Tp H t := ⟨a, b, c, e⟩
    have hS : SqL K H t [.int a, .int b, .int c] := .inl (.inl e)
    have hn0 : n ≠ 0 := by omega
    refine ⟨_, (pss_cons (ps_if (pt_cmpR op_gt (pe_ix ix_list (pv 0) pe_int (fun _ _ => rfl)) pe_int (nomark _))
    (pss_cons (ps_set (i := 2) sc_roll.nd rfl (Or.inl rfl) (pe_op op_modN (pe_callTy call_int1 (by rfl) B.int_ (by decide +kernel) (pa_cons (pe_ix ix_list (pv 0) pe_int (fun _ _ => rfl)) pa_nil)) (pv 1)))
    (pss_cons (ps_asg (pe_op op_fdivN (pe_ix ix_list (pv 0) pe_int (fun _ _ => rfl)) (pv 1)) (pg_sub (pv 0) pe_int set_list))
    (pss_one (ps_ret (pv 2))))) pss_nil)
    (pss_cons (ps_asg (pe_op op_add (pe_ix ix_list (pv 0) pe_int (fun _ _ => rfl)) pe_int) (pg_sub (pv 0) pe_int set_list))
    (pss_cons (ps_set (i := 3) sc_roll.nd rfl (Or.inl rfl) (pe_op op_modN (pe_callTy call_int1 (by rfl) B.int_ (by decide +kernel) (pa_cons (pe_op op_add (pe_ix ix_list (pv 0) pe_int (fun _ _ => rfl)) (pe_op op_mul pe_int (pe_ix ix_list (pv 0) pe_int (fun _ _ => rfl)))) pa_nil)) pe_int))
    (pss_cons (ps_set (i := 4) sc_roll.nd rfl (Or.inl rfl) (pe_op op_add (pe_op op_mul (pe_op op_modN (pe_callTy call_int1 (by rfl) B.int_ (by decide +kernel) (pa_cons (pe_op op_mul (pv 3) (pv 3)) pa_nil)) pe_int) (pv 3)) (pe_op op_mul pe_int (pe_ix ix_list (pv 0) pe_int (fun _ _ => rfl)))))
    (pss_one (ps_ret (pe_op op_modN (pe_callTy call_int1 (by rfl) B.int_ (by decide +kernel) (pa_cons (pe_op op_fdivN (pe_op op_modN (pe_callTy call_int1 (by rfl) B.int_ (by decide +kernel) (pa_cons (pe_op op_add (pv 4) (pe_ix ix_list (pv 0) pe_int (fun _ _ => rfl))) pa_nil)) pe_int) pe_int) pa_nil)) (pv 1)))))))), ?_⟩
    refine ⟨_, rfl, t, _, 0, _, rfl, rfl, hS, atI_nat (j := 0) rfl, _, _, rfl, rfl, _, rfl, ite2 (fun hp => ?_) (fun hp => ?_)⟩
    · refine ⟨_, rfl, t, _, 0, _, rfl, rfl, hS, atI_nat (j := 0) rfl, .inl ⟨_, rfl, _, rfl, _, _, rfl, rfl, hn0, ?_⟩⟩
      refine ⟨_, rfl, t, _, 0, _, rfl, rfl, hS, atI_nat (j := 0) rfl, _, rfl, _, _, rfl, rfl, ⟨hn0, by omega⟩, _, rfl, t, _, 0, 0, rfl, rfl, e, rfl, ?_⟩
      exact ⟨_, rfl, q _ _ (fmod_rng h0).1 (fmod_rng h0).2 (Kt.wr hT)⟩
    · refine ⟨_, rfl, t, _, 2, _, rfl, rfl, hS, atI_nat (j := 2) rfl, _, _, rfl, rfl, _, rfl, t, _, 2, 2, rfl, rfl, e, rfl, ?_⟩
      have e1 : (upd H t (.lst [.int a, .int b, .int (c + 1)])) t = some (.lst [.int a, .int b, .int (c + 1)]) := upd_same
      have hS1 : SqL K (upd H t (.lst [.int a, .int b, .int (c + 1)])) t [.int a, .int b, .int (c + 1)] := .inl (.inl e1)
      refine ⟨_, rfl, t, _, 1, _, rfl, rfl, hS1, atI_nat (j := 1) rfl, _, rfl, t, _, 2, _, rfl, rfl, hS1, atI_nat (j := 2) rfl, _, _, rfl, rfl, cmL, _, _, rfl, rfl, .inl ⟨_, rfl, _, _, rfl, rfl, (show (_ : Int) ≠ 0 from by decide), ?_⟩⟩
      obtain ⟨u, hu, hu2⟩ : ∃ u : Int, u = (b + 900107 * (c + 1)).fmod 2305843009213693951 ∧ (-(2 ^ 64) < u ∧ u < 2 ^ 64) := ⟨_, rfl, by
        have := fmod_rng (a := b + 900107 * (c + 1)) (n := 2305843009213693951) (by decide)
        omega⟩
      dsimp only
      rw [← hu]
      refine ⟨_, rfl, _, rfl, _, _, rfl, rfl, .inl hu2, .inl ⟨_, rfl, _, _, rfl, rfl, (show (_ : Int) ≠ 0 from by decide), _, rfl, _, _, rfl, rfl, .inr hu2, _, rfl, t, _, 2, _, rfl, rfl, hS1, atI_nat (j := 2) rfl, _, _, rfl, rfl, cmL, _, _, rfl, rfl, ?_⟩⟩
      refine ⟨_, rfl, _, rfl, t, _, 1, _, rfl, rfl, hS1, atI_nat (j := 1) rfl, _, _, rfl, rfl, .inl ⟨_, rfl, _, _, rfl, rfl, (show (_ : Int) ≠ 0 from by decide), _, _, rfl, rfl, ⟨by decide, by decide⟩, .inl ⟨_, rfl, _, rfl, _, _, rfl, rfl, hn0, ?_⟩⟩⟩
      exact q _ _ (fmod_rng h0).1 (fmod_rng h0).2 (Kt.wr hT)
end
end Gk

set_option Elab.async false
set_option linter.all false
set_option maxRecDepth 100000
set_option maxHeartbeats 8000000
namespace Gk
open PySem PySem.Spec PyProof.Rows L2
section
variable {P : Program} {w : World} {K : PySem.W.Frag} {mg : Str → Option Value} {base : Heap}
theorem ok_pick {f fR : Addr} {fd fdR : FuncData} (B : Blt mg) (D_roll : Df K mg "_law_roll" s_roll ["tape", "total"] fR fdR) (D : Df K mg "_law_pick" s_pick ["tape", "items"] f fd) : FnOk P w K mg base CX0 2 f fd ["tape", "items"] (spPick K) := by
  have G_roll : FnOk P w K mg base CX0 1 fR fdR ["tape", "total"] spRoll := ok_roll B D_roll
  refine D.F.ok sc_pick (fun vs H Q E h => ?_) (fun cdv A outer s H vs Q E hr h => ?_)
  · obtain ⟨t, x, xs, rfl, _⟩ := h
    rfl
  · obtain ⟨t, x, xs, rfl, hT, hI, h0, hl, q⟩ := h
    refine ⟨_, (pss_one (ps_ret (pe_ix ix_seq (pv 1) (pe_call G_roll (hr.mono (by decide)) (by rfl) D_roll.g D_roll.F.kp D_roll.b .nil pass0 (pa_cons (pv 0) (pa_cons (pe_callB call_len (by rfl) B.len_ (by decide +kernel) (pa_cons (pv 1) pa_nil)) pa_nil))) (fun _ _ => rfl)))), ?_⟩
    refine ⟨_, rfl, _, rfl, _, rfl, x, xs.length, rfl, hI.len hl, t, _, rfl, hT, by omega, by omega, fun r H' r0 r1 k => ?_⟩
    obtain ⟨y, hy, hm⟩ := at_int (xs := xs) r0 r1
    exact (hI.kt hT k).ix hl hy (q y H' hm k)
theorem ok_few {f fR : Addr} {fd fdR : FuncData} (B : Blt mg) (D_roll : Df K mg "_law_roll" s_roll ["tape", "total"] fR fdR) (D : Df K mg "_law_few" s_few ["tape", "items", "many"] f fd) : FnOk P w K mg base CX0 2 f fd ["tape", "items", "many"] (spFew K) := by
  have G_roll : FnOk P w K mg base CX0 1 fR fdR ["tape", "total"] spRoll := ok_roll B D_roll
  refine D.F.ok sc_few (fun vs H Q E h => ?_) (fun cdv A outer s H vs Q E hr h => ?_)
  · obtain ⟨t, a, ss, many, rfl, _⟩ := h
    rfl
  · obtain ⟨t, a, ss, many, rfl, hT, hat, hS, hok, hlen, hm0, q⟩ := h
    refine ⟨_, (pss_cons (ps_par (i := 3) (j := 4) (by rfl) sc_few.nd rfl rfl (by decide) rfl rfl (pa_cons (pe_callTy call_list_of (by rfl) B.list_ (by decide +kernel) (pa_cons (pv 1) pa_nil)) (pa_cons (pe_lst pa_nil) pa_nil)) (by rfl))
    (pss_cons (ps_while PassesOwn.never (PW.pt (pw_and (pt_cmpR (op_neD hr.units) (pv 3) (pe_lst pa_nil) (nomark _)) (pw_and1 (pt_cmpR op_lt (pe_callB call_len_seq (by rfl) B.len_ (by decide +kernel) (pa_cons (pv 4) pa_nil)) (pv 2) (nomark _)))))
    (pss_one (ps_expr (pe_bm PySem.F.plainAttrs_list PySem.F.slot_list_append PySem.F.type_list_append mt_append (pv 4) (pa_cons (pe_bm PySem.F.plainAttrs_list PySem.F.slot_list_pop PySem.F.type_list_pop mt_popAt (pv 3) (pa_cons (pe_call G_roll (hr.mono (by decide)) (by rfl) D_roll.g D_roll.F.kp D_roll.b .nil pass0 (pa_cons (pv 0) (pa_cons (pe_callB call_len_seq (by rfl) B.len_ (by decide +kernel) (pa_cons (pv 3) pa_nil)) pa_nil))) pa_nil)) pa_nil)))))
    (pss_one (ps_ret (pv 4))))), ?_⟩
    refine ⟨_, rfl, a, _, rfl, .inl hS, fun l hl => ⟨Nat.zero_le _, fun e he => ⟨_, _, rfl, ?_⟩⟩⟩
    have nlt : l ≠ t := Kt.ne hT hl
    have nel : e ≠ l := fun z => by
      rw [z, upd_same] at he
      cases he
    have hen : H e = none := by
      rw [upd_ne nel] at he
      exact he
    have net : e ≠ t := Kt.ne hT hen
    refine ⟨fun m σ H3 => ∃ left found : List Str, m = left.length ∧ σ = [some (.ref t), some (.ref a), some (.int many), some (.ref l), some (.ref e)] ∧ H3 l = some (.lst (left.map V.str)) ∧ H3 e = some (.lst (found.map V.str)) ∧
      (found ++ left).Perm ss ∧ found.length ≤ many.toNat ∧ Kt t H H3, ⟨ss.length, ss, [], rfl, rfl, ?_, ?_, List.Perm.refl _, Nat.zero_le _, ?_⟩, fun m σ H3 hW => ?_⟩
    · rw [upd_ne nel.symm, upd_same]
    · rw [upd_same]
      rfl
    · exact ((Kt.new hT hl).mut hen net)
    · obtain ⟨left, found, rfl, rfl, el, ef, pm, hf, kt⟩ := hW
      have hle : left.length + found.length = ss.length := by
        have := pm.length_eq
        rw [List.length_append] at this
        omega
      have fin : ∀ H4, H4 e = some (.lst (found.map V.str)) → Kt t H H4 → found.length = min many.toNat ss.length → Q (.ref e) H4 := fun H4 e4 k4 hm => q e found left H4 pm hm hen e4 k4
      refine ⟨_, rfl, Nat.zero_le _, fun z hz => neLS (ts := []) ?_ ?_ (SqL.of (by rw [upd_ne (ne_of_none el hz)]; exact el)) (SqL.of upd_same) ⟨_, rfl, ?_⟩⟩
      · exact hok.sub fun x hx => pm.subset (List.mem_append_right _ hx)
      · rfl
      · by_cases hn : left = []
        · subst hn
          refine ⟨_, rfl, fin _ ?_ (kt.trans (Kt.new kt.tp hz)) ?_⟩
          · rw [upd_ne (ne_of_none ef hz)]
            exact ef
          · have hle' : found.length = ss.length := by simpa using hle
            omega
        · have hb : (!decide (left = [])) = true := by simp [hn]
          rw [hb]
          have kz : Kt t H3 (upd H3 z (.lst [])) := Kt.new kt.tp hz
          have ez : (upd H3 z (.lst [])) e = some (.lst (found.map V.str)) := by
            rw [upd_ne (ne_of_none ef hz)]
            exact ef
          have lz : (upd H3 z (.lst [])) l = some (.lst (left.map V.str)) := by
            rw [upd_ne (ne_of_none el hz)]
            exact el
          generalize upd H3 z (.lst []) = H4 at kz ez lz
          have k4 : Kt t H H4 := kt.trans kz
          refine ⟨_, rfl, e, _, rfl, .inl (SqL.of ez), _, rfl, _, _, rfl, rfl, _, rfl, ite2 (fun hlt => ?_) (fun hge => ?_)⟩
          · have hlt' : found.length < many.toNat := by
              have := of_decide_eq_true hlt
              rw [List.length_map] at this
              omega
            have hpos : 0 < left.length := List.length_pos_iff.mpr hn
            refine ⟨_, fun _ _ h => h, ?_⟩
            refine ⟨_, rfl, .inl ⟨rfl, _, SqL.of ez⟩, _, rfl, .inl ⟨rfl, _, SqL.of lz⟩, _, rfl, _, rfl, l, _, rfl, .inl (SqL.of lz), t, _, rfl, k4.tp, ?_, ?_, fun r H5 r0 r1 k5 => ?_⟩
            · rw [List.length_map]
              omega
            · rw [List.length_map]
              omega
            · rw [List.length_map] at r1
              have l5 := k5.strs k4.tp lz
              have e5 := k5.strs k4.tp ez
              have hk : r.toNat < left.length := by omega
              refine ⟨l, _, r, r.toNat, .str left[r.toNat], rfl, rfl, l5, by omega, by omega, seqIx r0 (by rw [List.length_map]; exact r1), by rw [List.getElem?_map, List.getElem?_eq_getElem hk]; rfl, ?_⟩
              refine ⟨e, _, _, rfl, rfl, by rw [upd_ne nel]; exact e5, ?_, ?_⟩
              · rw [List.length_map]
                exact small1000 (by omega)
              · have hx : left[r.toNat]? = some left[r.toNat] := List.getElem?_eq_getElem hk
                refine ⟨left.length - 1, by omega, left.eraseIdx r.toNat, found ++ [left[r.toNat]], ?_, rfl, ?_, ?_, perm_pick pm hx, ?_, ?_⟩
                · have := erase_len hk
                  omega
                · rw [upd_ne nel.symm, upd_same, map_erase]
                · rw [upd_same, List.map_append]
                  rfl
                · rw [List.length_append]
                  show found.length + 1 ≤ many.toNat
                  omega
                · exact (((k4.trans k5).mut hl nlt).mut hen net)
          · have hge' : ¬ found.length < many.toNat := fun z => hge (decide_eq_true (by rw [List.length_map]; omega))
            refine ⟨_, rfl, fin _ ez k4 (by omega)⟩
end
end Gk

set_option Elab.async false
set_option linter.all false
set_option maxRecDepth 100000
set_option maxHeartbeats 8000000
namespace Gk
open PySem PySem.Spec PyProof.Rows L2
section
variable {P : Program} {w : World} {K : PySem.W.Frag} {mg : Str → Option Value} {base : Heap}
theorem ok_word {f fP : Addr} {fd fdP : FuncData} (B : Blt mg) (D_pick : Df K mg "_law_pick" s_pick ["tape", "items"] fP fdP) (G_pick : FnOk P w K mg base CX0 2 fP fdP ["tape", "items"] (spPick K))
    (D : Df K mg "_law_word_drawn" s_word_drawn ["tape"] f fd) : FnOk P w K mg base CX0 3 f fd ["tape"] spWord := by
  refine D.F.ok sc_word_drawn (fun vs H Q E h => ?_) (fun cdv A outer s H vs Q E hr h => ?_)
  · obtain ⟨t, rfl, _⟩ := h
    rfl
  · obtain ⟨t, rfl, hT, q⟩ := h
    refine ⟨_, (pss_cons (ps_set (i := 1) sc_word_drawn.nd rfl (Or.inl rfl) (pe_call G_pick (hr.mono (by decide)) (by rfl) D_pick.g D_pick.F.kp D_pick.b .nil pass0 (pa_cons (pv 0) (pa_cons (pe_lst (pa_cons pe_int (pa_cons pe_int (pa_cons pe_int (pa_cons pe_int (pa_cons pe_int (pa_cons pe_int pa_nil))))))) pa_nil))))
    (pss_one (ps_ret (pe_join pe_str (pe_lc (own := [("turn", 2)]) (g := gName 2) (tt := tYes) (by rfl) sc_word_drawn.nd (pi_range1 (by rfl) B.range (pa_cons (pv 1) pa_nil)) (blkOk_by (N := ["tape", "lots", "turn"]) (sc := defScope s_word_drawn) (by decide +kernel)) (fun _ _ _ _ _ => (pg_name (i := 2) sc_word_drawn.nd rfl (Or.inl rfl))) (fun _ _ _ _ _ => pts_nil) (fun _ _ _ _ _ => (pe_call G_pick (hr.mono (by decide)) (by rfl) D_pick.g D_pick.F.kp D_pick.b .nil pass0 (pa_cons (pv 0) (pa_cons pe_str pa_nil))))))))), ?_⟩
    refine ⟨_, rfl, by show 6 ≤ sizeLine; decide, fun p hp => ⟨t, .ref p, _, rfl, (Kt.new hT hp).tp, .inl ⟨p, rfl, Kt.ne hT hp, .inl (SqL.of upd_same)⟩, by decide, by decide, fun y H1 hy k1 => ?_⟩⟩
    obtain ⟨n, rfl, n1, n2⟩ := lots6 hy
    have k1 : Kt t H H1 := (Kt.new hT hp).trans k1
    refine ⟨⟨_, rfl⟩, _, rfl, (n : Int), rfl, by omega, by omega, fun D hD => ?_⟩
    refine lc_range (lo := 0) (n := (n : Int).toNat) (fun i H3 => ∃ cs : List Nat, cs.length = i ∧ (∀ c ∈ cs, 97 ≤ c ∧ c ≤ 122) ∧ H3 D = some (.lst ((cs.map sg).map V.str)) ∧ Kt t H H3) ⟨[], rfl, by simp, upd_same, k1.mut (k1.free hD) (Kt.ne k1.tp hD)⟩ (fun i H3 hi hP => ?_) (fun H3 hP => ?_)
    · obtain ⟨cs, hl, hc, hd, k3⟩ := hP
      refine ⟨rfl, _, rfl, t, _, _, rfl, k3.tp, .inr ⟨_, rfl, rfl⟩, by decide +kernel, by decide +kernel, fun y H4 hy k4 => ?_⟩
      obtain ⟨c, hcm, rfl⟩ := List.mem_map.mp hy
      refine ⟨_, k4.strs k3.tp hd, ?_, cs ++ [c], ?_, ?_, ?_, ?_⟩
      · rw [List.length_map, List.length_map]
        exact small1000 (by omega)
      · rw [List.length_append, hl]
        rfl
      · intro d hdm
        rcases List.mem_append.mp hdm with h1 | h1
        · exact hc d h1
        · rw [List.mem_singleton.mp h1]
          exact abc_rng c hcm
      · rw [upd_same, List.map_append, List.map_append]
        rfl
      · exact (k3.trans k4).mut (k1.free hD) (Kt.ne k1.tp hD)
    · obtain ⟨cs, hl, hc, hd, k3⟩ := hP
      have hn : cs.length = n := by omega
      refine ⟨_, D, cs.map sg, rfl, rfl, .inl (SqL.of hd), ?_, q _ H3 (join0_W (by omega) (by omega) hc) k3⟩
      have e0 : (PySem.Str.ofString "").length = 0 := by decide +kernel
      have e1 : ((cs.map sg).map (·.length)).sum = cs.length := by
        rw [List.map_map]
        clear hl hc hd hn
        induction cs with
        | nil => rfl
        | cons c r ih =>
          rw [List.map_cons, List.sum_cons, ih]
          show 1 + r.length = r.length + 1
          omega
      rw [e1, e0]
      omega
theorem ok_words {f fP : Addr} {fd fdP : FuncData} (B : Blt mg) (D_word_drawn : Df K mg "_law_word_drawn" s_word_drawn ["tape"] fP fdP) (G_word_drawn : FnOk P w K mg base CX0 3 fP fdP ["tape"] spWord)
    (D : Df K mg "_law_words_drawn" s_words_drawn ["tape", "lots"] f fd) : FnOk P w K mg base CX0 4 f fd ["tape", "lots"] spWords := by
  refine D.F.ok sc_words_drawn (fun vs H Q E h => ?_) (fun cdv A outer s H vs Q E hr h => ?_)
  · obtain ⟨t, n, rfl, _⟩ := h
    rfl
  · obtain ⟨t, n, rfl, hT, h0, h25, q⟩ := h
    refine ⟨_, (pss_cons (ps_set (i := 2) sc_words_drawn.nd rfl (Or.inr rfl) (pe_lst pa_nil))
    (pss_cons (ps_for PassesOwn.never rfl (pi_range1 (by rfl) B.range (pa_cons (pv 1) pa_nil)) (pg_name (i := 3) sc_words_drawn.nd rfl (Or.inl rfl))
    (pss_cons (ps_set (i := 4) sc_words_drawn.nd rfl (Or.inl rfl) (pe_call G_word_drawn (hr.mono (by decide)) (by rfl) D_word_drawn.g D_word_drawn.F.kp D_word_drawn.b .nil pass0 (pa_cons (pv 0) pa_nil)))
    (pss_cons (ps_setLc (i := 5) (own := [("sign", 6)]) (g := gName 6)  (by rfl) sc_words_drawn.nd rfl rfl (sw_true rfl rfl rfl (by decide +kernel)) (pi_str pe_str) (blkOk_by (N := ["tape", "lots", "found", "turn", "word", "left", "sign"]) (sc := defScope s_words_drawn) (by decide +kernel)) (fun _ _ _ _ _ => (pg_name (i := 6) sc_words_drawn.nd rfl (Or.inl rfl))) (fun _ _ _ _ _ => pts_one (pt_cmpR (op_notIn_seqK K rfl) (pv 6) (pv 2) (by rfl))) (fun _ _ _ _ _ => (pv 6)))
    (pss_one (ps_expr (pe_bm PySem.F.plainAttrs_list PySem.F.slot_list_append PySem.F.type_list_append mt_append (pv 2) (pa_cons (pe_ifExp (pt_cmpR op_notIn_seq (pv 4) (pv 2) (by rfl)) (pv 4) (pe_ix ix_list (pv 5) pe_int (fun _ _ => rfl))) pa_nil)))))))
    (pss_one (ps_ret (pv 2))))), ?_⟩
    refine ⟨Nat.zero_le _, fun F hF => ?_⟩
    have kF : Kt t H (upd H F (.lst [])) := Kt.new hT hF
    have nFt : F ≠ t := Kt.ne hT hF
    refine ⟨_, rfl, n, rfl, by omega, by omega, ?_⟩
    refine for_range (lo := 0) (n := n.toNat) (fun i σ H3 => ∃ (ws : List Str) (a3 a4 a5 : Option V), σ = [some (.ref t), some (.int n), some (.ref F), a3, a4, a5, none] ∧ ws.length = i ∧ (∀ x ∈ ws, isW x = true) ∧ ws.Nodup ∧ H3 F = some (.lst (ws.map V.str)) ∧ Kt t H H3)
      ⟨[], none, none, none, rfl, rfl, by simp, List.nodup_nil, upd_same, kF⟩ (fun i σ H3 hi hP => ?_) (fun σ H3 hP => ?_)
    · obtain ⟨ws, a3, a4, a5, rfl, hl, hw, hnd, hf, k3⟩ := hP
      refine ⟨_, rfl, t, rfl, k3.tp, fun x H4 hx k4 => ?_⟩
      have f4 := k4.strs k3.tp hf
      have k4' : Kt t H H4 := k3.trans k4
      refine ⟨_, rfl, fun D hD => ?_⟩
      refine lc_it (J := Its abc) walk_str (fun j H5 => Same H4 H5 ∧ H5 D = some (.lst (((((TL.tl abc).take j).map sg).filter (fun s => decide (s ∉ ws))).map V.str))) ⟨gSame_new hD, upd_same⟩ (fun _ _ _ _ => trivial) (fun j y H5 H5' hj hP hy => ?_) (fun H5 hP => ?_)
      · obtain ⟨s5, d5⟩ := hP
        obtain ⟨rfl, c, hc, rfl⟩ := hy
        have hcl : (TL.tl abc)[j]? = some c := by
          show abc.cps.toList[j]? = some c
          rw [Array.getElem?_toList]
          exact hc
        have tk : ((TL.tl abc).take (j + 1)).map sg = ((TL.tl abc).take j).map sg ++ [sg c] := by
          rw [List.take_add_one, hcl, List.map_append]
          rfl
        refine ⟨rfl, _, rfl, _, rfl, F, _, rfl, .inl (SqL.of (s5 _ _ f4)), rfl, flat_strs ws, _, rfl, ?_⟩
        rw [inV_strs]
        refine ite2 (fun hin => ?_) (fun hin => ?_)
        · have hin' : sg c ∉ ws := fun z => by
            have h : (!decide (sg c ∈ ws)) = true := hin
            rw [decide_eq_true z] at h
            cases h
          refine ⟨_, rfl, _, d5, ?_, gSame_mut s5 hD, ?_⟩
          · rw [List.length_map]
            refine small1000 (Nat.le_trans (List.length_filter_le _ _) ?_)
            rw [List.length_map, List.length_take, abc_len]
            omega
          · rw [upd_same, tk, List.filter_append, List.map_append]
            have e : [sg c].filter (fun s => decide (s ∉ ws)) = [sg c] := by simp [hin']
            rw [e]
            rfl
        · have hin' : sg c ∈ ws := Classical.byContradiction fun z => hin (by
            show (!decide (sg c ∈ ws)) = true
            rw [decide_eq_false z]
            rfl)
          refine ⟨s5, ?_⟩
          have e : [sg c].filter (fun s => decide (s ∉ ws)) = [] := by simp [hin']
          rw [tk, List.filter_append, e, List.append_nil]
          exact d5
      · obtain ⟨s5, d5⟩ := hP
        have hsz : abc.cps.size = 26 := by decide +kernel
        have tk : (TL.tl abc).take abc.cps.size = TL.tl abc := List.take_of_length_le (by rw [abc_len, hsz]; exact Nat.le_refl _)
        rw [tk] at d5
        have k5 : Kt t H H5 := k4'.trans (Kt.same k4'.tp s5)
        have f5 := s5 _ _ f4
        have hw26 : ws.length < 26 := by omega
        -- found.append(..)
        refine ⟨_, rfl, .inl ⟨rfl, _, SqL.of f5⟩, ?_⟩
        refine ⟨_, rfl, _, rfl, F, _, rfl, .inl (SqL.of f5), rfl, flat_strs ws, _, rfl, ?_⟩
        rw [inV_strs]
        have fin : ∀ y : Str, isW y = true → y ∉ ws → rAppend (.ref F) [.str y] H5 fun _ H1 => ∃ (ws : List Str) (b3 b4 b5 : Option V), [some (V.ref t), some (.int n), some (.ref F), some (.int (0 + i)), some (.str x), some (.ref D), none] = [some (.ref t), some (.int n), some (.ref F), b3, b4, b5, none] ∧ ws.length = i + 1 ∧ (∀ x ∈ ws, isW x = true) ∧ ws.Nodup ∧ H1 F = some (.lst (ws.map V.str)) ∧ Kt t H H1 := by
          intro y hy hn
          refine ⟨F, _, _, rfl, rfl, f5, ?_, ws ++ [y], _, _, _, rfl, ?_, ?_, ?_, ?_, ?_⟩
          · rw [List.length_map]
            exact small1000 (by omega)
          · rw [List.length_append, hl]
            rfl
          · intro z hz
            rcases List.mem_append.mp hz with h | h
            · exact hw z h
            · rw [List.mem_singleton.mp h]
              exact hy
          · rw [List.nodup_append]
            refine ⟨hnd, by simp, fun a ha b hb => ?_⟩
            rw [List.mem_singleton.mp hb]
            exact fun e => hn (e ▸ ha)
          · rw [upd_same, List.map_append]
            rfl
          · exact k5.mut hF nFt
        refine ite2 (fun hin => ?_) (fun hin => ?_)
        · have hin' : x ∉ ws := fun z => by
            have h : (!decide (x ∈ ws)) = true := hin
            rw [decide_eq_true z] at h
            cases h
          exact ⟨_, rfl, fin x hx hin'⟩
        · obtain ⟨y, r, hy⟩ : ∃ y r, ((TL.tl abc).map sg).filter (fun s => decide (s ∉ ws)) = y :: r := List.exists_cons_of_ne_nil (left_ne hw26)
          have hm : y ∈ ((TL.tl abc).map sg).filter (fun s => decide (s ∉ ws)) := by
            rw [hy]
            exact List.mem_cons_self ..
          obtain ⟨h1, h2⟩ := List.mem_filter.mp hm
          obtain ⟨c, hc, rfl⟩ := List.mem_map.mp h1
          rw [hy] at d5
          refine ⟨_, rfl, D, _, 0, .str (sg c), rfl, rfl, SqL.of d5, atI_nat (j := 0) rfl, fin (sg c) (sg_W (abc_rng c hc)) (of_decide_eq_true h2)⟩
    · obtain ⟨ws, a3, a4, a5, rfl, hl, hw, hnd, hf, k3⟩ := hP
      exact ⟨_, rfl, q F ws H3 hl hw hnd hF hf k3⟩
end
end Gk

set_option Elab.async false
set_option linter.all false
set_option maxRecDepth 100000
set_option maxHeartbeats 8000000
namespace Gk
open PySem PySem.Spec PyProof.Rows L2
abbrev s_is_name : Stmt := topS 7
theorem sc_is_name : FnScope ["value", "letter"] ["value"] (defScope s_is_name) := ⟨rfl, rfl, rfl, by decide +kernel, rfl, by decide +kernel, by decide +kernel⟩
abbrev s_is_names : Stmt := topS 8
theorem sc_is_names : FnScope ["value", "name"] ["value"] (defScope s_is_names) := ⟨rfl, rfl, rfl, by decide +kernel, rfl, by decide +kernel, by decide +kernel⟩
abbrev s_write_names : Stmt := topS 9
theorem sc_write_names : FnScope ["names"] ["names"] (defScope s_write_names) := ⟨rfl, rfl, rfl, by decide +kernel, rfl, by decide +kernel, by decide +kernel⟩
abbrev s_read_names : Stmt := topS 10
theorem sc_read_names : FnScope ["text", "names"] ["text"] (defScope s_read_names) := ⟨rfl, rfl, rfl, by decide +kernel, rfl, by decide +kernel, by decide +kernel⟩
section
variable {P : Program} {w : World} {K : PySem.W.Frag} {mg : Str → Option Value} {base : Heap}
theorem ok_is_name {f : Addr} {fd : FuncData} {tl : Tok} (B : Blt mg) (C_MAX_LETTERS : mg "MAX_LETTERS" = some (.int 8 tl)) (D : Df K mg "is_name" s_is_name ["value"] f fd) : FnOk P w K mg base CX0 1 f fd ["value"] (spIsName K) := by
  refine D.F.ok sc_is_name (fun vs H Q E h => ?_) (fun cdv A outer s H vs Q E hr h => ?_)
  · obtain ⟨x, b, rfl, _⟩ := h
    rfl
  · obtain ⟨x, b, rfl, hN, q⟩ := h
    refine ⟨_, (pss_cons (ps_if (PW.pt (pw_or (pt_not (pt_val (pe_callB call_isi (by rfl) B.isinstance_ (by decide +kernel) (pa_cons (pv 0) (pa_cons (pe_bltn (v := .ty "str") rfl B.str_ (by decide +kernel) rfl) pa_nil))) (by intro _; rfl))) (pw_or1 (pt_not (pt_chain op_le op_le pe_int (pe_callB call_len_str (by rfl) B.len_ (by decide +kernel) (pa_cons (pv 0) pa_nil)) (pe_glob (v := .int 8) rfl C_MAX_LETTERS ⟨_, rfl⟩))))))
    (pss_one (ps_ret pe_bl)) pss_nil)
    (pss_one (ps_ret (pe_callB (cr_all rfl) (by rfl) B.all_ (by decide +kernel) (pa_cons (pe_lc (own := [("letter", 1)]) (g := gName 1) (tt := tYes) (by rfl) sc_is_name.nd (pi_str (pv 0)) (blkOk_by (N := ["value", "letter"]) (sc := defScope s_is_name) (by decide +kernel)) (fun _ _ _ _ _ => (pg_name (i := 1) sc_is_name.nd rfl (Or.inl rfl))) (fun _ _ _ _ _ => pts_nil) (fun _ _ _ _ _ => (pe_chain op_le_str op_le_str pe_str (pv 1) pe_str))) pa_nil))))), ?_⟩
    rcases hN with ⟨z, rfl, hz, rfl⟩ | ⟨rfl, t, ht, hk⟩
    · refine ⟨_, rfl, .str z, .ty "str", _, _, true, rfl, .ty "str", .base (.str z), kit_ty (by decide +kernel), _, rfl, ?_⟩
      refine ⟨_, rfl, z, rfl, Nat.le_trans hz (by decide), _, _, rfl, rfl, _, rfl, ?_⟩
      have no : ¬ (1 ≤ z.length ∧ z.length ≤ 8) → isW z = false := fun n => by
        cases e : isW z with
        | false => rfl
        | true => exact absurd (isW_len e) n
      refine ite2 (fun h1 => ⟨_, _, rfl, rfl, _, rfl, ite2 (fun h2 => ?_) (fun h2 => ?_)⟩) (fun h1 => ⟨_, rfl, ?_⟩)
      · have h2' : ¬ z.length ≤ 8 := fun n => by
          have e : (!decide ((z.length : Int) ≤ 8)) = true := h2
          rw [decide_eq_true (by omega)] at e
          cases e
        have w := q H (Same.refl H)
        rw [no fun n => h2' n.2] at w
        exact w
      · have l1 : 1 ≤ z.length := by
          have := of_decide_eq_true h1
          omega
        have l2 : z.length ≤ 8 := by
          by_cases n : (z.length : Int) ≤ 8
          · omega
          · exact absurd (by
              show (!decide ((z.length : Int) ≤ 8)) = true
              rw [decide_eq_false n]
              rfl) h2
        refine ⟨_, rfl, z, rfl, fun D hD => ?_⟩
        refine lc_it (J := Its z) walk_str (fun j H5 => Same H H5 ∧ H5 D = some (.lst ((((TL.tl z).take j).map fun c => decide (97 ≤ c) && decide (c ≤ 122)).map V.bl))) ⟨gSame_new hD, upd_same⟩ (fun _ _ _ _ => trivial) (fun j y H5 H5' hj hP hy => ?_) (fun H5 hP => ?_)
        · obtain ⟨s5, d5⟩ := hP
          obtain ⟨rfl, c, hc, rfl⟩ := hy
          have hcl : (TL.tl z)[j]? = some c := by
            show z.cps.toList[j]? = some c
            rw [Array.getElem?_toList]
            exact hc
          have fin : ∀ b : Bool, b = (decide (97 ≤ c) && decide (c ≤ 122)) → ∃ acc, H5' D = some (.lst acc) ∧ acc.length < sizeLine ∧ Same H (upd H5' D (.lst (acc ++ [.bl b]))) ∧ (upd H5' D (.lst (acc ++ [.bl b]))) D = some (.lst ((((TL.tl z).take (j + 1)).map fun c => decide (97 ≤ c) && decide (c ≤ 122)).map V.bl)) := by
            intro b hb
            refine ⟨_, d5, ?_, gSame_mut s5 hD, ?_⟩
            · have := TL.len_tl z
              rw [List.length_map, List.length_map, List.length_take]
              exact small1000 (by omega)
            · rw [upd_same, List.take_add_one, hcl, List.map_append, List.map_append, hb]
              rfl
          refine ⟨rfl, _, rfl, _, _, rfl, rfl, _, rfl, ite2 (fun g1 => ⟨_, _, rfl, rfl, fin _ ?_⟩) (fun g1 => fin _ ?_)⟩
          · have g1' : ¬ c < 97 := by
              have e : (!decide (([c] : List Nat) < [97])) = true := g1
              rw [lt_abc] at e
              simpa using e
            show (!decide (([122] : List Nat) < [c])) = _
            rw [lt_abc]
            by_cases u : 122 < c
            · simp [u, show ¬ c ≤ 122 by omega]
            · simp [u, show c ≤ 122 by omega, show 97 ≤ c by omega]
          · have g1' : c < 97 := by
              by_cases u : c < 97
              · exact u
              · refine absurd ?_ g1
                show (!decide (([c] : List Nat) < [97])) = true
                rw [lt_abc, decide_eq_false u]
                rfl
            simp [show ¬ 97 ≤ c by omega]
        · obtain ⟨s5, d5⟩ := hP
          have e : (TL.tl z).take z.cps.size = TL.tl z := List.take_of_length_le (by
            show z.cps.toList.length ≤ z.cps.size
            rw [Array.length_toList]
            exact Nat.le_refl _)
          rw [e] at d5
          refine ⟨D, _, rfl, SqL.of d5, ?_⟩
          have w := q H5 s5
          have e2 : isW z = ((TL.tl z).map fun c => decide (97 ≤ c) && decide (c ≤ 122)).all id := by
            unfold isW
            rw [decide_eq_true l1, decide_eq_true l2, List.all_map]
            rfl
          rw [e2] at w
          exact w
      · have h1' : ¬ 1 ≤ z.length := fun n => h1 (decide_eq_true (by omega))
        have w := q H (Same.refl H)
        rw [no fun n => h1' n.1] at w
        exact w
    · refine ⟨_, rfl, x, .ty "str", t, _, false, rfl, .ty "str", ht, hk, _, rfl, ?_⟩
      exact q H (Same.refl H)
theorem ok_is_names {f fN : Addr} {fd fdN : FuncData} {tl : Tok} (B : Blt mg) (C_MAX_NAMES : mg "MAX_NAMES" = some (.int 16 tl)) (D_is_name : Df K mg "is_name" s_is_name ["value"] fN fdN) (G_is_name : FnOk P w K mg base CX0 1 fN fdN ["value"] (spIsName K))
    (D : Df K mg "is_names" s_is_names ["value"] f fd) : FnOk P w K mg base CX0 2 f fd ["value"] (spIsNames K) := by
  refine D.F.ok sc_is_names (fun vs H Q E h => ?_) (fun cdv A outer s H vs Q E hr h => ?_)
  · obtain ⟨x, b, rfl, _⟩ := h
    rfl
  · obtain ⟨x, b, rfl, hN, q⟩ := h
    refine ⟨_, (pss_cons (ps_if (PW.pt (pw_or (pt_not (pt_val (pe_callB call_isi (by rfl) B.isinstance_ (by decide +kernel) (pa_cons (pv 0) (pa_cons (pe_bltn (v := .ty "tuple") rfl B.tuple_ (by decide +kernel) rfl) pa_nil))) (by intro _; rfl))) (pw_or1 (pt_cmpR op_gt (pe_callB call_len_seq (by rfl) B.len_ (by decide +kernel) (pa_cons (pv 0) pa_nil)) (pe_glob (v := .int 16) rfl C_MAX_NAMES ⟨_, rfl⟩) (nomark _)))))
    (pss_one (ps_ret pe_bl)) pss_nil)
    (pss_one (ps_ret (pe_and (pe_callB (cr_all rfl) (by rfl) B.all_ (by decide +kernel) (pa_cons (pe_lc (own := [("name", 1)]) (g := gName 1) (tt := tYes) (by rfl) sc_is_names.nd (pi_tup (pv 0)) (blkOk_by (N := ["value", "name"]) (sc := defScope s_is_names) (by decide +kernel)) (fun _ _ _ _ _ => (pg_name (i := 1) sc_is_names.nd rfl (Or.inl rfl))) (fun _ _ _ _ _ => pts_nil) (fun _ _ _ _ _ => (pe_call G_is_name (hr.mono (by decide)) (by rfl) D_is_name.g D_is_name.F.kp D_is_name.b .nil pass0 (pa_cons (pv 1) pa_nil)))) pa_nil)) (pe_one (pe_cmpR op_eq (pe_lenSetA (by rfl) (by rfl) B.len_ (by rfl) B.set_ (pv 0)) (pe_callB call_len_seq (by rfl) B.len_ (by decide +kernel) (pa_cons (pv 0) pa_nil)) (nomark _))))))), ?_⟩
    rcases hN with ⟨a, xs, bs, rfl, hS, hT, hP, rfl⟩ | ⟨rfl, t, ht, hk⟩
    · refine ⟨_, rfl, .ref a, .ty "tuple", _, _, true, rfl, .ty "tuple", hT, kit_ty (by decide +kernel), _, rfl, ?_⟩
      refine ⟨_, rfl, a, xs, rfl, .inr hS, _, _, rfl, rfl, _, rfl, ite2 (fun h1 => ?_) (fun h1 => ?_)⟩
      · have h1' : ¬ xs.length ≤ 16 := by
          have := of_decide_eq_true h1
          omega
        have w := q H (Same.refl H)
        rw [decide_eq_false h1'] at w
        exact w
      · have l1 : xs.length ≤ 16 := by
          by_cases n : (16 : Int) < xs.length
          · exact absurd (decide_eq_true n) h1
          · omega
        rw [decide_eq_true l1, Bool.true_and] at q
        refine ⟨_, rfl, a, rfl, ⟨xs, hS⟩, fun D hD => ?_⟩
        refine lc_tup (K := K) (a := a) (xs := xs) (fun j H5 => Same H H5 ∧ H5 D = some (.lst ((bs.take j).map V.bl))) ⟨gSame_new hD, upd_same⟩ (fun j H5 _ h5 => gSeqT h5.1 hS) (fun j x H5 hx h5 => ?_) (fun H5 h5 => ?_)
        · obtain ⟨s5, d5⟩ := h5
          obtain ⟨b, hb, hn⟩ := paired_get hP hx
          refine ⟨rfl, _, rfl, x, b, rfl, hn.same s5, fun H6 s6 => ⟨_, s6 _ _ d5, ?_, gSame_mut (s5.trans s6) hD, ?_⟩⟩
          · rw [List.length_map, List.length_take]
            have := hP.length
            exact small1000 (by omega)
          · rw [upd_same, List.take_add_one, hb, List.map_append]
            rfl
        · obtain ⟨s5, d5⟩ := h5
          have e : bs.take xs.length = bs := List.take_of_length_le (Nat.le_of_eq hP.length.symm)
          rw [e] at d5
          refine ⟨D, bs, rfl, SqL.of d5, _, rfl, ?_⟩
          cases hall : bs.all id with
          | false =>
            rw [hall] at q
            exact q H5 s5
          | true =>
            obtain ⟨ss, rfl, hw⟩ := nms_strs hP hall
            rw [hall] at q
            refine ⟨_, rfl, a, ss, rfl, .inr (gSeqT s5 hS), ?_, _, rfl, a, _, rfl, .inr (gSeqT s5 hS), rfl, ?_⟩
            · rw [List.length_map] at l1
              omega
            · have w := q H5 s5
              rw [decide_eq_decide.mpr (nd_strs ss), ← Gs.dst_all ss] at w
              have e2 : decide (V.int (Gs.dst ss ss.length) = V.int ((ss.map V.str).length : Int)) = decide (Gs.dst ss ss.length = ss.length) := by
                rw [List.length_map]
                refine decide_eq_decide.mpr ⟨fun z => ?_, fun z => by rw [z]⟩
                have := V.int.inj z
                omega
              rw [e2]
              exact w
    · refine ⟨_, rfl, x, .ty "tuple", t, _, false, rfl, .ty "tuple", ht, hk, _, rfl, ?_⟩
      exact q H (Same.refl H)
end
end Gk

set_option Elab.async false
set_option linter.all false
set_option maxRecDepth 100000
set_option maxHeartbeats 8000000
namespace Gk
open PySem PySem.Spec PyProof.Rows L2
abbrev s_ParseError___init : Stmt := inClass (topS 3) 0
theorem sc_ParseError___init : FnScope ["self", "line"] ["self", "line"] (defScope s_ParseError___init) := ⟨rfl, rfl, rfl, by decide +kernel, rfl, by decide +kernel, by decide +kernel⟩
def spWrite (K : PySem.W.Frag) (C : Addr) : Sp := fun vs H Q E => ∃ x : V, vs = [x] ∧
  ((∃ (a : Addr) (ss : List Str), x = .ref a ∧ SqT K H a (ss.map V.str) ∧ TyX K H x (.type "tuple") ∧ okNames ss = true ∧ ∀ H', Same H H' → Q (.str (wr ss)) H') ∨ (NmsV K H x false ∧ ∀ H', Same H H' → E (.ref C) none H'))
def spRead (K : PySem.W.Frag) (C : Addr) : Sp := fun vs H Q E => ∃ (x : V), vs = [x] ∧
  ((∃ z : Str, x = .str z ∧ z.length ≤ 90000 ∧ (okNames (rd z) = true → ∀ p H', H p = none → Same H H' → H' p = some (.tup ((rd z).map V.str)) → Q (.ref p) H') ∧ (okNames (rd z) = false → ∀ d H', H d = none → Same H H' → H' d = some (.xd [("line", .non)]) → E (.ref C) (some d) H')) ∨
    (∃ t, TyX K H x t ∧ PySem.W.kitOne K t (.type "str") = some false ∧ ∀ d H', H d = none → Same H H' → H' d = some (.xd [("line", .non)]) → E (.ref C) (some d) H'))
section
variable {P : Program} {w : World} {K : PySem.W.Frag} {mg : Str → Option Value} {base : Heap}
theorem ok_ParseError {C CB f : Addr} {fd : FuncData} (T : IniT K mg "ParseError" "line" s_ParseError___init C f fd) (TB : CIn K mg "ClockError" CB) : FnOk P w K mg base CX0 1 f fd ["self", "line"] (spIni C "line") := by
  refine T.F.ok sc_ParseError___init (fun vs H Q E h => ?_) (fun cdv A outer s H vs Q E hr h => ?_)
  · obtain ⟨a, v, rfl, _⟩ := h
    rfl
  · obtain ⟨a, v, rfl, ha, hv, q⟩ := h
    refine ⟨_, pss_cons (ps_expr (pe_cinit TB (by rfl) (pa_cons (pv 0) (pa_cons (pe_joined (.cons pe_str (.cons (pe_fmtA (pv 1)) .nil))) pa_nil)))) (pss_one (ps_ost (pv 0) (pv 1))), ?_⟩
    have e1 : ((Str.ofString "cannot be read: ") : Str).length = 16 := by decide +kernel
    have e0 : (Str.empty ++ Str.ofString "cannot be read: ") = Str.ofString "cannot be read: " := by decide +kernel
    have rest : ∀ y : Str, y.length ≤ 1000 → ((Str.empty ++ Str.ofString "cannot be read: ") ++ y).length ≤ sizeLine := fun y hy => by
      rw [e0, Str.length_append, e1, sizeLine_eq]
      omega
    have fin : tOst K "line" (tVar 0) (tVar 1) { nx := fun _ H' => Q .non H', rt := Q } (L2.start ["self", "line"] [.ref a, v]) H := ⟨_, rfl, _, rfl, a, C, rfl, T.o, T.no, .inl ⟨ha, fun dx hd ne => q dx hd ne⟩⟩
    have one : ∀ u : Str, tVeI K (fun _ H Q => Q [.ref a, .str u] H) (L2.start ["self", "line"] [.ref a, v]) H fun _ H1 => tOst K "line" (tVar 0) (tVar 1) { nx := fun _ H' => Q .non H', rt := Q } (L2.start ["self", "line"] [.ref a, v]) H1 := fun u =>
      ⟨a, C, _, rfl, by show 1 ≤ 1000; decide, T.o, ha, fin⟩
    rcases hv with rfl | ⟨i, rfl, i0, i1⟩
    · exact ⟨_, rfl, _, rfl, by decide +kernel, _, rfl, .inl ⟨rfl, _, rfl, rest _ (by decide +kernel), one _⟩⟩
    · have hl : (Str.ofString (toString i)).length ≤ 9 := PyProof.Rows.toString_length_le (k := 9) i0 (by decide) i1
      refine ⟨_, rfl, _, rfl, by decide +kernel, _, rfl, .inr (.inr ⟨i, rfl, ?_, _, rfl, rest _ ?_, one _⟩)⟩
      · have := PySem.Flt.log2_lt_of (n := i.natAbs) (by decide : 0 < 30) (by
          have e : (10 : Int) ^ 9 = 1000000000 := by decide
          have e2 : (2 : Nat) ^ 30 = 1073741824 := by decide
          omega)
        omega
      · exact Nat.le_trans hl (by decide : 9 ≤ 1000)
theorem rd_len (z : Str) : (rd z).length ≤ z.length + 2 := by
  unfold rd
  split
  · exact Nat.zero_le _
  · exact PyProof.Rows.split_le z " "
theorem rd_part (z s : Str) (h : s ∈ rd z) : s.length ≤ z.length := by
  unfold rd at h
  split at h
  · cases h
  · have hm : TL.tl s ∈ (Txt.split z " ").map TL.tl := List.mem_map.mpr ⟨s, h, rfl⟩
    rw [TL.split_spl z " " (by decide +kernel) (TL.kind_ok (by decide +kernel))] at hm
    have := spl_part_len _ _ _ _ _ hm
    rw [TL.len_tl, TL.len_tl]
    simpa using this
theorem ok_write {C f fN : Addr} {fd fdN : FuncData} (B : Blt mg) (T_InvalidName : OwnT K mg "InvalidName" C) (D_is_names : Df K mg "is_names" s_is_names ["value"] fN fdN) (G_is_names : FnOk P w K mg base CX0 2 fN fdN ["value"] (spIsNames K))
    (D : Df K mg "write_names" s_write_names ["names"] f fd) : FnOk P w K mg base (L2.CX P w) 3 f fd ["names"] (spWrite K C) := by
  refine D.F.okX sc_write_names (fun vs H Q E h => ?_) (fun cdv A outer s H vs Q E hr h => ?_)
  · obtain ⟨x, rfl, _⟩ := h
    rfl
  · obtain ⟨x, rfl, h⟩ := h
    refine ⟨_, (pss_cons (ps_if (pt_not (pt_val (pe_call G_is_names (hr.mono (by decide)) (by rfl) D_is_names.g D_is_names.F.kp D_is_names.b .nil pass0 (pa_cons (pv 0) pa_nil)) (by intro _; rfl)))
    (pss_one (ps_raise rfl (takes_of rfl rfl rfl rfl) (pmk_own PySem.F.excBase_ValueError T_InvalidName.x T_InvalidName.g T_InvalidName.k (raises_own T_InvalidName.b T_InvalidName.t) (by exact rfl)))) pss_nil)
    (pss_one (ps_ret (pe_ifExp (pt_truth (pv 0) (by intro _; rfl)) (pe_join pe_str (pv 0)) pe_str)))), ?_⟩
    rcases h with ⟨a, ss, rfl, hS, hT, hok, q⟩ | ⟨hN, q⟩
    · refine ⟨_, rfl, .ref a, true, rfl, .strsT hS hT hok, fun H' s' => ⟨_, rfl, ?_⟩⟩
      obtain ⟨l1, hw, hnd⟩ := okNames_of hok
      have w := q H' s'
      refine ⟨_, rfl, !(ss.map V.str).isEmpty, .inr (.inl ⟨_, gSeqT s' hS, rfl⟩), ?_⟩
      cases ss with
      | nil => exact w
      | cons s r => exact ⟨⟨_, rfl⟩, _, rfl, " ", a, s :: r, rfl, rfl, .inr (gSeqT s' hS), sum_names (s :: r) l1 hw, w⟩
    · exact ⟨_, rfl, x, false, rfl, hN, fun H' s' => ⟨_, rfl, q H' s'⟩⟩
theorem ok_read {C f fN fI : Addr} {fd fdN fdI : FuncData} (B : Blt mg) (T_ParseError : IniT K mg "ParseError" "line" s_ParseError___init C fI fdI) (G_ParseError : FnOk P w K mg base CX0 1 fI fdI ["self", "line"] (spIni C "line"))
    (D_is_names : Df K mg "is_names" s_is_names ["value"] fN fdN) (G_is_names : FnOk P w K mg base CX0 2 fN fdN ["value"] (spIsNames K))
    (D : Df K mg "read_names" s_read_names ["text"] f fd) : FnOk P w K mg base (L2.CX P w) 3 f fd ["text"] (spRead K C) := by
  refine D.F.okX sc_read_names (fun vs H Q E h => ?_) (fun cdv A outer s H vs Q E hr h => ?_)
  · obtain ⟨x, rfl, _⟩ := h
    rfl
  · obtain ⟨x, rfl, h⟩ := h
    refine ⟨_, (pss_cons (ps_if (pt_not (pt_val (pe_callB call_isi (by rfl) B.isinstance_ (by decide +kernel) (pa_cons (pv 0) (pa_cons (pe_bltn (v := .ty "str") rfl B.str_ (by decide +kernel) rfl) pa_nil))) (by intro _; rfl)))
    (pss_one (ps_raise rfl (takes_of rfl rfl rfl rfl) (pmk_oex T_ParseError.o T_ParseError.i T_ParseError.ti G_ParseError (hr.mono (by decide)) T_ParseError.bi .nil pass0 (by rfl) T_ParseError.g (pa_cons pe_non pa_nil)))) pss_nil)
    (pss_cons (ps_set (i := 1) sc_read_names.nd rfl (Or.inl rfl) (pe_ifExp (pt_cmpR op_eq (pv 0) pe_str (nomark _)) (pe_tup pa_nil) (pe_callTy call_tuple_of (by rfl) B.tuple_ (by decide +kernel) (pa_cons (pe_split (pv 0) pe_str) pa_nil))))
    (pss_cons (ps_if (pt_not (pt_val (pe_call G_is_names (hr.mono (by decide)) (by rfl) D_is_names.g D_is_names.F.kp D_is_names.b .nil pass0 (pa_cons (pv 1) pa_nil)) (by intro _; rfl)))
    (pss_one (ps_raise rfl (takes_of rfl rfl rfl rfl) (pmk_oex T_ParseError.o T_ParseError.i T_ParseError.ti G_ParseError (hr.mono (by decide)) T_ParseError.bi .nil pass0 (by rfl) T_ParseError.g (pa_cons pe_non pa_nil)))) pss_nil)
    (pss_one (ps_ret (pv 1)))))), ?_⟩
    rcases h with ⟨z, rfl, hz, q1, q2⟩ | ⟨t, ht, hk, q⟩
    · refine ⟨_, rfl, .str z, .ty "str", _, _, true, rfl, .ty "str", .base (.str z), kit_ty (by decide +kernel), _, rfl, ?_⟩
      refine ⟨_, rfl, rfl, _, rfl, ?_⟩
      refine meetR (fun v H1 => ∃ p, v = .ref p ∧ H p = none ∧ Same H H1 ∧ H1 p = some (.tup ((rd z).map V.str))) (fun c Q qq => ?_) (fun c Q qq => ?_) (fun v H1 hv => ?_)
      · have e : z = "-" := V.str.inj (of_decide_eq_true c)
        refine ⟨Nat.zero_le _, fun p hp => qq _ _ ⟨p, rfl, hp, gSame_new hp, ?_⟩⟩
        rw [upd_same, rd, if_pos e]
        rfl
      · have e : ¬ z = "-" := fun n => c (decide_eq_true (by rw [n]))
        refine ⟨_, rfl, ⟨_, rfl⟩, z, " ", rfl, rfl, by decide +kernel, by rw [sizeLine_eq]; omega, fun l hl => ⟨l, _, rfl, .inl ⟨SqL.of upd_same, fun p hp => qq _ _ ⟨p, rfl, ?_, ?_, ?_⟩⟩⟩⟩
        · exact (gSame_new hl).free hp
        · exact (gSame_new hl).trans (gSame_new hp)
        · rw [upd_same, rd, if_neg e]
      · obtain ⟨p, rfl, hp, s1, e1⟩ := hv
        have hN : NmsV K H1 (.ref p) (okNames (rd z)) := .strs e1 fun s hs => Nat.le_trans (rd_part z s hs) (by omega)
        refine ⟨_, rfl, .ref p, _, rfl, hN, fun H2 s2 => ⟨_, rfl, ?_⟩⟩
        cases hb : okNames (rd z) with
        | false => exact ini_mk (.inl rfl) (fun Q q => q) fun d H3 hd s3 e3 => q2 hb d H3 ((s1.trans s2).free hd) ((s1.trans s2).trans s3) e3
        | true => exact ⟨_, rfl, q1 hb p H2 hp (s1.trans s2) (s2 _ _ e1)⟩
    · refine ⟨_, rfl, x, .ty "str", t, _, false, rfl, .ty "str", ht, hk, _, rfl, ?_⟩
      exact ini_mk (.inl rfl) (fun Q q => q) q
end
end Gk

set_option Elab.async false
set_option linter.all false
set_option maxRecDepth 100000
set_option maxHeartbeats 8000000
namespace Gk
open PySem PySem.Spec PyProof.Rows L2
abbrev s_joined : Stmt := topS 18
theorem sc_joined : FnScope ["one", "other"] ["one", "other"] (defScope s_joined) := ⟨rfl, rfl, rfl, by decide +kernel, rfl, by decide +kernel, by decide +kernel⟩
abbrev s_written : Stmt := topS 19
theorem sc_written : FnScope ["names"] ["names"] (defScope s_written) := ⟨rfl, rfl, rfl, by decide +kernel, rfl, by decide +kernel, by decide +kernel⟩
abbrev s_law : Stmt := topS 20
theorem sc_law : FnScope ["script", "at", "tape", "names", "mixed", "kept", "turn", "some", "one", "other", "is_fine", "due", "name"] ["script"] (defScope s_law) := ⟨rfl, rfl, rfl, by decide +kernel, rfl, by decide +kernel, by decide +kernel⟩
def spJoined (K : PySem.W.Frag) : Sp := fun vs H Q _ => ∃ one other : Str, vs = [.str one, .str other] ∧ one.length ≤ 1000 ∧ other.length ≤ 1000 ∧
  (okNames (rd (one ++ " " ++ other)) = true → ∀ p H', H p = none → Same H H' → H' p = some (.tup ((rd (one ++ " " ++ other)).map V.str)) → Q (.ref p) H') ∧ (okNames (rd (one ++ " " ++ other)) = false → ∀ H', Same H H' → Q .non H')
def spWritten (K : PySem.W.Frag) : Sp := fun vs H Q _ => ∃ (a : Addr) (ss : List Str), vs = [.ref a] ∧ SqT K H a (ss.map V.str) ∧ TyX K H (.ref a) (.type "tuple") ∧ (∀ s ∈ ss, s.length ≤ 100000) ∧ (okNames ss = true → ∀ H', Same H H' → Q (.str (wr ss)) H') ∧ (okNames ss = false → ∀ H', Same H H' → Q .non H')
section
variable {P : Program} {w : World} {K : PySem.W.Frag} {mg : Str → Option Value} {base : Heap}
theorem ok_joined {C f fR fI : Addr} {fd fdR fdI : FuncData} (B : Blt mg) (T_ParseError : IniT K mg "ParseError" "line" s_ParseError___init C fI fdI)
    (D_read_names : Df K mg "read_names" s_read_names ["text"] fR fdR) (G_read_names : FnOk P w K mg base (L2.CX P w) 3 fR fdR ["text"] (spRead K C))
    (D : Df K mg "_law_joined" s_joined ["one", "other"] f fd) : FnOk P w K mg base CX0 4 f fd ["one", "other"] (spJoined K) := by
  refine D.F.ok sc_joined (fun vs H Q E h => ?_) (fun cdv A outer s H vs Q E hr h => ?_)
  · obtain ⟨one, other, rfl, _⟩ := h
    rfl
  · obtain ⟨one, other, rfl, l1, l2, q1, q2⟩ := h
    refine ⟨_, (pss_one (ps_try_only (tb := _) (ts := _) (Wout := fun _ _ _ _ => False) rfl rfl ⟨rfl, by decide, Or.inl T_ParseError.g⟩ takes0
    (fun W pn xe tk _ => (pss_one (ps_ret (pe_callS G_read_names (hr.mono (by decide)) (by rfl) D_read_names.g D_read_names.F.kp D_read_names.b (fun σ => passAt tk σ) (by exact (pa_cons (pe_op op_add_str (pe_op op_add_str (pv 0) pe_str) (pv 1)) pa_nil))))))
    (fun a oe cls d pn _ _ => (pss_one (ps_ret pe_non))))), ?_⟩
    have e1 : (Str.ofString " ").length = 1 := by decide +kernel
    refine ⟨_, rfl, _, _, rfl, rfl, by rw [e1, sizeLine_eq]; omega, _, rfl, _, _, rfl, rfl, by rw [Str.length_append, e1, sizeLine_eq]; omega, _, rfl, .inl ⟨_, rfl, by rw [Str.length_append, Str.length_append, e1]; omega, q1, fun hb d H' hd s e => ?_⟩⟩
    exact ⟨true, T_ParseError.te, fun _ a ha => q2 hb H' s, fun z => nomatch z⟩
theorem ok_written {C f fR : Addr} {fd fdR : FuncData} (B : Blt mg) (T_InvalidName : OwnT K mg "InvalidName" C)
    (D_write_names : Df K mg "write_names" s_write_names ["names"] fR fdR) (G_write_names : FnOk P w K mg base (L2.CX P w) 3 fR fdR ["names"] (spWrite K C))
    (D : Df K mg "_law_written" s_written ["names"] f fd) : FnOk P w K mg base CX0 4 f fd ["names"] (spWritten K) := by
  refine D.F.ok sc_written (fun vs H Q E h => ?_) (fun cdv A outer s H vs Q E hr h => ?_)
  · obtain ⟨a, ss, rfl, _⟩ := h
    rfl
  · obtain ⟨a, ss, rfl, hS, hT, hl, q1, q2⟩ := h
    refine ⟨_, (pss_one (ps_try_only (tb := _) (ts := _) (Wout := fun _ _ _ _ => False) rfl rfl ⟨rfl, by decide, Or.inl T_InvalidName.g⟩ takes0
    (fun W pn xe tk _ => (pss_one (ps_ret (pe_callS G_write_names (hr.mono (by decide)) (by rfl) D_write_names.g D_write_names.F.kp D_write_names.b (fun σ => passAt tk σ) (by exact (pa_cons (pv 0) pa_nil))))))
    (fun a oe cls d pn _ _ => (pss_one (ps_ret pe_non))))), ?_⟩
    refine ⟨_, rfl, _, rfl, ?_⟩
    cases hb : okNames ss with
    | true => exact .inl ⟨a, ss, rfl, hS, hT, hb, q1 hb⟩
    | false =>
      have hN := NmsV.strsB hS hT hl
      rw [hb] at hN
      exact .inr ⟨hN, fun H' s => ⟨true, T_InvalidName.te, fun _ a ha => q2 hb H' s, fun z => nomatch z⟩⟩
/-! ### two texts behind one another -/
theorem jn_one (s : Str) : jn [s] = s := TL.ext_tl (by
  unfold jn
  rw [TL.join_eq, TL.tl_join]
  rfl)
theorem nosp_dash : NoSp [dash] := by
  intro s hs
  rw [List.mem_singleton.mp hs, tl_dash]
  decide
theorem rd_two {xs zs : List Str} (hx : xs ≠ []) (hz : zs ≠ []) (wx : ∀ s ∈ xs, isW s = true) (wz : ∀ s ∈ zs, isW s = true) : rd (wr xs ++ " " ++ wr zs) = xs ++ zs := by
  rw [wr_jn hx, wr_jn hz, ← jn_app hx hz, rd_jn (by simp [hx]) ((NoSp.of wx).app (.of wz)), if_neg]
  refine ne_dash fun s hs => ?_
  rcases List.mem_append.mp hs with h | h
  · exact wx s h
  · exact wz s h
theorem rd_dash1 {ys : List Str} (h : ys ≠ []) (w : ∀ s ∈ ys, isW s = true) : rd (dash ++ " " ++ wr ys) = dash :: ys := by
  have e : (dash ++ " " ++ wr ys : Str) = jn [dash] ++ " " ++ jn ys := by rw [jn_one, wr_jn h]
  rw [e, ← jn_app (by simp) h, rd_jn (by simp) (nosp_dash.app (.of w)), if_neg]
  · rfl
  · intro z
    exact h (List.cons.inj z).2
theorem rd_dash2 {ys : List Str} (h : ys ≠ []) (w : ∀ s ∈ ys, isW s = true) : rd (wr ys ++ " " ++ dash) = ys ++ [dash] := by
  have e : (wr ys ++ " " ++ dash : Str) = jn ys ++ " " ++ jn [dash] := by rw [jn_one, wr_jn h]
  rw [e, ← jn_app h (by simp), rd_jn (by simp) ((NoSp.of w).app nosp_dash), if_neg]
  intro z
  have := congrArg List.length z
  rw [List.length_append] at this
  have h1 : ([dash] : List Str).length = 1 := rfl
  exact h (List.length_eq_zero_iff.mp (by omega))
theorem meetAnd {c : Bool} {tb : TE} {σ : L2.St} {H1 : Hp} {Q : VK} (P : V → Hp → Prop) (h1 : c = true → ∀ Q : VK, (∀ v H, P v H → Q v H) → tb σ H1 Q) (h2 : c = false → P (.bl false) H1) (q : ∀ v H, P v H → Q v H) : if c = true then tb σ H1 Q else Q (.bl false) H1 := by
  cases c with
  | true => exact h1 rfl Q q
  | false => exact q _ _ (h2 rfl)
theorem take_filter (xs zs : List Str) {j : Nat} {x : Str} (h : xs[j]? = some x) : (xs.take (j + 1)).filter (fun s => decide (s ∈ zs)) = (xs.take j).filter (fun s => decide (s ∈ zs)) ++ (if x ∈ zs then [x] else []) := by
  rw [List.take_add_one, h, List.filter_append]
  congr 1
  by_cases c : x ∈ zs <;> simp [c]
def spLaw (K : PySem.W.Frag) : Sp := fun vs H Q _ => ∃ (a : Addr) (ns : List Int), vs = [.ref a] ∧ SqL K H a (ns.map V.int) ∧ ns.length ≤ 63 ∧ ∀ H', Q (.bl true) H'
theorem ok_law {C CI f f1 f2 f3 f4 f5 f6 f7 f8 f9 : Addr} {fd d1 d2 d3 d4 d5 d6 d7 d8 d9 : FuncData} (B : Blt mg)
    (D_tape : Df K mg "_law_tape" s_tape ["script", "spot"] f1 d1) (G_tape : FnOk P w K mg base CX0 1 f1 d1 ["script", "spot"] (spTape K))
    (D_roll : Df K mg "_law_roll" s_roll ["tape", "total"] f2 d2) (G_roll : FnOk P w K mg base CX0 1 f2 d2 ["tape", "total"] spRoll)
    (D_few : Df K mg "_law_few" s_few ["tape", "items", "many"] f3 d3) (G_few : FnOk P w K mg base CX0 2 f3 d3 ["tape", "items", "many"] (spFew K))
    (D_words_drawn : Df K mg "_law_words_drawn" s_words_drawn ["tape", "lots"] f4 d4) (G_words_drawn : FnOk P w K mg base CX0 4 f4 d4 ["tape", "lots"] spWords)
    (D_joined : Df K mg "_law_joined" s_joined ["one", "other"] f5 d5) (G_joined : FnOk P w K mg base CX0 4 f5 d5 ["one", "other"] (spJoined K))
    (D_written : Df K mg "_law_written" s_written ["names"] f6 d6) (G_written : FnOk P w K mg base CX0 4 f6 d6 ["names"] (spWritten K))
    (D_is_names : Df K mg "is_names" s_is_names ["value"] f7 d7) (G_is_names : FnOk P w K mg base CX0 2 f7 d7 ["value"] (spIsNames K))
    (D_write_names : Df K mg "write_names" s_write_names ["names"] f8 d8) (G_write_names : FnOk P w K mg base (L2.CX P w) 3 f8 d8 ["names"] (spWrite K CI))
    (D_read_names : Df K mg "read_names" s_read_names ["text"] f9 d9) (G_read_names : FnOk P w K mg base (L2.CX P w) 3 f9 d9 ["text"] (spRead K C))
    (D : Df K mg "law" s_law ["script"] f fd) : FnOk P w K mg base CX0 5 f fd ["script"] (spLaw K) := by
  refine D.F.ok sc_law (fun vs H Q E h => ?_) (fun cdv A outer s H vs Q E hr h => ?_)
  · obtain ⟨a, ns, rfl, _⟩ := h
    rfl
  · obtain ⟨a, ns, rfl, hS, hlen, q⟩ := h
    refine ⟨_, (pss_cons (ps_for PassesOwn.never rfl (pi_range1 (by rfl) B.range (pa_cons (pe_callB (call_max2 rfl) (by rfl) B.max_ (by decide +kernel) (pa_cons pe_int (pa_cons (pe_callB (call_min2 rfl) (by rfl) B.min_ (by decide +kernel) (pa_cons pe_int (pa_cons (pe_callB call_len_seq (by rfl) B.len_ (by decide +kernel) (pa_cons (pv 0) pa_nil)) pa_nil))) pa_nil))) pa_nil)) (pg_name (i := 1) sc_law.nd rfl (Or.inl rfl))
    (pss_cons (ps_set (i := 2) sc_law.nd rfl (Or.inl rfl) (pe_call G_tape (hr.mono (by decide)) (by rfl) D_tape.g D_tape.F.kp D_tape.b .nil pass0 (pa_cons (pv 0) (pa_cons (pv 1) pa_nil))))
    (pss_cons (ps_set (i := 3) sc_law.nd rfl (Or.inl rfl) (pe_call G_words_drawn (hr.mono (by decide)) (by rfl) D_words_drawn.g D_words_drawn.F.kp D_words_drawn.b .nil pass0 (pa_cons (pv 2) (pa_cons (pe_op op_add pe_int (pe_call G_roll (hr.mono (by decide)) (by rfl) D_roll.g D_roll.F.kp D_roll.b .nil pass0 (pa_cons (pv 2) (pa_cons pe_int pa_nil)))) pa_nil))))
    (pss_cons (ps_set (i := 4) sc_law.nd rfl (Or.inl rfl) (pe_callTy call_tuple_of (by rfl) B.tuple_ (by decide +kernel) (pa_cons (pe_call G_few (hr.mono (by decide)) (by rfl) D_few.g D_few.F.kp D_few.b .nil pass0 (pa_cons (pv 2) (pa_cons (pv 3) (pa_cons pe_int pa_nil)))) pa_nil)))
    (pss_cons (ps_set (i := 5) sc_law.nd rfl (Or.inl rfl) (pe_callTy call_list_of (by rfl) B.list_ (by decide +kernel) (pa_cons (pv 3) pa_nil)))
    (pss_cons (ps_for PassesOwn.never rfl (pi_range1 (by rfl) B.range (pa_cons (pe_callB call_len_seq (by rfl) B.len_ (by decide +kernel) (pa_cons (pv 3) pa_nil)) pa_nil)) (pg_name (i := 6) sc_law.nd rfl (Or.inl rfl))
    (pss_cons (ps_set (i := 7) sc_law.nd rfl (Or.inl rfl) (pe_callTy call_tuple_of (by rfl) B.tuple_ (by decide +kernel) (pa_cons (pe_op op_cat (pe_slice sl_list (pv 3) (po_some (pv 6)) po_none) (pe_slice sl_list (pv 3) po_none (po_some (pv 6)))) pa_nil)))
    (pss_one (ps_if (PW.pt (pw_or (pt_cmpR (op_neD hr.units) (pe_call G_read_names (hr.mono (by decide)) (by rfl) D_read_names.g D_read_names.F.kp D_read_names.b .nil passL (pa_cons (pe_call G_write_names (hr.mono (by decide)) (by rfl) D_write_names.g D_write_names.F.kp D_write_names.b .nil passL (pa_cons (pv 7) pa_nil)) pa_nil)) (pv 7) (nomark _)) (pw_or1 (pt_cmpR op_notBl (pe_call G_is_names (hr.mono (by decide)) (by rfl) D_is_names.g D_is_names.F.kp D_is_names.b .nil pass0 (pa_cons (pv 7) pa_nil)) pe_bl (nomark _)))))
    (pss_one (ps_ret pe_bl)) pss_nil))))
    (pss_cons (ps_if (PW.pt (pw_or (pt_cmpR (op_neD hr.units) (pe_call G_read_names (hr.mono (by decide)) (by rfl) D_read_names.g D_read_names.F.kp D_read_names.b .nil passL (pa_cons (pe_call G_write_names (hr.mono (by decide)) (by rfl) D_write_names.g D_write_names.F.kp D_write_names.b .nil passL (pa_cons (pv 4) pa_nil)) pa_nil)) (pv 4) (nomark _)) (pw_or1 (pt_cmpR (op_neD hr.units) (pv 3) (pv 5) (nomark _)))))
    (pss_one (ps_ret pe_bl)) pss_nil)
    (pss_cons (ps_asg (pe_tup (pa_cons (pe_slice sl_tupA (pv 4) po_none (po_some (pe_call G_roll (hr.mono (by decide)) (by rfl) D_roll.g D_roll.F.kp D_roll.b .nil pass0 (pa_cons (pv 2) (pa_cons pe_int pa_nil))))) (pa_cons (pe_slice sl_tupA (pv 4) (po_some (pe_call G_roll (hr.mono (by decide)) (by rfl) D_roll.g D_roll.F.kp D_roll.b .nil pass0 (pa_cons (pv 2) (pa_cons pe_int pa_nil)))) po_none) pa_nil))) (pg_tup (by rfl) (pgs_cons (pg_name (i := 8) sc_law.nd rfl (Or.inl rfl)) (pgs_cons (pg_name (i := 9) sc_law.nd rfl (Or.inr rfl)) pgs_nil))))
    (pss_cons (ps_if (PW.pt (pw_and (pt_cmpR (op_neD hr.units) (pv 8) (pe_tup pa_nil) (nomark _)) (pw_and1 (pt_cmpR (op_neD hr.units) (pv 9) (pe_tup pa_nil) (nomark _)))))
    (pss_cons (ps_set (i := 10) sc_law.nd rfl (Or.inl rfl) (pe_and (pe_cmpR (op_eqD hr.units) (pe_lc (own := [("name", 12)]) (g := gName 12)  (by rfl) sc_law.nd (pi_tup (pv 8)) (blkOk_by (N := ["script", "at", "tape", "names", "mixed", "kept", "turn", "some", "one", "other", "is_fine", "due", "name"]) (sc := defScope s_law) (by decide +kernel)) (fun _ _ _ _ _ => (pg_name (i := 12) sc_law.nd rfl (Or.inl rfl))) (fun _ _ _ _ _ => pts_one (pt_cmpR (op_in_seqK K rfl) (pv 12) (pv 9) (by rfl))) (fun _ _ _ _ _ => (pv 12))) (pe_lst pa_nil) (nomark _)) (pe_one (pe_cmpR op_lt (pe_callB call_len_seq (by rfl) B.len_ (by decide +kernel) (pa_cons (pe_op op_catA (pv 8) (pv 9)) pa_nil)) pe_int (nomark _)))))
    (pss_cons (ps_set (i := 11) sc_law.nd rfl (Or.inl rfl) (pe_ifExp (pt_val (pv 10) (by intro _; rfl)) (pe_op op_catA (pv 8) (pv 9)) pe_non))
    (pss_cons (ps_if (pt_cmpR (op_neD hr.units) (pe_call G_joined (hr.mono (by decide)) (by rfl) D_joined.g D_joined.F.kp D_joined.b .nil pass0 (pa_cons (pe_call G_write_names (hr.mono (by decide)) (by rfl) D_write_names.g D_write_names.F.kp D_write_names.b .nil passL (pa_cons (pv 8) pa_nil)) (pa_cons (pe_call G_write_names (hr.mono (by decide)) (by rfl) D_write_names.g D_write_names.F.kp D_write_names.b .nil passL (pa_cons (pv 9) pa_nil)) pa_nil))) (pv 11) (nomark _))
    (pss_one (ps_ret pe_bl)) pss_nil)
    (pss_one (ps_if (pt_cmpR op_eq (pe_cmpR op_isN (pe_call G_written (hr.mono (by decide)) (by rfl) D_written.g D_written.F.kp D_written.b .nil pass0 (pa_cons (pe_op op_catA (pv 8) (pv 9)) pa_nil)) pe_non (nomark _)) (pv 10) (nomark _))
    (pss_one (ps_ret pe_bl)) pss_nil))))) pss_nil)
    (pss_one (ps_if (PW.pt (pw_or (pt_cmpR op_notN (pe_call G_joined (hr.mono (by decide)) (by rfl) D_joined.g D_joined.F.kp D_joined.b .nil pass0 (pa_cons pe_str (pa_cons (pe_call G_write_names (hr.mono (by decide)) (by rfl) D_write_names.g D_write_names.F.kp D_write_names.b .nil passL (pa_cons (pv 4) pa_nil)) pa_nil))) pe_non (nomark _)) (pw_or1 (pt_cmpR op_notN (pe_call G_joined (hr.mono (by decide)) (by rfl) D_joined.g D_joined.F.kp D_joined.b .nil pass0 (pa_cons (pe_call G_write_names (hr.mono (by decide)) (by rfl) D_write_names.g D_write_names.F.kp D_write_names.b .nil passL (pa_cons (pv 4) pa_nil)) (pa_cons pe_str pa_nil))) pe_non (nomark _)))))
    (pss_one (ps_ret pe_bl)) pss_nil)))))))))))
    (pss_cons (ps_if (PW.pt (pw_or (pt_cmpR op_notN (pe_call G_joined (hr.mono (by decide)) (by rfl) D_joined.g D_joined.F.kp D_joined.b .nil pass0 (pa_cons pe_str (pa_cons pe_str pa_nil))) pe_non (nomark _)) (pw_or1 (pt_cmpR (op_neD hr.units) (pe_call G_joined (hr.mono (by decide)) (by rfl) D_joined.g D_joined.F.kp D_joined.b .nil pass0 (pa_cons pe_str (pa_cons pe_str pa_nil))) (pe_tup (pa_cons pe_str (pa_cons pe_str (pa_cons pe_str (pa_cons pe_str pa_nil))))) (nomark _)))))
    (pss_one (ps_ret pe_bl)) pss_nil)
    (pss_one (ps_ret (pe_and (pe_cmpR (op_eqD hr.units) (pe_call G_read_names (hr.mono (by decide)) (by rfl) D_read_names.g D_read_names.F.kp D_read_names.b .nil passL (pa_cons pe_str pa_nil)) (pe_tup (pa_cons pe_str (pa_cons pe_str pa_nil))) (nomark _)) (pe_one (pe_cmpR op_eq (pe_call G_write_names (hr.mono (by decide)) (by rfl) D_write_names.g D_write_names.F.kp D_write_names.b .nil passL (pa_cons (pe_tup (pa_cons pe_str (pa_cons pe_str pa_nil))) pa_nil)) pe_str (nomark _)))))))), ?_⟩
    refine ⟨_, rfl, a, _, rfl, .inl hS, _, _, rfl, _, _, rfl, _, rfl, ?_, ?_, ?_⟩
    · split <;> split <;> omega
    · split <;> split <;> omega
    · refine for_range (lo := 0) (fun i σ H1 => Same H H1 ∧ ∃ b1 b2 b3 b4 b5 b6 b7 b8 b9 b10 b11 : Option V, σ = [some (.ref a), b1, b2, b3, b4, b5, b6, b7, b8, b9, b10, b11, none]) ⟨Same.refl H, _, _, _, _, _, _, _, _, _, _, _, rfl⟩ (fun i σ H1 hi hP => ?_) (fun σ H1 hP => ?_)
      · obtain ⟨s1, b1, b2, b3, b4, b5, b6, b7, b8, b9, b10, b11, rfl⟩ := hP
        -- tape
        refine ⟨_, rfl, _, rfl, a, ns, _, rfl, s1.seq hS, by omega, fun t x y z ht => ?_⟩
        have hT2 : Tp (upd H1 t (.lst [.int x, .int y, .int z])) t := ⟨x, y, z, upd_same⟩
        have s2 : Same H1 (upd H1 t (.lst [.int x, .int y, .int z])) := gSame_new ht
        generalize upd H1 t (.lst [.int x, .int y, .int z]) = H2 at hT2 s2
        -- back to the loop from whatever comes of H2
        have back : ∀ H3, Kt t H2 H3 → Same H H3 := fun H3 k b o e => k.kp b o (ne_of_none (s1 _ _ e) ht) (s2 _ _ (s1 _ _ e))
        refine ⟨_, rfl, _, rfl, t, 16, rfl, hT2, by decide, by decide, fun r H3 r0 r1 k3 => ⟨_, _, rfl, rfl, t, _, rfl, k3.tp, by omega, by omega, fun p ws H4 hl hw hnd hp e4 k4 => ?_⟩⟩
        have k4 : Kt t H2 H4 := k3.trans k4
        have npt : p ≠ t := Kt.ne k3.tp hp
        have hl16 : ws.length ≤ 16 := by omega
        have hl1 : 1 ≤ ws.length := by omega
        have hok : okNames ws = true := okNames_mk hl16 hw hnd
        refine ⟨_, rfl, _, rfl, t, p, ws, 16, rfl, k4.tp, npt, SqL.of e4, OkS.of hw, by omega, by decide, fun q ys rest H5 pm hy hq e5 k5 => ⟨q, _, rfl, .inl ⟨SqL.of e5, fun m hm => ?_⟩⟩⟩
        have hrest : rest = [] := by
          have e := pm.length_eq
          rw [List.length_append, hy] at e
          have e16 : (16 : Int).toNat = 16 := rfl
          rw [e16] at e
          exact List.length_eq_zero_iff.mp (by omega)
        subst hrest
        rw [List.append_nil] at pm
        have yok : okNames ys = true := okNames_perm pm.symm hok
        have kf := k5
        have k5 : Kt t H2 H5 := k4.trans k5
        have k6 : Kt t H2 (upd H5 m (.tup (ys.map V.str))) := k5.trans (Kt.new k5.tp hm)
        have p6 : (upd H5 m (.tup (ys.map V.str))) p = some (.lst (ws.map V.str)) := by
          rw [upd_ne (ne_of_none (kf.strs k4.tp e4) hm)]
          exact kf.strs k4.tp e4
        have m6 : (upd H5 m (.tup (ys.map V.str))) m = some (.tup (ys.map V.str)) := upd_same
        generalize upd H5 m (.tup (ys.map V.str)) = H6 at k6 p6 m6
        refine ⟨_, rfl, p, _, rfl, .inl (SqL.of p6), fun k hk => ?_⟩
        have k7 : Kt t H2 (upd H6 k (.lst (ws.map V.str))) := k6.trans (Kt.new k6.tp hk)
        have p7 : (upd H6 k (.lst (ws.map V.str))) p = some (.lst (ws.map V.str)) := by
          rw [upd_ne (ne_of_none p6 hk)]
          exact p6
        have m7 : (upd H6 k (.lst (ws.map V.str))) m = some (.tup (ys.map V.str)) := by
          rw [upd_ne (ne_of_none m6 hk)]
          exact m6
        have q7 : (upd H6 k (.lst (ws.map V.str))) k = some (.lst (ws.map V.str)) := upd_same
        generalize upd H6 k (.lst (ws.map V.str)) = H7 at k7 p7 m7 q7
        -- for turn in range(len(names))
        refine ⟨_, rfl, p, _, rfl, .inl (SqL.of p7), _, rfl, by omega, by rw [List.length_map]; omega, ?_⟩
        refine for_range (lo := 0) (fun j σ H8 => Same H7 H8 ∧ ∃ c6 c7 : Option V, σ = [some (.ref a), some (.int (0 + i)), some (.ref t), some (.ref p), some (.ref m), some (.ref k), c6, c7, b8, b9, b10, b11, none]) ⟨Same.refl H7, _, _, rfl⟩ (fun j σ H8 hj hP => ?_) (fun σ H8 hP => ?_)
        · obtain ⟨s8, c6, c7, rfl⟩ := hP
          have p8 := s8 _ _ p7
          refine ⟨_, rfl, _, rfl, _, rfl, p, _, rfl, SqL.of p8, fun p1 hp1 => ⟨_, rfl, _, rfl, _, rfl, p, _, rfl, SqL.of (by rw [upd_ne (ne_of_none p8 hp1)]; exact p8), fun p2 hp2 => ?_⟩⟩
          have h1 : (upd (upd H8 p1 (.lst (cutV (ws.map V.str) (some (0 + (j : Int))) none))) p2 (.lst (cutV (ws.map V.str) none (some (0 + (j : Int)))))) p1 = some (.lst ((ws.drop j).map V.str)) := by
            rw [upd_ne (ne_of_none upd_same hp2), upd_same, Int.zero_add, cut_from]
          have h2 : (upd (upd H8 p1 (.lst (cutV (ws.map V.str) (some (0 + (j : Int))) none))) p2 (.lst (cutV (ws.map V.str) none (some (0 + (j : Int)))))) p2 = some (.lst ((ws.take j).map V.str)) := by
            rw [upd_same, Int.zero_add, cut_to]
          have s9 : Same H8 (upd (upd H8 p1 (.lst (cutV (ws.map V.str) (some (0 + (j : Int))) none))) p2 (.lst (cutV (ws.map V.str) none (some (0 + (j : Int)))))) := (gSame_new hp1).trans (gSame_new hp2)
          generalize upd (upd H8 p1 (.lst (cutV (ws.map V.str) (some (0 + (j : Int))) none))) p2 (.lst (cutV (ws.map V.str) none (some (0 + (j : Int))))) = H9 at h1 h2 s9
          refine ⟨p1, p2, _, _, rfl, rfl, h1, h2, by rw [List.length_map, List.length_map, List.length_drop, List.length_take, sizeLine_eq]; omega, fun p3 hp3 => ⟨p3, _, rfl, .inl ⟨SqL.of upd_same, fun p4 hp4 => ?_⟩⟩⟩
          have h4 : (upd (upd H9 p3 (.lst ((ws.drop j).map V.str ++ (ws.take j).map V.str))) p4 (.tup ((ws.drop j).map V.str ++ (ws.take j).map V.str))) p4 = some (.tup ((ws.drop j ++ ws.take j).map V.str)) := by
            rw [upd_same, List.map_append]
          have s10 : Same H9 (upd (upd H9 p3 (.lst ((ws.drop j).map V.str ++ (ws.take j).map V.str))) p4 (.tup ((ws.drop j).map V.str ++ (ws.take j).map V.str))) := (gSame_new hp3).trans (gSame_new hp4)
          generalize upd (upd H9 p3 (.lst ((ws.drop j).map V.str ++ (ws.take j).map V.str))) p4 (.tup ((ws.drop j).map V.str ++ (ws.take j).map V.str)) = HA at h4 s10
          have rok : okNames (ws.drop j ++ ws.take j) = true := rot_ok j hok
          have rw_ := (okNames_of rok).2.1
          have hsame : Same H7 HA := (s8.trans s9).trans s10
          refine ⟨_, rfl, _, rfl, .inl ⟨p4, _, rfl, SqT.of h4, .base (.tup h4), rok, fun HB sB => ?_⟩⟩
          refine ⟨_, rfl, .inl ⟨_, rfl, Nat.le_trans (wr_len rw_ (okNames_of rok).1) (by decide), fun _ p5 HC hp5 sC eC => ?_, fun no => ?_⟩⟩
          · rw [rd_wr rw_] at eC
            have hC := sC _ _ (sB _ _ h4)
            refine ⟨_, rfl, neTS (OkS.of rw_) (OkS.of rw_) (SqT.of eC) (SqT.of hC) ⟨_, rfl, ?_⟩⟩
            rw [decide_eq_true rfl]
            refine ⟨_, rfl, _, true, rfl, .strsT (SqT.of hC) (.base (.tup hC)) rok, fun HD sD => ⟨true, true, rfl, rfl, _, rfl, ?_⟩⟩
            exact ⟨((hsame.trans sB).trans sC).trans sD, _, _, rfl⟩
          · rw [rd_wr rw_, rok] at no
            cases no
        · obtain ⟨s8, c6, c7, rfl⟩ := hP
          have k8 : Kt t H2 H8 := k7.trans (Kt.same k7.tp s8)
          have p8 := s8 _ _ p7
          have m8 := s8 _ _ m7
          have q8 := s8 _ _ q7
          have yw := (okNames_of yok).2.1
          -- read_names(write_names(mixed)) != mixed or names != kept
          refine ⟨_, rfl, _, rfl, .inl ⟨m, _, rfl, SqT.of m8, .base (.tup m8), yok, fun HB sB => ?_⟩⟩
          refine ⟨_, rfl, .inl ⟨_, rfl, Nat.le_trans (wr_len yw (okNames_of yok).1) (by decide), fun _ p5 HC hp5 sC eC => ?_, fun no => ?_⟩⟩
          · rw [rd_wr yw] at eC
            have mC := sC _ _ (sB _ _ m8)
            refine ⟨_, rfl, neTS (OkS.of yw) (OkS.of yw) (SqT.of eC) (SqT.of mC) ⟨_, rfl, ?_⟩⟩
            rw [decide_eq_true rfl]
            have pC := sC _ _ (sB _ _ p8)
            have qC := sC _ _ (sB _ _ q8)
            refine ⟨_, rfl, _, rfl, neLS (OkS.of hw) (OkS.of hw) (SqL.of pC) (SqL.of qC) ⟨_, rfl, ?_⟩⟩
            rw [decide_eq_true rfl]
            have kC : Kt t H2 HC := k8.trans (Kt.same k8.tp (sB.trans sC))
            -- one, other
            refine ⟨_, rfl, _, rfl, t, 4, rfl, kC.tp, by decide, by decide, fun r1 HD r10 r11 kD => ⟨_, rfl, ?_⟩⟩
            obtain ⟨j1, rfl⟩ : ∃ j : Nat, r1 = (j : Int) := ⟨r1.toNat, by omega⟩
            have mD := kD.tup kC.tp mC
            have kD : Kt t H2 HD := kC.trans kD
            refine slA_to mD fun o1 HE sE eE => ?_
            have kE : Kt t H2 HE := kD.trans (Kt.same kD.tp sE)
            refine ⟨_, rfl, _, rfl, t, 4, rfl, kE.tp, by decide, by decide, fun r2 HF r20 r21 kF => ⟨_, rfl, ?_⟩⟩
            obtain ⟨j2, rfl⟩ : ∃ j : Nat, r2 = (j : Int) := ⟨r2.toNat, by omega⟩
            have mF := kF.tup kE.tp (sE _ _ mD)
            have eF := kF.tup kE.tp eE
            have kF : Kt t H2 HF := kE.trans kF
            unfold tNoPart
            refine slA_from mF fun o2 HG sG fG => ?_
            have eG := sG _ _ eF
            have mG := sG _ _ mF
            have kG : Kt t H2 HG := kF.trans (Kt.same kF.tp sG)
            refine ⟨by show 2 ≤ sizeLine; decide, fun pt hpt => ⟨pt, _, rfl, SqT.of upd_same, rfl, _, _, rfl, _, _, rfl, rfl, ?_⟩⟩
            have sH : Same HG (upd HG pt (.tup [.ref o1, .ref o2])) := gSame_new hpt
            generalize upd HG pt (.tup [.ref o1, .ref o2]) = HH at sH
            have eH := sH _ _ eG
            have fH := sH _ _ fG
            have mH := sH _ _ mG
            have kH : Kt t H2 HH := kG.trans (Kt.same kG.tp sH)
            have ok1 : okNames (ys.take j1) = true := take_ok j1 yok
            have ok2 : okNames (ys.drop j2) = true := drop_ok j2 yok
            generalize ys.take j1 = xs at eH ok1
            generalize ys.drop j2 = zs at fH ok2
            obtain ⟨xl, xw, xd⟩ := okNames_of ok1
            obtain ⟨zl, zw, zd⟩ := okNames_of ok2
            dsimp only
            refine seq_meet (t := tIfS _ _ _) (fun σ' H' => Kt t H2 H' ∧ H' m = some (.tup (ys.map V.str)) ∧ ∃ d10 d11 : Option V, σ' = [some (.ref a), some (.int (0 + i)), some (.ref t), some (.ref p), some (.ref m), some (.ref k), c6, c7, some (.ref o1), some (.ref o2), d10, d11, none]) (fun N hN => ?_) (fun σ' H' hp => ?_)
            · refine ⟨_, rfl, Nat.zero_le _, fun z1 hz1 => neTS (ts := []) (OkS.of xw) rfl (SqT.of (gSame_new hz1 _ _ eH)) (SqT.of upd_same) ⟨_, rfl, ?_⟩⟩
              have kI : Kt t H2 (upd HH z1 (.tup [])) := kH.trans (Kt.new kH.tp hz1)
              have eI := gSame_new (o := .tup []) hz1 _ _ eH
              have fI := gSame_new (o := .tup []) hz1 _ _ fH
              have mI := gSame_new (o := .tup []) hz1 _ _ mH
              generalize upd HH z1 (.tup []) = HI at kI eI fI mI
              by_cases hx : xs = []
              · rw [decide_eq_true hx]
                exact hN _ _ ⟨kI, mI, _, _, rfl⟩
              · rw [decide_eq_false hx]
                refine ⟨_, rfl, Nat.zero_le _, fun z2 hz2 => neTS (ts := []) (OkS.of zw) rfl (SqT.of (gSame_new hz2 _ _ fI)) (SqT.of upd_same) ⟨_, rfl, ?_⟩⟩
                have kJ : Kt t H2 (upd HI z2 (.tup [])) := kI.trans (Kt.new kI.tp hz2)
                have eJ := gSame_new (o := .tup []) hz2 _ _ eI
                have fJ := gSame_new (o := .tup []) hz2 _ _ fI
                have mJ := gSame_new (o := .tup []) hz2 _ _ mI
                generalize upd HI z2 (.tup []) = HJ at kJ eJ fJ mJ
                by_cases hz : zs = []
                · rw [decide_eq_true hz]
                  exact hN _ _ ⟨kJ, mJ, _, _, rfl⟩
                · rw [decide_eq_false hz]
                  have goN : ∀ HN, Same HJ HN → ∀ d10 d11, N [some (.ref a), some (.int (0 + i)), some (.ref t), some (.ref p), some (.ref m), some (.ref k), c6, c7, some (.ref o1), some (.ref o2), d10, d11, none] HN := fun HN sN d10 d11 => hN _ _ ⟨kJ.trans (Kt.same kJ.tp sN), sN _ _ mJ, _, _, rfl⟩
                  refine ⟨_, rfl, o1, rfl, ⟨_, SqT.of eJ⟩, fun D hD => ?_⟩
                  refine lc_tup (K := K) (a := o1) (xs := xs.map V.str) (fun j H5 => Same HJ H5 ∧ H5 D = some (.lst (((xs.take j).filter (fun s => decide (s ∈ zs))).map V.str))) ⟨gSame_new hD, upd_same⟩ (fun j H5 _ h5 => SqT.of (h5.1 _ _ eJ)) (fun j x H5 hx h5 => ?_) (fun H5 h5 => ?_)
                  · obtain ⟨s5, d5⟩ := h5
                    rw [List.getElem?_map] at hx
                    cases hxj : xs[j]? with
                    | none =>
                      rw [hxj] at hx
                      cases hx
                    | some y =>
                    rw [hxj] at hx
                    obtain rfl : V.str y = x := Option.some.inj hx
                    refine ⟨rfl, _, rfl, _, rfl, o2, _, rfl, .inr (SqT.of (s5 _ _ fJ)), rfl, flat_strs zs, _, rfl, ?_⟩
                    rw [inV_strs]
                    refine ite2 (fun hin => ?_) (fun hin => ?_)
                    · have hin' : y ∈ zs := of_decide_eq_true hin
                      refine ⟨_, rfl, _, d5, ?_, gSame_mut s5 hD, ?_⟩
                      · rw [List.length_map]
                        refine small1000 (Nat.le_trans (List.length_filter_le _ _) ?_)
                        rw [List.length_take]
                        omega
                      · rw [upd_same, take_filter xs zs hxj, if_pos hin', List.map_append]
                        rfl
                    · have hin' : ¬ y ∈ zs := fun z => hin (decide_eq_true z)
                      refine ⟨s5, ?_⟩
                      rw [take_filter xs zs hxj, if_neg hin', List.append_nil]
                      exact d5
                  · obtain ⟨s5, d5⟩ := h5
                    have tk : xs.take (xs.map V.str).length = xs := List.take_of_length_le (by rw [List.length_map]; exact Nat.le_refl _)
                    rw [tk] at d5
                    refine ⟨Nat.zero_le _, fun F hF => eqLS (ts := []) ((OkS.of xw).sub fun x hx => (List.mem_filter.mp hx).1) rfl (SqL.of (gSame_new hF _ _ d5)) (SqL.of upd_same) ⟨_, rfl, ?_⟩⟩
                    have s6 : Same HJ (upd H5 F (.lst [])) := s5.trans (gSame_new hF)
                    generalize upd H5 F (.lst []) = H6 at s6
                    refine meetAnd (fun v H1 => v = .bl (okNames (xs ++ zs)) ∧ Same HJ H1) (fun c Q qq => ?_) (fun c => ?_) (fun v H1 hv => ?_)
                    · refine ⟨_, rfl, _, rfl, catA_strs (s6 _ _ eJ) (s6 _ _ fJ) (by omega) fun p9 H7 s7 e7 => ⟨p9, _, rfl, .inr (SqT.of e7), _, _, rfl, rfl, qq _ _ ⟨?_, s6.trans s7⟩⟩⟩
                      rw [okNames_app ok1 ok2, c, Bool.true_and, List.length_map]
                      exact congrArg V.bl (decide_eq_decide.mpr ⟨fun _ => by omega, fun _ => by omega⟩)
                    · refine ⟨?_, s6⟩
                      rw [okNames_app ok1 ok2, c]
                      rfl
                    · obtain ⟨rfl, s7⟩ := hv
                      have e1 := s7 _ _ eJ
                      have f1 := s7 _ _ fJ
                      have two := rd_two hx hz xw zw
                      have lw : ∀ s ∈ xs ++ zs, s.length ≤ 100000 := fun s hs => by
                        rcases List.mem_append.mp hs with h | h
                        · exact Nat.le_trans (isW_len (xw s h)).2 (by decide)
                        · exact Nat.le_trans (isW_len (zw s h)).2 (by decide)
                      have l1 : (wr xs).length ≤ 1000 := Nat.le_trans (wr_len xw xl) (by decide)
                      have l2 : (wr zs).length ≤ 1000 := Nat.le_trans (wr_len zw zl) (by decide)
                      cases hb : okNames (xs ++ zs) with
                      | true =>
                        refine ⟨_, rfl, _, rfl, _, rfl, _, rfl, catA_strs e1 f1 (by omega) fun p9 H8 s8 e8 => ?_⟩
                        refine ⟨_, rfl, _, rfl, .inl ⟨o1, xs, rfl, SqT.of (s8 _ _ e1), .base (.tup (s8 _ _ e1)), ok1, fun H9 s9 => ?_⟩⟩
                        refine ⟨_, rfl, _, rfl, .inl ⟨o2, zs, rfl, SqT.of (s9 _ _ (s8 _ _ f1)), .base (.tup (s9 _ _ (s8 _ _ f1))), ok2, fun H10 s10 => ?_⟩⟩
                        refine ⟨wr xs, wr zs, rfl, l1, l2, ?_, ?_⟩
                        · rw [two]
                          intro _ pq H11 _ s11 e11
                          have sA := (s8.trans s9).trans (s10.trans s11)
                          have e9 := (s9.trans (s10.trans s11)) _ _ e8
                          refine ⟨_, rfl, neTS (OkS.of (okNames_of hb).2.1) (OkS.of (okNames_of hb).2.1) (SqT.of e11) (SqT.of e9) ⟨_, rfl, ?_⟩⟩
                          rw [decide_eq_true rfl]
                          refine ⟨_, rfl, _, rfl, catA_strs (sA _ _ e1) (sA _ _ f1) (by omega) fun pz H12 s12 e12 => ?_⟩
                          refine ⟨pz, xs ++ zs, rfl, SqT.of e12, .base (.tup e12), lw, fun _ H13 s13 => ?_, fun no => ?_⟩
                          · exact ⟨rfl, _, rfl, rfl, _, rfl, goN _ (s7.trans (sA.trans (s12.trans s13))) _ _⟩
                          · rw [hb] at no
                            cases no
                        · rw [two, hb]
                          intro no
                          cases no
                      | false =>
                        refine ⟨_, rfl, _, rfl, ?_⟩
                        refine ⟨_, rfl, _, rfl, .inl ⟨o1, xs, rfl, SqT.of e1, .base (.tup e1), ok1, fun H9 s9 => ?_⟩⟩
                        refine ⟨_, rfl, _, rfl, .inl ⟨o2, zs, rfl, SqT.of (s9 _ _ f1), .base (.tup (s9 _ _ f1)), ok2, fun H10 s10 => ?_⟩⟩
                        refine ⟨wr xs, wr zs, rfl, l1, l2, ?_, ?_⟩
                        · rw [two, hb]
                          intro no
                          cases no
                        · rw [two]
                          intro _ H11 s11
                          have sA := s9.trans (s10.trans s11)
                          refine ⟨_, rfl, _, _, .non, .non, rfl, rfl, _, rfl, ?_⟩
                          refine ⟨_, rfl, _, rfl, catA_strs (sA _ _ e1) (sA _ _ f1) (by omega) fun pz H12 s12 e12 => ?_⟩
                          refine ⟨pz, xs ++ zs, rfl, SqT.of e12, .base (.tup e12), lw, fun no => ?_, fun _ H13 s13 => ?_⟩
                          · rw [hb] at no
                            cases no
                          · exact ⟨rfl, _, rfl, rfl, _, rfl, goN _ (s7.trans (sA.trans (s12.trans s13))) _ _⟩
            · obtain ⟨kN, mN, d10, d11, rfl⟩ := hp
              have hy0 : ys ≠ [] := fun z => by
                have e := pm.length_eq
                rw [z] at e
                have : ([] : List Str).length = 0 := rfl
                omega
              have ly : (wr ys).length ≤ 1000 := Nat.le_trans (wr_len yw (okNames_of yok).1) (by decide)
              refine ⟨_, rfl, _, rfl, .inl ⟨m, ys, rfl, SqT.of mN, .base (.tup mN), yok, fun HP sP => ?_⟩⟩
              refine ⟨dash, wr ys, rfl, by decide +kernel, ly, ?_, ?_⟩
              · rw [rd_dash1 hy0 yw, okNames_dash1]
                intro no
                cases no
              · intro _ HQ sQ
                have mQ := sQ _ _ (sP _ _ mN)
                refine ⟨rfl, _, rfl, ?_⟩
                refine ⟨_, rfl, _, rfl, .inl ⟨m, ys, rfl, SqT.of mQ, .base (.tup mQ), yok, fun HR sR => ?_⟩⟩
                refine ⟨wr ys, dash, rfl, ly, by decide +kernel, ?_, ?_⟩
                · rw [rd_dash2 hy0 yw, okNames_dash2]
                  intro no
                  cases no
                · intro _ HS sS
                  refine ⟨rfl, _, rfl, ?_⟩
                  exact ⟨back _ (kN.trans (Kt.same kN.tp (sP.trans (sQ.trans (sR.trans sS))))), _, _, _, _, _, _, _, _, _, _, _, rfl⟩
          · rw [rd_wr yw, yok] at no
            cases no
      · obtain ⟨s1, b1, b2, b3, b4, b5, b6, b7, b8, b9, b10, b11, rfl⟩ := hP
        have t1 : okNames (rd ((Str.ofString "a b") ++ " " ++ (Str.ofString "b c"))) = false := by decide +kernel
        have t2 : rd ((Str.ofString "a b") ++ " " ++ (Str.ofString "c d")) = ([Str.ofString "a", Str.ofString "b", Str.ofString "c", Str.ofString "d"] : List Str) := by decide +kernel
        have t3 : rd (Str.ofString "b a") = ([Str.ofString "b", Str.ofString "a"] : List Str) := by decide +kernel
        have t4 : wr ([Str.ofString "b", Str.ofString "a"] : List Str) = Str.ofString "b a" := by decide +kernel
        have t5 : okNames ([Str.ofString "a", Str.ofString "b", Str.ofString "c", Str.ofString "d"] : List Str) = true := by decide +kernel
        have t6 : okNames ([Str.ofString "b", Str.ofString "a"] : List Str) = true := by decide +kernel
        have o5 : OkS ([Str.ofString "a", Str.ofString "b", Str.ofString "c", Str.ofString "d"] : List Str) := .of (okNames_of t5).2.1
        have o6 : OkS ([Str.ofString "b", Str.ofString "a"] : List Str) := .of (okNames_of t6).2.1
        dsimp only
        refine ⟨Str.ofString "a b", Str.ofString "b c", rfl, by decide +kernel, by decide +kernel, fun no => ?_, fun _ HB sB => ?_⟩
        · rw [t1] at no
          cases no
        refine ⟨rfl, _, rfl, ?_⟩
        refine ⟨Str.ofString "a b", Str.ofString "c d", rfl, by decide +kernel, by decide +kernel, fun _ pq HC hp sC eC => ?_, fun no => ?_⟩
        · rw [t2] at eC
          refine ⟨by show 4 ≤ sizeLine; decide, fun u hu => neTS (ss := [Str.ofString "a", Str.ofString "b", Str.ofString "c", Str.ofString "d"]) (ts := [Str.ofString "a", Str.ofString "b", Str.ofString "c", Str.ofString "d"]) o5 o5 (SqT.of (gSame_new hu _ _ eC)) (SqT.of upd_same) ⟨_, rfl, ?_⟩⟩
          rw [decide_eq_true rfl]
          refine ⟨_, rfl, .inl ⟨Str.ofString "b a", rfl, by decide +kernel, fun _ p5 HD hp5 sD eD => ?_, fun no => ?_⟩⟩
          · rw [t3] at eD
            refine ⟨by show 2 ≤ sizeLine; decide, fun u2 hu2 => eqTS (ss := [Str.ofString "b", Str.ofString "a"]) (ts := [Str.ofString "b", Str.ofString "a"]) o6 o6 (SqT.of (gSame_new hu2 _ _ eD)) (SqT.of upd_same) ⟨_, rfl, ?_⟩⟩
            rw [decide_eq_true rfl]
            refine ⟨by show 2 ≤ sizeLine; decide, fun u3 hu3 => ⟨_, rfl, .inl ⟨u3, [Str.ofString "b", Str.ofString "a"], rfl, SqT.of upd_same, .base (.tup upd_same), t6, fun HE sE => ?_⟩⟩⟩
            rw [t4]
            refine ⟨rfl, ?_⟩
            rw [decide_eq_true rfl]
            exact q _
          · rw [t3, t6] at no
            cases no
        · rw [t2, t5] at no
          cases no
end
end Gk

set_option Elab.async false
set_option linter.all false
set_option maxRecDepth 100000
set_option maxHeartbeats 8000000
namespace Gk
open PySem PySem.Spec PyProof.Rows L2
theorem all_mk {P : Program} {w : World} {K : PySem.W.Frag} {h : Heap} {mg : Str → Option Value} {fa : Addr} (X : K.In h) (G : h.Ns mainGlobals mg) (hfa : mg "law" = some (.ref fa))
    {f_is_name f_is_names f_write_names f_read_names f_tape f_roll f_pick f_few f_word_drawn f_words_drawn f_joined f_written f_law C_ParseError fi_ParseError C_InvalidName C_ClockError : Addr}
    {oc_is_name kV_is_name dc_is_name pm_is_name cd_is_name ct_is_name : Value} {od_is_name an_is_name : Option Addr} {sl_is_name : Array (Option Value)}
    {oc_is_names kV_is_names dc_is_names pm_is_names cd_is_names ct_is_names : Value} {od_is_names an_is_names : Option Addr} {sl_is_names : Array (Option Value)}
    {oc_write_names kV_write_names dc_write_names pm_write_names cd_write_names ct_write_names : Value} {od_write_names an_write_names : Option Addr} {sl_write_names : Array (Option Value)}
    {oc_read_names kV_read_names dc_read_names pm_read_names cd_read_names ct_read_names : Value} {od_read_names an_read_names : Option Addr} {sl_read_names : Array (Option Value)}
    {oc_tape kV_tape dc_tape pm_tape cd_tape ct_tape : Value} {od_tape an_tape : Option Addr} {sl_tape : Array (Option Value)}
    {oc_roll kV_roll dc_roll pm_roll cd_roll ct_roll : Value} {od_roll an_roll : Option Addr} {sl_roll : Array (Option Value)}
    {oc_pick kV_pick dc_pick pm_pick cd_pick ct_pick : Value} {od_pick an_pick : Option Addr} {sl_pick : Array (Option Value)}
    {oc_few kV_few dc_few pm_few cd_few ct_few : Value} {od_few an_few : Option Addr} {sl_few : Array (Option Value)}
    {oc_word_drawn kV_word_drawn dc_word_drawn pm_word_drawn cd_word_drawn ct_word_drawn : Value} {od_word_drawn an_word_drawn : Option Addr} {sl_word_drawn : Array (Option Value)}
    {oc_words_drawn kV_words_drawn dc_words_drawn pm_words_drawn cd_words_drawn ct_words_drawn : Value} {od_words_drawn an_words_drawn : Option Addr} {sl_words_drawn : Array (Option Value)}
    {oc_joined kV_joined dc_joined pm_joined cd_joined ct_joined : Value} {od_joined an_joined : Option Addr} {sl_joined : Array (Option Value)}
    {oc_written kV_written dc_written pm_written cd_written ct_written : Value} {od_written an_written : Option Addr} {sl_written : Array (Option Value)}
    {oc_law kV_law dc_law pm_law cd_law ct_law : Value} {od_law an_law : Option Addr} {sl_law : Array (Option Value)}
    {t_MAX_LETTERS : Tok}
    {t_MAX_NAMES : Tok}
    {nm_ParseError q0_ParseError : Str} {N_ParseError : Addr} {bs_ParseError bm_ParseError : List Value} {sn_ParseError : List Str} {sub_ParseError : List Value} {ab_ParseError : Bool} {col_ParseError : Option Bool} {dd_ParseError : Option Addr} {m0_ParseError m1_ParseError m2_ParseError m3_ParseError m5_ParseError : Option Value}
    {oc_iParseError kV_iParseError dc_iParseError pm_iParseError cd_iParseError ct_iParseError : Value} {od_iParseError an_iParseError : Option Addr} {sl_iParseError : Array (Option Value)}
    (a_is_name : PySem.W.nsIn K mainGlobals "is_name" = some (some (.ref f_is_name)))
    (a_is_names : PySem.W.nsIn K mainGlobals "is_names" = some (some (.ref f_is_names)))
    (a_write_names : PySem.W.nsIn K mainGlobals "write_names" = some (some (.ref f_write_names)))
    (a_read_names : PySem.W.nsIn K mainGlobals "read_names" = some (some (.ref f_read_names)))
    (a_tape : PySem.W.nsIn K mainGlobals "_law_tape" = some (some (.ref f_tape)))
    (a_roll : PySem.W.nsIn K mainGlobals "_law_roll" = some (some (.ref f_roll)))
    (a_pick : PySem.W.nsIn K mainGlobals "_law_pick" = some (some (.ref f_pick)))
    (a_few : PySem.W.nsIn K mainGlobals "_law_few" = some (some (.ref f_few)))
    (a_word_drawn : PySem.W.nsIn K mainGlobals "_law_word_drawn" = some (some (.ref f_word_drawn)))
    (a_words_drawn : PySem.W.nsIn K mainGlobals "_law_words_drawn" = some (some (.ref f_words_drawn)))
    (a_joined : PySem.W.nsIn K mainGlobals "_law_joined" = some (some (.ref f_joined)))
    (a_written : PySem.W.nsIn K mainGlobals "_law_written" = some (some (.ref f_written)))
    (a_law : PySem.W.nsIn K mainGlobals "law" = some (some (.ref f_law)))
    (aC_ParseError : PySem.W.nsIn K mainGlobals "ParseError" = some (some (.ref C_ParseError)))
    (ai_ParseError : PySem.W.findIn K (.ref C_ParseError) "__init__" = some (some (.ref fi_ParseError)))
    (aC_InvalidName : PySem.W.nsIn K mainGlobals "InvalidName" = some (some (.ref C_InvalidName)))
    (aC_ClockError : PySem.W.nsIn K mainGlobals "ClockError" = some (some (.ref C_ClockError)))
    (l_is_name : K.lookup f_is_name = some ⟨oc_is_name, od_is_name, .func (PySem.W.fnOf "is_name" "is_name" (defArgs s_is_name) (defBody s_is_name) (defScope s_is_name) .none kV_is_name dc_is_name pm_is_name an_is_name cd_is_name ct_is_name), sl_is_name⟩)
    (c_is_name : PySem.W.codeIn K cd_is_name "is_name" = true)
    (k_is_name : PySem.W.keepIn K (.ref f_is_name) = true)
    (l_is_names : K.lookup f_is_names = some ⟨oc_is_names, od_is_names, .func (PySem.W.fnOf "is_names" "is_names" (defArgs s_is_names) (defBody s_is_names) (defScope s_is_names) .none kV_is_names dc_is_names pm_is_names an_is_names cd_is_names ct_is_names), sl_is_names⟩)
    (c_is_names : PySem.W.codeIn K cd_is_names "is_names" = true)
    (k_is_names : PySem.W.keepIn K (.ref f_is_names) = true)
    (l_write_names : K.lookup f_write_names = some ⟨oc_write_names, od_write_names, .func (PySem.W.fnOf "write_names" "write_names" (defArgs s_write_names) (defBody s_write_names) (defScope s_write_names) .none kV_write_names dc_write_names pm_write_names an_write_names cd_write_names ct_write_names), sl_write_names⟩)
    (c_write_names : PySem.W.codeIn K cd_write_names "write_names" = true)
    (k_write_names : PySem.W.keepIn K (.ref f_write_names) = true)
    (l_read_names : K.lookup f_read_names = some ⟨oc_read_names, od_read_names, .func (PySem.W.fnOf "read_names" "read_names" (defArgs s_read_names) (defBody s_read_names) (defScope s_read_names) .none kV_read_names dc_read_names pm_read_names an_read_names cd_read_names ct_read_names), sl_read_names⟩)
    (c_read_names : PySem.W.codeIn K cd_read_names "read_names" = true)
    (k_read_names : PySem.W.keepIn K (.ref f_read_names) = true)
    (l_tape : K.lookup f_tape = some ⟨oc_tape, od_tape, .func (PySem.W.fnOf "_law_tape" "_law_tape" (defArgs s_tape) (defBody s_tape) (defScope s_tape) .none kV_tape dc_tape pm_tape an_tape cd_tape ct_tape), sl_tape⟩)
    (c_tape : PySem.W.codeIn K cd_tape "_law_tape" = true)
    (k_tape : PySem.W.keepIn K (.ref f_tape) = true)
    (l_roll : K.lookup f_roll = some ⟨oc_roll, od_roll, .func (PySem.W.fnOf "_law_roll" "_law_roll" (defArgs s_roll) (defBody s_roll) (defScope s_roll) .none kV_roll dc_roll pm_roll an_roll cd_roll ct_roll), sl_roll⟩)
    (c_roll : PySem.W.codeIn K cd_roll "_law_roll" = true)
    (k_roll : PySem.W.keepIn K (.ref f_roll) = true)
    (l_pick : K.lookup f_pick = some ⟨oc_pick, od_pick, .func (PySem.W.fnOf "_law_pick" "_law_pick" (defArgs s_pick) (defBody s_pick) (defScope s_pick) .none kV_pick dc_pick pm_pick an_pick cd_pick ct_pick), sl_pick⟩)
    (c_pick : PySem.W.codeIn K cd_pick "_law_pick" = true)
    (k_pick : PySem.W.keepIn K (.ref f_pick) = true)
    (l_few : K.lookup f_few = some ⟨oc_few, od_few, .func (PySem.W.fnOf "_law_few" "_law_few" (defArgs s_few) (defBody s_few) (defScope s_few) .none kV_few dc_few pm_few an_few cd_few ct_few), sl_few⟩)
    (c_few : PySem.W.codeIn K cd_few "_law_few" = true)
    (k_few : PySem.W.keepIn K (.ref f_few) = true)
    (l_word_drawn : K.lookup f_word_drawn = some ⟨oc_word_drawn, od_word_drawn, .func (PySem.W.fnOf "_law_word_drawn" "_law_word_drawn" (defArgs s_word_drawn) (defBody s_word_drawn) (defScope s_word_drawn) .none kV_word_drawn dc_word_drawn pm_word_drawn an_word_drawn cd_word_drawn ct_word_drawn), sl_word_drawn⟩)
    (c_word_drawn : PySem.W.codeIn K cd_word_drawn "_law_word_drawn" = true)
    (k_word_drawn : PySem.W.keepIn K (.ref f_word_drawn) = true)
    (l_words_drawn : K.lookup f_words_drawn = some ⟨oc_words_drawn, od_words_drawn, .func (PySem.W.fnOf "_law_words_drawn" "_law_words_drawn" (defArgs s_words_drawn) (defBody s_words_drawn) (defScope s_words_drawn) .none kV_words_drawn dc_words_drawn pm_words_drawn an_words_drawn cd_words_drawn ct_words_drawn), sl_words_drawn⟩)
    (c_words_drawn : PySem.W.codeIn K cd_words_drawn "_law_words_drawn" = true)
    (k_words_drawn : PySem.W.keepIn K (.ref f_words_drawn) = true)
    (l_joined : K.lookup f_joined = some ⟨oc_joined, od_joined, .func (PySem.W.fnOf "_law_joined" "_law_joined" (defArgs s_joined) (defBody s_joined) (defScope s_joined) .none kV_joined dc_joined pm_joined an_joined cd_joined ct_joined), sl_joined⟩)
    (c_joined : PySem.W.codeIn K cd_joined "_law_joined" = true)
    (k_joined : PySem.W.keepIn K (.ref f_joined) = true)
    (l_written : K.lookup f_written = some ⟨oc_written, od_written, .func (PySem.W.fnOf "_law_written" "_law_written" (defArgs s_written) (defBody s_written) (defScope s_written) .none kV_written dc_written pm_written an_written cd_written ct_written), sl_written⟩)
    (c_written : PySem.W.codeIn K cd_written "_law_written" = true)
    (k_written : PySem.W.keepIn K (.ref f_written) = true)
    (l_law : K.lookup f_law = some ⟨oc_law, od_law, .func (PySem.W.fnOf "law" "law" (defArgs s_law) (defBody s_law) (defScope s_law) .none kV_law dc_law pm_law an_law cd_law ct_law), sl_law⟩)
    (c_law : PySem.W.codeIn K cd_law "law" = true)
    (k_law : PySem.W.keepIn K (.ref f_law) = true)
    (n_MAX_LETTERS : PySem.W.nsIn K mainGlobals "MAX_LETTERS" = some (some (.int 8 t_MAX_LETTERS)))
    (n_MAX_NAMES : PySem.W.nsIn K mainGlobals "MAX_NAMES" = some (some (.int 16 t_MAX_NAMES)))
    (xL_ParseError : K.lookup C_ParseError = some (excClassObj nm_ParseError q0_ParseError C_ParseError N_ParseError bs_ParseError bm_ParseError true sn_ParseError sub_ParseError ab_ParseError col_ParseError dd_ParseError m0_ParseError m1_ParseError m2_ParseError m3_ParseError m5_ParseError "ValueError.__new__"))
    (bm_h_ParseError : PySem.HandSPX.refsVE bm_ParseError = true)
    (sa_ParseError : PySem.W.findIn K (.ref C_ParseError) "__setattr__" = some (some (.builtin "object.__setattr__")))
    (nb_ParseError : PySem.W.findIn K (.ref C_ParseError) "line" = some none)
    (ti_ParseError : PySem.W.typeIn K (.ref fi_ParseError) = some (.type "function"))
    (li_ParseError : K.lookup fi_ParseError = some ⟨oc_iParseError, od_iParseError, .func (PySem.W.fnOf "__init__" "ParseError.__init__" (defArgs s_ParseError___init) (defBody s_ParseError___init) (defScope s_ParseError___init) .none kV_iParseError dc_iParseError pm_iParseError an_iParseError cd_iParseError ct_iParseError), sl_iParseError⟩)
    (ci_ParseError : PySem.W.codeIn K cd_iParseError "ParseError.__init__" = true)
    (ki_ParseError : PySem.W.keepIn K (.ref fi_ParseError) = true)
    (kC_ParseError : PySem.W.keepIn K (.ref C_ParseError) = true)
    (eC_ParseError : PySem.W.subIn K (.ref C_ParseError) (.type "BaseException") = some true)
    (tC_ParseError : PySem.W.typeIn K (.ref C_ParseError) = some (.type "type"))
    (iC_ParseError : PySem.W.isClsIn K C_ParseError = true)
    (sC_ParseError : PySem.W.subIn K (.ref C_ParseError) (.ref C_ParseError) = some true)
    (kC_InvalidName : PySem.W.keepIn K (.ref C_InvalidName) = true)
    (eC_InvalidName : PySem.W.subIn K (.ref C_InvalidName) (.type "BaseException") = some true)
    (tC_InvalidName : PySem.W.typeIn K (.ref C_InvalidName) = some (.type "type"))
    (iC_InvalidName : PySem.W.isClsIn K C_InvalidName = true)
    (sC_InvalidName : PySem.W.subIn K (.ref C_InvalidName) (.ref C_InvalidName) = some true)
    (xC_InvalidName : PySem.W.excIn K C_InvalidName [.type "ValueError", .type "Exception", .type "BaseException", .type "object"] "ValueError.__new__" = true)
    (ga_ClockError : PySem.W.specialIn K (.ref C_ClockError) "__getattribute__" = some (some (.builtin "type.__getattribute__")))
    (rd_ClockError : PySem.W.readsIn K C_ClockError (.type "type") = true)
    (fi_c_ClockError : PySem.W.findCls K (.ref C_ClockError) (.type "type") "__init__" = some (.val (.builtin "ValueError.__init__")))
    (z1 : PySem.W.nsIn K mainGlobals "len" = some none)
    (z2 : PySem.W.nsIn K mainGlobals "int" = some none)
    (z3 : PySem.W.nsIn K mainGlobals "abs" = some none)
    (z4 : PySem.W.nsIn K mainGlobals "max" = some none)
    (z5 : PySem.W.nsIn K mainGlobals "min" = some none)
    (z6 : PySem.W.nsIn K mainGlobals "range" = some none)
    (z7 : PySem.W.nsIn K mainGlobals "all" = some none)
    (z8 : PySem.W.nsIn K mainGlobals "isinstance" = some none)
    (z9 : PySem.W.nsIn K mainGlobals "str" = some none)
    (z10 : PySem.W.nsIn K mainGlobals "tuple" = some none)
    (z11 : PySem.W.nsIn K mainGlobals "list" = some none)
    (z12 : PySem.W.nsIn K mainGlobals "set" = some none)
    (z13 : PySem.W.nsIn K mainGlobals "sorted" = some none)
    (z14 : PySem.W.nsIn K mainGlobals "repr" = some none)
    (z15 : PySem.W.nsIn K mainGlobals "bool" = some none)
    (z16 : PySem.W.nsIn K mainGlobals "dict" = some none)
    : ∃ fd : FuncData, (∀ (s : Shared) (u : Value), BindsTo s fd ⟨[u], []⟩ [("script", u)]) ∧ ∀ base : Heap, K.In base → base.Ns mainGlobals mg → FnOk P w K mg base CX0 5 fa fd ["script"] (spLaw K) := by
  have e := hfa.symm.trans (PySem.W.mg_of X G a_law)
  cases e
  have D_is_name := df_mk X G (st := s_is_name) (ps := ["value"]) a_is_name l_is_name c_is_name k_is_name fun _ _ _ _ _ _ us hl => match us, hl with | [_], _ => rfl
  have D_is_names := df_mk X G (st := s_is_names) (ps := ["value"]) a_is_names l_is_names c_is_names k_is_names fun _ _ _ _ _ _ us hl => match us, hl with | [_], _ => rfl
  have D_write_names := df_mk X G (st := s_write_names) (ps := ["names"]) a_write_names l_write_names c_write_names k_write_names fun _ _ _ _ _ _ us hl => match us, hl with | [_], _ => rfl
  have D_read_names := df_mk X G (st := s_read_names) (ps := ["text"]) a_read_names l_read_names c_read_names k_read_names fun _ _ _ _ _ _ us hl => match us, hl with | [_], _ => rfl
  have D_tape := df_mk X G (st := s_tape) (ps := ["script", "spot"]) a_tape l_tape c_tape k_tape fun _ _ _ _ _ _ us hl => match us, hl with | [_, _], _ => rfl
  have D_roll := df_mk X G (st := s_roll) (ps := ["tape", "total"]) a_roll l_roll c_roll k_roll fun _ _ _ _ _ _ us hl => match us, hl with | [_, _], _ => rfl
  have D_pick := df_mk X G (st := s_pick) (ps := ["tape", "items"]) a_pick l_pick c_pick k_pick fun _ _ _ _ _ _ us hl => match us, hl with | [_, _], _ => rfl
  have D_few := df_mk X G (st := s_few) (ps := ["tape", "items", "many"]) a_few l_few c_few k_few fun _ _ _ _ _ _ us hl => match us, hl with | [_, _, _], _ => rfl
  have D_word_drawn := df_mk X G (st := s_word_drawn) (ps := ["tape"]) a_word_drawn l_word_drawn c_word_drawn k_word_drawn fun _ _ _ _ _ _ us hl => match us, hl with | [_], _ => rfl
  have D_words_drawn := df_mk X G (st := s_words_drawn) (ps := ["tape", "lots"]) a_words_drawn l_words_drawn c_words_drawn k_words_drawn fun _ _ _ _ _ _ us hl => match us, hl with | [_, _], _ => rfl
  have D_joined := df_mk X G (st := s_joined) (ps := ["one", "other"]) a_joined l_joined c_joined k_joined fun _ _ _ _ _ _ us hl => match us, hl with | [_, _], _ => rfl
  have D_written := df_mk X G (st := s_written) (ps := ["names"]) a_written l_written c_written k_written fun _ _ _ _ _ _ us hl => match us, hl with | [_], _ => rfl
  have D_law := df_mk X G (st := s_law) (ps := ["script"]) a_law l_law c_law k_law fun _ _ _ _ _ _ us hl => match us, hl with | [_], _ => rfl
  have C_MAX_LETTERS := PySem.W.mg_of X G n_MAX_LETTERS
  have C_MAX_NAMES := PySem.W.mg_of X G n_MAX_NAMES
  have T_ParseError := iniT_mk X G (st := s_ParseError___init) (fld := "line") (by decide +kernel) aC_ParseError xL_ParseError bm_h_ParseError sa_ParseError nb_ParseError ai_ParseError ti_ParseError li_ParseError ci_ParseError ki_ParseError kC_ParseError eC_ParseError tC_ParseError iC_ParseError sC_ParseError fun _ _ _ _ _ _ us hl => match us, hl with | [_, _], _ => rfl
  have T_InvalidName := ownT_mk X G aC_InvalidName xC_InvalidName kC_InvalidName eC_InvalidName tC_InvalidName iC_InvalidName sC_InvalidName
  have I_ClockError := cin_mk X G aC_ClockError ga_ClockError rd_ClockError fi_c_ClockError
  have B := blt_mk X G z1 z2 z3 z4 z5 z6 z7 z8 z9 z10 z11 z12 z13 z14 z15 z16
  refine ⟨PySem.W.fnOf "law" "law" (defArgs s_law) (defBody s_law) (defScope s_law) .none kV_law dc_law pm_law an_law cd_law ct_law, fun s v => .of_eq rfl, fun base _ _ => ?_⟩
  · have G_tape := ok_tape (P := P) (w := w) (base := base) B D_tape
    have G_roll := ok_roll (P := P) (w := w) (base := base) B D_roll
    have G_pick := ok_pick (P := P) (w := w) (base := base) B D_roll D_pick
    have G_few := ok_few (P := P) (w := w) (base := base) B D_roll D_few
    have G_word := ok_word (P := P) (w := w) (base := base) B D_pick G_pick D_word_drawn
    have G_words := ok_words (P := P) (w := w) (base := base) B D_word_drawn G_word D_words_drawn
    have G_is_name := ok_is_name (P := P) (w := w) (base := base) B C_MAX_LETTERS D_is_name
    have G_is_names := ok_is_names (P := P) (w := w) (base := base) B C_MAX_NAMES D_is_name G_is_name D_is_names
    have G_Parse := ok_ParseError (P := P) (w := w) (base := base) T_ParseError I_ClockError
    have G_write := ok_write (P := P) (w := w) (base := base) B T_InvalidName D_is_names G_is_names D_write_names
    have G_read := ok_read (P := P) (w := w) (base := base) B T_ParseError G_Parse D_is_names G_is_names D_read_names
    have G_joined := ok_joined (P := P) (w := w) (base := base) B T_ParseError D_read_names G_read D_joined
    have G_written := ok_written (P := P) (w := w) (base := base) B T_InvalidName D_write_names G_write D_written
    exact ok_law B D_tape G_tape D_roll G_roll D_few G_few D_words_drawn G_words D_joined G_joined D_written G_written D_is_names G_is_names D_write_names G_write D_read_names G_read D_law
end Gk
open PySem PySem.W PyProof.Rows
set_option maxRecDepth 100000 in
set_option maxHeartbeats 8000000 in
theorem PySem.Challenge.cw_groupclocks_k04_names_in_every_order_holds : PySem.Challenge.rw_groupclocks_k04_names_in_every_order.Holds := by
  w_on; o_law; k_head; (case hw => w_witness2)
  k_fill
  refine L2.walk_of (l := PySem.Challenge.rw_groupclocks_k04_names_in_every_order) (n := 63) (k := 5) (x := "script") (CX := fun _ => L2.CX0) (sp := fun w => Gk.spLaw _) rfl (by decide) rfl ⟨rfl, by decide, by decide⟩ (fun w h Y => PySem.W.kIn_of Y) ?F (fun _ _ a ns hl _ hS => ⟨a, ns, rfl, hS, hl, fun _ => rfl⟩) (fun _ _ _ _ _ h => h)
  case F =>
    intro w mg fa h KX G hmg
    refine' Gk.all_mk KX G hmg ?a_is_name ?a_is_names ?a_write_names ?a_read_names ?a_tape ?a_roll ?a_pick ?a_few ?a_word_drawn ?a_words_drawn ?a_joined ?a_written ?a_law ?aC_ParseError ?ai_ParseError ?aC_InvalidName ?aC_ClockError ?l_is_name ?c_is_name ?k_is_name ?l_is_names ?c_is_names ?k_is_names ?l_write_names ?c_write_names ?k_write_names ?l_read_names ?c_read_names ?k_read_names ?l_tape ?c_tape ?k_tape ?l_roll ?c_roll ?k_roll ?l_pick ?c_pick ?k_pick ?l_few ?c_few ?k_few ?l_word_drawn ?c_word_drawn ?k_word_drawn ?l_words_drawn ?c_words_drawn ?k_words_drawn ?l_joined ?c_joined ?k_joined ?l_written ?c_written ?k_written ?l_law ?c_law ?k_law ?n_MAX_LETTERS ?n_MAX_NAMES ?xL_ParseError ?bm_h_ParseError ?sa_ParseError ?nb_ParseError ?ti_ParseError ?li_ParseError ?ci_ParseError ?ki_ParseError ?kC_ParseError ?eC_ParseError ?tC_ParseError ?iC_ParseError ?sC_ParseError ?kC_InvalidName ?eC_InvalidName ?tC_InvalidName ?iC_InvalidName ?sC_InvalidName ?xC_InvalidName ?ga_ClockError ?rd_ClockError ?fi_c_ClockError ?z1 ?z2 ?z3 ?z4 ?z5 ?z6 ?z7 ?z8 ?z9 ?z10 ?z11 ?z12 ?z13 ?z14 ?z15 ?z16
    (case a_is_name => k_is)
    (case a_is_names => k_is)
    (case a_write_names => k_is)
    (case a_read_names => k_is)
    (case a_tape => k_is)
    (case a_roll => k_is)
    (case a_pick => k_is)
    (case a_few => k_is)
    (case a_word_drawn => k_is)
    (case a_words_drawn => k_is)
    (case a_joined => k_is)
    (case a_written => k_is)
    (case a_law => k_is)
    (case aC_ParseError => k_is)
    (case ai_ParseError => k_is)
    (case aC_InvalidName => k_is)
    (case aC_ClockError => k_is)
    (case l_is_name => k_is)
    (case c_is_name => k_is)
    (case k_is_name => k_is)
    (case l_is_names => k_is)
    (case c_is_names => k_is)
    (case k_is_names => k_is)
    (case l_write_names => k_is)
    (case c_write_names => k_is)
    (case k_write_names => k_is)
    (case l_read_names => k_is)
    (case c_read_names => k_is)
    (case k_read_names => k_is)
    (case l_tape => k_is)
    (case c_tape => k_is)
    (case k_tape => k_is)
    (case l_roll => k_is)
    (case c_roll => k_is)
    (case k_roll => k_is)
    (case l_pick => k_is)
    (case c_pick => k_is)
    (case k_pick => k_is)
    (case l_few => k_is)
    (case c_few => k_is)
    (case k_few => k_is)
    (case l_word_drawn => k_is)
    (case c_word_drawn => k_is)
    (case k_word_drawn => k_is)
    (case l_words_drawn => k_is)
    (case c_words_drawn => k_is)
    (case k_words_drawn => k_is)
    (case l_joined => k_is)
    (case c_joined => k_is)
    (case k_joined => k_is)
    (case l_written => k_is)
    (case c_written => k_is)
    (case k_written => k_is)
    (case l_law => k_is)
    (case c_law => k_is)
    (case k_law => k_is)
    (case n_MAX_LETTERS => k_is)
    (case n_MAX_NAMES => k_is)
    (case xL_ParseError => k_is)
    (case bm_h_ParseError => decide +kernel)
    (case sa_ParseError => k_is)
    (case nb_ParseError => k_is)
    (case ti_ParseError => k_is)
    (case li_ParseError => k_is)
    (case ci_ParseError => k_is)
    (case ki_ParseError => k_is)
    (case kC_ParseError => k_is)
    (case eC_ParseError => k_is)
    (case tC_ParseError => k_is)
    (case iC_ParseError => k_is)
    (case sC_ParseError => first | rfl | k_is)
    (case kC_InvalidName => k_is)
    (case eC_InvalidName => k_is)
    (case tC_InvalidName => k_is)
    (case iC_InvalidName => k_is)
    (case sC_InvalidName => first | rfl | k_is)
    (case xC_InvalidName => k_exc)
    (case ga_ClockError => k_is)
    (case rd_ClockError => k_is)
    (case fi_c_ClockError => k_is)
    (case z1 => k_is)
    (case z2 => k_is)
    (case z3 => k_is)
    (case z4 => k_is)
    (case z5 => k_is)
    (case z6 => k_is)
    (case z7 => k_is)
    (case z8 => k_is)
    (case z9 => k_is)
    (case z10 => k_is)
    (case z11 => k_is)
    (case z12 => k_is)
    (case z13 => k_is)
    (case z14 => k_is)
    (case z15 => k_is)
    (case z16 => k_is)

