/- Layer 9: what the package and the reference tell, as plain lists. -/
import Derived.Test.YtdllgmhipenidaaVec7
import Derived.Test.YtdllgmhipenidaaRef09b
namespace Go.Proofs.Ytdllgmhipenidaa
set_option maxRecDepth 100000
open Go.RowKit
set_option linter.unusedVariables false
set_option linter.unusedSimpArgs false

/-- The row of a function's numbers. -/
def mkL (N : Nat) (f : Nat → Nat) : List Nat := cut ((List.range N).map f)
theorem vat_range (N : Nat) (f : Nat → Nat) (i : Nat) : vat ((List.range N).map f) i = if i < N then f i else 0 := by
  by_cases h : i < N
  · rw [if_pos h, vat_lt (by simpa using h)]; simp
  · rw [if_neg h, vat_ge (by simp; omega)]
theorem vat_mkL {N : Nat} {f : Nat → Nat} (h : ∀ i, N ≤ i → f i = 0) (i : Nat) : vat (mkL N f) i = f i := by
  unfold mkL
  rw [vat_cut, vat_range]
  split
  · rfl
  · exact (h i (by omega)).symm
theorem mkL_cut (N : Nat) (f : Nat → Nat) : isCut (mkL N f) := cut_isCut _
theorem mkL_length (N : Nat) (f : Nat → Nat) : (mkL N f).length ≤ N := by
  unfold mkL
  have := cut_le ((List.range N).map f)
  simpa using this
def minL (l : List RowN) : List Nat := mkL (lenMax l) (minAt (rowsOf l))
def maxL (l : List RowN) : List Nat := mkL (lenMax l) (maxAt (rowsOf l))
def lessL (xs ys : List Nat) : List Nat := if leB ys xs then mkL xs.length (fun i => vat xs i - vat ys i) else []
def lessE (xs ys : List Nat) : Int := if leB ys xs then 0 else 15
theorem vat_minL (l : List RowN) (i : Nat) : vat (minL l) i = minAt (rowsOf l) i := vat_mkL (fun i h => minAt_far h) i
theorem vat_maxL (l : List RowN) (i : Nat) : vat (maxL l) i = maxAt (rowsOf l) i := vat_mkL (fun i h => maxAt_far h) i
theorem vat_lessL {xs ys : List Nat} (h : leB ys xs = true) (i : Nat) : vat (lessL xs ys) i = vat xs i - vat ys i := by
  unfold lessL
  rw [if_pos h, vat_mkL (fun i h => by rw [vat_ge h]; omega)]
theorem minL_length {l : List RowN} (k : Nat) (h : ∀ r ∈ l, r.xs.length ≤ k) : (minL l).length ≤ k := Nat.le_trans (mkL_length _ _) (lenMax_take_le _ h)
theorem maxL_length {l : List RowN} (k : Nat) (h : ∀ r ∈ l, r.xs.length ≤ k) : (maxL l).length ≤ k := Nat.le_trans (mkL_length _ _) (lenMax_take_le _ h)
theorem lessL_length (xs ys : List Nat) : (lessL xs ys).length ≤ xs.length := by
  unfold lessL
  split
  · exact mkL_length _ _
  · simp
/-- A row told. -/
def ToldV (w : World) (zs : List Nat) (e : Ending) (w' : World) : Prop := ∃ A c n, e = .returned (.slice A n c) ∧ zs.length = n ∧ Sl w' A c (nums zs) ∧ Mods Nil w w'
def ToldE (w : World) (zs : List Nat) (err : Int) (e : Ending) (w' : World) : Prop := ∃ A c n, e = .returned (.tuple #[.slice A n c, .int .i64 err]) ∧ zs.length = n ∧ Sl w' A c (nums zs) ∧ Mods Nil w w'
theorem CutRow.told {w w' : World} {f : Nat → Nat} {v : Value} (h : CutRow w w' f v) {zs : List Nat} (hc : isCut zs) (hv : ∀ i, vat zs i = f i) : ∃ A c n, v = .slice A n c ∧ zs.length = n ∧ Sl w' A c (nums zs) := by
  obtain ⟨A, c, ys, n, h1, h2, h3, h4, h5, _⟩ := h.sl
  obtain rfl : ys = zs := cut_ext h4 hc (fun i => by rw [h5, hv])
  exact ⟨A, c, n, h1, h2, h3⟩
section
variable {w : World} {A B : Option Addr} {c d n m : Nat} {xs ys : List Nat} {l : List RowN}
theorem tmin (hn : l.length = n) (hl : n ≤ 1000000) (hs : Sl w A c (l.map RowN.val)) (hr : ∀ r ∈ l, r.ok w) : Calls Try.prog 55 #[.slice A n c] w (ToldV w (minL l)) :=
  (min_any w hn hl hs hr).mono fun e w' ⟨v, h1, h2, h3⟩ => by
    obtain ⟨A', c', n', e1, e2, e3⟩ := h2.told (mkL_cut _ _) (vat_minL l)
    exact ⟨A', c', n', by rw [h1, e1], e2, e3, h3⟩
theorem tmax (hn : l.length = n) (hl : n ≤ 1000000) (hs : Sl w A c (l.map RowN.val)) (hr : ∀ r ∈ l, r.ok w) : Calls Try.prog 57 #[.slice A n c] w (ToldV w (maxL l)) :=
  (max_any w hn hl hs hr).mono fun e w' ⟨v, h1, h2, h3⟩ => by
    obtain ⟨A', c', n', e1, e2, e3⟩ := h2.told (mkL_cut _ _) (vat_maxL l)
    exact ⟨A', c', n', by rw [h1, e1], e2, e3, h3⟩
theorem trmin (hn : l.length = n) (hl : n ≤ 1000000) (hs : Sl w A c (l.map RowN.val)) (hr : ∀ r ∈ l, r.ok w) : Calls Try.prog 56 #[.slice A n c, .bool false] w (ToldV w (minL l)) :=
  (r9min_any w hn hl hs hr).mono fun e w' ⟨v, h1, h2, h3⟩ => by
    obtain ⟨A', c', n', e1, e2, e3⟩ := h2.told (mkL_cut _ _) (vat_minL l)
    exact ⟨A', c', n', by rw [h1, e1], e2, e3, h3⟩
theorem trmax (hn : l.length = n) (hl : n ≤ 1000000) (hs : Sl w A c (l.map RowN.val)) (hr : ∀ r ∈ l, r.ok w) : Calls Try.prog 56 #[.slice A n c, .bool true] w (ToldV w (maxL l)) :=
  (r9max_any w hn hl hs hr).mono fun e w' ⟨v, h1, h2, h3⟩ => by
    obtain ⟨A', c', n', e1, e2, e3⟩ := h2.told (mkL_cut _ _) (vat_maxL l)
    exact ⟨A', c', n', by rw [h1, e1], e2, e3, h3⟩
theorem tcut (hn : xs.length = n) (hl : n ≤ 1000000) (hs : Sl w A c (nums xs)) : Calls Try.prog 53 #[.slice A n c] w (ToldV w (cut xs)) :=
  (vcut_any w hn hl hs).mono fun e w' ⟨v, h1, h2, h3⟩ => by
    obtain ⟨A', c', hv, h4, h5, h6⟩ := own_slice h2
    exact ⟨A', c', _, by rw [h1, hv], rfl, h5, h3⟩
theorem trcut (hn : xs.length = n) (hl : n ≤ 1000000) (hs : Sl w A c (nums xs)) : Calls Try.prog 54 #[.slice A n c] w (ToldV w (cut xs)) :=
  (r9cut_any w hn hl hs).mono fun e w' ⟨v, h1, h2, h3⟩ => by
    obtain ⟨A', c', hv, h4, h5, h6⟩ := own_slice h2
    exact ⟨A', c', _, by rw [h1, hv], rfl, h5, h3⟩
theorem RLess.told {e : Ending} {w' : World} (h : RLess w xs ys e w') : ToldE w (lessL xs ys) (lessE xs ys) e w' := by
  obtain ⟨h1, h2, h3⟩ := h
  cases hb : leB ys xs with
  | false =>
    unfold lessL lessE
    rw [hb]
    exact ⟨none, 0, 0, h1 hb, rfl, Sl.none_ _, h3⟩
  | true =>
    obtain ⟨v, hv, hc⟩ := h2 hb
    have e9 : lessE xs ys = 0 := by unfold lessE; rw [hb]; rfl
    rw [e9]
    obtain ⟨A', c', n', e1, e2, e3⟩ := hc.told (zs := lessL xs ys) (by unfold lessL; rw [if_pos hb]; exact mkL_cut _ _) (vat_lessL hb)
    exact ⟨A', c', n', by rw [hv, e1], e2, e3, h3⟩
theorem tless (hn : xs.length = n) (hl : n ≤ 1000000) (hbd : Bd xs) (hs : Sl w A c (nums xs)) (hm : ys.length = m) (hl2 : m ≤ 1000000) (hy : Sl w B d (nums ys)) : Calls Try.prog 45 #[.slice A n c, .slice B m d] w (ToldE w (lessL xs ys) (lessE xs ys)) :=
  (less_any w hn hl hbd hs hm hl2 hy).mono fun e w' h => h.told
theorem trless (hn : xs.length = n) (hl : n ≤ 1000000) (hbd : Bd xs) (hs : Sl w A c (nums xs)) (hm : ys.length = m) (hl2 : m ≤ 1000000) (hy : Sl w B d (nums ys)) : Calls Try.prog 46 #[.slice A n c, .slice B m d] w (ToldE w (lessL xs ys) (lessE xs ys)) :=
  (r9less_any w hn hl hbd hs hm hl2 hy).mono fun e w' h => h.told
end
/-- Two rows handed to a call of any number of rows. -/
theorem two_rows {w : World} {C A B : Option Addr} {n c m d : Nat} {xs ys : List Nat} (hn : xs.length = n) (hm : ys.length = m) (hs : Sl w C 2 [.slice A n c, .slice B m d]) : Sl w C 2 ([(⟨A, c, xs⟩ : RowN), ⟨B, d, ys⟩].map RowN.val) := by
  subst hn; subst hm
  exact hs
theorem two_ok {w : World} {A B : Option Addr} {c d : Nat} {xs ys : List Nat} (hs : Sl w A c (nums xs)) (hy : Sl w B d (nums ys)) (h1 : Bd xs) (h2 : Bd ys) (h3 : xs.length ≤ 1000000) (h4 : ys.length ≤ 1000000) : ∀ r ∈ [(⟨A, c, xs⟩ : RowN), ⟨B, d, ys⟩], r.ok w := fun r hr => by
  simp at hr
  rcases hr with rfl | rfl
  · exact ⟨hs, h1, h3⟩
  · exact ⟨hy, h2, h4⟩
end Go.Proofs.Ytdllgmhipenidaa
