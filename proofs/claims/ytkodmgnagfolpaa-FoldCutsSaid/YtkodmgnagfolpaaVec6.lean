/- Package vec: Less, Max, Min. -/
import Derived.Test.YtkodmgnagfolpaaVec5
import Derived.Test.YtkodmgnagfolpaaArrM
import Derived.Laws.MakeOwn
namespace Go.Proofs.Ytkodmgnagfolpaa
set_option maxRecDepth 100000
open Go.RowKit
set_option linter.unusedVariables false
set_option linter.unusedSimpArgs false

/-- What is done at each place of a row of the call's own. -/
theorem each_row (W : World) {f : FuncId} (hf : ∀ args (W : World), (callFunc f args).run Try.prog W = .ok (.enter f args) W) {base g gb n m d k : Nat} {v : Value} {B : Option Addr} {zs0 ys : List Nat} (F : Nat → Nat → Nat) (hk : k ≤ n) (hn : n ≤ 1000000)
    (H : ∀ V zs j, j < k → Blk V g 34 #[v] → V.ownsRow base 27 1 v n (nums zs) → Blk V gb 34 #[.slice B m d] → Sl V B d (nums ys) → zs.length = n → vat zs j = vat zs0 j →
      Calls Try.prog f #[.int .i64 (j : Int), .pointer (some ⟨g, 0, none⟩), .pointer (some ⟨gb, 0, none⟩)] V fun e V' => e = .returned (.tuple #[]) ∧ V'.ownsRow base 27 1 v n (nums (zs.set j (F (vat zs0 j) (vat ys j)))) ∧ Mods (fun k => v.ownBlock = some k) V V')
    (hl : zs0.length = n) (ha : Blk W g 34 #[v]) (ho : W.ownsRow base 27 1 v n (nums zs0)) (hb : Blk W gb 34 #[.slice B m d]) (hs : Sl W B d (nums ys)) (hap : nums ys ≠ [] → Off (fun k => v.ownBlock = some k) B) :
    Calls Try.prog 71 #[.int .i64 (k : Int), .func (.func f) #[] #[.pointer (some ⟨g, 0, none⟩), .pointer (some ⟨gb, 0, none⟩)]] W fun e V => e = .returned (.tuple #[]) ∧ ∃ zs, zs.length = n ∧ (∀ i, vat zs i = if i < k then F (vat zs0 i) (vat ys i) else vat zs0 i) ∧ V.ownsRow base 27 1 v n (nums zs) ∧ Mods (fun k => v.ownBlock = some k) W V := by
  refine (each_gen (n := k) W hf (by omega) (fun j V => ∃ zs, zs.length = n ∧ (∀ i, vat zs i = if i < j then F (vat zs0 i) (vat ys i) else vat zs0 i) ∧ V.ownsRow base 27 1 v n (nums zs) ∧ Mods (fun k => v.ownBlock = some k) W V) ⟨zs0, hl, fun i => by rw [if_neg (by omega)], ho, Mods.refl _ _⟩ ?_)
  rintro j V hj ⟨zs, h1, h2, h3, h4⟩
  have hne := own_blk_ne ho ha (by decide)
  have hne2 := own_blk_ne ho hb (by decide)
  refine (H V zs j hj (ha.mods h4 hne) h3 (hb.mods h4 hne2) (hs.mods' h4 hap) h1 (by rw [h2, if_neg (by omega)])).mono ?_
  rintro e V' ⟨rfl, h5, h6⟩
  refine ⟨rfl, zs.set j (F (vat zs0 j) (vat ys j)), by simp [h1], fun i => ?_, h5, h4.trans h6⟩
  rw [vat_set (by omega)]
  by_cases e : i = j
  · subst e; rw [if_pos rfl, if_pos (by omega)]
  · rw [if_neg e, h2]
    by_cases h : i < j
    · rw [if_pos h, if_pos (by omega)]
    · rw [if_neg h, if_neg (by omega)]

/-- A row of numbers of the call's own, without a nought at its end. -/
def CutRow (w w' : World) (f : Nat → Nat) (v : Value) : Prop := ∃ zs, w'.ownsRow w.heap.size 27 1 v zs.length (nums zs) ∧ isCut zs ∧ ∀ i, vat zs i = f i
theorem CutRow.sl {w w' : World} {f : Nat → Nat} {v : Value} (h : CutRow w w' f v) : ∃ A c zs n, v = .slice A n c ∧ zs.length = n ∧ Sl w' A c (nums zs) ∧ isCut zs ∧ (∀ i, vat zs i = f i) ∧ (∀ a, A = some a → w.heap.size ≤ a.block) := by
  obtain ⟨zs, h1, h2, h3⟩ := h
  obtain ⟨A, c, hv, h4, h5, h6⟩ := own_slice h1
  exact ⟨A, c, zs, _, hv, rfl, h5, h2, h3, fun a ha => (h6 a ha).2⟩
theorem own_num_ap {w W : World} {base : Nat} {v : Value} {n : Nat} {xs : List Value} {B : Option Addr} {d : Nat} {ys : List Value} (h : W.ownsRow base 27 1 v n xs) (hb : w.heap.size ≤ base) (hs : Sl w B d ys) : ys ≠ [] → Off (fun k => v.ownBlock = some k) B := fun hne a ha hk => by
  have := hs.old hne a ha
  have := (h.lt _ hk).1
  omega

theorem own_sl {w : World} {base n c : Nat} {e : TypeId} {A : Option Addr} {xs : List Value} (h : w.ownsRow base e 1 (.slice A n c) n xs) : Sl w A c xs := by
  obtain ⟨A', c', hv, _, hs, _⟩ := own_slice h
  injection hv with e1 e2 e3
  subst e1; subst e3
  exact hs
def RLess (w : World) (xs ys : List Nat) (e : Ending) (w' : World) : Prop := (leB ys xs = false → e = .returned (.tuple #[.slice none 0 0, .int .i64 15])) ∧ (leB ys xs = true → ∃ v, e = .returned (.tuple #[v, .int .i64 0]) ∧ CutRow w w' (fun i => vat xs i - vat ys i) v) ∧ Mods Nil w w'
set_option maxHeartbeats 3200000 in
theorem less_any (w : World) {n c m d : Nat} {A B : Option Addr} {xs ys : List Nat} (hn : xs.length = n) (hl : n ≤ 1000000) (hbd : Bd xs) (hs : Sl w A c (nums xs)) (hm : ys.length = m) (hl2 : m ≤ 1000000) (hy : Sl w B d (nums ys)) :
    Calls Try.prog 56 #[.slice A n c, .slice B m d] w (RLess w xs ys) := by
  obtain ⟨W0, hW0⟩ : ∃ W, w.alloc (.cells #[.slice B m d] 34) = W := ⟨_, rfl⟩
  have HM : Hid (Mods Nil w W0) := by rw [← hW0]; exact Lib.hid ((Mods.refl Nil w).alloc _)
  have B1 : Hid (Blk W0 w.heap.size 34 #[.slice B m d]) := by
    subst hW0
    exact Lib.hid (Blk.new w _ _)
  have y0 := B1.out.oneV.1
  have HS := Lib.hid (hs.mods HM.out (fun _ _ h => h))
  have HY := Lib.hid (hy.mods HM.out (fun _ _ h => h))
  have HLE := Lib.hid (le_any W0 hm (by omega) HY.out hn HS.out)
  have HN := Lib.hid hn
  have HBD := Lib.hid hbd
  have HY0 := Lib.hid hy
  have HMM := Lib.hid hm
  obtain ⟨r, hr⟩ : ∃ r, leB ys xs = r := ⟨_, rfl⟩
  rw [hr] at HLE
  have HR := Lib.hid hr
  clear hn hm hs hy hbd hr
  cases r with
  | false =>
    go_enter Try.func56, Try.ntmps56
    go_wp2_with (go_at_call 70; refine (HLE.out).mono ?_; rintro e w1 ⟨rfl, m1⟩; have M1 := Lib.hid m1; clear m1)
    go_ret2
    exact ⟨fun _ => rfl, fun h => (by rw [HR.out] at h; cases h), HM.out.trans M1.out⟩
  | true =>
    obtain ⟨q, hq⟩ : ∃ q, (cut xs).length = q := ⟨_, rfl⟩
    have hqn : q ≤ n := by rw [← hq, ← HN.out]; exact cut_le xs
    have HQ := Lib.hid hq
    clear hq
    have HCUT := Lib.hid (fun (V : World) (hV : Mods Nil W0 V) => by
      have h := vcut_any V HN.out hl (HS.out.mods hV (fun _ _ h => h))
      rw [HQ.out] at h
      exact h)
    have HH := Lib.hid (fun (g gb : Nat) (v : Value) (V : World) (zs : List Nat) (j : Nat) (hj : j < q) (ha : Blk V g 34 #[v]) (ho : V.ownsRow w.heap.size 27 1 v q (nums zs)) (hb : Blk V gb 34 #[.slice B m d]) (hs : Sl V B d (nums ys)) (hzl : zs.length = q) (hz : vat zs j = vat (cut xs) j) => by
      have h1 := leB_iff.1 HR.out j
      have h2 := HBD.out j
      rw [vat_cut] at hz
      have h := less1_any V ha ho hb hzl HMM.out hs hj (by rw [hz]; exact h1) (by rw [hz]; exact h2)
      rw [hz, ← vat_cut xs j] at h
      exact h)
    go_enter Try.func56, Try.ntmps56
    go_wp2_with (first
      | (go_at_call 70; refine (HLE.out).mono ?_; rintro e w1 ⟨rfl, m1⟩; have M1 := Lib.hid m1; clear m1)
      | (go_at_call 71; refine (each_row (f := 72) (base := w.heap.size) (g := w2.heap.size) (gb := w.heap.size) (n := q) (m := m) (d := d) (k := q) (v := .slice A2 q c2) (B := B) (zs0 := cut xs) (ys := ys) _ (enters Try.func72 (by kernel_rfl) (by rfl)) (fun a b => a - b) (Nat.le_refl _) (by omega) (HH.out _ _ _) HQ.out (Blk.new w2 _ _) (O2.out.alloc _) (B2.out.alloc _) (HY0.out.mods (M2.out.alloc _) (fun _ _ h => h)) (own_num_ap O2.out (Nat.le_refl _) HY0.out)).mono ?_; rintro e w4 ⟨rfl, zs, l4, v4, o4, m4⟩; have hz4 := ((Blk.new w2 34 #[.slice A2 q c2]).mods m4 (own_blk_ne (O2.out.alloc _) (Blk.new w2 34 #[.slice A2 q c2]) (by decide))).oneV.1; have V4 := Lib.hid v4; have O4 := Lib.hid o4; have L4 := Lib.hid l4; have M4 := Lib.hid ((M2.out.alloc _).nil_trans m4 (fun i hi => (O2.out.lt _ hi).1)); clear z2 l4 v4 o4 m4)
      | (go_at_call 30; with_reducible refine (HCUT.out _ M1.out).mono ?_; rintro e w2 ⟨v, rfl, o2, m2⟩; obtain ⟨A2, c2, rfl, e2, s2, b2⟩ := own_slice o2; have O2 := Lib.hid (own_rebase o2 (by have := HM.out.size; have := M1.out.size; omega : w.heap.size ≤ w1.heap.size)); have M2 := Lib.hid (HM.out.trans (M1.out.trans m2)); have B2 := Lib.hid ((B1.out.mods M1.out (fun h => h)).mods m2 (fun h => h)); have z2 := (Blk.new w2 34 #[.slice A2 q c2]).oneV.1; clear o2 m2 e2 s2 b2)
      | (go_at_call 30; refine (vcut_any w4 L4.out (by omega) (own_sl O4.out)).mono ?_; rintro e w5 ⟨v5, rfl, o5, m5⟩; have O5 := Lib.hid (own_rebase o5 (M4.out.size : w.heap.size ≤ w4.heap.size)); have M5 := Lib.hid (M4.out.trans m5); clear o5 m5))
    go_ret2
    refine ⟨fun h => (by rw [HR.out] at h; cases h), fun _ => ⟨_, rfl, cut zs, O5.out, cut_isCut zs, fun i => ?_⟩, M5.out⟩
    rw [vat_cut, V4.out, vat_cut]
    by_cases h : i < q
    · rw [if_pos h]
    · rw [if_neg h]
      have h0 : vat xs i = 0 := by rw [← vat_cut, vat_ge (by rw [HQ.out]; omega)]
      show vat xs i = vat xs i - vat ys i
      omega

def rowsOf (l : List RowN) : List (List Nat) := l.map (·.xs)
theorem rowsOf_take (l : List RowN) (k : Nat) : rowsOf (l.take k) = (rowsOf l).take k := by simp [rowsOf, List.map_take]
theorem maxAt_take_succ {l : List RowN} {j : Nat} (h : j < l.length) (i : Nat) : maxAt (rowsOf (l.take (j + 1))) i = max (maxAt (rowsOf (l.take j)) i) (vat l[j].xs i) := by
  rw [List.take_succ_eq_append_getElem h]
  unfold rowsOf
  rw [List.map_append]
  exact maxAt_snoc _ _ _
theorem minAt_take_succ {l : List RowN} {j : Nat} (h : j < l.length) (h0 : 0 < j) (i : Nat) : minAt (rowsOf (l.take (j + 1))) i = min (minAt (rowsOf (l.take j)) i) (vat l[j].xs i) := by
  rw [List.take_succ_eq_append_getElem h]
  unfold rowsOf
  rw [List.map_append]
  refine minAt_snoc _ _ _ (fun e => ?_)
  rw [List.map_eq_nil_iff, List.take_eq_nil_iff] at e
  rcases e with e | e
  · omega
  · subst e; simp at h
theorem own_made_row {w : World} {base n : Nat} (hb : base ≤ w.heap.size) (hn : n ≤ 1000000) : (w.alloc (.cells (madeCells (Value.int .u64 0).cells (n * 1)) 27)).ownsRow base 27 1 (.slice (some ⟨w.heap.size, 0, none⟩) n n) n (nums (List.replicate n 0)) := by
  have h := made_nums n
  refine ⟨by simp, .inr ⟨w.heap.size, n, _, rfl, hb, heap_alloc_new w _, Nat.le_refl _, by unfold maxLen; omega, by rw [← Array.length_toList, h]; simp, ?_⟩⟩
  rw [h, List.take_of_length_le (by simp)]
end Go.Proofs.Ytkodmgnagfolpaa
