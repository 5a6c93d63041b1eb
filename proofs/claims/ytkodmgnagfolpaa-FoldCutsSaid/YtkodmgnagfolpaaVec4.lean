/- Package vec: Same, the longest row, Cut. -/
import Derived.Test.YtkodmgnagfolpaaVec3
import Derived.Test.YtkodmgnagfolpaaClone
import Derived.Laws.Cover1
namespace Go.Proofs.Ytkodmgnagfolpaa
set_option maxRecDepth 100000
open Go.RowKit
set_option linter.unusedVariables false
set_option linter.unusedSimpArgs false

/-- A row of numbers: where it lies, its room, its numbers. -/
structure RowN where
  A : Option Addr
  c : Nat
  xs : List Nat
instance : Inhabited RowN := ⟨⟨none, 0, []⟩⟩
def RowN.val (r : RowN) : Value := .slice r.A r.xs.length r.c
structure RowN.ok (w : World) (r : RowN) : Prop where
  sl : Sl w r.A r.c (nums r.xs)
  bd : Bd r.xs
  le : r.xs.length ≤ 1000000
theorem RowN.ok.mods {w w' : World} {r : RowN} (h : RowN.ok w r) (hm : Mods Nil w w') : RowN.ok w' r := ⟨h.sl.mods hm (fun _ _ h => h), h.bd, h.le⟩
theorem rowN_at {w : World} {A : Option Addr} {c j : Nat} {l : List RowN} (h : Sl w A c (l.map RowN.val)) (hj : j < l.length) :
    ∃ b off, A = some ⟨b, off, none⟩ ∧ b < w.heap.size ∧ w.cell? ⟨b, off + j, none⟩ = some (.slice l[j].A l[j].xs.length l[j].c) := by
  obtain ⟨b, off, hA, hb, hc⟩ := h.at_ (by simp; omega)
  exact ⟨b, off, hA, hb, hc j _ (by simp [RowN.val, hj])⟩
def lenMax (l : List RowN) : Nat := l.foldl (fun k r => max k r.xs.length) 0
theorem lenMax_snoc (l : List RowN) (r : RowN) : lenMax (l ++ [r]) = max (lenMax l) r.xs.length := by unfold lenMax; rw [List.foldl_append]; rfl
theorem lenMax_take_succ {l : List RowN} {j : Nat} (h : j < l.length) : lenMax (l.take (j + 1)) = max (lenMax (l.take j)) l[j].xs.length := by
  rw [List.take_succ_eq_append_getElem h, lenMax_snoc]
theorem lenMax_take_le {l : List RowN} (k : Nat) (hl : ∀ r ∈ l, r.xs.length ≤ k) : lenMax l ≤ k := by
  have : ∀ (l : List RowN) (a : Nat), a ≤ k → (∀ r ∈ l, r.xs.length ≤ k) → l.foldl (fun k r => max k r.xs.length) a ≤ k := by
    intro l
    induction l with
    | nil => intro a ha _; exact ha
    | cons x t ih => intro a ha h; exact ih _ (Nat.max_le.2 ⟨ha, h x (by simp)⟩) (fun r hr => h r (by simp [hr]))
  exact this l 0 (Nat.zero_le _) hl
theorem foldl_max_le (l : List RowN) : ∀ (a : Nat), a ≤ l.foldl (fun k r => max k r.xs.length) a ∧ ∀ r ∈ l, r.xs.length ≤ l.foldl (fun k r => max k r.xs.length) a := by
  induction l with
  | nil => intro a; exact ⟨Nat.le_refl _, fun r h => by cases h⟩
  | cons x t ih =>
    intro a
    have := ih (max a x.xs.length)
    refine ⟨Nat.le_trans (Nat.le_max_left _ _) this.1, fun r hr => ?_⟩
    rcases List.mem_cons.1 hr with rfl | hr
    · exact Nat.le_trans (Nat.le_max_right _ _) this.1
    · exact this.2 r hr
theorem le_lenMax {l : List RowN} {r : RowN} (h : r ∈ l) : r.xs.length ≤ lenMax l := (foldl_max_le l 0).2 r h
theorem sameB_of {xs ys : List Nat} (h : ∀ j, j < max xs.length ys.length → decide (vat xs j = vat ys j) = true) : sameB xs ys = true := by
  unfold sameB
  rw [decide_eq_true_iff]
  exact fun i hi => by simpa using h i hi
theorem sameB_not {xs ys : List Nat} {j : Nat} (hj : j < max xs.length ys.length) (h : decide (vat xs j = vat ys j) = false) : sameB xs ys = false := by
  unfold sameB
  rw [decide_eq_false_iff_not]
  intro h2
  have := h2 j hj
  simp at h
  omega
theorem lenMax_two (r q : RowN) : lenMax [r, q] = max r.xs.length q.xs.length := by simp [lenMax]
/-! Cut. -/
theorem infoV64 : (Try.prog.info? 27).map (fun i => (i.zero, i.size, i.bytes)) = some (some (.int .u64 0), 1, 8) := by kernel_rfl
theorem sizeV64 (W : World) : (sizeOf (Try.prog.elem 34)).run Try.prog W = .ok 1 W := by kernel_rfl
theorem slice_to64 {A : Option Addr} {n c j : Nat} (hj : j ≤ c) (W : World) : (Instr.slice 34 (.slice A n c) none (some (.int .i64 (j : Int))) none).run Try.prog W = .ok (.slice A j c) W := by
  rw [run_slice_h (P := Try.prog) W _ A n c (by exact Try.underlying34) .i64 (j : Int) (by omega) (by omega)]
  rw [sizeV64]
  cases A <;> simp [Result.andThen, sliced, Addr.add]
set_option maxHeartbeats 3200000 in
theorem vcut_any (w : World) {n c : Nat} {A : Option Addr} {xs : List Nat} (hn : xs.length = n) (hl : n ≤ 1000000) (hs : Sl w A c (nums xs)) :
    Calls Try.prog 30 #[.slice A n c] w fun e w' => ∃ v, e = .returned v ∧ w'.ownsRow w.heap.size 27 1 v (cut xs).length (nums (cut xs)) ∧ Mods Nil w w' := by
  obtain ⟨i0, hi, hz0, hz1, hz2⟩ := info_parts infoV64
  have hle := hs.le
  rw [nums_length, hn] at hle
  have HS := Lib.hid hs
  have HN := Lib.hid hn
  clear hs hn
  go_enter Try.func30, Try.ntmps30
  go_wp2
  go_loopw [3] (fun x wr => ∃ j : Nat, j ≤ n ∧ x = .int .i64 (j : Int) ∧ w = wr ∧ ∀ i, j ≤ i → vat xs i = 0) (fun x _ => (intOf x).toNat)
  case atStart => exact ⟨n, Nat.le_refl _, rfl, rfl, fun i h => vat_ge (by rw [HN.out]; exact h)⟩
  case round =>
    obtain ⟨j, hj, rfl, rfl, hz⟩ := hrel
    have HZ := Lib.hid hz
    clear hz
    have HEND : Hid ((j = 0 ∨ vat xs (j - 1) ≠ 0) → (cut xs).length = j ∧ nums (cut xs) = (nums xs).take j) := Lib.hid (fun h => by
      have e := clen_of (by rw [HN.out]; exact hj) HZ.out h
      exact ⟨by rw [cut_length, ← e], by rw [nums_take, e]; rfl⟩)
    have htk := HS.out.take j
    have HTK := Lib.hid htk
    have hjc : (j : Int) ≤ (c : Int) := by omega
    have hjl : ((nums xs).take j).length = j := by rw [List.length_take, nums_length, HN.out]; omega
    have HJL := Lib.hid hjl
    clear htk hjl
    have hsl := fun W => slice_to64 (A := A) (n := n) (c := c) (j := j) (by omega) W
    by_cases hpos : 0 < j
    · obtain ⟨k, hk⟩ : ∃ k, j = k + 1 := ⟨j - 1, by omega⟩
      obtain ⟨b, off, hA, hb, hc⟩ := sl_num HS.out (j := k) (by rw [HN.out]; omega)
      obtain ⟨y, hy⟩ : ∃ y, vat xs k = y := ⟨_, rfl⟩
      rw [hy] at hc
      have hkI : (j : Int) - 1 = (k : Int) := by omega
      have hposI : (0 : Int) < (j : Int) := by omega
      have hkn : (k : Int) < (n : Int) := by omega
      by_cases h0 : y = 0
      · subst h0
        have HY := Lib.hid hy
        subst hA
        have HK := Lib.hid hk
        clear hy hb hk
        go_wp2_with fail
        have hk := HK.out
        exact ⟨⟨k, by omega, by go_num, by trivial, fun i hi => by
          by_cases e : i = k
          · rw [e]; exact HY.out
          · exact HZ.out i (by omega)⟩, by simp [intOf]; omega⟩
      · have hyb : ((y : Int) == 0) = false := by rw [beq_eq_false_iff_ne]; omega
        have HE := Lib.hid (HEND.out (.inr (by rw [hk, Nat.add_sub_cancel, hy]; exact h0)))
        subst hA
        clear hy hb h0 hk
        go_wp2_with (at_builtin; refine wpList_append_sl _ rfl _ _ 34 rfl w.heap.size 27 i0 (.int .u64 0) 8 Try.underlying34 hi hz0 hz1 hz2 rfl (.slice none 0 0) 0 [] rfl (World.ownsRow_nil _ _ _ _) (some ⟨b, off, none⟩) j c ((nums xs).take j) rfl HJL.out HTK.out (by intro u hu; exact nums_one xs u (List.mem_of_mem_take hu)) (by omega) (by unfold maxLen; omega) (Nat.le_refl _) ?_; intro v' w3 hown hgrow _; have HO3 := Lib.hid hown; have M3 := Lib.hid (show Mods Nil w w3 from (Mods.refl Nil _).grown hgrow (fun q hq _ => by simp [Value.ownBlock] at hq)); clear hown hgrow)
        go_ret
        refine ⟨_, rfl, ?_, M3.out⟩
        rw [HE.out.1, HE.out.2]
        have h := HO3.out
        rwa [Nat.zero_add, List.nil_append] at h
    · obtain rfl : j = 0 := by omega
      have HE := Lib.hid (HEND.out (.inl rfl))
      go_wp2_with (at_builtin; refine wpList_append_sl _ rfl _ _ 34 rfl w.heap.size 27 i0 (.int .u64 0) 8 Try.underlying34 hi hz0 hz1 hz2 rfl (.slice none 0 0) 0 [] rfl (World.ownsRow_nil _ _ _ _) A 0 c ((nums xs).take 0) rfl HJL.out HTK.out (by intro u hu; exact nums_one xs u (List.mem_of_mem_take hu)) (by omega) (by unfold maxLen; omega) (Nat.le_refl _) ?_; intro v' w3 hown hgrow _; have HO3 := Lib.hid hown; have M3 := Lib.hid (show Mods Nil w w3 from (Mods.refl Nil _).grown hgrow (fun q hq _ => by simp [Value.ownBlock] at hq)); clear hown hgrow)
      go_ret
      refine ⟨_, rfl, ?_, M3.out⟩
      rw [HE.out.1, HE.out.2]
      have h := HO3.out
      rwa [Nat.zero_add, List.nil_append] at h
end Go.Proofs.Ytkodmgnagfolpaa
