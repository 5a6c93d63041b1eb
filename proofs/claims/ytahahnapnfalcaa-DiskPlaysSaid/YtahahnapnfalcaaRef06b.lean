/- The reference of layer 6: put, noughts, New's errors. -/
import Derived.Test.YtahahnapnfalcaaRef06a
import Derived.Deep.OwnRows
namespace Go.Proofs.Ytahahnapnfalcaa
set_option maxRecDepth 100000
open Go.RowKit
set_option linter.unusedVariables false

theorem infoStr : (Try.prog.info? 9).map (fun i => (i.zero, i.size, i.bytes)) = some (some (.string ⟨#[]⟩), 1, 16) := by kernel_rfl
theorem rput_any (w : World) {A : Option Addr} {c n : Nat} {L : List (List UInt8)} (hs : Sl w A c (strs L)) (hn : L.length = n) (hlim : n ≤ 1000) {i : Nat} (hi : i < n) (b : List UInt8) :
    Calls Try.prog 32 #[.slice A n c, .int .i64 (i : Int), .string (strOf b)] w fun e w' => ∃ A' c', e = .returned (.slice A' n c') ∧ Sl w' A' c' (strs (L.set i b)) ∧ Mods Nil w w' ∧ (∀ a, A' = some a → w.heap.size ≤ a.block) ∧ Ty6 w' A' 9 := by
  obtain ⟨i0, hi0, hz0, hz1, hz2⟩ := info_parts infoStr
  have HS := Lib.hid hs
  have HN := Lib.hid hn
  have hiI : (i : Int) < (n : Int) := by omega
  clear hs hn
  go_enter Try.func32, Try.ntmps32
  go_wp2_with (at_builtin; refine wpList_append_sl _ rfl (.tmp 8) (.tmp 9) 28 rfl w.heap.size 9 i0 (.string ⟨#[]⟩) 16 Try.underlying28 hi0 hz0 hz1 hz2 rfl (.slice none 0 0) 0 [] rfl (World.ownsRow_nil _ _ _ _) A n c (strs L) rfl (by rw [strs_length, HN.out]) HS.out (strs_one _) (by omega) (by unfold maxLen; omega) (Nat.le_refl _) ?_; intro v' w1 hown hgrow hblk; simp only [Nat.zero_add, List.nil_append] at hown; obtain ⟨g, cap, rfl, k1, k2, k3, k4, k5, k6, k7⟩ := own_set hown hi; have kc : w1.cell? ⟨g, i, none⟩ = some (.string (strOf (L[i]'(by rw [HN.out]; exact hi)))) := (k6 _ (by simp [strs, HN.out, hi])); have K7 := Lib.hid (k7 (.string (strOf b))); have M1 := Lib.hid ((Mods.refl Nil w).grown hgrow (fun k hk => by simp [Value.ownBlock] at hk)); have K3 := Lib.hid k3; clear hown hgrow hblk k6 k7; generalize strOf (L[i]'(by rw [HN.out]; exact hi)) = old at kc)
  go_ret
  obtain ⟨A', c', hv, -, hsl, -⟩ := own_slice K7.out
  injection hv with e1 e2 e3
  subst e1; subst e3
  exact ⟨_, _, rfl, by have := hsl; simpa [strs, List.map_set] using this, M1.out.setNew (p := ⟨g, i, none⟩) K3.out _, (fun a ha => by injection ha with ha; subst ha; exact K3.out), own_ty6 K7.out⟩
theorem rnoughts_any (w : World) : Calls Try.prog 26 #[] w fun e w' => e = .returned (.string (strOf zeros64)) ∧ Mods Nil w w' := by
  obtain ⟨i0, hi, hz0, hz1, hz2⟩ := info_parts infoByte
  go_enter Try.func26, Try.ntmps26
  go_wp2_with (at_make; refine wpList_make_row _ rfl _ _ 34 rfl 5 i0 (.int .u8 0) Try.underlying34 hi hz0 hz1 rfl .i64 .i64 64 rfl rfl (by rw [hz2]; omega) (by omega) ?_; have e0 : (madeCells #[.int .u8 0] 64).toList = bts zeros64 := (by rw [toList_madeCells_one]; simp [zeros64, bts]); have s1 : Sl (w.alloc (.cells (madeCells #[.int .u8 0] 64) 5)) (some ⟨w.heap.size, 0, none⟩) 64 (bts zeros64) := build_at rfl e0 (by simp [zeros64]) (by simp [maxLen]); have cv := run_string_sl (P := Try.prog) _ 34 5 Try.underlying34 Try.underlying5 _ 64 64 zeros64 (by simp [zeros64]) s1 9 Try.underlying9; have M1 := Lib.hid ((Mods.refl Nil w).alloc (.cells (madeCells #[.int .u8 0] 64) 5)); clear e0 s1; generalize w.alloc (.cells (madeCells #[.int .u8 0] 64) 5) = w1 at cv M1 ⊢)
  go_ret
  exact ⟨rfl, M1.out⟩
theorem rnew_bad (w : World) {n : Int} (h : n < 1 ∨ 65536 < n) : Calls Try.prog 11 #[.int .i64 n] w fun e w' => e = .returned (.tuple #[.agg #[.slice none 0 0, .slice none 0 0, .int .i64 0, .bool false], .int .i64 1]) ∧ Mods Nil w w' := by
  rcases h with h | h
  · go_enter Try.func11, Try.ntmps11
    go_wp2
    exact bodyPost_ret (v := .tuple #[.agg #[.slice none 0 0, .slice none 0 0, .int .i64 0, .bool false], .int .i64 1]) (by simp [results, Try.results11, go_sem]) rfl ⟨rfl, (Mods.refl _ _).alloc _⟩
  · have h2 : decide (n < 1) = false := by simp; omega
    have h3 : decide (65536 < n) = true := by simpa using h
    go_enter Try.func11, Try.ntmps11
    go_wp2
    exact bodyPost_ret (v := .tuple #[.agg #[.slice none 0 0, .slice none 0 0, .int .i64 0, .bool false], .int .i64 1]) (by simp [results, Try.results11, go_sem]) rfl ⟨rfl, (Mods.refl _ _).alloc _⟩

set_option maxHeartbeats 3200000 in
theorem rnew_any (w : World) {n : Nat} (h1 : 1 ≤ n) (h2 : n ≤ 1000) : Calls Try.prog 11 #[.int .i64 (n : Int)] w fun e w' => ∃ A c, e = .returned (.tuple #[.agg #[.slice A n c, .slice none 0 0, .int .i64 (-1), .bool false], .int .i64 0]) ∧ Sl w' A c (strs (List.replicate n zeros64)) ∧ Mods Nil w w' ∧ Ty6 w' A 9 := by
  obtain ⟨i0, hi, hz0, hz1, hz2⟩ := info_parts infoStr
  have k1 : decide ((n : Int) < 1) = false := by simp; omega
  have k2 : decide ((65536 : Int) < (n : Int)) = false := by simp; omega
  go_enter Try.func11, Try.ntmps11
  go_wp2_with fail
  go_loopw [5] (fun x wr => ∃ (j : Nat) (v : Value), j ≤ n ∧ x = .int .i64 (j : Int) ∧ Blk wr (w.heap.size + 1) 31 #[v, .slice none 0 0, .int .i64 (-1), .bool false] ∧ Blk wr w.heap.size 31 #[.slice none 0 0, .slice none 0 0, .int .i64 0, .bool false] ∧ wr.ownsRow w.heap.size 9 1 v j (strs (List.replicate j zeros64)) ∧ Mods Nil w wr) (fun x _ => n - (intOf x).toNat)
  case atStart =>
    refine ⟨0, .slice none 0 0, Nat.zero_le _, rfl, ?_, ?_, World.ownsRow_nil _ _ _ _, ((Mods.refl _ _).alloc _).alloc _⟩
    · have := Blk.new (w.alloc (.cells #[.slice none 0 0, .slice none 0 0, .int .i64 0, .bool false] 31)) 31 #[.slice none 0 0, .slice none 0 0, .int .i64 (-1), .bool false]
      simpa using this
    · exact (Blk.new w _ _).alloc _
  case round =>
    obtain ⟨j, v, hj, rfl, hb, hb0, ho, hmo⟩ := hrel
    have HB := Lib.hid hb
    have HB0 := Lib.hid hb0
    have HO := Lib.hid ho
    have HMO := Lib.hid hmo
    clear hb hb0 ho hmo
    by_cases hlt : j < n
    · have hltI : (j : Int) < (n : Int) := by omega
      have hj1 : j + 1 ≤ n := hlt
      have hjE : n - (j + 1) < n - j := by omega
      have hbase : w.heap.size ≤ wr.heap.size := HMO.out.size
      have hne := Lib.hid (own_blk_ne HO.out HB.out (by decide))
      have hne0 := Lib.hid (own_blk_ne HO.out HB0.out (by decide))
      have hc := fun W (h : Mods Nil wr W) => (HB.out.mods h (fun h => h)).four6.1.1
      have hc0 : wr.drew.cell? ⟨w.heap.size + 1, 0, none⟩ = some v := hc _ (Mods.refl Nil wr).drew
      go_wp2_with fail
      refine wp_region_any (by kernel_rfl) ?_
      show wpAny _ _ _ _ _ _ _ wr.drew
      refine wpAny_take (i := 0) (oi := ⟨_, _, _, _, _, _⟩) (v := .pointer (some ⟨w.heap.size + 1, 0, none⟩)) rfl (by kernel_rfl) (by kernel_rfl) (by kernel_rfl) (fun _ _ _ h => h) (Or.inl ⟨by rfl, fun W => by go_simp⟩) ?_
      refine wpAny_ready (rs := [1, 2]) (by kernel_rfl) (by simp) (AllReady.cons (o := ⟨_, _, _, _, _, _⟩) rfl (fun K' hK => ?a1) (AllReady.cons (o := ⟨_, _, _, _, _, _⟩) rfl (fun K' hK => ?a2) AllReady.nil))
      case' a1 =>
        rw [if_pos (by rfl)]
        go_simp
        refine hK _ _ ?_
        refine wpAny_ready (rs := [2]) (by kernel_rfl) (by simp) (AllReady.cons (o := ⟨_, _, _, _, _, _⟩) rfl (fun K' hK => ?_) AllReady.nil)
        rw [if_pos (by rfl)]
        go_simp
        refine (rnoughts_any _).mono ?_
        rintro e w5 ⟨rfl, m5⟩
        have M5 := Lib.hid ((Mods.refl Nil wr).drew.trans m5)
        clear m5
        refine hK _ _ ?_
        refine wpAny_ready (rs := [3]) (by kernel_rfl) (by simp) (AllReady.cons (o := ⟨_, _, _, _, _, _⟩) rfl (fun K' hK => ?_) AllReady.nil)
        rw [if_pos (by rfl)]
        go_simp
        refine hK _ _ ?_
      case' a2 =>
        rw [if_pos (by rfl)]
        go_simp
        refine (rnoughts_any _).mono ?_
        rintro e w5 ⟨rfl, m5⟩
        have M5 := Lib.hid ((Mods.refl Nil wr).drew.trans m5)
        clear m5
        have hc5 := hc w5 M5.out
        have hsz5 : w.heap.size + 1 < w5.heap.size := World.block_lt_of_cell? w5 _ hc5
        refine hK _ _ ?_
        refine wpAny_ready (rs := [1, 3]) (by kernel_rfl) (by simp) (AllReady.cons (o := ⟨_, _, _, _, _, _⟩) rfl (fun K' hK => ?b1) (AllReady.cons (o := ⟨_, _, _, _, _, _⟩) rfl (fun K' hK => ?b3) AllReady.nil))
      case' b1 =>
        rw [if_pos (by rfl)]
        go_simp
        refine hK _ _ ?_
        refine wpAny_ready (rs := [3]) (by kernel_rfl) (by simp) (AllReady.cons (o := ⟨_, _, _, _, _, _⟩) rfl (fun K' hK => ?_) AllReady.nil)
        rw [if_pos (by rfl)]
        go_simp
        refine hK _ _ ?_
      case' b3 =>
        rw [if_pos (by rfl)]
        go_simp
        refine hK _ _ ?_
        refine wpAny_ready (rs := [1]) (by kernel_rfl) (by simp) (AllReady.cons (o := ⟨_, _, _, _, _, _⟩) rfl (fun K' hK => ?_) AllReady.nil)
        rw [if_pos (by rfl)]
        go_simp
        refine hK _ _ ?_
      all_goals try simp only [Act.put, List.setIfInBounds_toArray, List.set_cons_zero, List.set_cons_succ]
      all_goals
        have hb5 : Blk w5 (w.heap.size + 1) 31 #[v, .slice none 0 0, .int .i64 (-1), .bool false] := HB.out.mods M5.out (fun h => h)
        have hb05 := HB0.out.mods M5.out (fun h => h)
        have HO5 := Lib.hid (own_mods HO.out (M5.out.alloc (.cells #[.string (strOf zeros64)] 9)) (fun _ _ h => h))
        refine wpAny_ready (rs := [4]) (by kernel_rfl) (by simp) (AllReady.cons (o := ⟨_, _, _, _, _, _⟩) rfl (fun K' hK => ?_) AllReady.nil)
        refine step_append_sl _ rfl (.tmp 20) (.tmp 22) 28 rfl w.heap.size 9 i0 (.string ⟨#[]⟩) 16 Try.underlying28 hi hz0 hz1 hz2 rfl v j (strs (List.replicate j zeros64)) rfl HO5.out (some ⟨w5.heap.size, 0, none⟩) 1 1 [.string (strOf zeros64)] rfl rfl (one_sl w5 _ _) (by intro u hu; simp at hu; subst hu; rfl) (by omega) (by unfold maxLen; omega) (by have := M5.out.size; simp; omega) ?_
        intro v6 w6 hown hgrow hblk
        obtain ⟨A6, c6', hv6, -⟩ := own_slice hown
        subst hv6
        refine hK _ _ ?_
        have hb6 := (hb5.alloc (.cells #[.string (strOf zeros64)] 9)).grown hgrow (fun e => hne.out e.symm)
        have hb06 := (hb05.alloc (.cells #[.string (strOf zeros64)] 9)).grown hgrow (fun e => hne0.out e.symm)
        have c6 := hb6.four6.1.1
        have f6 := hb6.four6.2.1
        have M6 := Lib.hid (((HMO.out.trans M5.out).alloc (.cells #[.string (strOf zeros64)] 9)).grown hgrow (fun k hk hlt => absurd hlt (by have := (HO.out.lt k hk).1; omega)))
        have HB6 := Lib.hid hb6
        have HB06 := Lib.hid hb06
        have HO6 := Lib.hid hown
        clear hb5 hb05 hb6 hb06 hown hgrow hblk
        refine wpAny_take (i := 5) (oi := ⟨_, _, _, _, _, _⟩) (v := .pointer (some ⟨w.heap.size + 1, 0, none⟩)) rfl (by kernel_rfl) (by kernel_rfl) (by kernel_rfl) (fun _ _ _ h => h) (Or.inl ⟨by rfl, fun W => by go_simp⟩) ?_
        refine wpAny_ready (rs := [6]) (by kernel_rfl) (by simp) (AllReady.cons (o := ⟨_, _, _, _, _, _⟩) rfl (fun K' hK => ?_) AllReady.nil)
        rw [if_pos (by rfl)]
        go_simp
        refine hK _ _ ?_
        refine wpAny_done (by kernel_rfl) ?_ _
        go_wp2
        have hset : Mods (fun k => k = w.heap.size + 1) w6 (w6.setCell ⟨w.heap.size + 1, 0, none⟩ (.slice A6 (j + 1) c6')) := Mods.setCell (S := fun k => k = w.heap.size + 1) (p := ⟨w.heap.size + 1, 0, none⟩) (Mods.refl _ _) (fun _ => rfl) _
        refine ⟨⟨j + 1, _, hj1, by go_num, by simpa using HB6.out.set_ 0 (.slice A6 (j + 1) c6'), HB06.out.mods hset (by omega), own_mods (by rw [show List.replicate (j + 1) zeros64 = List.replicate j zeros64 ++ [zeros64] from List.replicate_succ']; simpa [strs] using HO6.out) hset (fun k hk e => own_blk_ne HO6.out HB6.out (by decide) (by rw [hk, e])), M6.out.setNew (p := ⟨w.heap.size + 1, 0, none⟩) (by simp) _⟩, by simp [intOf]; omega⟩
    · obtain rfl : j = n := by omega
      obtain ⟨A, c, rfl, -, hsl, hown9⟩ := own_slice HO.out
      have SL := Lib.hid hsl
      obtain ⟨⟨b0, b1, b2, b3⟩, -⟩ := HB.out.four6
      obtain ⟨⟨a0, a1, a2, a3⟩, g0, g1, g2, g3⟩ := HB0.out.four6
      have hbF := (((HB0.out.set_ 0 (.slice A j c)).set_ 1 (.slice none 0 0)).set_ 2 (.int .i64 (-1))).set_ 3 (.bool false)
      simp only [List.setIfInBounds_toArray, List.set_cons_succ, List.set_cons_zero] at hbF
      obtain ⟨⟨x0, x1, x2, x3⟩, -⟩ := hbF.four6
      have MF := Lib.hid ((((HMO.out.setNew (p := ⟨w.heap.size, 0, none⟩) (Nat.le_refl _) (.slice A j c)).setNew (p := ⟨w.heap.size, 1, none⟩) (Nat.le_refl _) (.slice none 0 0)).setNew (p := ⟨w.heap.size, 2, none⟩) (Nat.le_refl _) (.int .i64 (-1))).setNew (p := ⟨w.heap.size, 3, none⟩) (Nat.le_refl _) (.bool false))
      have SF : Hid (Sl ((((wr.setCell ⟨w.heap.size, 0, none⟩ (.slice A j c)).setCell ⟨w.heap.size, 1, none⟩ (.slice none 0 0)).setCell ⟨w.heap.size, 2, none⟩ (.int .i64 (-1))).setCell ⟨w.heap.size, 3, none⟩ (.bool false)) A c (strs (List.replicate j zeros64))) := Lib.hid (SL.out.mods (S := fun k => k = w.heap.size) (Mods.setCell (Mods.setCell (Mods.setCell (Mods.setCell (p := ⟨w.heap.size, 0, none⟩) (Mods.refl (fun k => k = w.heap.size) _) (fun _ => rfl) _) (p := ⟨w.heap.size, 1, none⟩) (fun _ => rfl) _) (p := ⟨w.heap.size, 2, none⟩) (fun _ => rfl) _) (p := ⟨w.heap.size, 3, none⟩) (fun _ => rfl) _) (fun a ha e => by
        have hk := (hown9 a ha).1
        exact own_blk_ne HO.out HB0.out (by decide) (by rw [hk, e])))
      have hneT := (own_ty6 HO.out).of_ne HB0.out (by decide)
      have TYF := Lib.hid (((((own_ty6 HO.out).set_ hneT 0 (.slice A j c)).set_ hneT 1 (.slice none 0 0)).set_ hneT 2 (.int .i64 (-1))).set_ hneT 3 (.bool false))
      clear hbF hsl hown9 hneT
      go_wp2_with fail
      exact bodyPost_ret (v := .tuple #[.agg #[.slice A j c, .slice none 0 0, .int .i64 (-1), .bool false], .int .i64 0]) (by simp [results, Try.results11, go_sem, x0, x1, x2, x3]) rfl ⟨A, c, rfl, SF.out, MF.out, TYF.out⟩
end Go.Proofs.Ytahahnapnfalcaa
