/- Texts laid as one: Ref06e, Ref06f. -/
import Derived.Test.YtdllgmhipenidaaRef06A
import Derived.StillTailTactics
import Derived.Test.YtdllgmhipenidaaDiskC

section
/- The reference of layer 6: Sync. -/
namespace Go.Proofs.Ytdllgmhipenidaa
set_option maxRecDepth 100000
open Go.RowKit
set_option linter.unusedVariables false

theorem ne_laid {L : List (List UInt8)} {W : List (Nat × List UInt8)} (h : strs (layAll L W) ≠ []) : L ≠ [] := by
  rintro rfl
  refine h (List.eq_nil_of_length_eq_zero ?_)
  rw [strs_length, layAll_length]
  rfl
set_option maxHeartbeats 3200000 in
theorem r6sync_any (w : World) {A B : Option Addr} {n c m k : Nat} {left : Int} {down : Bool} {d : PD} (h : RdAt w A c B k d) (hok : d.Ok) (hn : d.L.length = n) (hm : d.W.length = m) (hl : d.left = left) (hd : d.down = down) (hlim : m ≤ 1000) (hlin : n ≤ 1000) (h0 : -1 ≤ left) (h1 : left ≤ 9223372036854775807) :
    Calls Try.prog 76 #[.agg #[.slice A n c, .slice B m k, .int .i64 left, .bool down]] w (RTold6 w d.sync.1 d.sync.2) := by
  have M1 := Lib.hid (((Mods.refl Nil w).alloc (.cells #[.slice A n c, .slice B m k, .int .i64 left, .bool down] 31)).alloc (.cells #[.slice none 0 0, .slice none 0 0, .int .i64 0, .bool false] 31))
  have HC := Lib.hid (fun W => rcount_any W (A := A) (B := B) (n := n) (c := c) (m := m) (k := k) hl hd h0 h1)
  have H := Lib.hid h
  have HN := Lib.hid hn
  have HMM := Lib.hid hm
  have HL := Lib.hid hl
  have HD := Lib.hid hd
  have HOK := Lib.hid hok
  have e0 : d.sync = if down then (d, 20) else if d.count.2 ≠ 0 then d.count else ({ d.count.1 with L := layAll d.L d.W, W := [] }, 0) := by unfold PD.sync; rw [hd]
  rw [e0]
  clear h hn hm hl hd h0 h1 hok e0
  cases down with
  | true =>
    simp only [if_true]
    go_enter Try.func76, Try.ntmps76
    obtain ⟨b1, z1⟩ := two_rd (w := w) (a := .slice A n c) (b := .slice B m k) (c := .int .i64 left) (e := .bool true) (Mods.refl Nil _)
    obtain ⟨⟨x0, x1, x2, x3⟩, -⟩ := b1.four6
    have Z1 := Lib.hid z1
    clear b1 z1
    go_wp2_with (refine wpList_store_mk rfl 31 (.tmp 2) (.tmp 8) rfl rfl (w.heap.size + 1) rfl 31 #[.slice none 0 0, .slice none 0 0, .int .i64 0, .bool false] #[.slice A n c, .slice B m k, .int .i64 left, .bool true] rfl Z1.out rfl (by simp [Value.oneCell']) rd_info (by simp [Value.cells]) ?_; intro w8 b8 m8; obtain ⟨⟨s0, s1, s2, s3⟩, -⟩ := b8.four6; have M8 := Lib.hid (M1.out.trans2 m8 (fun i hi e => by subst e; omega)); clear b8 m8)
    refine bodyPost_ret (v := .tuple #[.agg #[.slice A n c, .slice B m k, .int .i64 left, .bool true], .int .i64 20]) (by simp [results, Try.results76, go_sem, s0, s1, s2, s3]) rfl ?_
    exact ⟨A, c, B, k, by simp only [HN.out, HMM.out, HL.out, HD.out], H.out.mods M8.out, M8.out⟩
  | false =>
    simp only [Bool.false_eq_true, if_false]
    have CL := d.count_L
    obtain ⟨left2, hl2⟩ : ∃ x, d.count.1.left = x := ⟨_, rfl⟩
    obtain ⟨down2, hd2⟩ : ∃ x, d.count.1.down = x := ⟨_, rfl⟩
    obtain ⟨err, herr⟩ : ∃ x, d.count.2 = x := ⟨_, rfl⟩
    rw [herr] at HC
    rw [hl2, hd2] at HC
    have HL2 := Lib.hid hl2
    have HD2 := Lib.hid hd2
    have HCL := Lib.hid CL
    by_cases hc : err = 0
    · subst hc
      rw [if_neg (by simp [herr])]
      clear CL hl2 hd2 herr
      go_enter Try.func76, Try.ntmps76
      obtain ⟨b1, z1⟩ := two_rd (w := w) (a := .slice A n c) (b := .slice B m k) (c := .int .i64 left) (e := .bool false) (Mods.refl Nil _)
      obtain ⟨⟨x0, x1, x2, x3⟩, -⟩ := b1.four6
      have B1 := Lib.hid b1
      have Z1 := Lib.hid z1
      clear b1 z1
      go_wp2_with (first
        | (go_at_call 82; refine (HC.out _).mono ?_; rintro e w3 ⟨rfl, m3⟩; have M3 := Lib.hid (M1.out.trans m3); have B3 := Lib.hid (B1.out.mods m3 (fun h => h)); have Z3 := Lib.hid (Z1.out.mods m3 (fun h => h)); clear m3)
        | (refine wpList_store_mk rfl 31 (.tmp 1) (.tmp 12) rfl rfl w.heap.size rfl 31 #[.slice A n c, .slice B m k, .int .i64 left, .bool false] #[.slice A n c, .slice B m k, .int .i64 left2, .bool down2] rfl B3.out rfl (by simp [Value.oneCell']) rd_info (by simp [Value.cells]) ?_; intro w4 b4 m4; have B4 := Lib.hid b4; have Z4 := Lib.hid (Z3.out.mods m4 (by omega)); have M4 := Lib.hid (M3.out.trans2 m4 (fun i hi e => by subst e; exact Nat.lt_irrefl _ hi)); clear b4 m4))
      go_loopw [5] (fun x wr => ∃ (j : Nat) (A : Option Addr) (c : Nat), j ≤ m ∧ x = .int .i64 (j : Int) ∧ Blk wr w.heap.size 31 #[.slice A n c, .slice B m k, .int .i64 left2, .bool down2] ∧ Blk wr (w.heap.size + 1) 31 #[.slice none 0 0, .slice none 0 0, .int .i64 0, .bool false] ∧ Sl wr A c (strs (layAll d.L (d.W.take j))) ∧ (d.L ≠ [] → ∀ a, A = some a → a.block ≠ w.heap.size ∧ a.block ≠ w.heap.size + 1) ∧ Ty6 wr A 9 ∧ Mods Nil w wr) (fun x _ => m - (intOf x).toNat)
      case atStart => exact ⟨0, A, c, Nat.zero_le _, rfl, B4.out, Z4.out, H.out.sure.mods M4.out (fun _ _ h => h), (fun hne a ha => by have := H.out.sure.old (by simpa [strs] using hne) a ha; omega), H.out.tyA.mods M4.out (fun _ _ h => h), M4.out⟩
      case round =>
        obtain ⟨j, A5, c5, hj, rfl, hb, hz, hs, hA5, hty, hmo⟩ := hrel
        have HTY := Lib.hid hty
        have HB := Lib.hid hb
        have HZ := Lib.hid hz
        have HS := Lib.hid hs
        have HMO := Lib.hid hmo
        have HA5 := Lib.hid hA5
        obtain ⟨⟨y0, y1, y2, y3⟩, f0, f1, f2, f3⟩ := hb.four6
        clear hb hz hs hmo hA5 hty
        by_cases hlt : j < m
        · have hltI : (j : Int) < (m : Int) := by omega
          have hj1 : j + 1 ≤ m := hlt
          have hjE : m - (j + 1) < m - j := by omega
          have hpW : j < d.W.length := by rw [HMM.out]; exact hlt
          obtain ⟨⟨q, b⟩, hqb⟩ : ∃ x, d.W[j] = x := ⟨_, rfl⟩
          have HQB := Lib.hid (show d.W[j]? = some (q, b) by rw [List.getElem?_eq_getElem hpW, hqb])
          obtain ⟨bB, offB, rfl, e1, e2⟩ := (H.out.waits.mods HMO.out).at_ HQB.out
          have hqn : q < n := by have := (HOK.out.waits _ (List.getElem_mem hpW)).1; rw [hqb, HN.out] at this; exact this
          have HP := Lib.hid (fun W (h : Mods Nil wr W) => rput_any W (HS.out.mods h (fun _ _ h => h)) (n := n) (by rw [layAll_length]; exact HN.out) hlin hqn b)
          clear hqb
          clear hpW
          go_wp2_with fail
          refine wp_region_still_tail 14 (by kernel_rfl) (by kernel_rfl) ?_
          show wpStill _ _ wr.drew _ _ _
          simp only [List.take_succ_cons, List.take_zero, List.drop_succ_cons, List.drop_zero]
          iterate 14 still_step
          refine wpStill_nil ?_
          go_wp2_with (go_at_call 84; refine (HP.out _ (Mods.refl Nil wr).drew).mono ?_; rintro e w6 ⟨A6, c6, rfl, s6, m6, hA6, ty6⟩; have TY6 := Lib.hid ty6; clear ty6; have m66 : Mods Nil wr w6 := (Mods.refl Nil wr).drew.trans m6; have b6 := HB.out.mods m66 (fun h => h); obtain ⟨⟨t0, t1, t2, t3⟩, u0, u1, u2, u3⟩ := b6.four6; have hbx : w.heap.size + 1 < wr.heap.size := HZ.out.lt; have S6 := Lib.hid s6; have B6 := Lib.hid b6; have Z6 := Lib.hid (HZ.out.mods m66 (fun h => h)); have M6 := Lib.hid (HMO.out.trans m66); have HA6 : Hid (∀ a, A6 = some a → a.block ≠ w.heap.size ∧ a.block ≠ w.heap.size + 1) := (fun a ha => by have h6 := hA6 a ha; have : wr.heap.size ≤ a.block := h6; omega); clear s6 m6 hA6 m66 b6 hbx)
          have hset : Mods (fun k => k = w.heap.size) w6 (w6.setCell ⟨w.heap.size, 0, none⟩ (.slice A6 n c6)) := Mods.setCell (S := fun k => k = w.heap.size) (p := ⟨w.heap.size, 0, none⟩) (Mods.refl _ _) (fun _ => rfl) _
          have hL : layAll d.L (d.W.take (j + 1)) = (layAll d.L (d.W.take j)).set q b := by
            have := List.getElem?_eq_some_iff.1 HQB.out
            rw [List.take_succ_eq_append_getElem this.1, this.2, layAll_snoc]
          refine ⟨⟨j + 1, A6, c6, hj1, by go_num, by simpa using B6.out.set_ 0 (.slice A6 n c6), Z6.out.mods hset (by omega), ?_, fun _ => HA6.out, TY6.out.mods hset (fun a ha e => (HA6.out a ha).1 e), M6.out.setNew (p := ⟨w.heap.size, 0, none⟩) (Nat.le_refl _) _⟩, by simp [intOf]; omega⟩
          rw [hL]
          exact S6.out.mods hset (fun a ha e => (HA6.out a ha).1 e)
        · obtain rfl : j = m := by omega
          have hset : Mods (fun k => k = w.heap.size) wr (wr.setCell ⟨w.heap.size, 1, none⟩ (.slice none 0 0)) := Mods.setCell (S := fun k => k = w.heap.size) (p := ⟨w.heap.size, 1, none⟩) (Mods.refl _ _) (fun _ => rfl) _
          have b7 := HB.out.set_ 1 (.slice none 0 0)
          simp only [List.setIfInBounds_toArray, List.set_cons_succ, List.set_cons_zero] at b7
          obtain ⟨⟨v0, v1, v2, v3⟩, -⟩ := b7.four6
          have Z7 := Lib.hid (HZ.out.mods hset (by omega))
          have M7 := Lib.hid (HMO.out.setNew (p := ⟨w.heap.size, 1, none⟩) (Nat.le_refl _) (.slice none 0 0))
          have e : layAll d.L (d.W.take j) = layAll d.L d.W := by rw [List.take_of_length_le (by rw [HMM.out]; exact Nat.le_refl _)]
          rw [e] at HS
          have S7 : Hid (Sl (wr.setCell ⟨w.heap.size, 1, none⟩ (.slice none 0 0)) A5 c5 (strs (layAll d.L d.W))) := Lib.hid (HS.out.mods' hset (fun hne a ha he => (HA5.out (ne_laid hne) a ha).1 he))
          have TY7 := Lib.hid (HTY.out.mods hset (HTY.out.of_ne HB.out (by decide)))
          clear hset b7 e
          go_wp2_with (refine wpList_store_mk rfl 31 (.tmp 2) (.tmp 42) rfl rfl (w.heap.size + 1) rfl 31 #[.slice none 0 0, .slice none 0 0, .int .i64 0, .bool false] #[.slice A5 n c5, .slice none 0 0, .int .i64 left2, .bool down2] rfl Z7.out rfl (by simp [Value.oneCell']) rd_info (by simp [Value.cells]) ?_; intro w8 b8 m8; obtain ⟨⟨s0, s1, s2, s3⟩, -⟩ := b8.four6; have M8 := Lib.hid (M7.out.trans2 m8 (fun i hi e => by subst e; omega)); have S8 : Hid (Sl w8 A5 c5 (strs (layAll d.L d.W))) := (S7.out.mods' m8 (fun hne a ha he => (HA5.out (ne_laid hne) a ha).2 he)); have TY8 := Lib.hid (TY7.out.mods m8 (TY7.out.of_ne Z7.out (by decide))); clear b8 m8)
          refine bodyPost_ret (v := .tuple #[.agg #[.slice A5 n c5, .slice none 0 0, .int .i64 left2, .bool down2], .int .i64 0]) (by simp [results, Try.results76, go_sem, s0, s1, s2, s3]) rfl ?_
          exact ⟨A5, c5, none, 0, by simp only [layAll_length, HN.out, HL2.out, HD2.out, List.length_nil], ⟨S8.out, Sl2.none_ _, TY8.out, Ty6.none_ _ _⟩, M8.out⟩
    · rw [if_pos (by rw [herr]; exact hc)]
      have hc' : (err != 0) = true := by simpa using hc
      rw [herr]
      clear CL hl2 hd2 herr hc
      go_enter Try.func76, Try.ntmps76
      obtain ⟨b1, z1⟩ := two_rd (w := w) (a := .slice A n c) (b := .slice B m k) (c := .int .i64 left) (e := .bool false) (Mods.refl Nil _)
      obtain ⟨⟨x0, x1, x2, x3⟩, -⟩ := b1.four6
      have B1 := Lib.hid b1
      have Z1 := Lib.hid z1
      clear b1 z1
      go_wp2_with (first
        | (go_at_call 82; refine (HC.out _).mono ?_; rintro e w3 ⟨rfl, m3⟩; have M3 := Lib.hid (M1.out.trans m3); have B3 := Lib.hid (B1.out.mods m3 (fun h => h)); have Z3 := Lib.hid (Z1.out.mods m3 (fun h => h)); clear m3)
        | (refine wpList_store_mk rfl 31 (.tmp 1) (.tmp 12) rfl rfl w.heap.size rfl 31 #[.slice A n c, .slice B m k, .int .i64 left, .bool false] #[.slice A n c, .slice B m k, .int .i64 left2, .bool down2] rfl B3.out rfl (by simp [Value.oneCell']) rd_info (by simp [Value.cells]) ?_; intro w4 b4 m4; have Z4 := Lib.hid (Z3.out.mods m4 (by omega)); have M4 := Lib.hid (M3.out.trans2 m4 (fun i hi e => by subst e; exact Nat.lt_irrefl _ hi)); obtain ⟨⟨t0, t1, t2, t3⟩, -⟩ := b4.four6; clear b4 m4)
        | (refine wpList_store_mk rfl 31 (.tmp 2) (.tmp 16) rfl rfl (w.heap.size + 1) rfl 31 #[.slice none 0 0, .slice none 0 0, .int .i64 0, .bool false] #[.slice A n c, .slice B m k, .int .i64 left2, .bool down2] rfl Z4.out rfl (by simp [Value.oneCell']) rd_info (by simp [Value.cells]) ?_; intro w8 b8 m8; obtain ⟨⟨s0, s1, s2, s3⟩, -⟩ := b8.four6; have M8 := Lib.hid (M4.out.trans2 m8 (fun i hi e => by subst e; omega)); clear b8 m8))
      refine bodyPost_ret (v := .tuple #[.agg #[.slice A n c, .slice B m k, .int .i64 left2, .bool down2], .int .i64 err]) (by simp [results, Try.results76, go_sem, s0, s1, s2, s3]) rfl ?_
      exact ⟨A, c, B, k, by simp only [HCL.out.1, HCL.out.2, HN.out, HMM.out, HL2.out, HD2.out], (H.out.of HCL.out.1 HCL.out.2).mods M8.out, M8.out⟩
end Go.Proofs.Ytdllgmhipenidaa
end

section
/- The reference of layer 6: Crash. -/
namespace Go.Proofs.Ytdllgmhipenidaa
set_option maxRecDepth 100000
open Go.RowKit
set_option linter.unusedVariables false

theorem crashF_take : ∀ (W : List (Nat × List UInt8)) (L : List (List UInt8)) (ps : List UInt8), crashF L (W.take ps.length) ps = crashF L W ps
  | [], L, ps => by simp
  | x :: W, L, [] => by rw [crashF_nil, crashF_nil]
  | x :: W, L, p :: ps => by
    rw [List.length_cons, List.take_succ_cons, crashF, crashF, List.tail_cons, crashF_take W _ ps]
theorem ne_torn {L : List (List UInt8)} {W : List (Nat × List UInt8)} {ps : List UInt8} (h : strs (crashF L W ps) ≠ []) : L ≠ [] := by
  rintro rfl
  refine h (List.eq_nil_of_length_eq_zero ?_)
  rw [strs_length, crashF_length]
  rfl

set_option maxHeartbeats 6400000 in
theorem r6crash_any (w : World) {A B : Option Addr} {n c m k : Nat} {left : Int} {down : Bool} {d : PD} (h : RdAt w A c B k d) (hok : d.Ok) (hn : d.L.length = n) (hm : d.W.length = m) (hlim : m ≤ 1000) (hlin : n ≤ 1000) {pick : List UInt8} {p : Nat} (hp : pick.length = p) (hpl : p ≤ 1000) :
    Calls Try.prog 30 #[.agg #[.slice A n c, .slice B m k, .int .i64 left, .bool down], .string (strOf pick)] w fun e w' => ∃ A' c', e = .returned (.agg #[.slice A' n c', .slice none 0 0, .int .i64 (-1), .bool false]) ∧ Sl w' A' c' (strs (crashL d.L d.W pick)) ∧ Mods Nil w w' ∧ Ty6 w' A' 9 := by
  have M1 := Lib.hid (((Mods.refl Nil w).alloc (.cells #[.slice A n c, .slice B m k, .int .i64 left, .bool down] 31)).alloc (.cells #[.slice none 0 0, .slice none 0 0, .int .i64 0, .bool false] 31))
  have H := Lib.hid h
  have HN := Lib.hid hn
  have HMM := Lib.hid hm
  have HPP := Lib.hid hp
  have HOK := Lib.hid hok
  have hsp : (strOf pick).size = p := by simp [hp]
  clear h hn hm hok hp
  go_enter Try.func30, Try.ntmps30
  obtain ⟨b1, z1⟩ := two_rd (w := w) (a := .slice A n c) (b := .slice B m k) (c := .int .i64 left) (e := .bool down) (Mods.refl Nil _)
  have B1 := Lib.hid b1
  have Z1 := Lib.hid z1
  clear b1 z1
  go_wp2_with fail
  go_loopw [5] (fun x wr => ∃ (j : Nat) (A : Option Addr) (c : Nat), (j ≤ m ∧ j ≤ p) ∧ x = .int .i64 (j : Int) ∧ Blk wr w.heap.size 31 #[.slice A n c, .slice B m k, .int .i64 left, .bool down] ∧ Blk wr (w.heap.size + 1) 31 #[.slice none 0 0, .slice none 0 0, .int .i64 0, .bool false] ∧ Sl wr A c (strs (d.torn pick j).L) ∧ (d.L ≠ [] → ∀ a, A = some a → a.block ≠ w.heap.size ∧ a.block ≠ w.heap.size + 1) ∧ Ty6 wr A 9 ∧ Mods Nil w wr) (fun x _ => m - (intOf x).toNat)
  case atStart => exact ⟨0, A, c, ⟨Nat.zero_le _, Nat.zero_le _⟩, rfl, B1.out, Z1.out, H.out.sure.mods M1.out (fun _ _ h => h), (fun hne a ha => by have := H.out.sure.old (by simpa [strs] using hne) a ha; omega), H.out.tyA.mods M1.out (fun _ _ h => h), M1.out⟩
  case round =>
    obtain ⟨j, A5, c5, ⟨hj, hjp⟩, rfl, hb, hz, hs, hA5, hty, hmo⟩ := hrel
    have HTY := Lib.hid hty
    have HB := Lib.hid hb
    have HZ := Lib.hid hz
    have HS := Lib.hid hs
    have HMO := Lib.hid hmo
    have HA5 := Lib.hid hA5
    obtain ⟨⟨y0, y1, y2, y3⟩, f0, f1, f2, f3⟩ := hb.four6
    have hbx : w.heap.size + 1 < wr.heap.size := hz.lt
    have hlL := Lib.hid (show (d.torn pick j).L.length = n by unfold PD.torn; dsimp only; rw [crashF_length]; exact HN.out)
    clear hb hz hs hmo hA5 hty
    by_cases hlt : j < m ∧ j < p
    · obtain ⟨hlt, hltp⟩ := hlt
      have hltI : (j : Int) < (m : Int) := by omega
      have hltJ : (j : Int) < (p : Int) := by omega
      have hj1 : j + 1 ≤ m ∧ j + 1 ≤ p := ⟨hlt, hltp⟩
      have hjE : m - (j + 1) < m - j := by omega
      have hpW : j < d.W.length := by rw [HMM.out]; exact hlt
      have hjp2 : j < pick.length := by rw [HPP.out]; exact hltp
      obtain ⟨⟨q, b⟩, hqb⟩ : ∃ x, d.W[j] = x := ⟨_, rfl⟩
      have HQB := Lib.hid (show d.W[j]? = some (q, b) by rw [List.getElem?_eq_getElem hpW, hqb])
      have hqn : q < n ∧ b.length = 64 := by have := HOK.out.waits _ (List.getElem_mem hpW); rw [hqb, HN.out] at this; exact this
      obtain ⟨hqn, hbl⟩ := hqn
      have hqI : (q : Int) < (n : Int) := by omega
      obtain ⟨bB, offB, rfl, e1, e2⟩ := (H.out.waits.mods HMO.out).at_ HQB.out
      obtain ⟨L5, hL5⟩ : ∃ L5, (d.torn pick j).L = L5 := ⟨_, rfl⟩
      have hqL : q < L5.length := by rw [← hL5, hlL.out]; exact hqn
      rw [hL5] at HS
      obtain ⟨bA, offA, rfl, -, hcA⟩ := HS.out.at_ (by rw [strs_length]; omega)
      have ho : ∃ old, L5[q]? = some old ∧ old.length = 64 := by
        have h5 : ∀ b ∈ L5, b.length = 64 := by
          have := crashL_ok d.L (d.W.take j) pick HOK.out.sure (fun x hx => HOK.out.waits x (List.mem_of_mem_take hx))
          rw [← crashF_eq] at this
          rw [← hL5]
          exact this
        exact ⟨L5[q], List.getElem?_eq_getElem hqL, h5 _ (List.getElem_mem hqL)⟩
      obtain ⟨old, ho, hol⟩ := ho
      have cA := hcA q _ (strs_at ho)
      obtain ⟨f, hf⟩ : ∃ f, frontN pick j = f := ⟨_, rfl⟩
      have hf64 : f ≤ 64 := by rw [← hf]; exact frontN_le _ _
      have hfI : (f : Int) ≤ 64 := by omega
      have hf0 : (0 : Int) ≤ (f : Int) := by omega
      have hrem := (show Int.tmod ((pick[j]'hjp2).toNat : Int) 65 = (((pick[j]'hjp2).toNat % 65 : Nat) : Int) from by rw [Int.tmod_eq_emod_of_nonneg (by omega)]; omega)
      have hfe : (pick[j]'hjp2).toNat % 65 = f := by rw [← hf]; unfold frontN; simp [hjp2]
      rw [hfe] at hrem
      have hidx := fun W => index_strOf W pick j hjp2
      have hp256 := (pick[j]'hjp2).toNat_lt
      have hw : IntKind.i64.wrap ((pick[j]'hjp2).toNat : Int) = ((pick[j]'hjp2).toNat : Int) := by rw [IntKind.wrap_i64]; omega
      have hw2 : IntKind.i64.wrap (f : Int) = (f : Int) := by rw [IntKind.wrap_i64]; omega
      generalize (pick[j]'hjp2).toNat = y at *
      have hsb : (strOf b).size = 64 := by simp [hbl]
      have hso : (strOf old).size = 64 := by simp [hol]
      have x1 : (strOf b).extract 0 f = strOf (b.take f) := by rw [strOf_extract]; simp
      have x2 : (strOf old).extract f 64 = strOf (old.drop f) := by rw [strOf_extract, List.take_of_length_le (by simp [hol])]
      have x3 := fun W => string_add Try.prog (b.take f) (old.drop f) (by simp [hbl, hol]; omega) W
      have x4 : strOf (b.take f) ++ strOf (old.drop f) = strOf (tear f b old) := by rw [strOf_append]; rfl
      have HNX := Lib.hid (PD.torn_next (ps := pick) HQB.out)
      rw [hf, hL5] at HNX
      have HO := Lib.hid ho
      have HP := Lib.hid (fun W (h : Mods Nil wr W) => rput_any W (HS.out.mods h (fun _ _ h => h)) (n := n) (by rw [← hL5]; exact hlL.out) hlin hqn (tear f b old))
      have e1' := (World.cell?_of_block (((Mods.refl Nil wr).alloc (.cells #[.int .i64 (q : Int), .string (strOf b)] 138)).block bB (World.block_lt_of_cell? wr _ e1) (fun h => h))).trans e1
      have cA' := (World.cell?_of_block (((Mods.refl Nil wr).alloc (.cells #[.int .i64 (q : Int), .string (strOf b)] 138)).block bA (World.block_lt_of_cell? wr _ cA) (fun h => h))).trans cA
      clear hqb hcA hL5 ho hfe hf hp256
      clear hpW
      have hbx0 : w.heap.size < wr.heap.size := by omega
      go_wp2_with fail
      refine wp_region_still_tail 17 (by kernel_rfl) (by kernel_rfl) ?_
      show wpStill _ _ (wr.alloc (.cells #[.int .i64 (q : Int), .string (strOf b)] 138)).drew _ _ _
      simp only [List.take_succ_cons, List.take_zero, List.drop_succ_cons, List.drop_zero]
      iterate 17 still_step
      refine wpStill_nil ?_
      go_wp2_with (go_at_call 84; refine (HP.out _ ((Mods.refl Nil wr).alloc _).drew).mono ?_; rintro e w6 ⟨A6, c6, rfl, s6, m6, hA6, ty6⟩; have TY6 := Lib.hid ty6; clear ty6; have m66 : Mods Nil wr w6 := ((Mods.refl Nil wr).alloc _).drew.trans m6; have b6 := HB.out.mods m66 (fun h => h); obtain ⟨⟨t0, t1, t2, t3⟩, u0, u1, u2, u3⟩ := b6.four6; have S6 := Lib.hid s6; have B6 := Lib.hid b6; have Z6 := Lib.hid (HZ.out.mods m66 (fun h => h)); have M6 := Lib.hid (HMO.out.trans m66); have HA6 : Hid (∀ a, A6 = some a → a.block ≠ w.heap.size ∧ a.block ≠ w.heap.size + 1) := (fun a ha => by have h6 := hA6 a ha; have : wr.heap.size < a.block := (by simp at h6; omega); omega); clear s6 m6 hA6 m66 b6)
      have hset : Mods (fun k => k = w.heap.size) w6 (w6.setCell ⟨w.heap.size, 0, none⟩ (.slice A6 n c6)) := Mods.setCell (S := fun k => k = w.heap.size) (p := ⟨w.heap.size, 0, none⟩) (Mods.refl _ _) (fun _ => rfl) _
      refine ⟨⟨j + 1, A6, c6, hj1, by go_num, by simpa using B6.out.set_ 0 (.slice A6 n c6), Z6.out.mods hset (by omega), ?_, fun _ => HA6.out, TY6.out.mods hset (fun a ha e => (HA6.out a ha).1 e), M6.out.setNew (p := ⟨w.heap.size, 0, none⟩) (Nat.le_refl _) _⟩, by simp [intOf]; omega⟩
      rw [HNX.out, show L5.getD q [] = old from by rw [List.getD_eq_getElem?_getD, HO.out]; rfl]
      exact S6.out.mods hset (fun a ha e => (HA6.out a ha).1 e)
    · have hfin : (d.torn pick j).L = crashL d.L d.W pick := by
        unfold PD.torn
        dsimp only
        by_cases hjm : j = m
        · rw [List.take_of_length_le (by rw [HMM.out]; omega), crashF_eq]
        · have hjp3 : j = pick.length := by rw [HPP.out]; omega
          rw [hjp3, crashF_take, crashF_eq]
      rw [hfin] at HS
      clear hfin
      by_cases hjm : j = m
      · subst hjm
        have hset : Mods (fun k => k = w.heap.size + 1) wr wr := Mods.refl _ _
        clear hset
        go_wp2_with (refine wpList_store_mk rfl 31 (.tmp 4) (.tmp 52) rfl rfl (w.heap.size + 1) rfl 31 #[.slice none 0 0, .slice none 0 0, .int .i64 0, .bool false] #[.slice A5 n c5, .slice none 0 0, .int .i64 (-1), .bool false] rfl HZ.out rfl (by simp [Value.oneCell']) rd_info (by simp [Value.cells]) ?_; intro w8 b8 m8; obtain ⟨⟨s0, s1, s2, s3⟩, -⟩ := b8.four6; have M8 := Lib.hid (HMO.out.trans2 m8 (fun i hi e => by subst e; omega)); have S8 : Hid (Sl w8 A5 c5 (strs (crashL d.L d.W pick))) := (HS.out.mods' m8 (fun hne a ha he => (HA5.out (by rw [← crashF_eq] at hne; exact ne_torn hne) a ha).2 he)); have TY8 := Lib.hid (HTY.out.mods m8 (HTY.out.of_ne HZ.out (by decide))); clear b8 m8)
        refine bodyPost_ret (v := .agg #[.slice A5 n c5, .slice none 0 0, .int .i64 (-1), .bool false]) (by simp [results, Try.results30, go_sem, s0, s1, s2, s3]) rfl ?_
        exact ⟨A5, c5, rfl, S8.out, M8.out, TY8.out⟩
      · have hjp3 : j = p := by omega
        subst hjp3
        have hjmI : (j : Int) < (m : Int) := by omega
        have hset : Mods (fun k => k = w.heap.size + 1) wr wr := Mods.refl _ _
        clear hset
        go_wp2_with (refine wpList_store_mk rfl 31 (.tmp 4) (.tmp 52) rfl rfl (w.heap.size + 1) rfl 31 #[.slice none 0 0, .slice none 0 0, .int .i64 0, .bool false] #[.slice A5 n c5, .slice none 0 0, .int .i64 (-1), .bool false] rfl HZ.out rfl (by simp [Value.oneCell']) rd_info (by simp [Value.cells]) ?_; intro w8 b8 m8; obtain ⟨⟨s0, s1, s2, s3⟩, -⟩ := b8.four6; have M8 := Lib.hid (HMO.out.trans2 m8 (fun i hi e => by subst e; omega)); have S8 : Hid (Sl w8 A5 c5 (strs (crashL d.L d.W pick))) := (HS.out.mods' m8 (fun hne a ha he => (HA5.out (by rw [← crashF_eq] at hne; exact ne_torn hne) a ha).2 he)); have TY8 := Lib.hid (HTY.out.mods m8 (HTY.out.of_ne HZ.out (by decide))); clear b8 m8)
        refine bodyPost_ret (v := .agg #[.slice A5 n c5, .slice none 0 0, .int .i64 (-1), .bool false]) (by simp [results, Try.results30, go_sem, s0, s1, s2, s3]) rfl ?_
        exact ⟨A5, c5, rfl, S8.out, M8.out, TY8.out⟩
end Go.Proofs.Ytdllgmhipenidaa
end
