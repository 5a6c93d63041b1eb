/- ConfGets' walk. -/
import Derived.Test.YtcncgjiaefjmhaaCmd10
import Derived.Test.YtcncgjiaefjmhaaRef10i
import Derived.Test.YtcncgjiaefjmhaaRef10j
import Derived.Deep.RegionHeld
namespace Go.Proofs.Ytcncgjiaefjmhaa
set_option maxRecDepth 1000000
open Go.RowKit
set_option linter.unusedVariables false
set_option linter.unusedSimpArgs false

theorem gC_rows (xs : List UInt8) : (gC xs).rows.length ≤ 8 := by
  by_cases h : gE xs = 0
  · obtain ⟨-, hc, -, -⟩ := put_get h
    exact rowsB_8 (chkC_zero.1 hc).1
  · rw [gC_bad h]; simp
theorem pws_len {L : List RowP} : (pws L).length = L.length := by simp [pws]
set_option maxHeartbeats 8000000 in
theorem confGets_walk (w : World) {A : Option Addr} {c n : Nat} {xs : List UInt8} (hn : xs.length = n) (hs : Sl w A c (bts xs)) :
    Calls Try.prog 3 #[.slice A n c] w fun e w' => e = .returned (.bool true) ∧ Mods Nil w w' := by
  have HS := Lib.hid hs
  have HN := Lib.hid hn
  by_cases hbig : 300 < n
  · have hb : (300 : Int) < (n : Int) := by omega
    clear hs hn
    go_enter Try.func3, Try.ntmps3
    go_wp2_with (go_at_call 10; refine (awake10_any _).mono ?_; rintro e w1 ⟨rfl, m1⟩; have M1 := Lib.hid m1; clear m1)
    go_ret
    exact ⟨rfl, M1.out⟩
  have hb : (n : Int) ≤ 300 := by omega
  have HG := Lib.hid (fun W (h : Sl W A c (bts xs)) => cget_any hn h (by omega))
  have HR := Lib.hid (fun W => r10get_any W (xs := xs) (by omega))
  have HC8 := Lib.hid (gC_rows xs)
  generalize gE xs = E at HG HR
  generalize gC xs = C at HG HR HC8
  have hEE : (E == E) = true := by simp
  clear hs hn hbig
  go_enter Try.func3, Try.ntmps3
  go_wp2_with (first
    | (go_at_call 10; refine (awake10_any _).mono ?_; rintro e w1 ⟨rfl, m1⟩; have M1 := Lib.hid m1; have S1 := Lib.hid (HS.out.mods m1 (fun _ _ h => h)); clear m1)
    | (go_at_call 11; refine (HG.out _ S1.out).mono ?_; rintro e w2 ⟨A2, n2, k2, rfl, i2, m2⟩; obtain ⟨L2, hL2, hR2, -⟩ := i2; have HL2 := Lib.hid hL2; have HR2 := Lib.hid hR2; have M2 := Lib.hid ((M1.out.trans m2).alloc (.cells (CV C A2 n2 k2) 27)); have B2 := Lib.hid (Blk.new w2 27 (CV C A2 n2 k2)); have q1 := conv10 HN.out (S1.out.mods (m2.alloc (.cells (CV C A2 n2 k2) 27)) (fun _ _ h => h)); clear m2 hL2 hR2)
    | (go_at_call 12; refine (HR.out _).mono ?_; rintro e w3 ⟨A3, n3, k3, rfl, ⟨L3, hL3, hR3⟩, m3⟩; have HL3 := Lib.hid hL3; have M3 := Lib.hid ((M2.out.trans m3).alloc (.cells (CC C A3 n3 k3) 33)); have HR3 := Lib.hid (hR3.mods ((Mods.refl Nil w3).alloc (.cells (CC C A3 n3 k3) 33))); have HR23 := Lib.hid (HR2.out.mods ((((Mods.refl Nil w2).alloc (.cells (CV C A2 n2 k2) 27)).trans m3).alloc (.cells (CC C A3 n3 k3) 33))); have B23 := Lib.hid ((B2.out.mods m3 (fun h => h)).alloc (.cells (CC C A3 n3 k3) 33)); have B3 := Lib.hid (Blk.new w3 33 (CC C A3 n3 k3)); clear m3 hL3 hR3))
  have hn2 : n2 ≤ 100 := by have h1 := HC8.out; rw [HL2.out, pws_len, HR2.out.len] at h1; omega
  have hn3 : n3 ≤ 100 := by have h1 := HC8.out; rw [HL3.out, pws_len, Rws.len HR3.out] at h1; omega
  obtain ⟨W6, hW6⟩ : ∃ W6, w3.alloc (.cells (CC C A3 n3 k3) 33) = W6 := ⟨_, rfl⟩
  rw [hW6] at M3 HR3 HR23 B23 B3 ⊢
  clear hW6 q1
  have b0 : ∀ V, Mods Nil W6 V → V.cell? ⟨w2.heap.size, 0, none⟩ = some (.int .i64 C.op) := fun V hV => (cv_seven (B23.out.mods hV (fun h => h))).1
  have b1 : ∀ V, Mods Nil W6 V → V.cell? ⟨w2.heap.size, 1, none⟩ = some (.int .u64 (C.client : Int)) := fun V hV => (cv_seven (B23.out.mods hV (fun h => h))).2.1
  have b2 : ∀ V, Mods Nil W6 V → V.cell? ⟨w2.heap.size, 2, none⟩ = some (.int .u64 (C.seq : Int)) := fun V hV => (cv_seven (B23.out.mods hV (fun h => h))).2.2.1
  have b3 : ∀ V, Mods Nil W6 V → V.cell? ⟨w2.heap.size, 3, none⟩ = some (.int .i64 C.shard) := fun V hV => (cv_seven (B23.out.mods hV (fun h => h))).2.2.2.1
  have b4 : ∀ V, Mods Nil W6 V → V.cell? ⟨w2.heap.size, 4, none⟩ = some (.int .i64 C.segs) := fun V hV => (cv_seven (B23.out.mods hV (fun h => h))).2.2.2.2.1
  have b5 : ∀ V, Mods Nil W6 V → V.cell? ⟨w2.heap.size, 5, none⟩ = some (.int .u64 (C.pos : Int)) := fun V hV => (cv_seven (B23.out.mods hV (fun h => h))).2.2.2.2.2.1
  have b6 : ∀ V, Mods Nil W6 V → V.cell? ⟨w2.heap.size, 6, none⟩ = some (.slice A2 n2 k2) := fun V hV => (cv_seven (B23.out.mods hV (fun h => h))).2.2.2.2.2.2
  have c0 : ∀ V, Mods Nil W6 V → V.cell? ⟨w3.heap.size, 0, none⟩ = some (.int .i64 C.op) := fun V hV => (B3.out.mods hV (fun h => h)).seven.1
  have c1 : ∀ V, Mods Nil W6 V → V.cell? ⟨w3.heap.size, 1, none⟩ = some (.int .u64 (C.client : Int)) := fun V hV => (B3.out.mods hV (fun h => h)).seven.2.1
  have c2 : ∀ V, Mods Nil W6 V → V.cell? ⟨w3.heap.size, 2, none⟩ = some (.int .u64 (C.seq : Int)) := fun V hV => (B3.out.mods hV (fun h => h)).seven.2.2.1
  have c3 : ∀ V, Mods Nil W6 V → V.cell? ⟨w3.heap.size, 3, none⟩ = some (.int .i64 C.shard) := fun V hV => (B3.out.mods hV (fun h => h)).seven.2.2.2.1
  have c4 : ∀ V, Mods Nil W6 V → V.cell? ⟨w3.heap.size, 4, none⟩ = some (.int .i64 C.segs) := fun V hV => (B3.out.mods hV (fun h => h)).seven.2.2.2.2.1
  have c5 : ∀ V, Mods Nil W6 V → V.cell? ⟨w3.heap.size, 5, none⟩ = some (.int .u64 (C.pos : Int)) := fun V hV => (B3.out.mods hV (fun h => h)).seven.2.2.2.2.2.1
  have c6 : ∀ V, Mods Nil W6 V → V.cell? ⟨w3.heap.size, 6, none⟩ = some (.slice A3 n3 k3) := fun V hV => (B3.out.mods hV (fun h => h)).seven.2.2.2.2.2.2
  have HCM := Lib.hid (fun V (hV : Mods Nil W6 V) => cmdOf_any V C HL2.out (HR23.out.mods hV) hn2)
  have HSA := Lib.hid (fun V (hV : Mods Nil W6 V) A7 n7 k7 (L7 : List RowP) (h7 : C.rows = pws L7) (r7 : Rws V A7 n7 k7 L7) (hn7 : n7 ≤ 100) => r10same_any V C C h7 HL3.out r7 (HR3.out.mods hV) hn7 hn3)
  go_region_held (fun V => Mods Nil W6 V) (first | exact (Mods.refl Nil W6).drew | assumption) (first
    | (go_at_call 14; refine (HCM.out _ (by first | exact (Mods.refl Nil W6).drew | assumption)).mono ?_; rintro e w7 ⟨A7, n7, k7, rfl, ⟨L7, h7, r7⟩, m7⟩; have hq7 : Mods Nil W6 w7 := Mods.trans (by first | exact (Mods.refl Nil W6).drew | assumption) m7; have hn7 : n7 ≤ 100 := (by have h1 := HC8.out; rw [h7, pws_len, r7.len] at h1; omega); have H7 := Lib.hid h7; have R7 := Lib.hid r7; have HN7 := Lib.hid hn7; clear h7 r7 m7 hn7)
    | (go_at_call 13; refine (HSA.out _ hq7 _ _ _ _ H7.out R7.out HN7.out).mono ?_; rintro e w8 ⟨r8, rfl, h8, m8⟩; obtain rfl : r8 = true := h8.2 rfl; have hq8 : Mods Nil W6 w8 := Mods.trans hq7 m8; clear h8 m8))
  all_goals
    go_wp2
    go_ret
    exact ⟨rfl, M3.out.trans hq8⟩
end Go.Proofs.Ytcncgjiaefjmhaa
