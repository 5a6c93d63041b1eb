/- ConfPuts' walk; printed by wip/tools/gen10/genputs.py. -/
import Derived.Test.YtcncgjiaefjmhaaCmd10
import Derived.Test.YtcncgjiaefjmhaaRef10f
import Derived.Test.YtcncgjiaefjmhaaRef10j
import Derived.Deep.RegionHeld
namespace Go.Proofs.Ytcncgjiaefjmhaa
set_option maxRecDepth 1000000
open Go.RowKit
set_option linter.unusedVariables false
set_option linter.unusedSimpArgs false

theorem refPut_any (W : World) (c : PC) {A : Option Addr} {n k : Nat} {L : List RowP} (h1 : c.rows = pws L) (h : Rws W A n k L) (hok : c.ok) :
    Calls Try.prog 17 #[.agg (CC c A n k)] W fun e w' => e = .returned (.tuple #[.string (strOf (if chkC c = 0 then putC c else [])), .int .i64 (chkC c)]) ∧ Mods Nil W w' := by
  have h2 := r10put_any W (op := c.op) (shard := c.shard) (segs := c.segs) (client := c.client) (seq := c.seq) (pos := c.pos) h (by rw [← h1]; exact hok)
  rw [← h1] at h2
  exact h2
theorem refCheck_any (W : World) (c : PC) {A : Option Addr} {n k : Nat} {L : List RowP} (h1 : c.rows = pws L) (h : Rws W A n k L) :
    Calls Try.prog 19 #[.agg (CC c A n k)] W fun e w' => e = .returned (.int .i64 (chkC c)) ∧ Mods Nil W w' := by
  have h2 := r10check_any W (op := c.op) (shard := c.shard) (segs := c.segs) (client := c.client) (seq := c.seq) (pos := c.pos) h
  rw [← h1] at h2
  exact h2
theorem pws_len2 {L : List RowP} : (pws L).length = L.length := by simp [pws]
theorem rows_n2 {c : PC} {w w' : World} {A A' : Option Addr} {n k n' k' : Nat} {L L' : List RowP} (hr : c.rows = pws L) (hR : Rws w A n k L) (hr' : c.rows = pws L') (hR' : Rws w' A' n' k' L') (hn : n ≤ 100) : n' ≤ 100 := by
  have h2 : (pws L').length = (pws L).length := by rw [← hr', hr]
  rw [pws_len2, pws_len2, hR'.len, hR.len] at h2
  omega
set_option maxHeartbeats 8000000 in
theorem confPuts_walk (w : World) {cm : PC} {A : Option Addr} {n k : Nat} {L : List RowP} (hr : cm.rows = pws L) (hR : Rws w A n k L) (hok : shortB cm = true → cm.ok) :
    Calls Try.prog 4 #[.agg (CV cm A n k)] w fun e w' => e = .returned (.bool true) ∧ Mods Nil w w' := by
  have AB := Lib.hid (Blk.new w 27 (CV cm A n k))
  have MM := Lib.hid ((Mods.refl Nil w).alloc (.cells (CV cm A n k) 27))
  have HSH := Lib.hid (fun W (hW : Mods Nil (w.alloc (.cells (CV cm A n k) 27)) W) => short_any W cm hr (hR.mods (MM.out.trans hW)))
  have b0 : ∀ V, Mods Nil (w.alloc (.cells (CV cm A n k) 27)) V → V.cell? ⟨w.heap.size, 0, none⟩ = some (.int .i64 cm.op) := fun V hV => (cv_seven (AB.out.mods hV (fun h => h))).1
  have b1 : ∀ V, Mods Nil (w.alloc (.cells (CV cm A n k) 27)) V → V.cell? ⟨w.heap.size, 1, none⟩ = some (.int .u64 (cm.client : Int)) := fun V hV => (cv_seven (AB.out.mods hV (fun h => h))).2.1
  have b2 : ∀ V, Mods Nil (w.alloc (.cells (CV cm A n k) 27)) V → V.cell? ⟨w.heap.size, 2, none⟩ = some (.int .u64 (cm.seq : Int)) := fun V hV => (cv_seven (AB.out.mods hV (fun h => h))).2.2.1
  have b3 : ∀ V, Mods Nil (w.alloc (.cells (CV cm A n k) 27)) V → V.cell? ⟨w.heap.size, 3, none⟩ = some (.int .i64 cm.shard) := fun V hV => (cv_seven (AB.out.mods hV (fun h => h))).2.2.2.1
  have b4 : ∀ V, Mods Nil (w.alloc (.cells (CV cm A n k) 27)) V → V.cell? ⟨w.heap.size, 4, none⟩ = some (.int .i64 cm.segs) := fun V hV => (cv_seven (AB.out.mods hV (fun h => h))).2.2.2.2.1
  have b5 : ∀ V, Mods Nil (w.alloc (.cells (CV cm A n k) 27)) V → V.cell? ⟨w.heap.size, 5, none⟩ = some (.int .u64 (cm.pos : Int)) := fun V hV => (cv_seven (AB.out.mods hV (fun h => h))).2.2.2.2.2.1
  have b6 : ∀ V, Mods Nil (w.alloc (.cells (CV cm A n k) 27)) V → V.cell? ⟨w.heap.size, 6, none⟩ = some (.slice A n k) := fun V hV => (cv_seven (AB.out.mods hV (fun h => h))).2.2.2.2.2.2
  by_cases hsb : shortB cm = true
  rotate_left
  · have hsb' : shortB cm = false := by simpa using hsb
    rw [hsb'] at HSH
    clear hr hR hok hsb hsb'
    go_enter Try.func4, Try.ntmps4
    go_wp2_with (first
      | (go_at_call 10; refine (awake10_any _).mono ?_; rintro e w1 ⟨rfl, hq1⟩)
      | (go_at_call 15; refine (HSH.out _ hq1).mono ?_; rintro e w2 ⟨rfl, m2⟩; have hq2 := Mods.trans hq1 m2; clear m2))
    go_ret
    exact ⟨rfl, MM.out.trans hq2⟩
  have hok' := hok hsb
  rw [hsb] at HSH
  have hn12 : n ≤ 100 := by
    simp only [shortB, Bool.and_eq_true, decide_eq_true_eq] at hsb
    have h1 := hsb.1
    rw [hr, pws_len2, hR.len] at h1
    omega
  have HCM := Lib.hid (fun V (hV : Mods Nil (w.alloc (.cells (CV cm A n k) 27)) V) => cmdOf_any V cm hr (hR.mods (MM.out.trans hV)) hn12)
  have HCH := Lib.hid (fun V (hV : Mods Nil (w.alloc (.cells (CV cm A n k) 27)) V) => ccheck_any V cm hok' hr (hR.mods (MM.out.trans hV)))
  have HRP := Lib.hid (fun V A4 n4 k4 (L4 : List RowP) (h1 : cm.rows = pws L4) (h : Rws V A4 n4 k4 L4) => refPut_any V cm h1 h hok')
  have HRC := Lib.hid (fun V A4 n4 k4 (L4 : List RowP) (h1 : cm.rows = pws L4) (h : Rws V A4 n4 k4 L4) => refCheck_any V cm h1 h)
  have HSM := Lib.hid (fun V A4 n4 k4 (L4 : List RowP) A5 n5 k5 (L5 : List RowP) (h4 : cm.rows = pws L4) (r4 : Rws V A4 n4 k4 L4) (h5 : cm.rows = pws L5) (r5 : Rws V A5 n5 k5 L5) (hn4 : n4 ≤ 100) (hn5 : n5 ≤ 100) => r10same_any V cm cm h4 h5 r4 r5 hn4 hn5)
  have HNN := Lib.hid (fun V A4 n4 k4 (L4 : List RowP) (h4 : cm.rows = pws L4) (r4 : Rws V A4 n4 k4 L4) => rows_n2 hr hR h4 r4 hn12)
  rcases chkC_kinds cm with hc | hc
  rotate_left
  · have HP := Lib.hid (fun V (hV : Mods Nil (w.alloc (.cells (CV cm A n k) 27)) V) => cput_bad V cm (hR.mods (MM.out.trans hV)) hok' hr hc)
    rw [hc] at HCH HRP HRC
    rw [if_neg (by simp)] at HRP
    have ks := strOf_toList []
    clear hr hR hok hsb hok' hc hn12
    go_enter Try.func4, Try.ntmps4
    go_wp2_with (first
      | (go_at_call 10; refine (awake10_any _).mono ?_; rintro e w1 ⟨rfl, hq1⟩)
      | (go_at_call 15; refine (HSH.out _ hq1).mono ?_; rintro e w2 ⟨rfl, m2⟩; have hq2 := Mods.trans hq1 m2; clear m2)
      | (go_at_call 16; refine (HP.out _ hq2).mono ?_; rintro e w3 ⟨rfl, m3⟩; have hq3 := Mods.trans hq2 m3; clear m3)
      | (go_at_call 14; refine (HCM.out _ hq3).mono ?_; rintro e w4 ⟨A4, n4, k4, rfl, ⟨L4, h4, r4⟩, m4⟩; have hq4 := Mods.trans hq3 m4; have H4 := Lib.hid h4; have R4 := Lib.hid r4; clear h4 r4 m4)
      | (go_at_call 17; refine (HRP.out _ _ _ _ _ H4.out R4.out).mono ?_; rintro e w5 ⟨rfl, m5⟩; have hq5 := Mods.trans hq4 m5; clear m5))
    have cv : ∀ V, Mods Nil (w.alloc (.cells (CV cm A n k) 27)) V → (convert 22 9 (.slice none 0 0)).run Try.prog V = .ok (.string (strOf [])) V := fun V hV => conv10 rfl (Sl.none_ V)
    clear HSH HSM HNN
    go_region_held (fun V => Mods Nil (w.alloc (.cells (CV cm A n k) 27)) V) (first | exact Mods.drew hq5 | assumption) (first
      | (go_at_call 18; refine (HCH.out _ (by first | exact Mods.drew hq5 | assumption)).mono ?_; rintro e wA ⟨rfl, m6⟩; have hqA : Mods Nil (w.alloc (.cells (CV cm A n k) 27)) wA := Mods.trans (by first | exact Mods.drew hq5 | assumption) m6; clear m6)
      | (go_at_call 14; refine (HCM.out _ (by first | exact Mods.drew hq5 | assumption)).mono ?_; rintro e wB ⟨AB7, n7, k7, rfl, ⟨L7, h7, r7⟩, m7⟩; have hqB : Mods Nil (w.alloc (.cells (CV cm A n k) 27)) wB := Mods.trans (by first | exact Mods.drew hq5 | assumption) m7; have HmB := Lib.hid (show ∀ V, Mods Nil wB V → Rws V AB7 n7 k7 L7 from fun V hV => r7.mods hV); have H7 := Lib.hid h7; have hBB := Mods.refl Nil wB; clear h7 r7 m7)
      | (go_at_call 19; refine (HRC.out _ _ _ _ _ H7.out (HmB.out _ (by first | assumption | (refine Mods.trans ?_ ?_ <;> assumption)))).mono ?_; rintro e wC ⟨rfl, m8⟩; have hqC : Mods Nil (w.alloc (.cells (CV cm A n k) 27)) wC := Mods.trans (by assumption) m8; clear m8))
    all_goals
      go_wp2
      go_ret
      exact ⟨rfl, MM.out.trans (by assumption)⟩
  have HP := Lib.hid (fun V (hV : Mods Nil (w.alloc (.cells (CV cm A n k) 27)) V) => cput_any V cm (hR.mods (MM.out.trans hV)) hok' hr hc)
  have hgp := get_put hok' hc
  obtain ⟨ps, hps⟩ : ∃ ps, putC cm = ps := ⟨_, rfl⟩
  have hlen := (bodyJ_len hok' rfl (rowsB_8 (chkC_zero.1 hc).1) (rowS_of hok' (chkC_zero.1 hc).1) 6)
  rw [bodyJ_6 hok' hc] at hlen
  have hl3 : ps.length ≤ 3000 := by rw [← hps]; unfold putC; simp; omega
  rw [hc] at HCH HRP HRC
  rw [if_pos rfl] at HRP
  rw [hps] at HP HRP hgp
  obtain ⟨l, hl⟩ : ∃ l, ps.length = l := ⟨_, rfl⟩
  rw [hl] at HP hl3
  have HG := Lib.hid (fun V A c (h : Sl V A c (bts ps)) => cget_any (xs := ps) (n := l) hl h (by omega))
  rw [hgp.1, hgp.2] at HG
  have HLL := Lib.hid hl
  have ks := strOf_toList ps
  clear hr hR hok hsb hok' hc hn12 hps hlen hgp hl
  go_enter Try.func4, Try.ntmps4
  go_wp2_with (first
      | (go_at_call 10; refine (awake10_any _).mono ?_; rintro e w1 ⟨rfl, hq1⟩)
      | (go_at_call 15; refine (HSH.out _ hq1).mono ?_; rintro e w2 ⟨rfl, m2⟩; have hq2 := Mods.trans hq1 m2; clear m2)
      | (go_at_call 16; refine (HP.out _ hq2).mono ?_; rintro e w3 ⟨A3, c3, rfl, s3, m3, -⟩; have hq3 := Mods.trans hq2 m3; have S3 := Lib.hid s3; clear s3 m3)
      | (go_at_call 14; refine (HCM.out _ hq3).mono ?_; rintro e w4 ⟨A4, n4, k4, rfl, ⟨L4, h4, r4⟩, m4⟩; have hq4 := Mods.trans hq3 m4; have m4h := Lib.hid m4; have H4 := Lib.hid h4; have R4 := Lib.hid r4; clear h4 r4 m4)
      | (go_at_call 17; refine (HRP.out _ _ _ _ _ H4.out R4.out).mono ?_; rintro e w5 ⟨rfl, m5⟩; have hq5 := Mods.trans hq4 m5; have h35 : Mods Nil w3 w5 := Mods.trans m4h.out m5; clear m5))
  have S5 := Lib.hid (S3.out.mods h35 (fun _ _ h => h))
  clear h35
  have cv : ∀ V, Mods Nil w5 V → (convert 22 9 (.slice A3 l c3)).run Try.prog V = .ok (.string (strOf ps)) V := fun V hV => conv10 HLL.out (S5.out.mods hV (fun _ _ h => h))
  have c0 : ∀ V, Mods Nil w5 V → V.cell? ⟨w.heap.size, 0, none⟩ = some (.int .i64 cm.op) := fun V hV => (cv_seven ((AB.out.mods hq5 (fun h => h)).mods hV (fun h => h))).1
  have c1 : ∀ V, Mods Nil w5 V → V.cell? ⟨w.heap.size, 1, none⟩ = some (.int .u64 (cm.client : Int)) := fun V hV => (cv_seven ((AB.out.mods hq5 (fun h => h)).mods hV (fun h => h))).2.1
  have c2 : ∀ V, Mods Nil w5 V → V.cell? ⟨w.heap.size, 2, none⟩ = some (.int .u64 (cm.seq : Int)) := fun V hV => (cv_seven ((AB.out.mods hq5 (fun h => h)).mods hV (fun h => h))).2.2.1
  have c3 : ∀ V, Mods Nil w5 V → V.cell? ⟨w.heap.size, 3, none⟩ = some (.int .i64 cm.shard) := fun V hV => (cv_seven ((AB.out.mods hq5 (fun h => h)).mods hV (fun h => h))).2.2.2.1
  have c4 : ∀ V, Mods Nil w5 V → V.cell? ⟨w.heap.size, 4, none⟩ = some (.int .i64 cm.segs) := fun V hV => (cv_seven ((AB.out.mods hq5 (fun h => h)).mods hV (fun h => h))).2.2.2.2.1
  have c5 : ∀ V, Mods Nil w5 V → V.cell? ⟨w.heap.size, 5, none⟩ = some (.int .u64 (cm.pos : Int)) := fun V hV => (cv_seven ((AB.out.mods hq5 (fun h => h)).mods hV (fun h => h))).2.2.2.2.2.1
  have c6 : ∀ V, Mods Nil w5 V → V.cell? ⟨w.heap.size, 6, none⟩ = some (.slice A n k) := fun V hV => (cv_seven ((AB.out.mods hq5 (fun h => h)).mods hV (fun h => h))).2.2.2.2.2.2
  clear b0 b1 b2 b3 b4 b5 b6 hq1 hq2 hq3 hq4
  have HQ5 := Lib.hid hq5
  clear hq5
  go_region_held (fun V => Mods Nil w5 V) (first | exact (Mods.refl Nil w5).drew | assumption) (first
      | (go_at_call 18; refine (HCH.out _ (HQ5.out.trans (by first | exact (Mods.refl Nil w5).drew | assumption))).mono ?_; rintro e wA ⟨rfl, m6⟩; have hqA : Mods Nil w5 wA := Mods.trans (by first | exact (Mods.refl Nil w5).drew | assumption) m6; clear m6)
      | (go_at_call 14; refine (HCM.out _ (HQ5.out.trans (by first | exact (Mods.refl Nil w5).drew | assumption))).mono ?_; rintro e wB ⟨AB7, n7, k7, rfl, ⟨L7, h7, r7⟩, m7⟩; have hqB : Mods Nil w5 wB := Mods.trans (by first | exact (Mods.refl Nil w5).drew | assumption) m7; have HmB := Lib.hid (show ∀ V, Mods Nil wB V → Rws V AB7 n7 k7 L7 from fun V hV => r7.mods hV); have H7 := Lib.hid h7; have hBB := Mods.refl Nil wB; clear h7 r7 m7)
      | (go_at_call 19; refine (HRC.out _ _ _ _ _ H7.out (HmB.out _ (by first | assumption | (refine Mods.trans ?_ ?_ <;> assumption)))).mono ?_; rintro e wC ⟨rfl, m8⟩; have hqC : Mods Nil w5 wC := Mods.trans (by assumption) m8; clear m8))
  all_goals
    go_wp2_with (go_at_call 11; refine (HG.out _ _ _ (S5.out.mods (by assumption) (fun _ _ h => h))).mono ?_; rintro e w8 ⟨A8, n8, k8, rfl, ⟨L8, hL8, r8, -⟩, m8⟩; have hq8 : Mods Nil w5 w8 := Mods.trans (by assumption) m8; have HL8 := Lib.hid hL8; have HR8 := Lib.hid r8; clear hL8 r8 m8)
    have B8 := Lib.hid (Blk.new w8 27 (CV cm A8 n8 k8))
    have HQ9 := Lib.hid (hq8.alloc (.cells (CV cm A8 n8 k8) 27))
    have R9 := Lib.hid (HR8.out.mods ((Mods.refl Nil w8).alloc (.cells (CV cm A8 n8 k8) 27)))
    obtain ⟨W9, hW9⟩ : ∃ W9, w8.alloc (.cells (CV cm A8 n8 k8) 27) = W9 := ⟨_, rfl⟩
    rw [hW9] at B8 HQ9 R9 ⊢
    have hn8 := HNN.out _ _ _ _ _ HL8.out (HR8.out)
    have HCM8 := Lib.hid (fun V (hV : Mods Nil W9 V) => cmdOf_any V cm HL8.out (Acts.mods R9.out hV) hn8)
    clear hW9 cv hq8 hn8
    have e0 : ∀ V, Mods Nil W9 V → V.cell? ⟨w8.heap.size, 0, none⟩ = some (.int .i64 cm.op) := fun V hV => (cv_seven (B8.out.mods hV (fun h => h))).1
    have e1 : ∀ V, Mods Nil W9 V → V.cell? ⟨w8.heap.size, 1, none⟩ = some (.int .u64 (cm.client : Int)) := fun V hV => (cv_seven (B8.out.mods hV (fun h => h))).2.1
    have e2 : ∀ V, Mods Nil W9 V → V.cell? ⟨w8.heap.size, 2, none⟩ = some (.int .u64 (cm.seq : Int)) := fun V hV => (cv_seven (B8.out.mods hV (fun h => h))).2.2.1
    have e3 : ∀ V, Mods Nil W9 V → V.cell? ⟨w8.heap.size, 3, none⟩ = some (.int .i64 cm.shard) := fun V hV => (cv_seven (B8.out.mods hV (fun h => h))).2.2.2.1
    have e4 : ∀ V, Mods Nil W9 V → V.cell? ⟨w8.heap.size, 4, none⟩ = some (.int .i64 cm.segs) := fun V hV => (cv_seven (B8.out.mods hV (fun h => h))).2.2.2.2.1
    have e5 : ∀ V, Mods Nil W9 V → V.cell? ⟨w8.heap.size, 5, none⟩ = some (.int .u64 (cm.pos : Int)) := fun V hV => (cv_seven (B8.out.mods hV (fun h => h))).2.2.2.2.2.1
    have e6 : ∀ V, Mods Nil W9 V → V.cell? ⟨w8.heap.size, 6, none⟩ = some (.slice A8 n8 k8) := fun V hV => (cv_seven (B8.out.mods hV (fun h => h))).2.2.2.2.2.2
    have f0 : ∀ V, Mods Nil W9 V → V.cell? ⟨w.heap.size, 0, none⟩ = some (.int .i64 cm.op) := fun V hV => (cv_seven ((AB.out.mods (HQ5.out.trans HQ9.out) (fun h => h)).mods hV (fun h => h))).1
    have f1 : ∀ V, Mods Nil W9 V → V.cell? ⟨w.heap.size, 1, none⟩ = some (.int .u64 (cm.client : Int)) := fun V hV => (cv_seven ((AB.out.mods (HQ5.out.trans HQ9.out) (fun h => h)).mods hV (fun h => h))).2.1
    have f2 : ∀ V, Mods Nil W9 V → V.cell? ⟨w.heap.size, 2, none⟩ = some (.int .u64 (cm.seq : Int)) := fun V hV => (cv_seven ((AB.out.mods (HQ5.out.trans HQ9.out) (fun h => h)).mods hV (fun h => h))).2.2.1
    have f3 : ∀ V, Mods Nil W9 V → V.cell? ⟨w.heap.size, 3, none⟩ = some (.int .i64 cm.shard) := fun V hV => (cv_seven ((AB.out.mods (HQ5.out.trans HQ9.out) (fun h => h)).mods hV (fun h => h))).2.2.2.1
    have f4 : ∀ V, Mods Nil W9 V → V.cell? ⟨w.heap.size, 4, none⟩ = some (.int .i64 cm.segs) := fun V hV => (cv_seven ((AB.out.mods (HQ5.out.trans HQ9.out) (fun h => h)).mods hV (fun h => h))).2.2.2.2.1
    have f5 : ∀ V, Mods Nil W9 V → V.cell? ⟨w.heap.size, 5, none⟩ = some (.int .u64 (cm.pos : Int)) := fun V hV => (cv_seven ((AB.out.mods (HQ5.out.trans HQ9.out) (fun h => h)).mods hV (fun h => h))).2.2.2.2.2.1
    have f6 : ∀ V, Mods Nil W9 V → V.cell? ⟨w.heap.size, 6, none⟩ = some (.slice A n k) := fun V hV => (cv_seven ((AB.out.mods (HQ5.out.trans HQ9.out) (fun h => h)).mods hV (fun h => h))).2.2.2.2.2.2
    clear c0 c1 c2 c3 c4 c5 c6
    go_region_held (fun V => Mods Nil W9 V) (first | exact (Mods.refl Nil W9).drew | assumption) (first
      | (go_at_call_of 14 (Value.agg #[.int .i64 cm.op, .int .u64 (cm.client : Int), .int .u64 (cm.seq : Int), .int .i64 cm.shard, .int .i64 cm.segs, .int .u64 (cm.pos : Int), .slice A8 n8 k8]); refine (HCM8.out _ (by first | exact (Mods.refl Nil W9).drew | assumption)).mono ?_; rintro e wP ⟨AP, nP, kP, rfl, ⟨LP, hP, rP⟩, mP⟩; have hqP : Mods Nil W9 wP := Mods.trans (by first | exact (Mods.refl Nil W9).drew | assumption) mP; have HNP := Lib.hid (HNN.out _ _ _ _ _ hP rP); have HmP := Lib.hid (show ∀ V, Mods Nil wP V → Rws V AP nP kP LP from fun V hV => rP.mods hV); have HHP := Lib.hid hP; have hPP := Mods.refl Nil wP; have mPd := Lib.hid mP; clear hP rP mP)
      | (go_at_call 14; refine (HCM.out _ (HQ5.out.trans (HQ9.out.trans (by first | exact (Mods.refl Nil W9).drew | assumption)))).mono ?_; rintro e wQ ⟨AQ, nQ, kQ, rfl, ⟨LQ, hQ, rQ⟩, mQ⟩; have hqQ : Mods Nil W9 wQ := Mods.trans (by first | exact (Mods.refl Nil W9).drew | assumption) mQ; have HNQ := Lib.hid (HNN.out _ _ _ _ _ hQ rQ); have HmQ := Lib.hid (show ∀ V, Mods Nil wQ V → Rws V AQ nQ kQ LQ from fun V hV => rQ.mods hV); have HHQ := Lib.hid hQ; have hQQ := Mods.refl Nil wQ; have hPQ := mQ; clear hQ rQ)
      | (go_at_call 13; refine (HSM.out _ _ _ _ _ _ _ _ _ HHP.out (HmP.out _ (by first | assumption | exact mPd.out)) HHQ.out (HmQ.out _ (by first | assumption | exact mPd.out)) HNP.out HNQ.out).mono ?_; rintro e wS ⟨rS, rfl, hS, mS⟩; obtain rfl : rS = true := hS.2 rfl; have hqS : Mods Nil W9 wS := Mods.trans (by assumption) mS; clear hS mS))
    all_goals
      go_wp2
      go_ret
      exact ⟨rfl, MM.out.trans (HQ5.out.trans (HQ9.out.trans hqS))⟩
end Go.Proofs.Ytcncgjiaefjmhaa
