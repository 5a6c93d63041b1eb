/- ConfShort's walk. -/
import Derived.Test.YtcncgjiaefjmhaaLawM10
namespace Go.Proofs.Ytcncgjiaefjmhaa
set_option maxRecDepth 1000000
open Go.RowKit
set_option linter.unusedVariables false
set_option linter.unusedSimpArgs false

theorem bts_app10 (a b : List UInt8) : bts a ++ bts b = bts (a ++ b) := by simp [bts]
theorem bts_set10 (a : List UInt8) (x : UInt8) : (bts a).set 0 (.int .u8 (x.toNat : Int)) = bts (a.set 0 x) := by simp [bts, List.map_set]
theorem putC_len {c : PC} (hok : c.ok) (h : chkC c = 0) : (putC c).length ≤ 3000 ∧ 0 < (putC c).length := by
  obtain ⟨hr, ho⟩ := chkC_zero.1 h
  have := bodyJ_len hok rfl (rowsB_8 hr) (rowS_of hok hr) 6
  rw [bodyJ_6 hok h] at this
  unfold putC
  simp
  omega
set_option maxHeartbeats 8000000 in
theorem confShort_walk (w : World) {cm : PC} {A : Option Addr} {n k : Nat} {L : List RowP} (hr : cm.rows = pws L) (hR : Rws w A n k L) (hok : shortB cm = true → cm.ok)
    {B : Option Addr} {c m : Nat} {ms : List UInt8} (hm : ms.length = m) (hs : Sl w B c (bts ms)) {a : Int} (wa : (Lit.int .u8 a).wf = true) :
    Calls Try.prog 9 #[.agg (CV cm A n k), .slice B m c, .int .u8 a] w fun e w' => e = .returned (.bool true) ∧ Mods Nil w w' := by
  obtain ⟨op, rfl⟩ := u8_nat10 wa
  have AB := Lib.hid (Blk.new w 27 (CV cm A n k))
  have MM := Lib.hid ((Mods.refl Nil w).alloc (.cells (CV cm A n k) 27))
  have HSH := Lib.hid (fun W (hW : Mods Nil w W) => short_any W cm hr (hR.mods hW))
  have HS := Lib.hid hs
  have HM := Lib.hid hm
  have hle := hs.le
  rw [bts_length, hm] at hle
  have hmx := hs.max
  unfold maxLen at hmx
  by_cases hsb : shortB cm = true
  · have hok' := hok hsb
    rw [hsb] at HSH
    by_cases h20 : 20 < m
    · have hb : (20 : Int) < (m : Int) := by omega
      clear hr hR hok hs hm hsb hok'
      go_enter Try.func9, Try.ntmps9
      go_wp2_with (first
        | (go_at_call 10; refine (awake10_any _).mono ?_; rintro e w1 ⟨rfl, m1⟩; have M1 := Lib.hid (MM.out.trans m1); obtain ⟨d0, d1, d2, d3, d4, d5, d6⟩ := cv_seven (AB.out.mods m1 (fun h => h)); clear m1)
        | (go_at_call 15; refine (HSH.out _ M1.out).mono ?_; rintro e w2 ⟨rfl, m2⟩; have M2 := Lib.hid (M1.out.trans m2); clear m2))
      go_ret
      exact ⟨rfl, M2.out⟩
    have hb : (m : Int) ≤ 20 := by omega
    have hm20 : m ≤ 20 := by omega
    rcases chkC_kinds cm with hc | hc
    · have hlen := putC_len hok' hc
      have HP := Lib.hid (fun W (hW : Mods Nil w W) => cput_any W cm (hR.mods hW) hok' hr hc)
      obtain ⟨ps, hps⟩ : ∃ ps, putC cm = ps := ⟨_, rfl⟩
      have hne : ps ≠ [] := by rw [← hps]; unfold putC; simp
      have HG0 := (get_put hok' hc).1
      have HGM : ∀ r, r ≠ [] → gE (ps ++ r) = 12 := fun r h => by rw [← hps]; exact get_more hok' hc h
      rw [hps] at HG0 HP hlen
      obtain ⟨l, hl⟩ : ∃ l, ps.length = l := ⟨_, rfl⟩
      rw [hl] at HP hlen
      obtain ⟨E1, hE1⟩ : ∃ E, gE (ps ++ ms) = E := ⟨_, rfl⟩
      have HG1 := Lib.hid (fun W A c (h : Sl W A c (bts (ps ++ ms))) => cget_any (xs := ps ++ ms) (n := l + m) (by simp [hl, hm]) h (by omega))
      have HG2 := Lib.hid (fun W A c (h : Sl W A c (bts ((ps ++ ms).set 0 op))) => cget_any (xs := (ps ++ ms).set 0 op) (n := l + m) (by simp [hl, hm]) h (by omega))
      have hop : 4 < op.toNat → gE ((ps ++ ms).set 0 op) = 11 := fun h => by
        cases hps2 : ps with
        | nil => exact absurd hps2 hne
        | cons x t => exact get_op h
      generalize gE ((ps ++ ms).set 0 op) = E2 at HG2 hop
      generalize gC ((ps ++ ms).set 0 op) = C2 at HG2
      generalize gC (ps ++ ms) = C1 at HG1
      rw [hE1] at HG1
      obtain ⟨i0, hi, hz0, hz1, hz2⟩ := info_parts infoByte
      have HI := Lib.hid hi
      have HPS := Lib.hid hl
      have HLL := Lib.hid hlen.1
      have hlpos : (0 : Int) < (l : Int) := by omega
      have hl0 : ((l : Int) == 0) = false := by rw [beq_eq_false_iff_ne]; omega
      have hlm0 : 0 < l + m := by omega
      have hlmI : (0 : Int) < (l : Int) + (m : Int) := by omega
      have hE1' : (m = 0 ∧ E1 = 0) ∨ (0 < m ∧ E1 = 12) := by
        by_cases h0 : ms = []
        · left; subst h0; simp at hm hE1; exact ⟨hm.symm, by rw [← hE1]; exact HG0⟩
        · right
          have := List.length_pos_iff.2 h0
          exact ⟨by omega, by rw [← hE1]; exact HGM ms h0⟩
      have hop2 : ((op.toNat : Nat) : Int) ≤ 4 ∨ ((4 : Int) < (op.toNat : Int) ∧ E2 = 11) := by
        by_cases h : 4 < op.toNat
        · exact .inr ⟨by omega, hop h⟩
        · exact .inl (by omega)
      clear hs hm hr hR hok hsb hok' hc hps hne HG0 HGM hl hE1 hop hi h20 hlen
      obtain ⟨rfl, rfl⟩ | ⟨hmp, rfl⟩ := hE1'
      · obtain hop4 | ⟨hop4, rfl⟩ := hop2
        · go_enter Try.func9, Try.ntmps9
          go_wp2_with (first
            | (go_at_call 10; refine (awake10_any _).mono ?_; rintro e w1 ⟨rfl, m1⟩; have M1 := Lib.hid (MM.out.trans m1); have AB1 := Lib.hid (AB.out.mods m1 (fun h => h)); obtain ⟨d0, d1, d2, d3, d4, d5, d6⟩ := cv_seven AB1.out; clear m1)
            | (go_at_call 15; refine (HSH.out _ M1.out).mono ?_; rintro e w2 ⟨rfl, m2⟩; have M2 := Lib.hid (M1.out.trans m2); clear d0 d1 d2 d3 d4 d5 d6; obtain ⟨d0, d1, d2, d3, d4, d5, d6⟩ := cv_seven (AB1.out.mods m2 (fun h => h)); clear m2)
            | (go_at_call 16; refine (HP.out _ M2.out).mono ?_; rintro e w3 ⟨A3, c3, rfl, s3, m3, -⟩; have S3 := Lib.hid s3; have M3 := Lib.hid (M2.out.trans m3); clear s3 m3; clear d0 d1 d2 d3 d4 d5 d6)
            | (at_builtin; refine wpList_append_sl _ rfl _ _ 22 rfl w.heap.size 5 i0 (.int .u8 0) 1 Try.underlying22 HI.out hz0 hz1 hz2 rfl (.slice none 0 0) 0 [] rfl (World.ownsRow_nil _ _ _ _) A3 l c3 (bts ps) rfl (by rw [bts_length]; exact HPS.out) S3.out (bts_one _) (by have := HLL.out; omega) (by have := HLL.out; unfold maxLen; omega) M3.out.size ?_; intro v4 w4 hown hgrow hblk; rw [Nat.zero_add, List.nil_append] at hown; obtain ⟨A4, c4, rfl, -, -, -⟩ := own_slice hown; have O4 := Lib.hid hown; have M4 := Lib.hid (M3.out.nil_trans ((Mods.refl (fun q => Value.ownBlock (.slice none 0 0) = some q) w3).grown hgrow (fun q hq _ => hq)) (fun i h => by simp [Value.ownBlock] at h)); clear hown hgrow hblk S3)
            | (at_builtin; refine wpList_append_sl _ rfl _ _ 22 rfl w.heap.size 5 i0 (.int .u8 0) 1 Try.underlying22 HI.out hz0 hz1 hz2 rfl (.slice A4 l c4) l (bts ps) rfl O4.out B 0 c (bts ms) rfl (by rw [bts_length]; exact HM.out) (HS.out.mods M4.out (fun _ _ h => h)) (bts_one _) (by have := HLL.out; omega) (by have := HLL.out; unfold maxLen; omega) M4.out.size ?_; intro v5 w5 hown hgrow hblk; rw [bts_app10] at hown; obtain ⟨A5, c5, rfl, -, s5, -⟩ := own_slice hown; have O5 := Lib.hid hown; have S5 := Lib.hid s5; have M5 := Lib.hid (M4.out.nil_trans ((Mods.refl (fun q => Value.ownBlock (.slice A4 l c4) = some q) w4).grown hgrow (fun q hq _ => hq)) (fun i h => (O4.out.lt i h).1)); clear hown hgrow hblk s5 O4)
            | (go_at_call 11; first
                | (refine (HG1.out _ _ _ S5.out).mono ?_; rintro e w6 ⟨A6, n6, k6, rfl, i6, m6⟩; have M6 := Lib.hid ((M5.out.trans m6).alloc (.cells (CV C1 A6 n6 k6) 27)); have O6 := own_mods O5.out (m6.alloc (.cells (CV C1 A6 n6 k6) 27)) (fun _ _ h => h); obtain ⟨g6, cp6, hv6, -, -, hb6, -, f6, hc6, hs6⟩ := own_set O6 (k := 0) (by omega); injection hv6 with e1 e2 e3; subst e1; subst e3; have HS6 := Lib.hid (hs6 (.int .u8 (op.toNat : Int))); rw [bts_set10] at HS6; have k6 := hc6 _ (List.getElem?_eq_getElem (by rw [bts_length, List.length_append, HPS.out, HM.out]; omega)); have HB6 := Lib.hid hb6; clear i6 m6 S5 HG1 hs6 hc6 O6 hb6)
                | (refine (HG2.out _ _ _ (own_sl10 HS6.out)).mono ?_; rintro e w7 ⟨A7, n7, k7, rfl, i7, m7⟩; have M7 := Lib.hid (((M6.out.setNew (p := ⟨g6, 0, none⟩) HB6.out (.int .u8 (op.toNat : Int))).trans m7).alloc (.cells (CV C2 A7 n7 k7) 27)); clear i7 m7)))
          go_ret
          exact ⟨rfl, M7.out⟩
        · go_enter Try.func9, Try.ntmps9
          go_wp2_with (first
            | (go_at_call 10; refine (awake10_any _).mono ?_; rintro e w1 ⟨rfl, m1⟩; have M1 := Lib.hid (MM.out.trans m1); have AB1 := Lib.hid (AB.out.mods m1 (fun h => h)); obtain ⟨d0, d1, d2, d3, d4, d5, d6⟩ := cv_seven AB1.out; clear m1)
            | (go_at_call 15; refine (HSH.out _ M1.out).mono ?_; rintro e w2 ⟨rfl, m2⟩; have M2 := Lib.hid (M1.out.trans m2); clear d0 d1 d2 d3 d4 d5 d6; obtain ⟨d0, d1, d2, d3, d4, d5, d6⟩ := cv_seven (AB1.out.mods m2 (fun h => h)); clear m2)
            | (go_at_call 16; refine (HP.out _ M2.out).mono ?_; rintro e w3 ⟨A3, c3, rfl, s3, m3, -⟩; have S3 := Lib.hid s3; have M3 := Lib.hid (M2.out.trans m3); clear s3 m3; clear d0 d1 d2 d3 d4 d5 d6)
            | (at_builtin; refine wpList_append_sl _ rfl _ _ 22 rfl w.heap.size 5 i0 (.int .u8 0) 1 Try.underlying22 HI.out hz0 hz1 hz2 rfl (.slice none 0 0) 0 [] rfl (World.ownsRow_nil _ _ _ _) A3 l c3 (bts ps) rfl (by rw [bts_length]; exact HPS.out) S3.out (bts_one _) (by have := HLL.out; omega) (by have := HLL.out; unfold maxLen; omega) M3.out.size ?_; intro v4 w4 hown hgrow hblk; rw [Nat.zero_add, List.nil_append] at hown; obtain ⟨A4, c4, rfl, -, -, -⟩ := own_slice hown; have O4 := Lib.hid hown; have M4 := Lib.hid (M3.out.nil_trans ((Mods.refl (fun q => Value.ownBlock (.slice none 0 0) = some q) w3).grown hgrow (fun q hq _ => hq)) (fun i h => by simp [Value.ownBlock] at h)); clear hown hgrow hblk S3)
            | (at_builtin; refine wpList_append_sl _ rfl _ _ 22 rfl w.heap.size 5 i0 (.int .u8 0) 1 Try.underlying22 HI.out hz0 hz1 hz2 rfl (.slice A4 l c4) l (bts ps) rfl O4.out B 0 c (bts ms) rfl (by rw [bts_length]; exact HM.out) (HS.out.mods M4.out (fun _ _ h => h)) (bts_one _) (by have := HLL.out; omega) (by have := HLL.out; unfold maxLen; omega) M4.out.size ?_; intro v5 w5 hown hgrow hblk; rw [bts_app10] at hown; obtain ⟨A5, c5, rfl, -, s5, -⟩ := own_slice hown; have O5 := Lib.hid hown; have S5 := Lib.hid s5; have M5 := Lib.hid (M4.out.nil_trans ((Mods.refl (fun q => Value.ownBlock (.slice A4 l c4) = some q) w4).grown hgrow (fun q hq _ => hq)) (fun i h => (O4.out.lt i h).1)); clear hown hgrow hblk s5 O4)
            | (go_at_call 11; first
                | (refine (HG1.out _ _ _ S5.out).mono ?_; rintro e w6 ⟨A6, n6, k6, rfl, i6, m6⟩; have M6 := Lib.hid ((M5.out.trans m6).alloc (.cells (CV C1 A6 n6 k6) 27)); have O6 := own_mods O5.out (m6.alloc (.cells (CV C1 A6 n6 k6) 27)) (fun _ _ h => h); obtain ⟨g6, cp6, hv6, -, -, hb6, -, f6, hc6, hs6⟩ := own_set O6 (k := 0) (by omega); injection hv6 with e1 e2 e3; subst e1; subst e3; have HS6 := Lib.hid (hs6 (.int .u8 (op.toNat : Int))); rw [bts_set10] at HS6; have k6 := hc6 _ (List.getElem?_eq_getElem (by rw [bts_length, List.length_append, HPS.out, HM.out]; omega)); have HB6 := Lib.hid hb6; clear i6 m6 S5 HG1 hs6 hc6 O6 hb6)
                | (refine (HG2.out _ _ _ (own_sl10 HS6.out)).mono ?_; rintro e w7 ⟨A7, n7, k7, rfl, i7, m7⟩; have M7 := Lib.hid (((M6.out.setNew (p := ⟨g6, 0, none⟩) HB6.out (.int .u8 (op.toNat : Int))).trans m7).alloc (.cells (CV C2 A7 n7 k7) 27)); clear i7 m7)))
          go_ret
          exact ⟨rfl, M7.out⟩
      · have hmI : (0 : Int) < (m : Int) := by omega
        have hmz : ((m : Int) == 0) = false := by rw [beq_eq_false_iff_ne]; omega
        obtain hop4 | ⟨hop4, rfl⟩ := hop2
        · go_enter Try.func9, Try.ntmps9
          go_wp2_with (first
            | (go_at_call 10; refine (awake10_any _).mono ?_; rintro e w1 ⟨rfl, m1⟩; have M1 := Lib.hid (MM.out.trans m1); have AB1 := Lib.hid (AB.out.mods m1 (fun h => h)); obtain ⟨d0, d1, d2, d3, d4, d5, d6⟩ := cv_seven AB1.out; clear m1)
            | (go_at_call 15; refine (HSH.out _ M1.out).mono ?_; rintro e w2 ⟨rfl, m2⟩; have M2 := Lib.hid (M1.out.trans m2); clear d0 d1 d2 d3 d4 d5 d6; obtain ⟨d0, d1, d2, d3, d4, d5, d6⟩ := cv_seven (AB1.out.mods m2 (fun h => h)); clear m2)
            | (go_at_call 16; refine (HP.out _ M2.out).mono ?_; rintro e w3 ⟨A3, c3, rfl, s3, m3, -⟩; have S3 := Lib.hid s3; have M3 := Lib.hid (M2.out.trans m3); clear s3 m3; clear d0 d1 d2 d3 d4 d5 d6)
            | (at_builtin; refine wpList_append_sl _ rfl _ _ 22 rfl w.heap.size 5 i0 (.int .u8 0) 1 Try.underlying22 HI.out hz0 hz1 hz2 rfl (.slice none 0 0) 0 [] rfl (World.ownsRow_nil _ _ _ _) A3 l c3 (bts ps) rfl (by rw [bts_length]; exact HPS.out) S3.out (bts_one _) (by have := HLL.out; omega) (by have := HLL.out; unfold maxLen; omega) M3.out.size ?_; intro v4 w4 hown hgrow hblk; rw [Nat.zero_add, List.nil_append] at hown; obtain ⟨A4, c4, rfl, -, -, -⟩ := own_slice hown; have O4 := Lib.hid hown; have M4 := Lib.hid (M3.out.nil_trans ((Mods.refl (fun q => Value.ownBlock (.slice none 0 0) = some q) w3).grown hgrow (fun q hq _ => hq)) (fun i h => by simp [Value.ownBlock] at h)); clear hown hgrow hblk S3)
            | (at_builtin; refine wpList_append_sl _ rfl _ _ 22 rfl w.heap.size 5 i0 (.int .u8 0) 1 Try.underlying22 HI.out hz0 hz1 hz2 rfl (.slice A4 l c4) l (bts ps) rfl O4.out B m c (bts ms) rfl (by rw [bts_length]; exact HM.out) (HS.out.mods M4.out (fun _ _ h => h)) (bts_one _) (by have := HLL.out; omega) (by have := HLL.out; unfold maxLen; omega) M4.out.size ?_; intro v5 w5 hown hgrow hblk; rw [bts_app10] at hown; obtain ⟨A5, c5, rfl, -, s5, -⟩ := own_slice hown; have O5 := Lib.hid hown; have S5 := Lib.hid s5; have M5 := Lib.hid (M4.out.nil_trans ((Mods.refl (fun q => Value.ownBlock (.slice A4 l c4) = some q) w4).grown hgrow (fun q hq _ => hq)) (fun i h => (O4.out.lt i h).1)); clear hown hgrow hblk s5 O4)
            | (go_at_call 11; first
                | (refine (HG1.out _ _ _ S5.out).mono ?_; rintro e w6 ⟨A6, n6, k6, rfl, i6, m6⟩; have M6 := Lib.hid ((M5.out.trans m6).alloc (.cells (CV C1 A6 n6 k6) 27)); have O6 := own_mods O5.out (m6.alloc (.cells (CV C1 A6 n6 k6) 27)) (fun _ _ h => h); obtain ⟨g6, cp6, hv6, -, -, hb6, -, f6, hc6, hs6⟩ := own_set O6 (k := 0) (by omega); injection hv6 with e1 e2 e3; subst e1; subst e3; have HS6 := Lib.hid (hs6 (.int .u8 (op.toNat : Int))); rw [bts_set10] at HS6; have k6 := hc6 _ (List.getElem?_eq_getElem (by rw [bts_length, List.length_append, HPS.out, HM.out]; omega)); have HB6 := Lib.hid hb6; clear i6 m6 S5 HG1 hs6 hc6 O6 hb6)
                | (refine (HG2.out _ _ _ (own_sl10 HS6.out)).mono ?_; rintro e w7 ⟨A7, n7, k7, rfl, i7, m7⟩; have M7 := Lib.hid (((M6.out.setNew (p := ⟨g6, 0, none⟩) HB6.out (.int .u8 (op.toNat : Int))).trans m7).alloc (.cells (CV C2 A7 n7 k7) 27)); clear i7 m7)))
          go_ret
          exact ⟨rfl, M7.out⟩
        · go_enter Try.func9, Try.ntmps9
          go_wp2_with (first
            | (go_at_call 10; refine (awake10_any _).mono ?_; rintro e w1 ⟨rfl, m1⟩; have M1 := Lib.hid (MM.out.trans m1); have AB1 := Lib.hid (AB.out.mods m1 (fun h => h)); obtain ⟨d0, d1, d2, d3, d4, d5, d6⟩ := cv_seven AB1.out; clear m1)
            | (go_at_call 15; refine (HSH.out _ M1.out).mono ?_; rintro e w2 ⟨rfl, m2⟩; have M2 := Lib.hid (M1.out.trans m2); clear d0 d1 d2 d3 d4 d5 d6; obtain ⟨d0, d1, d2, d3, d4, d5, d6⟩ := cv_seven (AB1.out.mods m2 (fun h => h)); clear m2)
            | (go_at_call 16; refine (HP.out _ M2.out).mono ?_; rintro e w3 ⟨A3, c3, rfl, s3, m3, -⟩; have S3 := Lib.hid s3; have M3 := Lib.hid (M2.out.trans m3); clear s3 m3; clear d0 d1 d2 d3 d4 d5 d6)
            | (at_builtin; refine wpList_append_sl _ rfl _ _ 22 rfl w.heap.size 5 i0 (.int .u8 0) 1 Try.underlying22 HI.out hz0 hz1 hz2 rfl (.slice none 0 0) 0 [] rfl (World.ownsRow_nil _ _ _ _) A3 l c3 (bts ps) rfl (by rw [bts_length]; exact HPS.out) S3.out (bts_one _) (by have := HLL.out; omega) (by have := HLL.out; unfold maxLen; omega) M3.out.size ?_; intro v4 w4 hown hgrow hblk; rw [Nat.zero_add, List.nil_append] at hown; obtain ⟨A4, c4, rfl, -, -, -⟩ := own_slice hown; have O4 := Lib.hid hown; have M4 := Lib.hid (M3.out.nil_trans ((Mods.refl (fun q => Value.ownBlock (.slice none 0 0) = some q) w3).grown hgrow (fun q hq _ => hq)) (fun i h => by simp [Value.ownBlock] at h)); clear hown hgrow hblk S3)
            | (at_builtin; refine wpList_append_sl _ rfl _ _ 22 rfl w.heap.size 5 i0 (.int .u8 0) 1 Try.underlying22 HI.out hz0 hz1 hz2 rfl (.slice A4 l c4) l (bts ps) rfl O4.out B m c (bts ms) rfl (by rw [bts_length]; exact HM.out) (HS.out.mods M4.out (fun _ _ h => h)) (bts_one _) (by have := HLL.out; omega) (by have := HLL.out; unfold maxLen; omega) M4.out.size ?_; intro v5 w5 hown hgrow hblk; rw [bts_app10] at hown; obtain ⟨A5, c5, rfl, -, s5, -⟩ := own_slice hown; have O5 := Lib.hid hown; have S5 := Lib.hid s5; have M5 := Lib.hid (M4.out.nil_trans ((Mods.refl (fun q => Value.ownBlock (.slice A4 l c4) = some q) w4).grown hgrow (fun q hq _ => hq)) (fun i h => (O4.out.lt i h).1)); clear hown hgrow hblk s5 O4)
            | (go_at_call 11; first
                | (refine (HG1.out _ _ _ S5.out).mono ?_; rintro e w6 ⟨A6, n6, k6, rfl, i6, m6⟩; have M6 := Lib.hid ((M5.out.trans m6).alloc (.cells (CV C1 A6 n6 k6) 27)); have O6 := own_mods O5.out (m6.alloc (.cells (CV C1 A6 n6 k6) 27)) (fun _ _ h => h); obtain ⟨g6, cp6, hv6, -, -, hb6, -, f6, hc6, hs6⟩ := own_set O6 (k := 0) (by omega); injection hv6 with e1 e2 e3; subst e1; subst e3; have HS6 := Lib.hid (hs6 (.int .u8 (op.toNat : Int))); rw [bts_set10] at HS6; have k6 := hc6 _ (List.getElem?_eq_getElem (by rw [bts_length, List.length_append, HPS.out, HM.out]; omega)); have HB6 := Lib.hid hb6; clear i6 m6 S5 HG1 hs6 hc6 O6 hb6)
                | (refine (HG2.out _ _ _ (own_sl10 HS6.out)).mono ?_; rintro e w7 ⟨A7, n7, k7, rfl, i7, m7⟩; have M7 := Lib.hid (((M6.out.setNew (p := ⟨g6, 0, none⟩) HB6.out (.int .u8 (op.toNat : Int))).trans m7).alloc (.cells (CV C2 A7 n7 k7) 27)); clear i7 m7)))
          go_ret
          exact ⟨rfl, M7.out⟩
    · have HP := Lib.hid (fun W (hW : Mods Nil w W) => cput_bad W cm (hR.mods hW) hok' hr hc)
      clear hr hR hok hs hm hsb hok' hc
      go_enter Try.func9, Try.ntmps9
      go_wp2_with (first
        | (go_at_call 10; refine (awake10_any _).mono ?_; rintro e w1 ⟨rfl, m1⟩; have M1 := Lib.hid (MM.out.trans m1); have AB1 := Lib.hid (AB.out.mods m1 (fun h => h)); obtain ⟨d0, d1, d2, d3, d4, d5, d6⟩ := cv_seven AB1.out; clear m1)
        | (go_at_call 15; refine (HSH.out _ M1.out).mono ?_; rintro e w2 ⟨rfl, m2⟩; have M2 := Lib.hid (M1.out.trans m2); clear d0 d1 d2 d3 d4 d5 d6; obtain ⟨d0, d1, d2, d3, d4, d5, d6⟩ := cv_seven (AB1.out.mods m2 (fun h => h)); clear m2)
        | (go_at_call 16; refine (HP.out _ M2.out).mono ?_; rintro e w3 ⟨rfl, m3⟩; have M3 := Lib.hid (M2.out.trans m3); clear m3))
      go_ret
      exact ⟨rfl, M3.out⟩
  · have hsb' : shortB cm = false := by simpa using hsb
    rw [hsb'] at HSH
    clear hr hR hok hs hm hsb
    go_enter Try.func9, Try.ntmps9
    go_wp2_with (first
      | (go_at_call 10; refine (awake10_any _).mono ?_; rintro e w1 ⟨rfl, m1⟩; have M1 := Lib.hid (MM.out.trans m1); obtain ⟨d0, d1, d2, d3, d4, d5, d6⟩ := cv_seven (AB.out.mods m1 (fun h => h)); clear m1)
      | (go_at_call 15; refine (HSH.out _ M1.out).mono ?_; rintro e w2 ⟨rfl, m2⟩; have M2 := Lib.hid (M1.out.trans m2); clear m2))
    go_ret
    exact ⟨rfl, M2.out⟩
end Go.Proofs.Ytcncgjiaefjmhaa
