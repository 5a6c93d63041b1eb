/- ConfUnlike's walk; printed by wip/tools/gen10/genunlike.py. -/
import Derived.Test.YtcncgjiaefjmhaaCmd10
import Derived.Test.YtcncgjiaefjmhaaRef10j
import Derived.Deep.RegionHeld
namespace Go.Proofs.Ytcncgjiaefjmhaa
set_option maxRecDepth 1000000
open Go.RowKit
set_option linter.unusedVariables false
set_option linter.unusedSimpArgs false

theorem pws_len3 {L : List RowP} : (pws L).length = L.length := by simp [pws]
theorem short_n {c : PC} {w : World} {A : Option Addr} {n k : Nat} {L : List RowP} (hr : c.rows = pws L) (hR : Rws w A n k L) (hs : shortB c = true) : n ≤ 100 := by
  simp only [shortB, Bool.and_eq_true, decide_eq_true_eq] at hs
  have h1 := hs.1
  rw [hr, pws_len3, hR.len] at h1
  omega
theorem rows_n {c : PC} {w w' : World} {A A' : Option Addr} {n k n' k' : Nat} {L L' : List RowP} (hr : c.rows = pws L) (hR : Rws w A n k L) (hr' : c.rows = pws L') (hR' : Rws w' A' n' k' L') (hn : n ≤ 100) : n' ≤ 100 := by
  have h2 : (pws L').length = (pws L).length := by rw [← hr', hr]
  rw [pws_len3, pws_len3, hR'.len, hR.len] at h2
  omega
/-- The end of the walk: both are put; the bytes and the commands are compared. -/
def Both (w : World) (e : Ending) (w' : World) : Prop := e = .returned (.bool true) ∧ Mods Nil w w'
set_option maxHeartbeats 8000000 in
theorem confUnlike_walk (w : World) {a : PC} {A : Option Addr} {n k : Nat} {L : List RowP} (ha : a.rows = pws L) (hA : Rws w A n k L) (oka : shortB a = true → a.ok)
    {b : PC} {B : Option Addr} {m l : Nat} {M : List RowP} (hb : b.rows = pws M) (hB : Rws w B m l M) (okb : shortB b = true → b.ok) (same : Bool) :
    Calls Try.prog 8 #[.agg (CV a A n k), .agg (CV b B m l), .bool same] w fun e w' => e = .returned (.bool true) ∧ Mods Nil w w' := by
  have BA := Lib.hid ((Blk.new w 27 (CV a A n k)).alloc (.cells (CV b B m l) 27))
  have BB : Hid (Blk ((w.alloc (.cells (CV a A n k) 27)).alloc (.cells (CV b B m l) 27)) (w.heap.size + 1) 27 (CV b B m l)) := Lib.hid (by
    have := Blk.new (w.alloc (.cells (CV a A n k) 27)) 27 (CV b B m l)
    rw [World.size_alloc] at this
    exact this)
  have MM := Lib.hid (((Mods.refl Nil w).alloc (.cells (CV a A n k) 27)).alloc (.cells (CV b B m l) 27))
  have HSA := Lib.hid (fun W (hW : Mods Nil ((w.alloc (.cells (CV a A n k) 27)).alloc (.cells (CV b B m l) 27)) W) => short_any W a ha (hA.mods (MM.out.trans hW)))
  have HSB := Lib.hid (fun W (hW : Mods Nil ((w.alloc (.cells (CV a A n k) 27)).alloc (.cells (CV b B m l) 27)) W) => short_any W b hb (hB.mods (MM.out.trans hW)))
  have b0 : ∀ V, Mods Nil ((w.alloc (.cells (CV a A n k) 27)).alloc (.cells (CV b B m l) 27)) V → V.cell? ⟨w.heap.size, 0, none⟩ = some (.int .i64 a.op) := fun V hV => (cv_seven (BA.out.mods hV (fun h => h))).1
  have b1 : ∀ V, Mods Nil ((w.alloc (.cells (CV a A n k) 27)).alloc (.cells (CV b B m l) 27)) V → V.cell? ⟨w.heap.size, 1, none⟩ = some (.int .u64 (a.client : Int)) := fun V hV => (cv_seven (BA.out.mods hV (fun h => h))).2.1
  have b2 : ∀ V, Mods Nil ((w.alloc (.cells (CV a A n k) 27)).alloc (.cells (CV b B m l) 27)) V → V.cell? ⟨w.heap.size, 2, none⟩ = some (.int .u64 (a.seq : Int)) := fun V hV => (cv_seven (BA.out.mods hV (fun h => h))).2.2.1
  have b3 : ∀ V, Mods Nil ((w.alloc (.cells (CV a A n k) 27)).alloc (.cells (CV b B m l) 27)) V → V.cell? ⟨w.heap.size, 3, none⟩ = some (.int .i64 a.shard) := fun V hV => (cv_seven (BA.out.mods hV (fun h => h))).2.2.2.1
  have b4 : ∀ V, Mods Nil ((w.alloc (.cells (CV a A n k) 27)).alloc (.cells (CV b B m l) 27)) V → V.cell? ⟨w.heap.size, 4, none⟩ = some (.int .i64 a.segs) := fun V hV => (cv_seven (BA.out.mods hV (fun h => h))).2.2.2.2.1
  have b5 : ∀ V, Mods Nil ((w.alloc (.cells (CV a A n k) 27)).alloc (.cells (CV b B m l) 27)) V → V.cell? ⟨w.heap.size, 5, none⟩ = some (.int .u64 (a.pos : Int)) := fun V hV => (cv_seven (BA.out.mods hV (fun h => h))).2.2.2.2.2.1
  have b6 : ∀ V, Mods Nil ((w.alloc (.cells (CV a A n k) 27)).alloc (.cells (CV b B m l) 27)) V → V.cell? ⟨w.heap.size, 6, none⟩ = some (.slice A n k) := fun V hV => (cv_seven (BA.out.mods hV (fun h => h))).2.2.2.2.2.2
  have c0 : ∀ V, Mods Nil ((w.alloc (.cells (CV a A n k) 27)).alloc (.cells (CV b B m l) 27)) V → V.cell? ⟨w.heap.size + 1, 0, none⟩ = some (.int .i64 b.op) := fun V hV => (cv_seven (BB.out.mods hV (fun h => h))).1
  have c1 : ∀ V, Mods Nil ((w.alloc (.cells (CV a A n k) 27)).alloc (.cells (CV b B m l) 27)) V → V.cell? ⟨w.heap.size + 1, 1, none⟩ = some (.int .u64 (b.client : Int)) := fun V hV => (cv_seven (BB.out.mods hV (fun h => h))).2.1
  have c2 : ∀ V, Mods Nil ((w.alloc (.cells (CV a A n k) 27)).alloc (.cells (CV b B m l) 27)) V → V.cell? ⟨w.heap.size + 1, 2, none⟩ = some (.int .u64 (b.seq : Int)) := fun V hV => (cv_seven (BB.out.mods hV (fun h => h))).2.2.1
  have c3 : ∀ V, Mods Nil ((w.alloc (.cells (CV a A n k) 27)).alloc (.cells (CV b B m l) 27)) V → V.cell? ⟨w.heap.size + 1, 3, none⟩ = some (.int .i64 b.shard) := fun V hV => (cv_seven (BB.out.mods hV (fun h => h))).2.2.2.1
  have c4 : ∀ V, Mods Nil ((w.alloc (.cells (CV a A n k) 27)).alloc (.cells (CV b B m l) 27)) V → V.cell? ⟨w.heap.size + 1, 4, none⟩ = some (.int .i64 b.segs) := fun V hV => (cv_seven (BB.out.mods hV (fun h => h))).2.2.2.2.1
  have c5 : ∀ V, Mods Nil ((w.alloc (.cells (CV a A n k) 27)).alloc (.cells (CV b B m l) 27)) V → V.cell? ⟨w.heap.size + 1, 5, none⟩ = some (.int .u64 (b.pos : Int)) := fun V hV => (cv_seven (BB.out.mods hV (fun h => h))).2.2.2.2.2.1
  have c6 : ∀ V, Mods Nil ((w.alloc (.cells (CV a A n k) 27)).alloc (.cells (CV b B m l) 27)) V → V.cell? ⟨w.heap.size + 1, 6, none⟩ = some (.slice B m l) := fun V hV => (cv_seven (BB.out.mods hV (fun h => h))).2.2.2.2.2.2
  by_cases hsa : shortB a = true
  rotate_left
  · have hsa' : shortB a = false := by simpa using hsa
    rw [hsa'] at HSA
    generalize shortB b = sb at HSB
    clear ha hA oka hb hB okb hsa hsa'
    as_aux_lemma =>
    cases sb
    all_goals
      go_enter Try.func8, Try.ntmps8
      go_wp2_with (first
      | (go_at_call 10; refine (awake10_any _).mono ?_; rintro e w1 ⟨rfl, hq1⟩; have HQ1 := Lib.hid hq1)
      | (go_at_call 15; first
          | (have hq := HQ1; clear hq; refine (HSA.out _ HQ1.out).mono ?_; rintro e w2 ⟨rfl, m2⟩; have hq2 := Mods.trans HQ1.out m2; have HQ2 := Lib.hid hq2; clear m2 HQ1)
          | (refine (HSB.out _ HQ2.out).mono ?_; rintro e w3 ⟨rfl, m3⟩; have hq3 := Mods.trans HQ2.out m3; have HQ3 := Lib.hid hq3; clear m3)))
      go_ret
      exact ⟨rfl, MM.out.trans hq3⟩
  by_cases hsb : shortB b = true
  rotate_left
  · have hsb' : shortB b = false := by simpa using hsb
    rw [hsb'] at HSB
    rw [hsa] at HSA
    clear ha hA oka hb hB okb hsa hsb hsb'
    as_aux_lemma =>
    go_enter Try.func8, Try.ntmps8
    go_wp2_with (first
      | (go_at_call 10; refine (awake10_any _).mono ?_; rintro e w1 ⟨rfl, hq1⟩; have HQ1 := Lib.hid hq1)
      | (go_at_call 15; first
          | (have hq := HQ1; clear hq; refine (HSA.out _ HQ1.out).mono ?_; rintro e w2 ⟨rfl, m2⟩; have hq2 := Mods.trans HQ1.out m2; have HQ2 := Lib.hid hq2; clear m2 HQ1)
          | (refine (HSB.out _ HQ2.out).mono ?_; rintro e w3 ⟨rfl, m3⟩; have hq3 := Mods.trans HQ2.out m3; have HQ3 := Lib.hid hq3; clear m3)))
    go_ret
    exact ⟨rfl, MM.out.trans hq3⟩
  rw [hsa] at HSA
  rw [hsb] at HSB
  have hoa := oka hsa
  have hob := okb hsb
  have hn := short_n ha hA hsa
  have hm := short_n hb hB hsb
  have HPA1 := Lib.hid (fun W (hW : Mods Nil ((w.alloc (.cells (CV a A n k) 27)).alloc (.cells (CV b B m l) 27)) W) (hc : chkC a = 1) => cput_bad W a (hA.mods (MM.out.trans hW)) hoa ha hc)
  have HPA0 := Lib.hid (fun W (hW : Mods Nil w W) (hc : chkC a = 0) => cput_any W a (hA.mods hW) hoa ha hc)
  have HPB1 := Lib.hid (fun W (hW : Mods Nil ((w.alloc (.cells (CV a A n k) 27)).alloc (.cells (CV b B m l) 27)) W) (hc : chkC b = 1) => cput_bad W b (hB.mods (MM.out.trans hW)) hob hb hc)
  have HPB0 := Lib.hid (fun W (hW : Mods Nil w W) (hc : chkC b = 0) => cput_any W b (hB.mods hW) hob hb hc)
  have HNA := Lib.hid (fun V A' n' k' (L' : List RowP) (h : a.rows = pws L') (r : Rws V A' n' k' L') => rows_n ha hA h r hn)
  have HNB := Lib.hid (fun V A' n' k' (L' : List RowP) (h : b.rows = pws L') (r : Rws V A' n' k' L') => rows_n hb hB h r hm)
  have HCA := Lib.hid (fun W (hW : Mods Nil w W) => cmdOf_any W a ha (hA.mods hW) hn)
  have HCB := Lib.hid (fun W (hW : Mods Nil w W) => cmdOf_any W b hb (hB.mods hW) hm)
  have HINJ := Lib.hid (fun ca cb => put_inj hoa hob ca cb)
  clear oka okb hsa hsb
  cases same with
  | false =>
    rcases chkC_kinds a with hca | hca
    rotate_left
    · have HCKA := Lib.hid hca
      rcases chkC_kinds b with hcb | hcb
      · have HCKB := Lib.hid hcb
        clear hca hcb ha hA hb hB hoa hob
        as_aux_lemma =>
        go_enter Try.func8, Try.ntmps8
        go_wp2_with (first
          | (go_at_call 10; refine (awake10_any _).mono ?_; rintro e w1 ⟨rfl, hq1⟩; have HQ1 := Lib.hid hq1)
          | (go_at_call 15; first
            | (have hq := HQ1; clear hq; refine (HSA.out _ HQ1.out).mono ?_; rintro e w2 ⟨rfl, m2⟩; have hq2 := Mods.trans HQ1.out m2; have HQ2 := Lib.hid hq2; clear m2 HQ1)
            | (refine (HSB.out _ HQ2.out).mono ?_; rintro e w3 ⟨rfl, m3⟩; have hq3 := Mods.trans HQ2.out m3; have HQ3 := Lib.hid hq3; clear m3))
          | (go_at_call_of 16 (Value.agg #[.int .i64 a.op, .int .u64 (a.client : Int), .int .u64 (a.seq : Int), .int .i64 a.shard, .int .i64 a.segs, .int .u64 (a.pos : Int), .slice A n k]); refine (HPA1.out _ hq3 HCKA.out).mono ?_; rintro e w4 ⟨rfl, m4⟩; have hq4 := Mods.trans hq3 m4; clear m4)
          | (go_at_call_of 16 (Value.agg #[.int .i64 b.op, .int .u64 (b.client : Int), .int .u64 (b.seq : Int), .int .i64 b.shard, .int .i64 b.segs, .int .u64 (b.pos : Int), .slice B m l]); refine (HPB0.out _ (MM.out.trans hq4) HCKB.out).mono ?_; rintro e w5 ⟨A5, c5, rfl, s5, m5, -⟩; have hq5 := Mods.trans hq4 m5; have S5 := Lib.hid s5; have M45 := Lib.hid m5; clear s5 m5))
        go_ret
        exact ⟨rfl, MM.out.trans hq5⟩
      · have HCKB := Lib.hid hcb
        clear hca hcb ha hA hb hB hoa hob
        as_aux_lemma =>
        go_enter Try.func8, Try.ntmps8
        go_wp2_with (first
          | (go_at_call 10; refine (awake10_any _).mono ?_; rintro e w1 ⟨rfl, hq1⟩; have HQ1 := Lib.hid hq1)
          | (go_at_call 15; first
            | (have hq := HQ1; clear hq; refine (HSA.out _ HQ1.out).mono ?_; rintro e w2 ⟨rfl, m2⟩; have hq2 := Mods.trans HQ1.out m2; have HQ2 := Lib.hid hq2; clear m2 HQ1)
            | (refine (HSB.out _ HQ2.out).mono ?_; rintro e w3 ⟨rfl, m3⟩; have hq3 := Mods.trans HQ2.out m3; have HQ3 := Lib.hid hq3; clear m3))
          | (go_at_call_of 16 (Value.agg #[.int .i64 a.op, .int .u64 (a.client : Int), .int .u64 (a.seq : Int), .int .i64 a.shard, .int .i64 a.segs, .int .u64 (a.pos : Int), .slice A n k]); refine (HPA1.out _ hq3 HCKA.out).mono ?_; rintro e w4 ⟨rfl, m4⟩; have hq4 := Mods.trans hq3 m4; clear m4)
          | (go_at_call_of 16 (Value.agg #[.int .i64 b.op, .int .u64 (b.client : Int), .int .u64 (b.seq : Int), .int .i64 b.shard, .int .i64 b.segs, .int .u64 (b.pos : Int), .slice B m l]); refine (HPB1.out _ hq4 HCKB.out).mono ?_; rintro e w5 ⟨rfl, m5⟩; have hq5 := Mods.trans hq4 m5; clear m5))
        go_ret
        exact ⟨rfl, MM.out.trans hq5⟩
    rcases chkC_kinds b with hcb | hcb
    rotate_left
    · have HCKA := Lib.hid hca
      have HCKB := Lib.hid hcb
      clear hca hcb ha hA hb hB hoa hob
      as_aux_lemma =>
      go_enter Try.func8, Try.ntmps8
      go_wp2_with (first
        | (go_at_call 10; refine (awake10_any _).mono ?_; rintro e w1 ⟨rfl, hq1⟩; have HQ1 := Lib.hid hq1)
        | (go_at_call 15; first
          | (have hq := HQ1; clear hq; refine (HSA.out _ HQ1.out).mono ?_; rintro e w2 ⟨rfl, m2⟩; have hq2 := Mods.trans HQ1.out m2; have HQ2 := Lib.hid hq2; clear m2 HQ1)
          | (refine (HSB.out _ HQ2.out).mono ?_; rintro e w3 ⟨rfl, m3⟩; have hq3 := Mods.trans HQ2.out m3; have HQ3 := Lib.hid hq3; clear m3))
        | (go_at_call_of 16 (Value.agg #[.int .i64 a.op, .int .u64 (a.client : Int), .int .u64 (a.seq : Int), .int .i64 a.shard, .int .i64 a.segs, .int .u64 (a.pos : Int), .slice A n k]); refine (HPA0.out _ (MM.out.trans hq3) HCKA.out).mono ?_; rintro e w4 ⟨A4, c4, rfl, s4, m4, -⟩; have hq4 := Mods.trans hq3 m4; have S4 := Lib.hid s4; clear s4 m4)
        | (go_at_call_of 16 (Value.agg #[.int .i64 b.op, .int .u64 (b.client : Int), .int .u64 (b.seq : Int), .int .i64 b.shard, .int .i64 b.segs, .int .u64 (b.pos : Int), .slice B m l]); refine (HPB1.out _ hq4 HCKB.out).mono ?_; rintro e w5 ⟨rfl, m5⟩; have hq5 := Mods.trans hq4 m5; clear m5))
      go_ret
      exact ⟨rfl, MM.out.trans hq5⟩
    have HCKA := Lib.hid hca
    have HCKB := Lib.hid hcb
    have hiff := HINJ.out hca hcb
    obtain ⟨pa, hpa⟩ : ∃ p, putC a = p := ⟨_, rfl⟩
    obtain ⟨pb, hpb⟩ : ∃ p, putC b = p := ⟨_, rfl⟩
    rw [hpa] at HPA0 hiff
    rw [hpb] at HPB0 hiff
    obtain ⟨la, hla⟩ : ∃ n, pa.length = n := ⟨_, rfl⟩
    obtain ⟨lb, hlb⟩ : ∃ n, pb.length = n := ⟨_, rfl⟩
    rw [hla] at HPA0
    rw [hlb] at HPB0
    have HLA := Lib.hid hla
    have HLB := Lib.hid hlb
    have HSM := Lib.hid (fun V A4 n4 k4 (L4 : List RowP) A5 n5 k5 (L5 : List RowP) (h4 : a.rows = pws L4) (r4 : Rws V A4 n4 k4 L4) (h5 : b.rows = pws L5) (r5 : Rws V A5 n5 k5 L5) (hn4 : n4 ≤ 100) (hn5 : n5 ≤ 100) => r10same_any V a b h4 h5 r4 r5 hn4 hn5)
    have HIFF := Lib.hid hiff
    clear hca hcb ha hA hb hB hoa hob hiff hpa hpb hla hlb
    go_enter Try.func8, Try.ntmps8
    go_wp2_with (first
      | (go_at_call 10; refine (awake10_any _).mono ?_; rintro e w1 ⟨rfl, hq1⟩; have HQ1 := Lib.hid hq1)
      | (go_at_call 15; first
        | (have hq := HQ1; clear hq; refine (HSA.out _ HQ1.out).mono ?_; rintro e w2 ⟨rfl, m2⟩; have hq2 := Mods.trans HQ1.out m2; have HQ2 := Lib.hid hq2; clear m2 HQ1)
        | (refine (HSB.out _ HQ2.out).mono ?_; rintro e w3 ⟨rfl, m3⟩; have hq3 := Mods.trans HQ2.out m3; have HQ3 := Lib.hid hq3; clear m3))
      | (go_at_call_of 16 (Value.agg #[.int .i64 a.op, .int .u64 (a.client : Int), .int .u64 (a.seq : Int), .int .i64 a.shard, .int .i64 a.segs, .int .u64 (a.pos : Int), .slice A n k]); refine (HPA0.out _ (MM.out.trans hq3) HCKA.out).mono ?_; rintro e w4 ⟨A4, c4, rfl, s4, m4, -⟩; have hq4 := Mods.trans hq3 m4; have S4 := Lib.hid s4; clear s4 m4)
      | (go_at_call_of 16 (Value.agg #[.int .i64 b.op, .int .u64 (b.client : Int), .int .u64 (b.seq : Int), .int .i64 b.shard, .int .i64 b.segs, .int .u64 (b.pos : Int), .slice B m l]); refine (HPB0.out _ (MM.out.trans hq4) HCKB.out).mono ?_; rintro e w5 ⟨A5, c5, rfl, s5, m5, -⟩; have hq5 := Mods.trans hq4 m5; have S5 := Lib.hid s5; have M45 := Lib.hid m5; clear s5 m5))
    have S45 := Lib.hid (S4.out.mods M45.out (fun _ _ h => h))
    have HQ5 := Lib.hid hq5
    have cv1 : ∀ V, Mods Nil w5 V → (convert 22 9 (.slice A4 la c4)).run Try.prog V = .ok (.string (strOf pa)) V := fun V hV => conv10 HLA.out (S45.out.mods hV (fun _ _ h => h))
    have cv2 : ∀ V, Mods Nil w5 V → (convert 22 9 (.slice A5 lb c5)).run Try.prog V = .ok (.string (strOf pb)) V := fun V hV => conv10 HLB.out (S5.out.mods hV (fun _ _ h => h))
    clear b0 b1 b2 b3 b4 b5 b6 c0 c1 c2 c3 c6 hq3 hq4
    have d0 : ∀ V, Mods Nil w5 V → V.cell? ⟨w.heap.size, 0, none⟩ = some (.int .i64 a.op) := fun V hV => (cv_seven ((BA.out.mods HQ5.out (fun h => h)).mods hV (fun h => h))).1
    have d1 : ∀ V, Mods Nil w5 V → V.cell? ⟨w.heap.size, 1, none⟩ = some (.int .u64 (a.client : Int)) := fun V hV => (cv_seven ((BA.out.mods HQ5.out (fun h => h)).mods hV (fun h => h))).2.1
    have d2 : ∀ V, Mods Nil w5 V → V.cell? ⟨w.heap.size, 2, none⟩ = some (.int .u64 (a.seq : Int)) := fun V hV => (cv_seven ((BA.out.mods HQ5.out (fun h => h)).mods hV (fun h => h))).2.2.1
    have d3 : ∀ V, Mods Nil w5 V → V.cell? ⟨w.heap.size, 3, none⟩ = some (.int .i64 a.shard) := fun V hV => (cv_seven ((BA.out.mods HQ5.out (fun h => h)).mods hV (fun h => h))).2.2.2.1
    have d4 : ∀ V, Mods Nil w5 V → V.cell? ⟨w.heap.size, 4, none⟩ = some (.int .i64 a.segs) := fun V hV => (cv_seven ((BA.out.mods HQ5.out (fun h => h)).mods hV (fun h => h))).2.2.2.2.1
    have d5 : ∀ V, Mods Nil w5 V → V.cell? ⟨w.heap.size, 5, none⟩ = some (.int .u64 (a.pos : Int)) := fun V hV => (cv_seven ((BA.out.mods HQ5.out (fun h => h)).mods hV (fun h => h))).2.2.2.2.2.1
    have d6 : ∀ V, Mods Nil w5 V → V.cell? ⟨w.heap.size, 6, none⟩ = some (.slice A n k) := fun V hV => (cv_seven ((BA.out.mods HQ5.out (fun h => h)).mods hV (fun h => h))).2.2.2.2.2.2
    have e0 : ∀ V, Mods Nil w5 V → V.cell? ⟨w.heap.size + 1, 0, none⟩ = some (.int .i64 b.op) := fun V hV => (cv_seven ((BB.out.mods HQ5.out (fun h => h)).mods hV (fun h => h))).1
    have e1 : ∀ V, Mods Nil w5 V → V.cell? ⟨w.heap.size + 1, 1, none⟩ = some (.int .u64 (b.client : Int)) := fun V hV => (cv_seven ((BB.out.mods HQ5.out (fun h => h)).mods hV (fun h => h))).2.1
    have e2 : ∀ V, Mods Nil w5 V → V.cell? ⟨w.heap.size + 1, 2, none⟩ = some (.int .u64 (b.seq : Int)) := fun V hV => (cv_seven ((BB.out.mods HQ5.out (fun h => h)).mods hV (fun h => h))).2.2.1
    have e3 : ∀ V, Mods Nil w5 V → V.cell? ⟨w.heap.size + 1, 3, none⟩ = some (.int .i64 b.shard) := fun V hV => (cv_seven ((BB.out.mods HQ5.out (fun h => h)).mods hV (fun h => h))).2.2.2.1
    have e4 : ∀ V, Mods Nil w5 V → V.cell? ⟨w.heap.size + 1, 4, none⟩ = some (.int .i64 b.segs) := fun V hV => (cv_seven ((BB.out.mods HQ5.out (fun h => h)).mods hV (fun h => h))).2.2.2.2.1
    have e5 : ∀ V, Mods Nil w5 V → V.cell? ⟨w.heap.size + 1, 5, none⟩ = some (.int .u64 (b.pos : Int)) := fun V hV => (cv_seven ((BB.out.mods HQ5.out (fun h => h)).mods hV (fun h => h))).2.2.2.2.2.1
    have e6 : ∀ V, Mods Nil w5 V → V.cell? ⟨w.heap.size + 1, 6, none⟩ = some (.slice B m l) := fun V hV => (cv_seven ((BB.out.mods HQ5.out (fun h => h)).mods hV (fun h => h))).2.2.2.2.2.2
    clear hq5
    by_cases hpp : pa = pb
    · subst hpp
      have ks := strOf_toList pa
      have HAB := Lib.hid (HIFF.out.1 rfl)
      go_region_held (fun V => Mods Nil w5 V) (first | exact (Mods.refl Nil w5).drew | assumption) (first
        | (go_at_call_of 14 (Value.agg #[.int .i64 a.op, .int .u64 (a.client : Int), .int .u64 (a.seq : Int), .int .i64 a.shard, .int .i64 a.segs, .int .u64 (a.pos : Int), .slice A n k]); refine (HCA.out _ (MM.out.trans (HQ5.out.trans (by first | exact (Mods.refl Nil w5).drew | assumption)))).mono ?_; rintro e wP ⟨AP, nP, kP, rfl, ⟨LP, hP, rP⟩, mP⟩; have hqP : Mods Nil w5 wP := Mods.trans (by first | exact (Mods.refl Nil w5).drew | assumption) mP; have HNP := Lib.hid (HNA.out _ _ _ _ _ hP rP); have HmP := Lib.hid (show ∀ V, Mods Nil wP V → Rws V AP nP kP LP from fun V hV => rP.mods hV); have HHP := Lib.hid hP; have hPP := Mods.refl Nil wP; have mPd := mP; clear hP rP)
        | (go_at_call_of 14 (Value.agg #[.int .i64 b.op, .int .u64 (b.client : Int), .int .u64 (b.seq : Int), .int .i64 b.shard, .int .i64 b.segs, .int .u64 (b.pos : Int), .slice B m l]); refine (HCB.out _ (MM.out.trans (HQ5.out.trans (by first | exact (Mods.refl Nil w5).drew | assumption)))).mono ?_; rintro e wQ ⟨AQ, nQ, kQ, rfl, ⟨LQ, hQ, rQ⟩, mQ⟩; have hqQ : Mods Nil w5 wQ := Mods.trans (by first | exact (Mods.refl Nil w5).drew | assumption) mQ; have HNQ := Lib.hid (HNB.out _ _ _ _ _ hQ rQ); have HmQ := Lib.hid (show ∀ V, Mods Nil wQ V → Rws V AQ nQ kQ LQ from fun V hV => rQ.mods hV); have HHQ := Lib.hid hQ; have hQQ := Mods.refl Nil wQ; have mQd := mQ; clear hQ rQ)
        | (go_at_call 13; refine (HSM.out _ _ _ _ _ _ _ _ _ HHP.out (HmP.out _ (by assumption)) HHQ.out (HmQ.out _ (by assumption)) HNP.out HNQ.out).mono ?_; rintro e wS ⟨rS, rfl, hS, mS⟩; obtain rfl : rS = true := hS.2 HAB.out; have hqS : Mods Nil w5 wS := Mods.trans (by assumption) mS; clear hS mS))
      all_goals
        go_wp2
        go_ret
        exact ⟨rfl, MM.out.trans (HQ5.out.trans hqS)⟩
    · have ks := strOf_toList pa
      have ks2 := strOf_toList pb
      have hb1 : (pa == pb) = false := by simp [hpp]
      have hb2 : decide (pa = pb) = false := by simp [hpp]
      have HAB := Lib.hid (fun h : a = b => hpp (HIFF.out.2 h))
      go_region_held (fun V => Mods Nil w5 V) (first | exact (Mods.refl Nil w5).drew | assumption) (first
        | (go_at_call_of 14 (Value.agg #[.int .i64 a.op, .int .u64 (a.client : Int), .int .u64 (a.seq : Int), .int .i64 a.shard, .int .i64 a.segs, .int .u64 (a.pos : Int), .slice A n k]); refine (HCA.out _ (MM.out.trans (HQ5.out.trans (by first | exact (Mods.refl Nil w5).drew | assumption)))).mono ?_; rintro e wP ⟨AP, nP, kP, rfl, ⟨LP, hP, rP⟩, mP⟩; have hqP : Mods Nil w5 wP := Mods.trans (by first | exact (Mods.refl Nil w5).drew | assumption) mP; have HNP := Lib.hid (HNA.out _ _ _ _ _ hP rP); have HmP := Lib.hid (show ∀ V, Mods Nil wP V → Rws V AP nP kP LP from fun V hV => rP.mods hV); have HHP := Lib.hid hP; have hPP := Mods.refl Nil wP; have mPd := mP; clear hP rP)
        | (go_at_call_of 14 (Value.agg #[.int .i64 b.op, .int .u64 (b.client : Int), .int .u64 (b.seq : Int), .int .i64 b.shard, .int .i64 b.segs, .int .u64 (b.pos : Int), .slice B m l]); refine (HCB.out _ (MM.out.trans (HQ5.out.trans (by first | exact (Mods.refl Nil w5).drew | assumption)))).mono ?_; rintro e wQ ⟨AQ, nQ, kQ, rfl, ⟨LQ, hQ, rQ⟩, mQ⟩; have hqQ : Mods Nil w5 wQ := Mods.trans (by first | exact (Mods.refl Nil w5).drew | assumption) mQ; have HNQ := Lib.hid (HNB.out _ _ _ _ _ hQ rQ); have HmQ := Lib.hid (show ∀ V, Mods Nil wQ V → Rws V AQ nQ kQ LQ from fun V hV => rQ.mods hV); have HHQ := Lib.hid hQ; have hQQ := Mods.refl Nil wQ; have mQd := mQ; clear hQ rQ)
        | (go_at_call 13; refine (HSM.out _ _ _ _ _ _ _ _ _ HHP.out (HmP.out _ (by assumption)) HHQ.out (HmQ.out _ (by assumption)) HNP.out HNQ.out).mono ?_; rintro e wS ⟨rS, rfl, hS, mS⟩; obtain rfl : rS = false := (by cases rS with | false => rfl | true => exact absurd (hS.1 rfl) HAB.out); have hqS : Mods Nil w5 wS := Mods.trans (by assumption) mS; clear hS mS))
      all_goals
        go_wp2
        go_ret
        exact ⟨rfl, MM.out.trans (HQ5.out.trans hqS)⟩
  | true =>
    rcases chkC_kinds a with hca | hca
    rotate_left
    · have HPS1 := Lib.hid (fun W (hW : Mods Nil w W) => cput_bad W a (hA.mods hW) hoa ha hca)
      have HF1 := Lib.hid trivial
      clear hca ha hA hb hB hoa hob
      as_aux_lemma =>
      go_enter Try.func8, Try.ntmps8
      go_wp2_with (first
        | (go_at_call 10; refine (awake10_any _).mono ?_; rintro e w1 ⟨rfl, hq1⟩; have HQ1 := Lib.hid hq1)
        | (go_at_call 15; first
          | (have hq := HQ1; clear hq; refine (HSA.out _ HQ1.out).mono ?_; rintro e w2 ⟨rfl, m2⟩; have hq2 := Mods.trans HQ1.out m2; have HQ2 := Lib.hid hq2; clear m2 HQ1)
          | (refine (HSB.out _ HQ2.out).mono ?_; rintro e w3 ⟨rfl, m3⟩; have hq3 := Mods.trans HQ2.out m3; have HQ3 := Lib.hid hq3; clear m3))
        | (refine wpList_store_row rfl _ _ _ rfl rfl (w.heap.size + 1) rfl _ (CV b B m l) (CV a A n k) rfl (BB.out.mods HQ3.out (fun h => h)) rfl (CV_one _ _ _ _) CV_info (CV_cells _ _ _ _) ?_; have mS : Mods (· = w.heap.size + 1) w3 (w3.setRow (w.heap.size + 1) (CV a A n k)) := Mods.setRow (S := (· = w.heap.size + 1)) (Mods.refl _ _) (fun _ => rfl) _; have BS1 := Lib.hid ((BA.out.mods HQ3.out (fun h => h)).mods mS (fun h => by omega)); have BS2 := Lib.hid ((BB.out.mods HQ3.out (fun h => h)).setRow (CV a A n k)); have MS := Lib.hid (show Mods Nil w (w3.setRow (w.heap.size + 1) (CV a A n k)) from (MM.out.trans HQ3.out).nil_trans mS (fun i h => by omega)); clear b0 b1 b2 b3 b4 b5 b6 c0 c1 c2 c3 c4 c5 c6 hq3 mS; have hs3 := Mods.refl Nil (w3.setRow (w.heap.size + 1) (CV a A n k)); have b0 : ∀ V, Mods Nil (w3.setRow (w.heap.size + 1) (CV a A n k)) V → V.cell? ⟨w.heap.size, 0, none⟩ = some (.int .i64 a.op) := fun V hV => (cv_seven (BS1.out.mods hV (fun h => h))).1; have b1 : ∀ V, Mods Nil (w3.setRow (w.heap.size + 1) (CV a A n k)) V → V.cell? ⟨w.heap.size, 1, none⟩ = some (.int .u64 (a.client : Int)) := fun V hV => (cv_seven (BS1.out.mods hV (fun h => h))).2.1; have b2 : ∀ V, Mods Nil (w3.setRow (w.heap.size + 1) (CV a A n k)) V → V.cell? ⟨w.heap.size, 2, none⟩ = some (.int .u64 (a.seq : Int)) := fun V hV => (cv_seven (BS1.out.mods hV (fun h => h))).2.2.1; have b3 : ∀ V, Mods Nil (w3.setRow (w.heap.size + 1) (CV a A n k)) V → V.cell? ⟨w.heap.size, 3, none⟩ = some (.int .i64 a.shard) := fun V hV => (cv_seven (BS1.out.mods hV (fun h => h))).2.2.2.1; have b4 : ∀ V, Mods Nil (w3.setRow (w.heap.size + 1) (CV a A n k)) V → V.cell? ⟨w.heap.size, 4, none⟩ = some (.int .i64 a.segs) := fun V hV => (cv_seven (BS1.out.mods hV (fun h => h))).2.2.2.2.1; have b5 : ∀ V, Mods Nil (w3.setRow (w.heap.size + 1) (CV a A n k)) V → V.cell? ⟨w.heap.size, 5, none⟩ = some (.int .u64 (a.pos : Int)) := fun V hV => (cv_seven (BS1.out.mods hV (fun h => h))).2.2.2.2.2.1; have b6 : ∀ V, Mods Nil (w3.setRow (w.heap.size + 1) (CV a A n k)) V → V.cell? ⟨w.heap.size, 6, none⟩ = some (.slice A n k) := fun V hV => (cv_seven (BS1.out.mods hV (fun h => h))).2.2.2.2.2.2; have c0 : ∀ V, Mods Nil (w3.setRow (w.heap.size + 1) (CV a A n k)) V → V.cell? ⟨w.heap.size + 1, 0, none⟩ = some (.int .i64 a.op) := fun V hV => (cv_seven (BS2.out.mods hV (fun h => h))).1; have c1 : ∀ V, Mods Nil (w3.setRow (w.heap.size + 1) (CV a A n k)) V → V.cell? ⟨w.heap.size + 1, 1, none⟩ = some (.int .u64 (a.client : Int)) := fun V hV => (cv_seven (BS2.out.mods hV (fun h => h))).2.1; have c2 : ∀ V, Mods Nil (w3.setRow (w.heap.size + 1) (CV a A n k)) V → V.cell? ⟨w.heap.size + 1, 2, none⟩ = some (.int .u64 (a.seq : Int)) := fun V hV => (cv_seven (BS2.out.mods hV (fun h => h))).2.2.1; have c3 : ∀ V, Mods Nil (w3.setRow (w.heap.size + 1) (CV a A n k)) V → V.cell? ⟨w.heap.size + 1, 3, none⟩ = some (.int .i64 a.shard) := fun V hV => (cv_seven (BS2.out.mods hV (fun h => h))).2.2.2.1; have c4 : ∀ V, Mods Nil (w3.setRow (w.heap.size + 1) (CV a A n k)) V → V.cell? ⟨w.heap.size + 1, 4, none⟩ = some (.int .i64 a.segs) := fun V hV => (cv_seven (BS2.out.mods hV (fun h => h))).2.2.2.2.1; have c5 : ∀ V, Mods Nil (w3.setRow (w.heap.size + 1) (CV a A n k)) V → V.cell? ⟨w.heap.size + 1, 5, none⟩ = some (.int .u64 (a.pos : Int)) := fun V hV => (cv_seven (BS2.out.mods hV (fun h => h))).2.2.2.2.2.1; have c6 : ∀ V, Mods Nil (w3.setRow (w.heap.size + 1) (CV a A n k)) V → V.cell? ⟨w.heap.size + 1, 6, none⟩ = some (.slice A n k) := fun V hV => (cv_seven (BS2.out.mods hV (fun h => h))).2.2.2.2.2.2)
        | (go_at_call 16; first
          | (have hq := HF1; clear hq; refine (HPS1.out _ (MS.out.trans hs3)).mono ?_; rintro e w4 ⟨rfl, m4⟩; have hs4 := Mods.trans hs3 m4; clear m4 HF1)
          | (refine (HPS1.out _ (MS.out.trans hs4)).mono ?_; rintro e w5 ⟨rfl, m5⟩; have hs5 := Mods.trans hs4 m5; clear m5)))
      go_ret
      exact ⟨rfl, MS.out.trans hs5⟩
    have HCKA := Lib.hid hca
    obtain ⟨pa, hpa⟩ : ∃ p, putC a = p := ⟨_, rfl⟩
    rw [hpa] at HPA0
    obtain ⟨la, hla⟩ : ∃ n, pa.length = n := ⟨_, rfl⟩
    rw [hla] at HPA0
    have HLA := Lib.hid hla
    have HF1 := Lib.hid trivial
    have HSM := Lib.hid (fun V A4 n4 k4 (L4 : List RowP) A5 n5 k5 (L5 : List RowP) (h4 : a.rows = pws L4) (r4 : Rws V A4 n4 k4 L4) (h5 : a.rows = pws L5) (r5 : Rws V A5 n5 k5 L5) (hn4 : n4 ≤ 100) (hn5 : n5 ≤ 100) => r10same_any V a a h4 h5 r4 r5 hn4 hn5)
    clear hca ha hA hb hB hoa hob hpa hla
    go_enter Try.func8, Try.ntmps8
    go_wp2_with (first
      | (go_at_call 10; refine (awake10_any _).mono ?_; rintro e w1 ⟨rfl, hq1⟩; have HQ1 := Lib.hid hq1)
      | (go_at_call 15; first
        | (have hq := HQ1; clear hq; refine (HSA.out _ HQ1.out).mono ?_; rintro e w2 ⟨rfl, m2⟩; have hq2 := Mods.trans HQ1.out m2; have HQ2 := Lib.hid hq2; clear m2 HQ1)
        | (refine (HSB.out _ HQ2.out).mono ?_; rintro e w3 ⟨rfl, m3⟩; have hq3 := Mods.trans HQ2.out m3; have HQ3 := Lib.hid hq3; clear m3))
      | (refine wpList_store_row rfl _ _ _ rfl rfl (w.heap.size + 1) rfl _ (CV b B m l) (CV a A n k) rfl (BB.out.mods HQ3.out (fun h => h)) rfl (CV_one _ _ _ _) CV_info (CV_cells _ _ _ _) ?_; have mS : Mods (· = w.heap.size + 1) w3 (w3.setRow (w.heap.size + 1) (CV a A n k)) := Mods.setRow (S := (· = w.heap.size + 1)) (Mods.refl _ _) (fun _ => rfl) _; have BS1 := Lib.hid ((BA.out.mods HQ3.out (fun h => h)).mods mS (fun h => by omega)); have BS2 := Lib.hid ((BB.out.mods HQ3.out (fun h => h)).setRow (CV a A n k)); have MS := Lib.hid (show Mods Nil w (w3.setRow (w.heap.size + 1) (CV a A n k)) from (MM.out.trans HQ3.out).nil_trans mS (fun i h => by omega)); clear b0 b1 b2 b3 b4 b5 b6 c0 c1 c2 c3 c4 c5 c6 hq3 mS; have hs3 := Mods.refl Nil (w3.setRow (w.heap.size + 1) (CV a A n k)); have b0 : ∀ V, Mods Nil (w3.setRow (w.heap.size + 1) (CV a A n k)) V → V.cell? ⟨w.heap.size, 0, none⟩ = some (.int .i64 a.op) := fun V hV => (cv_seven (BS1.out.mods hV (fun h => h))).1; have b1 : ∀ V, Mods Nil (w3.setRow (w.heap.size + 1) (CV a A n k)) V → V.cell? ⟨w.heap.size, 1, none⟩ = some (.int .u64 (a.client : Int)) := fun V hV => (cv_seven (BS1.out.mods hV (fun h => h))).2.1; have b2 : ∀ V, Mods Nil (w3.setRow (w.heap.size + 1) (CV a A n k)) V → V.cell? ⟨w.heap.size, 2, none⟩ = some (.int .u64 (a.seq : Int)) := fun V hV => (cv_seven (BS1.out.mods hV (fun h => h))).2.2.1; have b3 : ∀ V, Mods Nil (w3.setRow (w.heap.size + 1) (CV a A n k)) V → V.cell? ⟨w.heap.size, 3, none⟩ = some (.int .i64 a.shard) := fun V hV => (cv_seven (BS1.out.mods hV (fun h => h))).2.2.2.1; have b4 : ∀ V, Mods Nil (w3.setRow (w.heap.size + 1) (CV a A n k)) V → V.cell? ⟨w.heap.size, 4, none⟩ = some (.int .i64 a.segs) := fun V hV => (cv_seven (BS1.out.mods hV (fun h => h))).2.2.2.2.1; have b5 : ∀ V, Mods Nil (w3.setRow (w.heap.size + 1) (CV a A n k)) V → V.cell? ⟨w.heap.size, 5, none⟩ = some (.int .u64 (a.pos : Int)) := fun V hV => (cv_seven (BS1.out.mods hV (fun h => h))).2.2.2.2.2.1; have b6 : ∀ V, Mods Nil (w3.setRow (w.heap.size + 1) (CV a A n k)) V → V.cell? ⟨w.heap.size, 6, none⟩ = some (.slice A n k) := fun V hV => (cv_seven (BS1.out.mods hV (fun h => h))).2.2.2.2.2.2; have c0 : ∀ V, Mods Nil (w3.setRow (w.heap.size + 1) (CV a A n k)) V → V.cell? ⟨w.heap.size + 1, 0, none⟩ = some (.int .i64 a.op) := fun V hV => (cv_seven (BS2.out.mods hV (fun h => h))).1; have c1 : ∀ V, Mods Nil (w3.setRow (w.heap.size + 1) (CV a A n k)) V → V.cell? ⟨w.heap.size + 1, 1, none⟩ = some (.int .u64 (a.client : Int)) := fun V hV => (cv_seven (BS2.out.mods hV (fun h => h))).2.1; have c2 : ∀ V, Mods Nil (w3.setRow (w.heap.size + 1) (CV a A n k)) V → V.cell? ⟨w.heap.size + 1, 2, none⟩ = some (.int .u64 (a.seq : Int)) := fun V hV => (cv_seven (BS2.out.mods hV (fun h => h))).2.2.1; have c3 : ∀ V, Mods Nil (w3.setRow (w.heap.size + 1) (CV a A n k)) V → V.cell? ⟨w.heap.size + 1, 3, none⟩ = some (.int .i64 a.shard) := fun V hV => (cv_seven (BS2.out.mods hV (fun h => h))).2.2.2.1; have c4 : ∀ V, Mods Nil (w3.setRow (w.heap.size + 1) (CV a A n k)) V → V.cell? ⟨w.heap.size + 1, 4, none⟩ = some (.int .i64 a.segs) := fun V hV => (cv_seven (BS2.out.mods hV (fun h => h))).2.2.2.2.1; have c5 : ∀ V, Mods Nil (w3.setRow (w.heap.size + 1) (CV a A n k)) V → V.cell? ⟨w.heap.size + 1, 5, none⟩ = some (.int .u64 (a.pos : Int)) := fun V hV => (cv_seven (BS2.out.mods hV (fun h => h))).2.2.2.2.2.1; have c6 : ∀ V, Mods Nil (w3.setRow (w.heap.size + 1) (CV a A n k)) V → V.cell? ⟨w.heap.size + 1, 6, none⟩ = some (.slice A n k) := fun V hV => (cv_seven (BS2.out.mods hV (fun h => h))).2.2.2.2.2.2)
      | (go_at_call 16; first
        | (have hq := HF1; clear hq; refine (HPA0.out _ (MS.out.trans hs3) HCKA.out).mono ?_; rintro e w4 ⟨A4, c4', rfl, s4, m4, -⟩; have hs4 := Mods.trans hs3 m4; have S4 := Lib.hid s4; clear s4 m4 HF1)
        | (refine (HPA0.out _ (MS.out.trans hs4) HCKA.out).mono ?_; rintro e w5 ⟨A5, c5', rfl, s5, m5, -⟩; have hs5 := Mods.trans hs4 m5; have S5 := Lib.hid s5; have M45 := Lib.hid m5; clear s5 m5)))
    have S45 := Lib.hid (S4.out.mods M45.out (fun _ _ h => h))
    have HS5 := Lib.hid hs5
    have cv1 : ∀ V, Mods Nil w5 V → (convert 22 9 (.slice A4 la c4')).run Try.prog V = .ok (.string (strOf pa)) V := fun V hV => conv10 HLA.out (S45.out.mods hV (fun _ _ h => h))
    have cv2 : ∀ V, Mods Nil w5 V → (convert 22 9 (.slice A5 la c5')).run Try.prog V = .ok (.string (strOf pa)) V := fun V hV => conv10 HLA.out (S5.out.mods hV (fun _ _ h => h))
    have ks := strOf_toList pa
    clear b0 b1 b2 b3 b4 b5 b6 c0 c1 c2 c3 c4 c5 c6 hs3 hs4
    have d0 : ∀ V, Mods Nil w5 V → V.cell? ⟨w.heap.size, 0, none⟩ = some (.int .i64 a.op) := fun V hV => (cv_seven ((BS1.out.mods HS5.out (fun h => h)).mods hV (fun h => h))).1
    have d1 : ∀ V, Mods Nil w5 V → V.cell? ⟨w.heap.size, 1, none⟩ = some (.int .u64 (a.client : Int)) := fun V hV => (cv_seven ((BS1.out.mods HS5.out (fun h => h)).mods hV (fun h => h))).2.1
    have d2 : ∀ V, Mods Nil w5 V → V.cell? ⟨w.heap.size, 2, none⟩ = some (.int .u64 (a.seq : Int)) := fun V hV => (cv_seven ((BS1.out.mods HS5.out (fun h => h)).mods hV (fun h => h))).2.2.1
    have d3 : ∀ V, Mods Nil w5 V → V.cell? ⟨w.heap.size, 3, none⟩ = some (.int .i64 a.shard) := fun V hV => (cv_seven ((BS1.out.mods HS5.out (fun h => h)).mods hV (fun h => h))).2.2.2.1
    have d4 : ∀ V, Mods Nil w5 V → V.cell? ⟨w.heap.size, 4, none⟩ = some (.int .i64 a.segs) := fun V hV => (cv_seven ((BS1.out.mods HS5.out (fun h => h)).mods hV (fun h => h))).2.2.2.2.1
    have d5 : ∀ V, Mods Nil w5 V → V.cell? ⟨w.heap.size, 5, none⟩ = some (.int .u64 (a.pos : Int)) := fun V hV => (cv_seven ((BS1.out.mods HS5.out (fun h => h)).mods hV (fun h => h))).2.2.2.2.2.1
    have d6 : ∀ V, Mods Nil w5 V → V.cell? ⟨w.heap.size, 6, none⟩ = some (.slice A n k) := fun V hV => (cv_seven ((BS1.out.mods HS5.out (fun h => h)).mods hV (fun h => h))).2.2.2.2.2.2
    have e0 : ∀ V, Mods Nil w5 V → V.cell? ⟨w.heap.size + 1, 0, none⟩ = some (.int .i64 a.op) := fun V hV => (cv_seven ((BS2.out.mods HS5.out (fun h => h)).mods hV (fun h => h))).1
    have e1 : ∀ V, Mods Nil w5 V → V.cell? ⟨w.heap.size + 1, 1, none⟩ = some (.int .u64 (a.client : Int)) := fun V hV => (cv_seven ((BS2.out.mods HS5.out (fun h => h)).mods hV (fun h => h))).2.1
    have e2 : ∀ V, Mods Nil w5 V → V.cell? ⟨w.heap.size + 1, 2, none⟩ = some (.int .u64 (a.seq : Int)) := fun V hV => (cv_seven ((BS2.out.mods HS5.out (fun h => h)).mods hV (fun h => h))).2.2.1
    have e3 : ∀ V, Mods Nil w5 V → V.cell? ⟨w.heap.size + 1, 3, none⟩ = some (.int .i64 a.shard) := fun V hV => (cv_seven ((BS2.out.mods HS5.out (fun h => h)).mods hV (fun h => h))).2.2.2.1
    have e4 : ∀ V, Mods Nil w5 V → V.cell? ⟨w.heap.size + 1, 4, none⟩ = some (.int .i64 a.segs) := fun V hV => (cv_seven ((BS2.out.mods HS5.out (fun h => h)).mods hV (fun h => h))).2.2.2.2.1
    have e5 : ∀ V, Mods Nil w5 V → V.cell? ⟨w.heap.size + 1, 5, none⟩ = some (.int .u64 (a.pos : Int)) := fun V hV => (cv_seven ((BS2.out.mods HS5.out (fun h => h)).mods hV (fun h => h))).2.2.2.2.2.1
    have e6 : ∀ V, Mods Nil w5 V → V.cell? ⟨w.heap.size + 1, 6, none⟩ = some (.slice A n k) := fun V hV => (cv_seven ((BS2.out.mods HS5.out (fun h => h)).mods hV (fun h => h))).2.2.2.2.2.2
    clear hs5
    have HF2 := Lib.hid trivial
    go_region_held (fun V => Mods Nil w5 V) (first | exact (Mods.refl Nil w5).drew | assumption) (first
      | (go_at_call 14; first
          | (have hq := HF2; clear hq; refine (HCA.out _ (MS.out.trans (HS5.out.trans (by first | exact (Mods.refl Nil w5).drew | assumption)))).mono ?_; rintro e wP ⟨AP, nP, kP, rfl, ⟨LP, hP, rP⟩, mP⟩; have hqP : Mods Nil w5 wP := Mods.trans (by first | exact (Mods.refl Nil w5).drew | assumption) mP; have HNP := Lib.hid (HNA.out _ _ _ _ _ hP rP); have HmP := Lib.hid (show ∀ V, Mods Nil wP V → Rws V AP nP kP LP from fun V hV => rP.mods hV); have HHP := Lib.hid hP; have hPP := Mods.refl Nil wP; clear hP rP mP HF2)
          | (refine (HCA.out _ (MS.out.trans (HS5.out.trans hqP))).mono ?_; rintro e wQ ⟨AQ, nQ, kQ, rfl, ⟨LQ, hQ, rQ⟩, mQ⟩; have hqQ : Mods Nil w5 wQ := Mods.trans hqP mQ; have HNQ := Lib.hid (HNA.out _ _ _ _ _ hQ rQ); have HmQ := Lib.hid (show ∀ V, Mods Nil wQ V → Rws V AQ nQ kQ LQ from fun V hV => rQ.mods hV); have HHQ := Lib.hid hQ; have hQQ := Mods.refl Nil wQ; have mQd := mQ; clear hQ rQ))
      | (go_at_call_of 13 (Value.agg (CC a AP nP kP)); refine (HSM.out _ _ _ _ _ _ _ _ _ HHP.out (HmP.out _ (by assumption)) HHQ.out (HmQ.out _ (by assumption)) HNP.out HNQ.out).mono ?_; rintro e wS ⟨rS, rfl, hS, mS⟩; obtain rfl : rS = true := hS.2 rfl; have hqS : Mods Nil w5 wS := Mods.trans (by assumption) mS; clear hS mS)
      | (go_at_call_of 13 (Value.agg (CC a AQ nQ kQ)); refine (HSM.out _ _ _ _ _ _ _ _ _ HHQ.out (HmQ.out _ (by assumption)) HHP.out (HmP.out _ (by assumption)) HNQ.out HNP.out).mono ?_; rintro e wS ⟨rS, rfl, hS, mS⟩; obtain rfl : rS = true := hS.2 rfl; have hqS : Mods Nil w5 wS := Mods.trans (by assumption) mS; clear hS mS))
    all_goals
      go_wp2
      go_ret
      exact ⟨rfl, MS.out.trans (HS5.out.trans hqS)⟩
end Go.Proofs.Ytcncgjiaefjmhaa
