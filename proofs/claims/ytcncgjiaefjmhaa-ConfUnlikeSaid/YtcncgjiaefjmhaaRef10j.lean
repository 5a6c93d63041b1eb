/- The reference of layer 10: are two the same (Same); printed by wip/tools/gen10/gensame.py. -/
import Derived.Test.YtcncgjiaefjmhaaRef10b
import Derived.Deep.QuietTactic
import Derived.BigQuiet
namespace Go.Proofs.Ytcncgjiaefjmhaa
set_option maxRecDepth 1000000
open Go.RowKit
set_option linter.unusedVariables false
set_option linter.unusedSimpArgs false

/-- What Same tells. -/
def SameT (w : World) (a b : PC) (e : Ending) (w' : World) : Prop := ∃ r : Bool, e = .returned (.bool r) ∧ (r = true ↔ a = b) ∧ Mods Nil w w'
theorem pws_ext {L M : List RowP} (hl : L.length = M.length) (h : ∀ (i : Nat) (q r : RowP), L[i]? = some q → M[i]? = some r → q.pw = r.pw) : pws L = pws M := by
  apply List.ext_getElem?
  intro i
  unfold pws
  rw [List.getElem?_map, List.getElem?_map]
  by_cases hi : i < L.length
  · have h1 : L[i]? = some L[i] := by simp [hi]
    have h2 : M[i]? = some (M[i]'(by omega)) := List.getElem?_eq_getElem (by omega)
    rw [h1, h2]
    simp [h i _ _ h1 h2]
  · rw [List.getElem?_eq_none (by omega), List.getElem?_eq_none (by omega)]
theorem pws_at {L M : List RowP} (h : pws L = pws M) {i : Nat} {q r : RowP} (hq : L[i]? = some q) (hr : M[i]? = some r) : q.shard = r.shard ∧ q.lens = r.lens := by
  have h1 := congrArg (fun l : List PW => l[i]?) h
  simp only [pws, List.getElem?_map, hq, hr, Option.map_some, Option.some.injEq] at h1
  unfold RowP.pw at h1
  injection h1 with h1 h2
  exact ⟨h1, h2⟩
theorem lens_ext {x y : List Nat} (hl : x.length = y.length) (h : ∀ i, i < x.length → vat x i = vat y i) : x = y := by
  apply List.ext_getElem hl
  intro i h1 h2
  have := h i h1
  rwa [vat_lt h1, vat_lt h2] at this
theorem ne_u64 {x y : Nat} : (((x : Nat) : Int) != ((y : Nat) : Int)) = decide (x ≠ y) := by
  by_cases h : x = y
  · subst h; simp
  · have : ((x : Int) != (y : Int)) = true := by rw [bne_iff_ne]; omega
    rw [this]; simp [h]
theorem ne_i64 {x y : Int} : (x != y) = decide (x ≠ y) := by
  by_cases h : x = y
  · subst h; simp
  · have : (x != y) = true := by rw [bne_iff_ne]; exact h
    rw [this]; simp [h]
set_option maxHeartbeats 8000000 in
theorem r10same_any (w : World) (a b : PC) {A B : Option Addr} {n k m l : Nat} {L M : List RowP} (ha : a.rows = pws L) (hb : b.rows = pws M) (hA : Rws w A n k L) (hB : Rws w B m l M) (hn : n ≤ 100) (hm : m ≤ 100) :
    Calls Try.prog 13 #[.agg (CC a A n k), .agg (CC b B m l)] w (SameT w a b) := by
  have HLA := Lib.hid hA
  have HLB := Lib.hid hB
  have HA := Lib.hid ha
  have HB := Lib.hid hb
  have hLn := hA.len
  have hMn := hB.len
  have HLn := Lib.hid hLn
  have HMn := Lib.hid hMn
  have B1 := Lib.hid ((Blk.new w 33 (CC a A n k)).alloc (.cells (CC b B m l) 33))
  have B2 : Hid (Blk ((w.alloc (.cells (CC a A n k) 33)).alloc (.cells (CC b B m l) 33)) (w.heap.size + 1) 33 (CC b B m l)) := Lib.hid (by
    have := Blk.new (w.alloc (.cells (CC a A n k) 33)) 33 (CC b B m l)
    rw [World.size_alloc] at this
    exact this)
  have M0 := Lib.hid (((Mods.refl Nil w).alloc (.cells (CC a A n k) 33)).alloc (.cells (CC b B m l) 33))
  obtain ⟨d0, d1, d2, d3, d4, d5, d6⟩ := B1.out.seven
  obtain ⟨f0, f1, f2, f3, f4, f5, f6⟩ := B2.out.seven
  clear ha hb hA hB hLn hMn
  by_cases h0 : a.op = b.op
  rotate_left
  · have e0 : (a.op != b.op) = true := by rw [ne_i64]; simp [h0]
    have HNE : Hid (a ≠ b) := Lib.hid (fun h => h0 (by rw [h]))
    clear h0
    as_aux_lemma =>
    go_enter Try.func13, Try.ntmps13
    go_wp2_with fail
    go_ret
    exact ⟨false, rfl, ⟨fun h => (by cases h), fun h => absurd h HNE.out⟩, M0.out⟩
  have e0 : (a.op != b.op) = false := by rw [ne_i64]; simp [h0]
  have H0 := Lib.hid h0
  clear h0
  by_cases h1 : a.client = b.client
  rotate_left
  · have e1 : ((a.client : Int) != (b.client : Int)) = true := by rw [ne_u64]; simp [h1]
    have HNE : Hid (a ≠ b) := Lib.hid (fun h => h1 (by rw [h]))
    clear h1
    as_aux_lemma =>
    go_enter Try.func13, Try.ntmps13
    go_wp2_with fail
    go_ret
    exact ⟨false, rfl, ⟨fun h => (by cases h), fun h => absurd h HNE.out⟩, M0.out⟩
  have e1 : ((a.client : Int) != (b.client : Int)) = false := by rw [ne_u64]; simp [h1]
  have H1 := Lib.hid h1
  clear h1
  by_cases h2 : a.seq = b.seq
  rotate_left
  · have e2 : ((a.seq : Int) != (b.seq : Int)) = true := by rw [ne_u64]; simp [h2]
    have HNE : Hid (a ≠ b) := Lib.hid (fun h => h2 (by rw [h]))
    clear h2
    as_aux_lemma =>
    go_enter Try.func13, Try.ntmps13
    go_wp2_with fail
    go_ret
    exact ⟨false, rfl, ⟨fun h => (by cases h), fun h => absurd h HNE.out⟩, M0.out⟩
  have e2 : ((a.seq : Int) != (b.seq : Int)) = false := by rw [ne_u64]; simp [h2]
  have H2 := Lib.hid h2
  clear h2
  by_cases h3 : a.shard = b.shard
  rotate_left
  · have e3 : (a.shard != b.shard) = true := by rw [ne_i64]; simp [h3]
    have HNE : Hid (a ≠ b) := Lib.hid (fun h => h3 (by rw [h]))
    clear h3
    as_aux_lemma =>
    go_enter Try.func13, Try.ntmps13
    go_wp2_with fail
    go_ret
    exact ⟨false, rfl, ⟨fun h => (by cases h), fun h => absurd h HNE.out⟩, M0.out⟩
  have e3 : (a.shard != b.shard) = false := by rw [ne_i64]; simp [h3]
  have H3 := Lib.hid h3
  clear h3
  by_cases h4 : a.segs = b.segs
  rotate_left
  · have e4 : (a.segs != b.segs) = true := by rw [ne_i64]; simp [h4]
    have HNE : Hid (a ≠ b) := Lib.hid (fun h => h4 (by rw [h]))
    clear h4
    as_aux_lemma =>
    go_enter Try.func13, Try.ntmps13
    go_wp2_with fail
    go_ret
    exact ⟨false, rfl, ⟨fun h => (by cases h), fun h => absurd h HNE.out⟩, M0.out⟩
  have e4 : (a.segs != b.segs) = false := by rw [ne_i64]; simp [h4]
  have H4 := Lib.hid h4
  clear h4
  by_cases h5 : a.pos = b.pos
  rotate_left
  · have e5 : ((a.pos : Int) != (b.pos : Int)) = true := by rw [ne_u64]; simp [h5]
    have HNE : Hid (a ≠ b) := Lib.hid (fun h => h5 (by rw [h]))
    clear h5
    as_aux_lemma =>
    go_enter Try.func13, Try.ntmps13
    go_wp2_with fail
    go_ret
    exact ⟨false, rfl, ⟨fun h => (by cases h), fun h => absurd h HNE.out⟩, M0.out⟩
  have e5 : ((a.pos : Int) != (b.pos : Int)) = false := by rw [ne_u64]; simp [h5]
  have H5 := Lib.hid h5
  clear h5
  by_cases h6 : n = m
  rotate_left
  · have e6 : ((n : Int) != (m : Int)) = true := by rw [ne_u64]; simp [h6]
    have HNE : Hid (a ≠ b) := Lib.hid (fun h => h6 (by have h2 := HA.out.symm.trans ((congrArg PC.rows h).trans HB.out); have h3 := congrArg List.length h2; simp only [pws, List.length_map] at h3; rw [HLn.out, HMn.out] at h3; exact h3))
    clear h6
    as_aux_lemma =>
    go_enter Try.func13, Try.ntmps13
    go_wp2_with fail
    go_ret
    exact ⟨false, rfl, ⟨fun h => (by cases h), fun h => absurd h HNE.out⟩, M0.out⟩
  subst h6
  have e6 : ((n : Int) != (n : Int)) = false := by simp
  have HEQ : Hid (a = b ↔ pws L = pws M) := Lib.hid (by
    constructor
    · intro h; rw [← HA.out, ← HB.out, h]
    · intro h
      obtain ⟨a0, a1, a2, a3, a4, a5, a6⟩ := a
      obtain ⟨b0, b1, b2, b3, b4, b5, b6⟩ := b
      have g0 := H0.out; have g1 := H1.out; have g2 := H2.out; have g3 := H3.out; have g4 := H4.out; have g5 := H5.out; have g6 := HA.out; have g7 := HB.out
      dsimp only at g0 g1 g2 g3 g4 g5 g6 g7
      subst g0 g1 g2 g3 g4 g5 g6 g7
      rw [h])
  go_enter Try.func13, Try.ntmps13
  go_wp2_with fail
  clear d0 d1 d2 d3 d4 d5 d6 f0 f1 f2 f3 f4 f5 f6 e0 e1 e2 e3 e4 e5 e6 H0 H1 H2 H3 H4 H5 HA HB
  go_loopw [5] (fun x wr => ∃ (i : Nat), i ≤ n ∧ x = .int .i64 (i : Int) ∧ (∀ (j : Nat) (q r : RowP), j < i → L[j]? = some q → M[j]? = some r → q.shard = r.shard ∧ q.lens = r.lens) ∧ Mods Nil ((w.alloc (.cells (CC a A n k) 33)).alloc (.cells (CC b B n l) 33)) wr) (fun x _ => n - (intOf x).toNat)
  case atStart => exact ⟨0, Nat.zero_le _, rfl, fun j q r h => by omega, Mods.refl _ _⟩
  case round =>
    obtain ⟨wo, hwo⟩ : ∃ x, x = wr := ⟨wr, rfl⟩
    subst hwo
    obtain ⟨i, hi, rfl, hp, hmo⟩ := hrel
    have HP := Lib.hid hp
    have HMO := Lib.hid hmo
    have K1 : ∀ V, Mods Nil wo V → V.cell? ⟨w.heap.size, 6, none⟩ = some (.slice A n k) := fun V hV => ((B1.out.mods (hmo.trans hV) (fun h => h)).seven).2.2.2.2.2.2
    have K2 : ∀ V, Mods Nil wo V → V.cell? ⟨w.heap.size + 1, 6, none⟩ = some (.slice B n l) := fun V hV => ((B2.out.mods (hmo.trans hV) (fun h => h)).seven).2.2.2.2.2.2
    have z1 := K1 wo (Mods.refl _ _)
    by_cases hlt : i < n
    · have hiI : (i : Int) < (n : Int) := by omega
      have hi5 : IntKind.i64.wrap (i : Int) = (i : Int) := IntWalk.i64_in _ (by omega)
      obtain ⟨g, off, q, rfl, hg, hq, hc0, hc1, hs, hx, -⟩ := Rws.at_ HLA.out hlt
      obtain ⟨g2, off2, r, rfl, hg2, hr, hd0, hd1, hs2, hx2, -⟩ := Rws.at_ HLB.out hlt
      have K3 : ∀ V, Mods Nil wo V → V.cell? ⟨g, off + i * 2, none⟩ = some (.int .i64 q.shard) := fun V hV => (World.cell?_of_block (((M0.out.trans hmo).trans hV).block g hg (fun h => h))).trans hc0
      have K4 : ∀ V, Mods Nil wo V → V.cell? ⟨g, off + i * 2 + 1, none⟩ = some (.slice q.A q.lens.length q.cap) := fun V hV => (World.cell?_of_block (((M0.out.trans hmo).trans hV).block g hg (fun h => h))).trans (by rw [Nat.add_assoc]; exact hc1)
      have K5 : ∀ V, Mods Nil wo V → V.cell? ⟨g2, off2 + i * 2, none⟩ = some (.int .i64 r.shard) := fun V hV => (World.cell?_of_block (((M0.out.trans hmo).trans hV).block g2 hg2 (fun h => h))).trans hd0
      have K6 : ∀ V, Mods Nil wo V → V.cell? ⟨g2, off2 + i * 2 + 1, none⟩ = some (.slice r.A r.lens.length r.cap) := fun V hV => (World.cell?_of_block (((M0.out.trans hmo).trans hV).block g2 hg2 (fun h => h))).trans (by rw [Nat.add_assoc]; exact hd1)
      have HQ := Lib.hid hq
      have HR := Lib.hid hr
      have HS := Lib.hid hs
      have HS2 := Lib.hid hs2
      have HAT := Lib.hid (fun h => pws_at (L := L) (M := M) h hq hr)
      have hle := hs.le
      have hmx := hs.max
      rw [nums_length] at hle
      unfold maxLen at hmx
      obtain ⟨s, hqs⟩ : ∃ s, q.shard = s := ⟨_, rfl⟩
      obtain ⟨s2, hrs⟩ : ∃ s, r.shard = s := ⟨_, rfl⟩
      obtain ⟨m1, hqm⟩ : ∃ m, q.lens.length = m := ⟨_, rfl⟩
      obtain ⟨m2, hrm⟩ : ∃ m, r.lens.length = m := ⟨_, rfl⟩
      rw [hqs] at K3
      rw [hrs] at K5
      rw [hqm] at K4 hle
      rw [hrm] at K6
      have HQS := Lib.hid hqs
      have HRS := Lib.hid hrs
      have HQM := Lib.hid hqm
      have HRM := Lib.hid hrm
      have hm47 : m1 ≤ 9223372036854775807 := by omega
      clear hp hmo hc0 hc1 hd0 hd1 hq hr hs hs2 hx hx2 hqs hrs hqm hrm hle hmx
      by_cases hss : s = s2
      rotate_left
      · have e0 : (s != s2) = true := by rw [ne_i64]; simp [hss]
        have HNE : Hid (a ≠ b) := Lib.hid (fun h => hss (by have := (HAT.out (HEQ.out.1 h)).1; rw [HQS.out, HRS.out] at this; exact this))
        clear hss
        go_wp2_with fail
        refine gq_region (by kernel_rfl) (by kernel_rfl) ?_
        try simp only [Act.put, List.setIfInBounds_toArray, List.set_cons_zero, List.set_cons_succ]
        repeat (first
          | go_big_quiet_skip
          | (go_big_quiet_want; first
              | (refine gq_op (v := ?_) ?_ ?_; rotate_left; (focus (intro V hV; go_simp; try with_reducible rfl)); go_big_quiet_on))
            simp only [Act.put, List.setIfInBounds_toArray, List.set_cons_zero, List.set_cons_succ])
        refine wpQuiet_nil ?_
        intro V hV
        have HV := Lib.hid hV
        clear hV K1 K2 K3 K4 K5 K6
        go_wp2_with fail
        go_ret
        exact ⟨false, rfl, ⟨fun h => (by cases h), fun h => absurd h HNE.out⟩, M0.out.trans (HMO.out.trans HV.out)⟩
      have e0 : (s != s2) = false := by rw [ne_i64]; simp [hss]
      by_cases hmm : m1 = m2
      rotate_left
      · have e1 : ((m1 : Int) != (m2 : Int)) = true := by rw [ne_u64]; simp [hmm]
        have HNE : Hid (a ≠ b) := Lib.hid (fun h => hmm (by have := congrArg List.length (HAT.out (HEQ.out.1 h)).2; rw [HQM.out, HRM.out] at this; exact this))
        clear hmm hss
        go_wp2_with fail
        refine gq_region (by kernel_rfl) (by kernel_rfl) ?_
        try simp only [Act.put, List.setIfInBounds_toArray, List.set_cons_zero, List.set_cons_succ]
        repeat (first
          | go_big_quiet_skip
          | (go_big_quiet_want; first
              | (refine gq_op (v := ?_) ?_ ?_; rotate_left; (focus (intro V hV; go_simp; try with_reducible rfl)); go_big_quiet_on))
            simp only [Act.put, List.setIfInBounds_toArray, List.set_cons_zero, List.set_cons_succ])
        refine wpQuiet_nil ?_
        intro V hV
        have HV := Lib.hid hV
        clear hV K1 K2 K3 K4 K5 K6
        go_wp2_with fail
        go_ret
        exact ⟨false, rfl, ⟨fun h => (by cases h), fun h => absurd h HNE.out⟩, M0.out.trans (HMO.out.trans HV.out)⟩
      subst hmm
      have e1 : ((m1 : Int) != (m1 : Int)) = false := by simp
      have HSS := Lib.hid hss
      clear hss
      go_wp2_with fail
      refine gq_region (by kernel_rfl) (by kernel_rfl) ?_
      try simp only [Act.put, List.setIfInBounds_toArray, List.set_cons_zero, List.set_cons_succ]
      repeat (first
        | go_big_quiet_skip
        | (go_big_quiet_want; first
            | (refine gq_op (v := ?_) ?_ ?_; rotate_left; (focus (intro V hV; go_simp; try with_reducible rfl)); go_big_quiet_on))
          simp only [Act.put, List.setIfInBounds_toArray, List.set_cons_zero, List.set_cons_succ])
      refine wpQuiet_nil ?_
      intro V hV
      have HV := Lib.hid hV
      clear hV
      go_wp2_with fail
      have HVW := Lib.hid (HMO.out.trans HV.out)
      clear e0 e1
      go_loopw [6] (fun x wr => ∃ (j : Nat), j ≤ m1 ∧ x = .int .i64 (j : Int) ∧ (∀ t, t < j → vat q.lens t = vat r.lens t) ∧ Mods Nil wo wr) (fun x _ => m1 - (intOf x).toNat)
      case atStart => exact ⟨0, Nat.zero_le _, rfl, fun t h => by omega, HV.out⟩
      case round =>
        obtain ⟨j, hj, rfl, ht, hmi⟩ := hrel
        have HT := Lib.hid ht
        have HMI := Lib.hid hmi
        have z1 := K1 wr hmi
        have z4 := K4 wr hmi
        by_cases hlj : j < m1
        · have hjI : (j : Int) < (m1 : Int) := by omega
          have hj5 : IntKind.i64.wrap (j : Int) = (j : Int) := IntWalk.i64_in _ (by omega)
          obtain ⟨g3, o3, hA3, hg3, hc3⟩ := sl_num HS.out (j := j) (by rw [HQM.out]; exact hlj)
          obtain ⟨g4, o4, hA4, hg4, hc4⟩ := sl_num HS2.out (j := j) (by rw [HRM.out]; exact hlj)
          have J1 : ∀ V, Mods Nil wr V → V.cell? ⟨w.heap.size, 6, none⟩ = some (.slice (some ⟨g, off, none⟩) n k) := fun V hV => K1 V (hmi.trans hV)
          have J2 : ∀ V, Mods Nil wr V → V.cell? ⟨w.heap.size + 1, 6, none⟩ = some (.slice (some ⟨g2, off2, none⟩) n l) := fun V hV => K2 V (hmi.trans hV)
          have J4 : ∀ V, Mods Nil wr V → V.cell? ⟨g, off + i * 2 + 1, none⟩ = some (.slice (some ⟨g3, o3, none⟩) m1 q.cap) := fun V hV => by rw [← hA3]; exact K4 V (hmi.trans hV)
          have J6 : ∀ V, Mods Nil wr V → V.cell? ⟨g2, off2 + i * 2 + 1, none⟩ = some (.slice (some ⟨g4, o4, none⟩) m1 r.cap) := fun V hV => by rw [← hA4]; exact K6 V (hmi.trans hV)
          have J7 : ∀ V, Mods Nil wr V → V.cell? ⟨g3, o3 + j, none⟩ = some (.int .u64 ((vat q.lens j : Nat) : Int)) := fun V hV => (World.cell?_of_block (((M0.out.trans (HMO.out.trans hmi)).trans hV).block g3 hg3 (fun h => h))).trans hc3
          have J8 : ∀ V, Mods Nil wr V → V.cell? ⟨g4, o4 + j, none⟩ = some (.int .u64 ((vat r.lens j : Nat) : Int)) := fun V hV => (World.cell?_of_block (((M0.out.trans (HMO.out.trans hmi)).trans hV).block g4 hg4 (fun h => h))).trans hc4
          obtain ⟨x1, hx1⟩ : ∃ x, vat q.lens j = x := ⟨_, rfl⟩
          obtain ⟨x2, hx2⟩ : ∃ x, vat r.lens j = x := ⟨_, rfl⟩
          rw [hx1] at J7
          rw [hx2] at J8
          have HX1 := Lib.hid hx1
          have HX2 := Lib.hid hx2
          clear ht hmi hc3 hc4 hx1 hx2 K1 K2 K3 K4 K5 K6
          by_cases hxx : x1 = x2
          rotate_left
          · have e0 : ((x1 : Int) != (x2 : Int)) = true := by rw [ne_u64]; simp [hxx]
            have HNE : Hid (a ≠ b) := Lib.hid (fun h => hxx (by rw [← HX1.out, ← HX2.out, (HAT.out (HEQ.out.1 h)).2]))
            clear hxx
            go_wp2_with fail
            refine gq_region (by kernel_rfl) (by kernel_rfl) ?_
            try simp only [Act.put, List.setIfInBounds_toArray, List.set_cons_zero, List.set_cons_succ]
            repeat (first
              | go_big_quiet_skip
              | (go_big_quiet_want; first
                  | (refine gq_op (v := ?_) ?_ ?_; rotate_left; (focus (intro V hV; go_simp; try with_reducible rfl)); go_big_quiet_on))
                simp only [Act.put, List.setIfInBounds_toArray, List.set_cons_zero, List.set_cons_succ])
            refine wpQuiet_nil ?_
            intro V hV
            have HV := Lib.hid hV
            clear hV J1 J2 J4 J6 J7 J8
            go_wp2_with fail
            go_ret
            exact ⟨false, rfl, ⟨fun h => (by cases h), fun h => absurd h HNE.out⟩, M0.out.trans (HMO.out.trans (HMI.out.trans HV.out))⟩
          have e0 : ((x1 : Int) != (x2 : Int)) = false := by rw [ne_u64]; simp [hxx]
          have HXX := Lib.hid hxx
          clear hxx
          go_wp2_with fail
          refine gq_region (by kernel_rfl) (by kernel_rfl) ?_
          try simp only [Act.put, List.setIfInBounds_toArray, List.set_cons_zero, List.set_cons_succ]
          repeat (first
            | go_big_quiet_skip
            | (go_big_quiet_want; first
                | (refine gq_op (v := ?_) ?_ ?_; rotate_left; (focus (intro V hV; go_simp; try with_reducible rfl)); go_big_quiet_on))
              simp only [Act.put, List.setIfInBounds_toArray, List.set_cons_zero, List.set_cons_succ])
          refine wpQuiet_nil ?_
          intro V hV
          have HV := Lib.hid hV
          clear hV J1 J2 J4 J6 J7 J8
          go_wp2_with fail
          exact ⟨⟨j + 1, by omega, by go_num, fun t ht => (by by_cases e : t = j; rw [e, HX1.out, HX2.out, HXX.out]; exact HT.out t (by omega)), HMI.out.trans HV.out⟩, by simp [intOf]; omega⟩
        · obtain rfl : m1 = j := by omega
          clear ht hmi
          go_wp2_with fail
          refine ⟨⟨i + 1, by omega, by go_num, fun t q' r' ht hq' hr' => ?_, HMO.out.trans HMI.out⟩, by simp [intOf]; omega⟩
          by_cases e : t = i
          · subst e
            obtain rfl : q = q' := Option.some.inj (HQ.out.symm.trans hq')
            obtain rfl : r = r' := Option.some.inj (HR.out.symm.trans hr')
            exact ⟨by rw [HQS.out, HRS.out, HSS.out], lens_ext (by rw [HQM.out, HRM.out]) (fun t ht => HT.out t (by rw [HQM.out] at ht; exact ht))⟩
          · exact HP.out t q' r' (by omega) hq' hr'
    · obtain rfl : n = i := by omega
      have HYES : Hid (a = b) := Lib.hid (HEQ.out.2 (pws_ext (by rw [HLn.out, HMn.out]) (fun j q r hq hr => by
        obtain ⟨h1, h2⟩ := HP.out j q r (by have := (List.getElem?_eq_some_iff.1 hq).1; rw [HLn.out] at this; exact this) hq hr
        unfold RowP.pw
        rw [h1, h2])))
      clear hp hmo
      go_wp2_with fail
      go_ret
      exact ⟨true, rfl, ⟨fun _ => HYES.out, fun _ => rfl⟩, M0.out.trans HMO.out⟩
end Go.Proofs.Ytcncgjiaefjmhaa
