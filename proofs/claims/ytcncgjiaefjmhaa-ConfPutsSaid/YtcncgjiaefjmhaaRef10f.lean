/- The reference of layer 10: a command's bytes (Put). -/
import Derived.Test.YtcncgjiaefjmhaaRef10b
import Derived.Test.YtcncgjiaefjmhaaRef10d
namespace Go.Proofs.Ytcncgjiaefjmhaa
set_option maxRecDepth 100000
open Go.RowKit
set_option linter.unusedVariables false
set_option linter.unusedSimpArgs false

theorem rowsP_full (l : List PW) : rowsP l.length l l.length = putAll (l.length :: rowsN l) := by simp [rowsP]
set_option maxHeartbeats 3200000 in
theorem r10put_any (w : World) {op shard segs : Int} {client seq pos : Nat} {A : Option Addr} {n k : Nat} {L : List RowP} (h : Rws w A n k L) (hok : (⟨op, client, seq, shard, segs, pos, pws L⟩ : PC).ok) :
    Calls Try.prog 17 #[.agg #[.int .i64 op, .int .u64 (client : Int), .int .u64 (seq : Int), .int .i64 shard, .int .i64 segs, .int .u64 (pos : Int), .slice A n k]] w fun e w' => e = .returned (.tuple #[.string (strOf (if chkC ⟨op, client, seq, shard, segs, pos, pws L⟩ = 0 then putC ⟨op, client, seq, shard, segs, pos, pws L⟩ else [])), .int .i64 (chkC ⟨op, client, seq, shard, segs, pos, pws L⟩)]) ∧ Mods Nil w w' := by
  have HCH := Lib.hid (fun (W : World) (hm : Mods Nil w W) => r10check_any W (op := op) (shard := shard) (segs := segs) (client := client) (seq := seq) (pos := pos) (h.mods hm))
  have HROWS := Lib.hid (fun (h8 : n ≤ 8) (hS : ∀ r ∈ pws L, rowS r) (W : World) (hm : Mods Nil w W) => r10rows_any W (h.mods hm) h8 hS)
  have hlen : (pws L).length = n := by simp [pws, h.len]
  have HUC := Lib.hid (fun W => ruint_any client hok.client W)
  have HUS := Lib.hid (fun W => ruint_any seq hok.seq W)
  have HUP := Lib.hid (fun W => ruint_any pos hok.pos W)
  have lc := putU_length client hok.client
  have ls := putU_length seq hok.seq
  have lp := putU_length pos hok.pos
  have AB := Lib.hid (Blk.new w 33 #[.int .i64 op, .int .u64 (client : Int), .int .u64 (seq : Int), .int .i64 shard, .int .i64 segs, .int .u64 (pos : Int), .slice A n k])
  have MM := Lib.hid ((Mods.refl Nil w).alloc (.cells #[.int .i64 op, .int .u64 (client : Int), .int .u64 (seq : Int), .int .i64 shard, .int .i64 segs, .int .u64 (pos : Int), .slice A n k] 33))
  rcases chkC_kinds ⟨op, client, seq, shard, segs, pos, pws L⟩ with hc | hc
  · obtain ⟨hr, ho⟩ := chkC_zero.1 hc
    have h8 : (pws L).length ≤ 8 := rowsB_8 hr
    have hS := rowS_of hok hr
    have hg := opB_range ho
    have HR := Lib.hid (HROWS.out (by omega) hS)
    have hrl := rowsP_len (n := n) (j := n) (l := pws L) (by omega) h8 hS
    have hRB : rowsP n (pws L) n = putAll (n :: rowsN (pws L)) := by rw [← hlen]; exact rowsP_full _
    rw [hc, if_pos rfl]
    rw [hc] at HCH
    have HO := Lib.hid ho
    have HRB := Lib.hid hRB
    have HLN := Lib.hid hlen
    clear h hok hr ho hS HROWS hRB hlen h8
    generalize rowsP n (pws L) n = RB at HR hrl HRB
    dsimp only at hg
    obtain h | h | h | h | h : op = 0 ∨ op = 1 ∨ op = 2 ∨ op = 3 ∨ op = 4 := by omega
    · subst h
      clear hg
      have k1 := fun W => one_string W (0 : Int) (UInt8.ofNat 0) rfl (0, 0)
      have HF : Hid (putC ⟨0, client, seq, shard, segs, pos, pws L⟩ = [(0 : UInt8)]) := Lib.hid (by
        simp [putC, bodyN, kbC, putAll, HLN.out])
      rw [HF.out]
      have a1 := fun W => string_add Try.prog (putU client) (putU seq) (by omega) W
      clear HF HO HRB HLN
      as_aux_lemma =>
      go_enter Try.func17, Try.ntmps17
      go_wp2_with (go_at_call 19; refine (HCH.out _ MM.out).mono ?_; rintro e w2 ⟨rfl, m2⟩; have M3 := Lib.hid (m2.alloc (.cells #[.int .u8 0] 5)); obtain ⟨d0, d1, d2, d3, d4, d5, d6⟩ := (AB.out.mods m2 (fun h => h)).seven; have HUC3 := Lib.hid (gq_of (W := w2.alloc (.cells #[.int .u8 0] 5)) (fun V => HUC.out V)); have HUS3 := Lib.hid (gq_of (W := w2.alloc (.cells #[.int .u8 0] 5)) (fun V => HUS.out V)); clear m2)
      clear d0 d1 d2 d3 d4 d5 d6
      refine gq_region (by kernel_rfl) (by kernel_rfl) ?_
      try simp only [Act.put, List.setIfInBounds_toArray, List.set_cons_zero, List.set_cons_succ]
      repeat (first
        | go_big_quiet_skip
        | (go_big_quiet_want; first
            | (refine gq_call HUC3.out ?_ ?_; (focus (intro V; go_simp; done)); go_big_quiet_on)
            | (refine gq_call HUS3.out ?_ ?_; (focus (intro V; go_simp; done)); go_big_quiet_on)
            | (refine gq_op (v := ?_) ?_ ?_; rotate_left; (focus (intro V hV; obtain ⟨d0, d1, d2, d3, d4, d5, d6⟩ := (AB.out.mods (M3.out.trans hV) (fun h => h)).seven; go_simp; try with_reducible rfl)); go_big_quiet_on))
          simp only [Act.put, List.setIfInBounds_toArray, List.set_cons_zero, List.set_cons_succ])
      refine wpQuiet_nil ?_
      intro VX hVX
      have M5 := Lib.hid (M3.out.trans hVX)
      have M6 := Lib.hid (MM.out.trans M5.out)
      obtain ⟨d0, d1, d2, d3, d4, d5, d6⟩ := (AB.out.mods M5.out (fun h => h)).seven
      clear hVX HUC3 HUS3 a1
      go_wp2_with fail
      go_ret2
      exact ⟨rfl, M6.out⟩
    · subst h
      clear hg
      have ho := HO.out
      simp [opB] at ho
      obtain ⟨o1, o2, o3, o4, -, -⟩ := ho
      obtain ⟨s, rfl⟩ : ∃ s : Nat, shard = s := ⟨shard.toNat, by omega⟩
      obtain ⟨q, rfl⟩ : ∃ s : Nat, segs = s := ⟨segs.toNat, by omega⟩
      have l3 := putU_length s (by omega)
      have l4 := putU_length q (by omega)
      have hw1 : IntKind.u64.wrap (s : Int) = (s : Int) := (IntKind.wrap_u64 (s : Int)).trans (by omega)
      have hw2 : IntKind.u64.wrap (q : Int) = (q : Int) := (IntKind.wrap_u64 (q : Int)).trans (by omega)
      have HU3 := Lib.hid (fun W => ruint_any s (by omega) W)
      have HU4 := Lib.hid (fun W => ruint_any q (by omega) W)
      have k1 := fun W => one_string W (1 : Int) (UInt8.ofNat 1) rfl (0, 0)
      have HF : Hid (putC ⟨1, client, seq, (s : Int), (q : Int), pos, pws L⟩ = [(1 : UInt8)] ++ (putU client ++ (putU seq ++ (putU s ++ putU q)))) := Lib.hid (by
        simp [putC, bodyN, kbC, putAll, HLN.out])
      rw [HF.out]
      have a1 := fun W => string_add Try.prog (putU client) (putU seq) (by omega) W
      have a2 := fun W => string_add Try.prog (putU client ++ putU seq) (putU s) (by simp; omega) W
      have a3 := fun W => string_add Try.prog (putU client ++ (putU seq ++ putU s)) (putU q) (by simp; omega) W
      have a4 := fun W => string_add Try.prog [(1 : UInt8)] (putU client ++ (putU seq ++ (putU s ++ putU q))) (by simp; omega) W
      clear HF HO HRB HLN
      as_aux_lemma =>
      go_enter Try.func17, Try.ntmps17
      go_wp2_with (go_at_call 19; refine (HCH.out _ MM.out).mono ?_; rintro e w2 ⟨rfl, m2⟩; have M3 := Lib.hid (m2.alloc (.cells #[.int .u8 1] 5)); obtain ⟨d0, d1, d2, d3, d4, d5, d6⟩ := (AB.out.mods m2 (fun h => h)).seven; have HUC3 := Lib.hid (gq_of (W := w2.alloc (.cells #[.int .u8 1] 5)) (fun V => HUC.out V)); have HUS3 := Lib.hid (gq_of (W := w2.alloc (.cells #[.int .u8 1] 5)) (fun V => HUS.out V)); clear m2)
      clear d0 d1 d2 d3 d4 d5 d6
      refine gq_region (by kernel_rfl) (by kernel_rfl) ?_
      try simp only [Act.put, List.setIfInBounds_toArray, List.set_cons_zero, List.set_cons_succ]
      repeat (first
        | go_big_quiet_skip
        | (go_big_quiet_want; first
            | (refine gq_call HUC3.out ?_ ?_; (focus (intro V; go_simp; done)); go_big_quiet_on)
            | (refine gq_call HUS3.out ?_ ?_; (focus (intro V; go_simp; done)); go_big_quiet_on)
            | (refine gq_op (v := ?_) ?_ ?_; rotate_left; (focus (intro V hV; obtain ⟨d0, d1, d2, d3, d4, d5, d6⟩ := (AB.out.mods (M3.out.trans hV) (fun h => h)).seven; go_simp; try with_reducible rfl)); go_big_quiet_on))
          simp only [Act.put, List.setIfInBounds_toArray, List.set_cons_zero, List.set_cons_succ])
      refine wpQuiet_nil ?_
      intro VX hVX
      have M5 := Lib.hid (M3.out.trans hVX)
      have M6 := Lib.hid (MM.out.trans M5.out)
      obtain ⟨d0, d1, d2, d3, d4, d5, d6⟩ := (AB.out.mods M5.out (fun h => h)).seven
      clear hVX HUC3 HUS3 a1
      have HU3X := Lib.hid (gq_of (W := VX) (fun V => HU3.out V))
      have HU4X := Lib.hid (gq_of (W := VX) (fun V => HU4.out V))
      go_wp2_with fail
      clear d0 d1 d2 d3 d4 d5 d6
      refine gq_region (by kernel_rfl) (by kernel_rfl) ?_
      try simp only [Act.put, List.setIfInBounds_toArray, List.set_cons_zero, List.set_cons_succ]
      repeat (first
        | go_big_quiet_skip
        | (go_big_quiet_want; first
            | (refine gq_call HU3X.out ?_ ?_; (focus (intro V; go_simp; done)); go_big_quiet_on)
            | (refine gq_call HU4X.out ?_ ?_; (focus (intro V; go_simp; done)); go_big_quiet_on)
            | (refine gq_op (v := ?_) ?_ ?_; rotate_left; (focus (intro V hV; obtain ⟨d0, d1, d2, d3, d4, d5, d6⟩ := (AB.out.mods (M5.out.trans hV) (fun h => h)).seven; go_simp; try with_reducible rfl)); go_big_quiet_on))
          simp only [Act.put, List.setIfInBounds_toArray, List.set_cons_zero, List.set_cons_succ])
      refine wpQuiet_nil ?_
      intro VY hVY
      have M7 := Lib.hid (M6.out.trans hVY)
      clear hVY
      go_wp2_with fail
      go_ret2
      exact ⟨rfl, M7.out⟩
    · subst h
      clear hg
      have ho := HO.out
      simp [opB] at ho
      obtain ⟨o1, o2, -, -, -⟩ := ho
      obtain ⟨s, rfl⟩ : ∃ s : Nat, shard = s := ⟨shard.toNat, by omega⟩
      have l3 := putU_length s (by omega)
      have hw1 : IntKind.u64.wrap (s : Int) = (s : Int) := (IntKind.wrap_u64 (s : Int)).trans (by omega)
      have HU3 := Lib.hid (fun W => ruint_any s (by omega) W)
      have k1 := fun W => one_string W (2 : Int) (UInt8.ofNat 2) rfl (0, 0)
      have HF : Hid (putC ⟨2, client, seq, (s : Int), segs, pos, pws L⟩ = [(2 : UInt8)] ++ (putU client ++ (putU seq ++ (putU s ++ RB)))) := Lib.hid (by
        simp [putC, bodyN, kbC, putAll, HLN.out, HRB.out])
      rw [HF.out]
      have a1 := fun W => string_add Try.prog (putU client) (putU seq) (by omega) W
      have a2 := fun W => string_add Try.prog (putU client ++ putU seq) (putU s) (by simp; omega) W
      have a3 := fun W => string_add Try.prog (putU client ++ (putU seq ++ putU s)) RB (by simp; omega) W
      have a4 := fun W => string_add Try.prog [(2 : UInt8)] (putU client ++ (putU seq ++ (putU s ++ RB))) (by simp; omega) W
      clear HF HO HRB HLN
      as_aux_lemma =>
      go_enter Try.func17, Try.ntmps17
      go_wp2_with (go_at_call 19; refine (HCH.out _ MM.out).mono ?_; rintro e w2 ⟨rfl, m2⟩; have M3 := Lib.hid (m2.alloc (.cells #[.int .u8 2] 5)); obtain ⟨d0, d1, d2, d3, d4, d5, d6⟩ := (AB.out.mods m2 (fun h => h)).seven; have HUC3 := Lib.hid (gq_of (W := w2.alloc (.cells #[.int .u8 2] 5)) (fun V => HUC.out V)); have HUS3 := Lib.hid (gq_of (W := w2.alloc (.cells #[.int .u8 2] 5)) (fun V => HUS.out V)); clear m2)
      clear d0 d1 d2 d3 d4 d5 d6
      refine gq_region (by kernel_rfl) (by kernel_rfl) ?_
      try simp only [Act.put, List.setIfInBounds_toArray, List.set_cons_zero, List.set_cons_succ]
      repeat (first
        | go_big_quiet_skip
        | (go_big_quiet_want; first
            | (refine gq_call HUC3.out ?_ ?_; (focus (intro V; go_simp; done)); go_big_quiet_on)
            | (refine gq_call HUS3.out ?_ ?_; (focus (intro V; go_simp; done)); go_big_quiet_on)
            | (refine gq_op (v := ?_) ?_ ?_; rotate_left; (focus (intro V hV; obtain ⟨d0, d1, d2, d3, d4, d5, d6⟩ := (AB.out.mods (M3.out.trans hV) (fun h => h)).seven; go_simp; try with_reducible rfl)); go_big_quiet_on))
          simp only [Act.put, List.setIfInBounds_toArray, List.set_cons_zero, List.set_cons_succ])
      refine wpQuiet_nil ?_
      intro VX hVX
      have M5 := Lib.hid (M3.out.trans hVX)
      have M6 := Lib.hid (MM.out.trans M5.out)
      obtain ⟨d0, d1, d2, d3, d4, d5, d6⟩ := (AB.out.mods M5.out (fun h => h)).seven
      clear hVX HUC3 HUS3 a1
      have HU3X := Lib.hid (gq_of (W := VX) (fun V => HU3.out V))
      have HU4X := Lib.hid (fun V (hV : Mods Nil VX V) => (HR.out V (M6.out.trans hV)).mono (fun e w' (h : e = .returned (.string (strOf RB)) ∧ Mods Nil V w') => (⟨h.1, hV.trans h.2⟩ : e = .returned (.string (strOf RB)) ∧ Mods Nil VX w')))
      go_wp2_with fail
      clear d0 d1 d2 d3 d4 d5 d6
      refine gq_region (by kernel_rfl) (by kernel_rfl) ?_
      try simp only [Act.put, List.setIfInBounds_toArray, List.set_cons_zero, List.set_cons_succ]
      repeat (first
        | go_big_quiet_skip
        | (go_big_quiet_want; first
            | (refine gq_call HU3X.out ?_ ?_; (focus (intro V; go_simp; done)); go_big_quiet_on)
            | (refine gq_call HU4X.out ?_ ?_; (focus (intro V; go_simp; done)); go_big_quiet_on)
            | (refine gq_op (v := ?_) ?_ ?_; rotate_left; (focus (intro V hV; obtain ⟨d0, d1, d2, d3, d4, d5, d6⟩ := (AB.out.mods (M5.out.trans hV) (fun h => h)).seven; go_simp; try with_reducible rfl)); go_big_quiet_on))
          simp only [Act.put, List.setIfInBounds_toArray, List.set_cons_zero, List.set_cons_succ])
      refine wpQuiet_nil ?_
      intro VY hVY
      have M7 := Lib.hid (M6.out.trans hVY)
      clear hVY
      go_wp2_with fail
      go_ret2
      exact ⟨rfl, M7.out⟩
    · subst h
      clear hg
      have k1 := fun W => one_string W (3 : Int) (UInt8.ofNat 3) rfl (0, 0)
      have HF : Hid (putC ⟨3, client, seq, shard, segs, pos, pws L⟩ = [(3 : UInt8)] ++ (putU client ++ (putU seq ++ putU pos))) := Lib.hid (by
        simp [putC, bodyN, kbC, putAll, HLN.out])
      rw [HF.out]
      have a1 := fun W => string_add Try.prog (putU client) (putU seq) (by omega) W
      have a2 := fun W => string_add Try.prog (putU client ++ putU seq) (putU pos) (by simp; omega) W
      have a3 := fun W => string_add Try.prog [(3 : UInt8)] (putU client ++ (putU seq ++ putU pos)) (by simp; omega) W
      clear HF HO HRB HLN
      as_aux_lemma =>
      go_enter Try.func17, Try.ntmps17
      go_wp2_with (go_at_call 19; refine (HCH.out _ MM.out).mono ?_; rintro e w2 ⟨rfl, m2⟩; have M3 := Lib.hid (m2.alloc (.cells #[.int .u8 3] 5)); obtain ⟨d0, d1, d2, d3, d4, d5, d6⟩ := (AB.out.mods m2 (fun h => h)).seven; have HUC3 := Lib.hid (gq_of (W := w2.alloc (.cells #[.int .u8 3] 5)) (fun V => HUC.out V)); have HUS3 := Lib.hid (gq_of (W := w2.alloc (.cells #[.int .u8 3] 5)) (fun V => HUS.out V)); clear m2)
      clear d0 d1 d2 d3 d4 d5 d6
      refine gq_region (by kernel_rfl) (by kernel_rfl) ?_
      try simp only [Act.put, List.setIfInBounds_toArray, List.set_cons_zero, List.set_cons_succ]
      repeat (first
        | go_big_quiet_skip
        | (go_big_quiet_want; first
            | (refine gq_call HUC3.out ?_ ?_; (focus (intro V; go_simp; done)); go_big_quiet_on)
            | (refine gq_call HUS3.out ?_ ?_; (focus (intro V; go_simp; done)); go_big_quiet_on)
            | (refine gq_op (v := ?_) ?_ ?_; rotate_left; (focus (intro V hV; obtain ⟨d0, d1, d2, d3, d4, d5, d6⟩ := (AB.out.mods (M3.out.trans hV) (fun h => h)).seven; go_simp; try with_reducible rfl)); go_big_quiet_on))
          simp only [Act.put, List.setIfInBounds_toArray, List.set_cons_zero, List.set_cons_succ])
      refine wpQuiet_nil ?_
      intro VX hVX
      have M5 := Lib.hid (M3.out.trans hVX)
      have M6 := Lib.hid (MM.out.trans M5.out)
      obtain ⟨d0, d1, d2, d3, d4, d5, d6⟩ := (AB.out.mods M5.out (fun h => h)).seven
      clear hVX HUC3 HUS3 a1
      go_wp2_with (go_at_call 34; refine (HUP.out _).mono ?_; rintro e w7 ⟨rfl, m7⟩; have M7 := Lib.hid m7; clear m7)
      go_ret2
      exact ⟨rfl, M6.out.trans M7.out⟩
    · subst h
      clear hg
      have k1 := fun W => one_string W (4 : Int) (UInt8.ofNat 4) rfl (0, 0)
      have HF : Hid (putC ⟨4, client, seq, shard, segs, pos, pws L⟩ = [(4 : UInt8)] ++ RB) := Lib.hid (by
        simp [putC, bodyN, kbC, putAll, HLN.out, HRB.out])
      rw [HF.out]
      have a1 := fun W => string_add Try.prog (putU client) (putU seq) (by omega) W
      have a2 := fun W => string_add Try.prog [(4 : UInt8)] RB (by simp; omega) W
      clear HF HO HRB HLN
      as_aux_lemma =>
      go_enter Try.func17, Try.ntmps17
      go_wp2_with (go_at_call 19; refine (HCH.out _ MM.out).mono ?_; rintro e w2 ⟨rfl, m2⟩; have M3 := Lib.hid (m2.alloc (.cells #[.int .u8 4] 5)); obtain ⟨d0, d1, d2, d3, d4, d5, d6⟩ := (AB.out.mods m2 (fun h => h)).seven; have HUC3 := Lib.hid (gq_of (W := w2.alloc (.cells #[.int .u8 4] 5)) (fun V => HUC.out V)); have HUS3 := Lib.hid (gq_of (W := w2.alloc (.cells #[.int .u8 4] 5)) (fun V => HUS.out V)); clear m2)
      clear d0 d1 d2 d3 d4 d5 d6
      refine gq_region (by kernel_rfl) (by kernel_rfl) ?_
      try simp only [Act.put, List.setIfInBounds_toArray, List.set_cons_zero, List.set_cons_succ]
      repeat (first
        | go_big_quiet_skip
        | (go_big_quiet_want; first
            | (refine gq_call HUC3.out ?_ ?_; (focus (intro V; go_simp; done)); go_big_quiet_on)
            | (refine gq_call HUS3.out ?_ ?_; (focus (intro V; go_simp; done)); go_big_quiet_on)
            | (refine gq_op (v := ?_) ?_ ?_; rotate_left; (focus (intro V hV; obtain ⟨d0, d1, d2, d3, d4, d5, d6⟩ := (AB.out.mods (M3.out.trans hV) (fun h => h)).seven; go_simp; try with_reducible rfl)); go_big_quiet_on))
          simp only [Act.put, List.setIfInBounds_toArray, List.set_cons_zero, List.set_cons_succ])
      refine wpQuiet_nil ?_
      intro VX hVX
      have M5 := Lib.hid (M3.out.trans hVX)
      have M6 := Lib.hid (MM.out.trans M5.out)
      obtain ⟨d0, d1, d2, d3, d4, d5, d6⟩ := (AB.out.mods M5.out (fun h => h)).seven
      clear hVX HUC3 HUS3 a1
      go_wp2_with (go_at_call 35; refine (HR.out _ M6.out).mono ?_; rintro e w7 ⟨rfl, m7⟩; have M7 := Lib.hid m7; clear m7)
      go_ret2
      exact ⟨rfl, M6.out.trans M7.out⟩
  · rw [hc, if_neg (by decide)]
    rw [hc] at HCH
    clear h hok HROWS hlen HUC HUS HUP lc ls lp hc
    go_enter Try.func17, Try.ntmps17
    go_wp2_with (go_at_call 19; refine (HCH.out _ MM.out).mono ?_; rintro e w2 ⟨rfl, m2⟩; have M2 := Lib.hid m2; clear m2)
    go_ret2
    exact ⟨rfl, MM.out.trans M2.out⟩
end Go.Proofs.Ytcncgjiaefjmhaa
