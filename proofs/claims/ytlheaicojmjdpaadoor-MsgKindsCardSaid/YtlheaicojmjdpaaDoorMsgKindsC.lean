/- MsgKinds' walk: kinds, the other fields. -/
import Derived.Test.YtlheaicojmjdpaaDoorMsgKindsA
namespace Go.Proofs.YtlheaicojmjdpaaDoor
set_option maxRecDepth 100000
open Go.RowKit
set_option linter.unusedVariables false

set_option maxHeartbeats 8000000 in
theorem msgKinds_5 (w : World) (hT : Tab w) (kd : Int) (hkd : -9223372036854775808 ≤ kd ∧ kd ≤ 9223372036854775807) (d : Nat) (hd : d < 256) (hdk : d % 10 = 5) (hk : isK kd = true) :
    Calls Tryd.prog 6 #[.int .i64 kd, .int .u8 d] w fun e w' => e = .returned (.bool true) ∧ Mods Nil w w' := by
    have HT := Lib.hid hT
    have hb : 1 ≤ kd ∧ kd ≤ 18 := by simpa [isK] using hk
    have h1 := hb.1
    have h2 := hb.2
    obtain ⟨fs, hfs⟩ : ∃ fs, fstr kd = fs := ⟨_, rfl⟩
    obtain ⟨n, hn⟩ : ∃ n, fs.length = n := ⟨_, rfl⟩
    have hsz : (strOf fs).size = n := by simp [hn]
    have hn10 : n ≤ 10 := by rw [← hn, ← hfs]; exact fstr_len kd
    have HFS := Lib.hid hfs.symm
    have HN := Lib.hid hn
    have HIK : Hid (∀ k (m : PM), m.kind = kd → k < 10 → (∀ j, j < 10 → amt m j = if j = k then 1 else 0) → chk m = if own kd k then 0 else 1) := fun k m e h10 h => by
      subst e
      exact chk_single hk h10 h
    clear hfs hn hb hT hk
    have hok : PM.ok { kind := kd, seq := 1 } := by constructor <;> simp <;> omega
    have HOK := Lib.hid hok
    obtain ⟨c, hc⟩ : ∃ c, lt 5 = c := ⟨_, rfl⟩
    have hx2 : ∀ W, (Instr.index 9 (.string ⟨#[98, 115, 104, 103, 99, 113, 112, 100, 118, 120]⟩) (.int .i64 5)).run Tryd.prog W = .ok (.int .u8 (c.toNat : Int)) W := fun W => by rw [← hc]; exact lets_at 5 (by omega) W
    have hmod : (d : Int) % 10 = 5 := by omega
    have hmod2 : (d : Int).tmod 10 = 5 := by rw [Int.tmod_eq_emod_of_nonneg (by omega)]; omega
    have HCK : Hid (chk { kind := kd, seq := 1 } = if own kd 5 then 0 else 1) := HIK.out 5 { kind := kd, seq := 1 } rfl (by omega) (ten_cases rfl rfl rfl rfl rfl rfl rfl rfl rfl rfl)
    have HOW : Hid (c ∈ fs ↔ own kd 5 = true) := by show _ ↔ _; rw [← hc, HFS.out]; exact fstr_mem (by omega)
    clear hok hc
    go_enter Tryd.func6, Tryd.ntmps6
    go_wp2_with (go_at_call 9; refine (awake4_any _ HT.out).mono ?_; rintro e w1 ⟨rfl, m1⟩; have M1 := Lib.hid m1; have HT1 := Lib.hid (HT.out.mods m1 (fun h => h)); have htb : ((w1.alloc (.cells #[.int .i64 kd, .int .u64 0, .int .u64 0, .int .i64 0, .int .i64 0, .int .u64 0, .int .u64 0, .int .u64 0, .int .i64 0, .slice none 0 0, .slice none 0 0] 32)).alloc (.cells #[.string ⟨#[]⟩, .string ⟨#[104, 103, 99, 113, 120]⟩, .string ⟨#[104, 103, 99, 113, 112, 100]⟩, .string ⟨#[104, 103, 99, 113, 112, 120]⟩, .string ⟨#[104, 103, 112]⟩, .string ⟨#[104, 103, 112]⟩, .string ⟨#[104, 103, 118]⟩, .string ⟨#[98, 115]⟩, .string ⟨#[98, 115, 120]⟩, .string ⟨#[98, 115, 120]⟩, .string ⟨#[98, 115]⟩, .string ⟨#[98]⟩, .string ⟨#[115, 120]⟩, .string ⟨#[115]⟩, .string ⟨#[99, 113, 112]⟩, .string ⟨#[104, 103, 99, 113, 112, 100, 120]⟩, .string ⟨#[104, 103, 99, 113, 112, 100]⟩, .string ⟨#[99, 113, 112, 100]⟩, .string ⟨#[98, 115]⟩] 9)).cell? ⟨w1.heap.size + 1, kd.toNat, none⟩ = some (.string (strOf fs)) := (by rw [HFS.out]; have := tabL_at h1 h2 (w1.alloc (.cells #[.int .i64 kd, .int .u64 0, .int .u64 0, .int .i64 0, .int .i64 0, .int .u64 0, .int .u64 0, .int .u64 0, .int .i64 0, .slice none 0 0, .slice none 0 0] 32)); simp only [World.size_alloc] at this; exact this); clear m1)
    have BB : Blk ((w1.alloc (.cells #[.int .i64 kd, .int .u64 0, .int .u64 0, .int .i64 0, .int .i64 0, .int .u64 0, .int .u64 1, .int .u64 0, .int .i64 0, .slice none 0 0, .slice none 0 0] 32)).alloc (.cells #[.string ⟨#[]⟩, .string ⟨#[104, 103, 99, 113, 120]⟩, .string ⟨#[104, 103, 99, 113, 112, 100]⟩, .string ⟨#[104, 103, 99, 113, 112, 120]⟩, .string ⟨#[104, 103, 112]⟩, .string ⟨#[104, 103, 112]⟩, .string ⟨#[104, 103, 118]⟩, .string ⟨#[98, 115]⟩, .string ⟨#[98, 115, 120]⟩, .string ⟨#[98, 115, 120]⟩, .string ⟨#[98, 115]⟩, .string ⟨#[98]⟩, .string ⟨#[115, 120]⟩, .string ⟨#[115]⟩, .string ⟨#[99, 113, 112]⟩, .string ⟨#[104, 103, 99, 113, 112, 100, 120]⟩, .string ⟨#[104, 103, 99, 113, 112, 100]⟩, .string ⟨#[99, 113, 112, 100]⟩, .string ⟨#[98, 115]⟩] 9)) w1.heap.size 32 (MC { kind := kd, seq := 1 } {}) := by exact (Blk.new w1 32 (MC { kind := kd, seq := 1 } {})).alloc _
    have MM : Mods Nil w ((w1.alloc (.cells #[.int .i64 kd, .int .u64 0, .int .u64 0, .int .i64 0, .int .i64 0, .int .u64 0, .int .u64 1, .int .u64 0, .int .i64 0, .slice none 0 0, .slice none 0 0] 32)).alloc (.cells #[.string ⟨#[]⟩, .string ⟨#[104, 103, 99, 113, 120]⟩, .string ⟨#[104, 103, 99, 113, 112, 100]⟩, .string ⟨#[104, 103, 99, 113, 112, 120]⟩, .string ⟨#[104, 103, 112]⟩, .string ⟨#[104, 103, 112]⟩, .string ⟨#[104, 103, 118]⟩, .string ⟨#[98, 115]⟩, .string ⟨#[98, 115, 120]⟩, .string ⟨#[98, 115, 120]⟩, .string ⟨#[98, 115]⟩, .string ⟨#[98]⟩, .string ⟨#[115, 120]⟩, .string ⟨#[115]⟩, .string ⟨#[99, 113, 112]⟩, .string ⟨#[104, 103, 99, 113, 112, 100, 120]⟩, .string ⟨#[104, 103, 99, 113, 112, 100]⟩, .string ⟨#[99, 113, 112, 100]⟩, .string ⟨#[98, 115]⟩] 9)) := M1.out.alloc _ |>.alloc _
    have TT : Tab ((w1.alloc (.cells #[.int .i64 kd, .int .u64 0, .int .u64 0, .int .i64 0, .int .i64 0, .int .u64 0, .int .u64 1, .int .u64 0, .int .i64 0, .slice none 0 0, .slice none 0 0] 32)).alloc (.cells #[.string ⟨#[]⟩, .string ⟨#[104, 103, 99, 113, 120]⟩, .string ⟨#[104, 103, 99, 113, 112, 100]⟩, .string ⟨#[104, 103, 99, 113, 112, 120]⟩, .string ⟨#[104, 103, 112]⟩, .string ⟨#[104, 103, 112]⟩, .string ⟨#[104, 103, 118]⟩, .string ⟨#[98, 115]⟩, .string ⟨#[98, 115, 120]⟩, .string ⟨#[98, 115, 120]⟩, .string ⟨#[98, 115]⟩, .string ⟨#[98]⟩, .string ⟨#[115, 120]⟩, .string ⟨#[115]⟩, .string ⟨#[99, 113, 112]⟩, .string ⟨#[104, 103, 99, 113, 112, 100, 120]⟩, .string ⟨#[104, 103, 99, 113, 112, 100]⟩, .string ⟨#[99, 113, 112, 100]⟩, .string ⟨#[98, 115]⟩] 9)) := HT1.out.mods ((Mods.refl Nil _).alloc _ |>.alloc _) (fun h => h)
    obtain ⟨W2, hW2⟩ : ∃ W2, ((w1.alloc (.cells #[.int .i64 kd, .int .u64 0, .int .u64 0, .int .i64 0, .int .i64 0, .int .u64 0, .int .u64 1, .int .u64 0, .int .i64 0, .slice none 0 0, .slice none 0 0] 32)).alloc (.cells #[.string ⟨#[]⟩, .string ⟨#[104, 103, 99, 113, 120]⟩, .string ⟨#[104, 103, 99, 113, 112, 100]⟩, .string ⟨#[104, 103, 99, 113, 112, 120]⟩, .string ⟨#[104, 103, 112]⟩, .string ⟨#[104, 103, 112]⟩, .string ⟨#[104, 103, 118]⟩, .string ⟨#[98, 115]⟩, .string ⟨#[98, 115, 120]⟩, .string ⟨#[98, 115, 120]⟩, .string ⟨#[98, 115]⟩, .string ⟨#[98]⟩, .string ⟨#[115, 120]⟩, .string ⟨#[115]⟩, .string ⟨#[99, 113, 112]⟩, .string ⟨#[104, 103, 99, 113, 112, 100, 120]⟩, .string ⟨#[104, 103, 99, 113, 112, 100]⟩, .string ⟨#[99, 113, 112, 100]⟩, .string ⟨#[98, 115]⟩] 9)) = W2 := ⟨_, rfl⟩
    rw [hW2] at BB MM TT ⊢
    have HBB := Lib.hid BB
    have HMM := Lib.hid MM
    have HTW := Lib.hid TT
    clear hW2 BB MM TT
    go_loopw [10, 11] (fun s i wr => ∃ (j : Nat) (b : Bool), j ≤ n ∧ i = .int .i64 j ∧ s = .bool b ∧ (b = true ↔ c ∈ fs.take j) ∧ Mods Nil W2 wr) (fun _ i _ => n - (intOf i).toNat)
    case atStart => exact ⟨0, false, by omega, rfl, rfl, by simp, Mods.refl _ _⟩
    case round =>
      obtain ⟨j, b, hj, rfl, rfl, hb, hmo⟩ := hrel
      have HMO := Lib.hid (HMM.out.trans hmo)
      have HM2 := Lib.hid hmo
      have HB := Lib.hid hb
      clear hb
      by_cases hlt : j < n
      · have hltI : (j : Int) < (n : Int) := by omega
        have hjl : j < fs.length := by rw [HN.out]; exact hlt
        have hx1 := fun W => index_strOf W fs j hjl
        obtain ⟨c2, hc2⟩ : ∃ c2, fs[j] = c2 := ⟨_, rfl⟩
        rw [hc2] at hx1
        have HC2 := Lib.hid hc2
        have HJL := Lib.hid hjl
        clear hc2 hmo
        cases b with
        | true =>
          have HNX : Hid (true = true ↔ c ∈ fs.take (j + 1)) := by
            show _ ↔ _
            exact ⟨fun _ => by rw [List.take_add_one]; exact List.mem_append.2 (.inl (HB.out.1 rfl)), fun _ => rfl⟩
          go_wp2_with fail
          go_quiet (fail)
          go_wp2_with fail
          exact ⟨⟨j + 1, true, by omega, by go_num, rfl, by simpa using HNX.out, HM2.out.drewN _⟩, by simp [intOf]; omega⟩
        | false =>
          by_cases hcc : c2 = c
          · subst hcc
            have HNX : Hid (true = true ↔ c2 ∈ fs.take (j + 1)) := by
              show _ ↔ _
              exact ⟨fun _ => by rw [List.take_add_one, List.getElem?_eq_getElem HJL.out, HC2.out]; simp, fun _ => rfl⟩
            go_wp2_with fail
            go_quiet (fail)
            go_wp2_with fail
            exact ⟨⟨j + 1, true, by omega, by go_num, rfl, by simpa using HNX.out, HM2.out.drewN _⟩, by simp [intOf]; omega⟩
          · have hne : ((c2.toNat : Int) == (c.toNat : Int)) = false := by
              rw [beq_eq_false_iff_ne]
              intro h
              exact hcc (UInt8.toNat_inj.1 (by omega))
            have HNX : Hid (false = true ↔ c ∈ fs.take (j + 1)) := by
              show _ ↔ _
              constructor
              · intro h; cases h
              · rw [List.take_add_one, List.getElem?_eq_getElem HJL.out, HC2.out]
                intro h
                rcases List.mem_append.1 h with h | h
                · exact HB.out.2 h
                · simp at h; exact absurd h.symm hcc
            go_wp2_with fail
            go_quiet (fail)
            go_wp2_with fail
            exact ⟨⟨j + 1, false, by omega, by go_num, rfl, by simpa using HNX.out, HM2.out.drewN _⟩, by simp [intOf]; omega⟩
      · obtain rfl : j = n := by omega
        obtain ⟨d0, d1, d2, d3, d4, d5, d6, d7, d8, d9, d10⟩ := (HBB.out.mods hmo (fun h => h)).mc
        have hbo : b = own kd 5 := by
          have h := HB.out
          rw [List.take_of_length_le (Nat.le_of_eq HN.out), HOW.out] at h
          exact Bool.eq_iff_iff.2 h
        subst hbo
        dsimp only [List.length_nil, List.length_cons] at d0 d1 d2 d3 d4 d5 d6 d7 d8 d9 d10
        go_wp2_with (go_at_call 17; refine (check_any (m := { kind := kd, seq := 1 }) (L := {}) HOK.out (HTW.out.mods hmo (fun h => h))).mono ?_; rintro e w3 ⟨rfl, m3⟩; rw [HCK.out]; have M3 := Lib.hid (HMO.out.trans m3); clear m3)
        all_goals
          go_ret
          exact ⟨rfl, M3.out⟩

set_option maxHeartbeats 8000000 in
theorem msgKinds_6 (w : World) (hT : Tab w) (kd : Int) (hkd : -9223372036854775808 ≤ kd ∧ kd ≤ 9223372036854775807) (d : Nat) (hd : d < 256) (hdk : d % 10 = 6) (hk : isK kd = true) :
    Calls Tryd.prog 6 #[.int .i64 kd, .int .u8 d] w fun e w' => e = .returned (.bool true) ∧ Mods Nil w w' := by
    have HT := Lib.hid hT
    have hb : 1 ≤ kd ∧ kd ≤ 18 := by simpa [isK] using hk
    have h1 := hb.1
    have h2 := hb.2
    obtain ⟨fs, hfs⟩ : ∃ fs, fstr kd = fs := ⟨_, rfl⟩
    obtain ⟨n, hn⟩ : ∃ n, fs.length = n := ⟨_, rfl⟩
    have hsz : (strOf fs).size = n := by simp [hn]
    have hn10 : n ≤ 10 := by rw [← hn, ← hfs]; exact fstr_len kd
    have HFS := Lib.hid hfs.symm
    have HN := Lib.hid hn
    have HIK : Hid (∀ k (m : PM), m.kind = kd → k < 10 → (∀ j, j < 10 → amt m j = if j = k then 1 else 0) → chk m = if own kd k then 0 else 1) := fun k m e h10 h => by
      subst e
      exact chk_single hk h10 h
    clear hfs hn hb hT hk
    have hok : PM.ok { kind := kd, pos := 1 } := by constructor <;> simp <;> omega
    have HOK := Lib.hid hok
    obtain ⟨c, hc⟩ : ∃ c, lt 6 = c := ⟨_, rfl⟩
    have hx2 : ∀ W, (Instr.index 9 (.string ⟨#[98, 115, 104, 103, 99, 113, 112, 100, 118, 120]⟩) (.int .i64 6)).run Tryd.prog W = .ok (.int .u8 (c.toNat : Int)) W := fun W => by rw [← hc]; exact lets_at 6 (by omega) W
    have hmod : (d : Int) % 10 = 6 := by omega
    have hmod2 : (d : Int).tmod 10 = 6 := by rw [Int.tmod_eq_emod_of_nonneg (by omega)]; omega
    have HCK : Hid (chk { kind := kd, pos := 1 } = if own kd 6 then 0 else 1) := HIK.out 6 { kind := kd, pos := 1 } rfl (by omega) (ten_cases rfl rfl rfl rfl rfl rfl rfl rfl rfl rfl)
    have HOW : Hid (c ∈ fs ↔ own kd 6 = true) := by show _ ↔ _; rw [← hc, HFS.out]; exact fstr_mem (by omega)
    clear hok hc
    go_enter Tryd.func6, Tryd.ntmps6
    go_wp2_with (go_at_call 9; refine (awake4_any _ HT.out).mono ?_; rintro e w1 ⟨rfl, m1⟩; have M1 := Lib.hid m1; have HT1 := Lib.hid (HT.out.mods m1 (fun h => h)); have htb : ((w1.alloc (.cells #[.int .i64 kd, .int .u64 0, .int .u64 0, .int .i64 0, .int .i64 0, .int .u64 0, .int .u64 0, .int .u64 0, .int .i64 0, .slice none 0 0, .slice none 0 0] 32)).alloc (.cells #[.string ⟨#[]⟩, .string ⟨#[104, 103, 99, 113, 120]⟩, .string ⟨#[104, 103, 99, 113, 112, 100]⟩, .string ⟨#[104, 103, 99, 113, 112, 120]⟩, .string ⟨#[104, 103, 112]⟩, .string ⟨#[104, 103, 112]⟩, .string ⟨#[104, 103, 118]⟩, .string ⟨#[98, 115]⟩, .string ⟨#[98, 115, 120]⟩, .string ⟨#[98, 115, 120]⟩, .string ⟨#[98, 115]⟩, .string ⟨#[98]⟩, .string ⟨#[115, 120]⟩, .string ⟨#[115]⟩, .string ⟨#[99, 113, 112]⟩, .string ⟨#[104, 103, 99, 113, 112, 100, 120]⟩, .string ⟨#[104, 103, 99, 113, 112, 100]⟩, .string ⟨#[99, 113, 112, 100]⟩, .string ⟨#[98, 115]⟩] 9)).cell? ⟨w1.heap.size + 1, kd.toNat, none⟩ = some (.string (strOf fs)) := (by rw [HFS.out]; have := tabL_at h1 h2 (w1.alloc (.cells #[.int .i64 kd, .int .u64 0, .int .u64 0, .int .i64 0, .int .i64 0, .int .u64 0, .int .u64 0, .int .u64 0, .int .i64 0, .slice none 0 0, .slice none 0 0] 32)); simp only [World.size_alloc] at this; exact this); clear m1)
    have BB : Blk ((w1.alloc (.cells #[.int .i64 kd, .int .u64 0, .int .u64 0, .int .i64 0, .int .i64 0, .int .u64 0, .int .u64 0, .int .u64 1, .int .i64 0, .slice none 0 0, .slice none 0 0] 32)).alloc (.cells #[.string ⟨#[]⟩, .string ⟨#[104, 103, 99, 113, 120]⟩, .string ⟨#[104, 103, 99, 113, 112, 100]⟩, .string ⟨#[104, 103, 99, 113, 112, 120]⟩, .string ⟨#[104, 103, 112]⟩, .string ⟨#[104, 103, 112]⟩, .string ⟨#[104, 103, 118]⟩, .string ⟨#[98, 115]⟩, .string ⟨#[98, 115, 120]⟩, .string ⟨#[98, 115, 120]⟩, .string ⟨#[98, 115]⟩, .string ⟨#[98]⟩, .string ⟨#[115, 120]⟩, .string ⟨#[115]⟩, .string ⟨#[99, 113, 112]⟩, .string ⟨#[104, 103, 99, 113, 112, 100, 120]⟩, .string ⟨#[104, 103, 99, 113, 112, 100]⟩, .string ⟨#[99, 113, 112, 100]⟩, .string ⟨#[98, 115]⟩] 9)) w1.heap.size 32 (MC { kind := kd, pos := 1 } {}) := by exact (Blk.new w1 32 (MC { kind := kd, pos := 1 } {})).alloc _
    have MM : Mods Nil w ((w1.alloc (.cells #[.int .i64 kd, .int .u64 0, .int .u64 0, .int .i64 0, .int .i64 0, .int .u64 0, .int .u64 0, .int .u64 1, .int .i64 0, .slice none 0 0, .slice none 0 0] 32)).alloc (.cells #[.string ⟨#[]⟩, .string ⟨#[104, 103, 99, 113, 120]⟩, .string ⟨#[104, 103, 99, 113, 112, 100]⟩, .string ⟨#[104, 103, 99, 113, 112, 120]⟩, .string ⟨#[104, 103, 112]⟩, .string ⟨#[104, 103, 112]⟩, .string ⟨#[104, 103, 118]⟩, .string ⟨#[98, 115]⟩, .string ⟨#[98, 115, 120]⟩, .string ⟨#[98, 115, 120]⟩, .string ⟨#[98, 115]⟩, .string ⟨#[98]⟩, .string ⟨#[115, 120]⟩, .string ⟨#[115]⟩, .string ⟨#[99, 113, 112]⟩, .string ⟨#[104, 103, 99, 113, 112, 100, 120]⟩, .string ⟨#[104, 103, 99, 113, 112, 100]⟩, .string ⟨#[99, 113, 112, 100]⟩, .string ⟨#[98, 115]⟩] 9)) := M1.out.alloc _ |>.alloc _
    have TT : Tab ((w1.alloc (.cells #[.int .i64 kd, .int .u64 0, .int .u64 0, .int .i64 0, .int .i64 0, .int .u64 0, .int .u64 0, .int .u64 1, .int .i64 0, .slice none 0 0, .slice none 0 0] 32)).alloc (.cells #[.string ⟨#[]⟩, .string ⟨#[104, 103, 99, 113, 120]⟩, .string ⟨#[104, 103, 99, 113, 112, 100]⟩, .string ⟨#[104, 103, 99, 113, 112, 120]⟩, .string ⟨#[104, 103, 112]⟩, .string ⟨#[104, 103, 112]⟩, .string ⟨#[104, 103, 118]⟩, .string ⟨#[98, 115]⟩, .string ⟨#[98, 115, 120]⟩, .string ⟨#[98, 115, 120]⟩, .string ⟨#[98, 115]⟩, .string ⟨#[98]⟩, .string ⟨#[115, 120]⟩, .string ⟨#[115]⟩, .string ⟨#[99, 113, 112]⟩, .string ⟨#[104, 103, 99, 113, 112, 100, 120]⟩, .string ⟨#[104, 103, 99, 113, 112, 100]⟩, .string ⟨#[99, 113, 112, 100]⟩, .string ⟨#[98, 115]⟩] 9)) := HT1.out.mods ((Mods.refl Nil _).alloc _ |>.alloc _) (fun h => h)
    obtain ⟨W2, hW2⟩ : ∃ W2, ((w1.alloc (.cells #[.int .i64 kd, .int .u64 0, .int .u64 0, .int .i64 0, .int .i64 0, .int .u64 0, .int .u64 0, .int .u64 1, .int .i64 0, .slice none 0 0, .slice none 0 0] 32)).alloc (.cells #[.string ⟨#[]⟩, .string ⟨#[104, 103, 99, 113, 120]⟩, .string ⟨#[104, 103, 99, 113, 112, 100]⟩, .string ⟨#[104, 103, 99, 113, 112, 120]⟩, .string ⟨#[104, 103, 112]⟩, .string ⟨#[104, 103, 112]⟩, .string ⟨#[104, 103, 118]⟩, .string ⟨#[98, 115]⟩, .string ⟨#[98, 115, 120]⟩, .string ⟨#[98, 115, 120]⟩, .string ⟨#[98, 115]⟩, .string ⟨#[98]⟩, .string ⟨#[115, 120]⟩, .string ⟨#[115]⟩, .string ⟨#[99, 113, 112]⟩, .string ⟨#[104, 103, 99, 113, 112, 100, 120]⟩, .string ⟨#[104, 103, 99, 113, 112, 100]⟩, .string ⟨#[99, 113, 112, 100]⟩, .string ⟨#[98, 115]⟩] 9)) = W2 := ⟨_, rfl⟩
    rw [hW2] at BB MM TT ⊢
    have HBB := Lib.hid BB
    have HMM := Lib.hid MM
    have HTW := Lib.hid TT
    clear hW2 BB MM TT
    go_loopw [10, 11] (fun s i wr => ∃ (j : Nat) (b : Bool), j ≤ n ∧ i = .int .i64 j ∧ s = .bool b ∧ (b = true ↔ c ∈ fs.take j) ∧ Mods Nil W2 wr) (fun _ i _ => n - (intOf i).toNat)
    case atStart => exact ⟨0, false, by omega, rfl, rfl, by simp, Mods.refl _ _⟩
    case round =>
      obtain ⟨j, b, hj, rfl, rfl, hb, hmo⟩ := hrel
      have HMO := Lib.hid (HMM.out.trans hmo)
      have HM2 := Lib.hid hmo
      have HB := Lib.hid hb
      clear hb
      by_cases hlt : j < n
      · have hltI : (j : Int) < (n : Int) := by omega
        have hjl : j < fs.length := by rw [HN.out]; exact hlt
        have hx1 := fun W => index_strOf W fs j hjl
        obtain ⟨c2, hc2⟩ : ∃ c2, fs[j] = c2 := ⟨_, rfl⟩
        rw [hc2] at hx1
        have HC2 := Lib.hid hc2
        have HJL := Lib.hid hjl
        clear hc2 hmo
        cases b with
        | true =>
          have HNX : Hid (true = true ↔ c ∈ fs.take (j + 1)) := by
            show _ ↔ _
            exact ⟨fun _ => by rw [List.take_add_one]; exact List.mem_append.2 (.inl (HB.out.1 rfl)), fun _ => rfl⟩
          go_wp2_with fail
          go_quiet (fail)
          go_wp2_with fail
          exact ⟨⟨j + 1, true, by omega, by go_num, rfl, by simpa using HNX.out, HM2.out.drewN _⟩, by simp [intOf]; omega⟩
        | false =>
          by_cases hcc : c2 = c
          · subst hcc
            have HNX : Hid (true = true ↔ c2 ∈ fs.take (j + 1)) := by
              show _ ↔ _
              exact ⟨fun _ => by rw [List.take_add_one, List.getElem?_eq_getElem HJL.out, HC2.out]; simp, fun _ => rfl⟩
            go_wp2_with fail
            go_quiet (fail)
            go_wp2_with fail
            exact ⟨⟨j + 1, true, by omega, by go_num, rfl, by simpa using HNX.out, HM2.out.drewN _⟩, by simp [intOf]; omega⟩
          · have hne : ((c2.toNat : Int) == (c.toNat : Int)) = false := by
              rw [beq_eq_false_iff_ne]
              intro h
              exact hcc (UInt8.toNat_inj.1 (by omega))
            have HNX : Hid (false = true ↔ c ∈ fs.take (j + 1)) := by
              show _ ↔ _
              constructor
              · intro h; cases h
              · rw [List.take_add_one, List.getElem?_eq_getElem HJL.out, HC2.out]
                intro h
                rcases List.mem_append.1 h with h | h
                · exact HB.out.2 h
                · simp at h; exact absurd h.symm hcc
            go_wp2_with fail
            go_quiet (fail)
            go_wp2_with fail
            exact ⟨⟨j + 1, false, by omega, by go_num, rfl, by simpa using HNX.out, HM2.out.drewN _⟩, by simp [intOf]; omega⟩
      · obtain rfl : j = n := by omega
        obtain ⟨d0, d1, d2, d3, d4, d5, d6, d7, d8, d9, d10⟩ := (HBB.out.mods hmo (fun h => h)).mc
        have hbo : b = own kd 6 := by
          have h := HB.out
          rw [List.take_of_length_le (Nat.le_of_eq HN.out), HOW.out] at h
          exact Bool.eq_iff_iff.2 h
        subst hbo
        dsimp only [List.length_nil, List.length_cons] at d0 d1 d2 d3 d4 d5 d6 d7 d8 d9 d10
        go_wp2_with (go_at_call 17; refine (check_any (m := { kind := kd, pos := 1 }) (L := {}) HOK.out (HTW.out.mods hmo (fun h => h))).mono ?_; rintro e w3 ⟨rfl, m3⟩; rw [HCK.out]; have M3 := Lib.hid (HMO.out.trans m3); clear m3)
        all_goals
          go_ret
          exact ⟨rfl, M3.out⟩

set_option maxHeartbeats 8000000 in
theorem msgKinds_7 (w : World) (hT : Tab w) (kd : Int) (hkd : -9223372036854775808 ≤ kd ∧ kd ≤ 9223372036854775807) (d : Nat) (hd : d < 256) (hdk : d % 10 = 7) (hk : isK kd = true) :
    Calls Tryd.prog 6 #[.int .i64 kd, .int .u8 d] w fun e w' => e = .returned (.bool true) ∧ Mods Nil w w' := by
    have HT := Lib.hid hT
    have hb : 1 ≤ kd ∧ kd ≤ 18 := by simpa [isK] using hk
    have h1 := hb.1
    have h2 := hb.2
    obtain ⟨fs, hfs⟩ : ∃ fs, fstr kd = fs := ⟨_, rfl⟩
    obtain ⟨n, hn⟩ : ∃ n, fs.length = n := ⟨_, rfl⟩
    have hsz : (strOf fs).size = n := by simp [hn]
    have hn10 : n ≤ 10 := by rw [← hn, ← hfs]; exact fstr_len kd
    have HFS := Lib.hid hfs.symm
    have HN := Lib.hid hn
    have HIK : Hid (∀ k (m : PM), m.kind = kd → k < 10 → (∀ j, j < 10 → amt m j = if j = k then 1 else 0) → chk m = if own kd k then 0 else 1) := fun k m e h10 h => by
      subst e
      exact chk_single hk h10 h
    clear hfs hn hb hT hk
    have hok : PM.ok { kind := kd, code := 1 } := by constructor <;> simp <;> omega
    have HOK := Lib.hid hok
    obtain ⟨c, hc⟩ : ∃ c, lt 7 = c := ⟨_, rfl⟩
    have hx2 : ∀ W, (Instr.index 9 (.string ⟨#[98, 115, 104, 103, 99, 113, 112, 100, 118, 120]⟩) (.int .i64 7)).run Tryd.prog W = .ok (.int .u8 (c.toNat : Int)) W := fun W => by rw [← hc]; exact lets_at 7 (by omega) W
    have hmod : (d : Int) % 10 = 7 := by omega
    have hmod2 : (d : Int).tmod 10 = 7 := by rw [Int.tmod_eq_emod_of_nonneg (by omega)]; omega
    have HCK : Hid (chk { kind := kd, code := 1 } = if own kd 7 then 0 else 1) := HIK.out 7 { kind := kd, code := 1 } rfl (by omega) (ten_cases rfl rfl rfl rfl rfl rfl rfl rfl rfl rfl)
    have HOW : Hid (c ∈ fs ↔ own kd 7 = true) := by show _ ↔ _; rw [← hc, HFS.out]; exact fstr_mem (by omega)
    clear hok hc
    go_enter Tryd.func6, Tryd.ntmps6
    go_wp2_with (go_at_call 9; refine (awake4_any _ HT.out).mono ?_; rintro e w1 ⟨rfl, m1⟩; have M1 := Lib.hid m1; have HT1 := Lib.hid (HT.out.mods m1 (fun h => h)); have htb : ((w1.alloc (.cells #[.int .i64 kd, .int .u64 0, .int .u64 0, .int .i64 0, .int .i64 0, .int .u64 0, .int .u64 0, .int .u64 0, .int .i64 0, .slice none 0 0, .slice none 0 0] 32)).alloc (.cells #[.string ⟨#[]⟩, .string ⟨#[104, 103, 99, 113, 120]⟩, .string ⟨#[104, 103, 99, 113, 112, 100]⟩, .string ⟨#[104, 103, 99, 113, 112, 120]⟩, .string ⟨#[104, 103, 112]⟩, .string ⟨#[104, 103, 112]⟩, .string ⟨#[104, 103, 118]⟩, .string ⟨#[98, 115]⟩, .string ⟨#[98, 115, 120]⟩, .string ⟨#[98, 115, 120]⟩, .string ⟨#[98, 115]⟩, .string ⟨#[98]⟩, .string ⟨#[115, 120]⟩, .string ⟨#[115]⟩, .string ⟨#[99, 113, 112]⟩, .string ⟨#[104, 103, 99, 113, 112, 100, 120]⟩, .string ⟨#[104, 103, 99, 113, 112, 100]⟩, .string ⟨#[99, 113, 112, 100]⟩, .string ⟨#[98, 115]⟩] 9)).cell? ⟨w1.heap.size + 1, kd.toNat, none⟩ = some (.string (strOf fs)) := (by rw [HFS.out]; have := tabL_at h1 h2 (w1.alloc (.cells #[.int .i64 kd, .int .u64 0, .int .u64 0, .int .i64 0, .int .i64 0, .int .u64 0, .int .u64 0, .int .u64 0, .int .i64 0, .slice none 0 0, .slice none 0 0] 32)); simp only [World.size_alloc] at this; exact this); clear m1)
    have BB : Blk ((w1.alloc (.cells #[.int .i64 kd, .int .u64 0, .int .u64 0, .int .i64 0, .int .i64 0, .int .u64 0, .int .u64 0, .int .u64 0, .int .i64 1, .slice none 0 0, .slice none 0 0] 32)).alloc (.cells #[.string ⟨#[]⟩, .string ⟨#[104, 103, 99, 113, 120]⟩, .string ⟨#[104, 103, 99, 113, 112, 100]⟩, .string ⟨#[104, 103, 99, 113, 112, 120]⟩, .string ⟨#[104, 103, 112]⟩, .string ⟨#[104, 103, 112]⟩, .string ⟨#[104, 103, 118]⟩, .string ⟨#[98, 115]⟩, .string ⟨#[98, 115, 120]⟩, .string ⟨#[98, 115, 120]⟩, .string ⟨#[98, 115]⟩, .string ⟨#[98]⟩, .string ⟨#[115, 120]⟩, .string ⟨#[115]⟩, .string ⟨#[99, 113, 112]⟩, .string ⟨#[104, 103, 99, 113, 112, 100, 120]⟩, .string ⟨#[104, 103, 99, 113, 112, 100]⟩, .string ⟨#[99, 113, 112, 100]⟩, .string ⟨#[98, 115]⟩] 9)) w1.heap.size 32 (MC { kind := kd, code := 1 } {}) := by exact (Blk.new w1 32 (MC { kind := kd, code := 1 } {})).alloc _
    have MM : Mods Nil w ((w1.alloc (.cells #[.int .i64 kd, .int .u64 0, .int .u64 0, .int .i64 0, .int .i64 0, .int .u64 0, .int .u64 0, .int .u64 0, .int .i64 1, .slice none 0 0, .slice none 0 0] 32)).alloc (.cells #[.string ⟨#[]⟩, .string ⟨#[104, 103, 99, 113, 120]⟩, .string ⟨#[104, 103, 99, 113, 112, 100]⟩, .string ⟨#[104, 103, 99, 113, 112, 120]⟩, .string ⟨#[104, 103, 112]⟩, .string ⟨#[104, 103, 112]⟩, .string ⟨#[104, 103, 118]⟩, .string ⟨#[98, 115]⟩, .string ⟨#[98, 115, 120]⟩, .string ⟨#[98, 115, 120]⟩, .string ⟨#[98, 115]⟩, .string ⟨#[98]⟩, .string ⟨#[115, 120]⟩, .string ⟨#[115]⟩, .string ⟨#[99, 113, 112]⟩, .string ⟨#[104, 103, 99, 113, 112, 100, 120]⟩, .string ⟨#[104, 103, 99, 113, 112, 100]⟩, .string ⟨#[99, 113, 112, 100]⟩, .string ⟨#[98, 115]⟩] 9)) := M1.out.alloc _ |>.alloc _
    have TT : Tab ((w1.alloc (.cells #[.int .i64 kd, .int .u64 0, .int .u64 0, .int .i64 0, .int .i64 0, .int .u64 0, .int .u64 0, .int .u64 0, .int .i64 1, .slice none 0 0, .slice none 0 0] 32)).alloc (.cells #[.string ⟨#[]⟩, .string ⟨#[104, 103, 99, 113, 120]⟩, .string ⟨#[104, 103, 99, 113, 112, 100]⟩, .string ⟨#[104, 103, 99, 113, 112, 120]⟩, .string ⟨#[104, 103, 112]⟩, .string ⟨#[104, 103, 112]⟩, .string ⟨#[104, 103, 118]⟩, .string ⟨#[98, 115]⟩, .string ⟨#[98, 115, 120]⟩, .string ⟨#[98, 115, 120]⟩, .string ⟨#[98, 115]⟩, .string ⟨#[98]⟩, .string ⟨#[115, 120]⟩, .string ⟨#[115]⟩, .string ⟨#[99, 113, 112]⟩, .string ⟨#[104, 103, 99, 113, 112, 100, 120]⟩, .string ⟨#[104, 103, 99, 113, 112, 100]⟩, .string ⟨#[99, 113, 112, 100]⟩, .string ⟨#[98, 115]⟩] 9)) := HT1.out.mods ((Mods.refl Nil _).alloc _ |>.alloc _) (fun h => h)
    obtain ⟨W2, hW2⟩ : ∃ W2, ((w1.alloc (.cells #[.int .i64 kd, .int .u64 0, .int .u64 0, .int .i64 0, .int .i64 0, .int .u64 0, .int .u64 0, .int .u64 0, .int .i64 1, .slice none 0 0, .slice none 0 0] 32)).alloc (.cells #[.string ⟨#[]⟩, .string ⟨#[104, 103, 99, 113, 120]⟩, .string ⟨#[104, 103, 99, 113, 112, 100]⟩, .string ⟨#[104, 103, 99, 113, 112, 120]⟩, .string ⟨#[104, 103, 112]⟩, .string ⟨#[104, 103, 112]⟩, .string ⟨#[104, 103, 118]⟩, .string ⟨#[98, 115]⟩, .string ⟨#[98, 115, 120]⟩, .string ⟨#[98, 115, 120]⟩, .string ⟨#[98, 115]⟩, .string ⟨#[98]⟩, .string ⟨#[115, 120]⟩, .string ⟨#[115]⟩, .string ⟨#[99, 113, 112]⟩, .string ⟨#[104, 103, 99, 113, 112, 100, 120]⟩, .string ⟨#[104, 103, 99, 113, 112, 100]⟩, .string ⟨#[99, 113, 112, 100]⟩, .string ⟨#[98, 115]⟩] 9)) = W2 := ⟨_, rfl⟩
    rw [hW2] at BB MM TT ⊢
    have HBB := Lib.hid BB
    have HMM := Lib.hid MM
    have HTW := Lib.hid TT
    clear hW2 BB MM TT
    go_loopw [10, 11] (fun s i wr => ∃ (j : Nat) (b : Bool), j ≤ n ∧ i = .int .i64 j ∧ s = .bool b ∧ (b = true ↔ c ∈ fs.take j) ∧ Mods Nil W2 wr) (fun _ i _ => n - (intOf i).toNat)
    case atStart => exact ⟨0, false, by omega, rfl, rfl, by simp, Mods.refl _ _⟩
    case round =>
      obtain ⟨j, b, hj, rfl, rfl, hb, hmo⟩ := hrel
      have HMO := Lib.hid (HMM.out.trans hmo)
      have HM2 := Lib.hid hmo
      have HB := Lib.hid hb
      clear hb
      by_cases hlt : j < n
      · have hltI : (j : Int) < (n : Int) := by omega
        have hjl : j < fs.length := by rw [HN.out]; exact hlt
        have hx1 := fun W => index_strOf W fs j hjl
        obtain ⟨c2, hc2⟩ : ∃ c2, fs[j] = c2 := ⟨_, rfl⟩
        rw [hc2] at hx1
        have HC2 := Lib.hid hc2
        have HJL := Lib.hid hjl
        clear hc2 hmo
        cases b with
        | true =>
          have HNX : Hid (true = true ↔ c ∈ fs.take (j + 1)) := by
            show _ ↔ _
            exact ⟨fun _ => by rw [List.take_add_one]; exact List.mem_append.2 (.inl (HB.out.1 rfl)), fun _ => rfl⟩
          go_wp2_with fail
          go_quiet (fail)
          go_wp2_with fail
          exact ⟨⟨j + 1, true, by omega, by go_num, rfl, by simpa using HNX.out, HM2.out.drewN _⟩, by simp [intOf]; omega⟩
        | false =>
          by_cases hcc : c2 = c
          · subst hcc
            have HNX : Hid (true = true ↔ c2 ∈ fs.take (j + 1)) := by
              show _ ↔ _
              exact ⟨fun _ => by rw [List.take_add_one, List.getElem?_eq_getElem HJL.out, HC2.out]; simp, fun _ => rfl⟩
            go_wp2_with fail
            go_quiet (fail)
            go_wp2_with fail
            exact ⟨⟨j + 1, true, by omega, by go_num, rfl, by simpa using HNX.out, HM2.out.drewN _⟩, by simp [intOf]; omega⟩
          · have hne : ((c2.toNat : Int) == (c.toNat : Int)) = false := by
              rw [beq_eq_false_iff_ne]
              intro h
              exact hcc (UInt8.toNat_inj.1 (by omega))
            have HNX : Hid (false = true ↔ c ∈ fs.take (j + 1)) := by
              show _ ↔ _
              constructor
              · intro h; cases h
              · rw [List.take_add_one, List.getElem?_eq_getElem HJL.out, HC2.out]
                intro h
                rcases List.mem_append.1 h with h | h
                · exact HB.out.2 h
                · simp at h; exact absurd h.symm hcc
            go_wp2_with fail
            go_quiet (fail)
            go_wp2_with fail
            exact ⟨⟨j + 1, false, by omega, by go_num, rfl, by simpa using HNX.out, HM2.out.drewN _⟩, by simp [intOf]; omega⟩
      · obtain rfl : j = n := by omega
        obtain ⟨d0, d1, d2, d3, d4, d5, d6, d7, d8, d9, d10⟩ := (HBB.out.mods hmo (fun h => h)).mc
        have hbo : b = own kd 7 := by
          have h := HB.out
          rw [List.take_of_length_le (Nat.le_of_eq HN.out), HOW.out] at h
          exact Bool.eq_iff_iff.2 h
        subst hbo
        dsimp only [List.length_nil, List.length_cons] at d0 d1 d2 d3 d4 d5 d6 d7 d8 d9 d10
        go_wp2_with (go_at_call 17; refine (check_any (m := { kind := kd, code := 1 }) (L := {}) HOK.out (HTW.out.mods hmo (fun h => h))).mono ?_; rintro e w3 ⟨rfl, m3⟩; rw [HCK.out]; have M3 := Lib.hid (HMO.out.trans m3); clear m3)
        all_goals
          go_ret
          exact ⟨rfl, M3.out⟩

set_option maxHeartbeats 8000000 in
theorem msgKinds_8 (w : World) (hT : Tab w) (kd : Int) (hkd : -9223372036854775808 ≤ kd ∧ kd ≤ 9223372036854775807) (d : Nat) (hd : d < 256) (hdk : d % 10 = 8) (hk : isK kd = true) :
    Calls Tryd.prog 6 #[.int .i64 kd, .int .u8 d] w fun e w' => e = .returned (.bool true) ∧ Mods Nil w w' := by
    have HT := Lib.hid hT
    have hb : 1 ≤ kd ∧ kd ≤ 18 := by simpa [isK] using hk
    have h1 := hb.1
    have h2 := hb.2
    obtain ⟨fs, hfs⟩ : ∃ fs, fstr kd = fs := ⟨_, rfl⟩
    obtain ⟨n, hn⟩ : ∃ n, fs.length = n := ⟨_, rfl⟩
    have hsz : (strOf fs).size = n := by simp [hn]
    have hn10 : n ≤ 10 := by rw [← hn, ← hfs]; exact fstr_len kd
    have HFS := Lib.hid hfs.symm
    have HN := Lib.hid hn
    have HIK : Hid (∀ k (m : PM), m.kind = kd → k < 10 → (∀ j, j < 10 → amt m j = if j = k then 1 else 0) → chk m = if own kd k then 0 else 1) := fun k m e h10 h => by
      subst e
      exact chk_single hk h10 h
    clear hfs hn hb hT hk
    have hok : PM.ok { kind := kd, vec := [0] } := by constructor <;> simp <;> omega
    have HOK := Lib.hid hok
    obtain ⟨c, hc⟩ : ∃ c, lt 8 = c := ⟨_, rfl⟩
    have hx2 : ∀ W, (Instr.index 9 (.string ⟨#[98, 115, 104, 103, 99, 113, 112, 100, 118, 120]⟩) (.int .i64 8)).run Tryd.prog W = .ok (.int .u8 (c.toNat : Int)) W := fun W => by rw [← hc]; exact lets_at 8 (by omega) W
    have hmod : (d : Int) % 10 = 8 := by omega
    have hmod2 : (d : Int).tmod 10 = 8 := by rw [Int.tmod_eq_emod_of_nonneg (by omega)]; omega
    have HCK : Hid (chk { kind := kd, vec := [0] } = if own kd 8 then 0 else 1) := HIK.out 8 { kind := kd, vec := [0] } rfl (by omega) (ten_cases rfl rfl rfl rfl rfl rfl rfl rfl rfl rfl)
    have HOW : Hid (c ∈ fs ↔ own kd 8 = true) := by show _ ↔ _; rw [← hc, HFS.out]; exact fstr_mem (by omega)
    clear hok hc
    go_enter Tryd.func6, Tryd.ntmps6
    go_wp2_with (go_at_call 9; refine (awake4_any _ HT.out).mono ?_; rintro e w1 ⟨rfl, m1⟩; have M1 := Lib.hid m1; have HT1 := Lib.hid (HT.out.mods m1 (fun h => h)); have htb : ((w1.alloc (.cells #[.int .i64 kd, .int .u64 0, .int .u64 0, .int .i64 0, .int .i64 0, .int .u64 0, .int .u64 0, .int .u64 0, .int .i64 0, .slice none 0 0, .slice none 0 0] 32)).alloc (.cells #[.string ⟨#[]⟩, .string ⟨#[104, 103, 99, 113, 120]⟩, .string ⟨#[104, 103, 99, 113, 112, 100]⟩, .string ⟨#[104, 103, 99, 113, 112, 120]⟩, .string ⟨#[104, 103, 112]⟩, .string ⟨#[104, 103, 112]⟩, .string ⟨#[104, 103, 118]⟩, .string ⟨#[98, 115]⟩, .string ⟨#[98, 115, 120]⟩, .string ⟨#[98, 115, 120]⟩, .string ⟨#[98, 115]⟩, .string ⟨#[98]⟩, .string ⟨#[115, 120]⟩, .string ⟨#[115]⟩, .string ⟨#[99, 113, 112]⟩, .string ⟨#[104, 103, 99, 113, 112, 100, 120]⟩, .string ⟨#[104, 103, 99, 113, 112, 100]⟩, .string ⟨#[99, 113, 112, 100]⟩, .string ⟨#[98, 115]⟩] 9)).cell? ⟨w1.heap.size + 1, kd.toNat, none⟩ = some (.string (strOf fs)) := (by rw [HFS.out]; have := tabL_at h1 h2 (w1.alloc (.cells #[.int .i64 kd, .int .u64 0, .int .u64 0, .int .i64 0, .int .i64 0, .int .u64 0, .int .u64 0, .int .u64 0, .int .i64 0, .slice none 0 0, .slice none 0 0] 32)); simp only [World.size_alloc] at this; exact this); clear m1)
    have BB : Blk (((w1.alloc (.cells #[.int .i64 kd, .int .u64 0, .int .u64 0, .int .i64 0, .int .i64 0, .int .u64 0, .int .u64 0, .int .u64 0, .int .i64 0, .slice (some ⟨w1.heap.size + 1 + 1, 0, none⟩) 1 1, .slice none 0 0] 32)).alloc (.cells #[.string ⟨#[]⟩, .string ⟨#[104, 103, 99, 113, 120]⟩, .string ⟨#[104, 103, 99, 113, 112, 100]⟩, .string ⟨#[104, 103, 99, 113, 112, 120]⟩, .string ⟨#[104, 103, 112]⟩, .string ⟨#[104, 103, 112]⟩, .string ⟨#[104, 103, 118]⟩, .string ⟨#[98, 115]⟩, .string ⟨#[98, 115, 120]⟩, .string ⟨#[98, 115, 120]⟩, .string ⟨#[98, 115]⟩, .string ⟨#[98]⟩, .string ⟨#[115, 120]⟩, .string ⟨#[115]⟩, .string ⟨#[99, 113, 112]⟩, .string ⟨#[104, 103, 99, 113, 112, 100, 120]⟩, .string ⟨#[104, 103, 99, 113, 112, 100]⟩, .string ⟨#[99, 113, 112, 100]⟩, .string ⟨#[98, 115]⟩] 9)).alloc (.cells #[.int .u64 0] 29)) w1.heap.size 32 (MC { kind := kd, vec := [0] } { Av := (some ⟨w1.heap.size + 1 + 1, 0, none⟩), cv := 1 }) := by exact (Blk.new w1 32 (MC { kind := kd, vec := [0] } { Av := (some ⟨w1.heap.size + 1 + 1, 0, none⟩), cv := 1 })).alloc _ |>.alloc _
    have MM : Mods Nil w (((w1.alloc (.cells #[.int .i64 kd, .int .u64 0, .int .u64 0, .int .i64 0, .int .i64 0, .int .u64 0, .int .u64 0, .int .u64 0, .int .i64 0, .slice (some ⟨w1.heap.size + 1 + 1, 0, none⟩) 1 1, .slice none 0 0] 32)).alloc (.cells #[.string ⟨#[]⟩, .string ⟨#[104, 103, 99, 113, 120]⟩, .string ⟨#[104, 103, 99, 113, 112, 100]⟩, .string ⟨#[104, 103, 99, 113, 112, 120]⟩, .string ⟨#[104, 103, 112]⟩, .string ⟨#[104, 103, 112]⟩, .string ⟨#[104, 103, 118]⟩, .string ⟨#[98, 115]⟩, .string ⟨#[98, 115, 120]⟩, .string ⟨#[98, 115, 120]⟩, .string ⟨#[98, 115]⟩, .string ⟨#[98]⟩, .string ⟨#[115, 120]⟩, .string ⟨#[115]⟩, .string ⟨#[99, 113, 112]⟩, .string ⟨#[104, 103, 99, 113, 112, 100, 120]⟩, .string ⟨#[104, 103, 99, 113, 112, 100]⟩, .string ⟨#[99, 113, 112, 100]⟩, .string ⟨#[98, 115]⟩] 9)).alloc (.cells #[.int .u64 0] 29)) := M1.out.alloc _ |>.alloc _ |>.alloc _
    have TT : Tab (((w1.alloc (.cells #[.int .i64 kd, .int .u64 0, .int .u64 0, .int .i64 0, .int .i64 0, .int .u64 0, .int .u64 0, .int .u64 0, .int .i64 0, .slice (some ⟨w1.heap.size + 1 + 1, 0, none⟩) 1 1, .slice none 0 0] 32)).alloc (.cells #[.string ⟨#[]⟩, .string ⟨#[104, 103, 99, 113, 120]⟩, .string ⟨#[104, 103, 99, 113, 112, 100]⟩, .string ⟨#[104, 103, 99, 113, 112, 120]⟩, .string ⟨#[104, 103, 112]⟩, .string ⟨#[104, 103, 112]⟩, .string ⟨#[104, 103, 118]⟩, .string ⟨#[98, 115]⟩, .string ⟨#[98, 115, 120]⟩, .string ⟨#[98, 115, 120]⟩, .string ⟨#[98, 115]⟩, .string ⟨#[98]⟩, .string ⟨#[115, 120]⟩, .string ⟨#[115]⟩, .string ⟨#[99, 113, 112]⟩, .string ⟨#[104, 103, 99, 113, 112, 100, 120]⟩, .string ⟨#[104, 103, 99, 113, 112, 100]⟩, .string ⟨#[99, 113, 112, 100]⟩, .string ⟨#[98, 115]⟩] 9)).alloc (.cells #[.int .u64 0] 29)) := HT1.out.mods ((Mods.refl Nil _).alloc _ |>.alloc _ |>.alloc _) (fun h => h)
    obtain ⟨W2, hW2⟩ : ∃ W2, (((w1.alloc (.cells #[.int .i64 kd, .int .u64 0, .int .u64 0, .int .i64 0, .int .i64 0, .int .u64 0, .int .u64 0, .int .u64 0, .int .i64 0, .slice (some ⟨w1.heap.size + 1 + 1, 0, none⟩) 1 1, .slice none 0 0] 32)).alloc (.cells #[.string ⟨#[]⟩, .string ⟨#[104, 103, 99, 113, 120]⟩, .string ⟨#[104, 103, 99, 113, 112, 100]⟩, .string ⟨#[104, 103, 99, 113, 112, 120]⟩, .string ⟨#[104, 103, 112]⟩, .string ⟨#[104, 103, 112]⟩, .string ⟨#[104, 103, 118]⟩, .string ⟨#[98, 115]⟩, .string ⟨#[98, 115, 120]⟩, .string ⟨#[98, 115, 120]⟩, .string ⟨#[98, 115]⟩, .string ⟨#[98]⟩, .string ⟨#[115, 120]⟩, .string ⟨#[115]⟩, .string ⟨#[99, 113, 112]⟩, .string ⟨#[104, 103, 99, 113, 112, 100, 120]⟩, .string ⟨#[104, 103, 99, 113, 112, 100]⟩, .string ⟨#[99, 113, 112, 100]⟩, .string ⟨#[98, 115]⟩] 9)).alloc (.cells #[.int .u64 0] 29)) = W2 := ⟨_, rfl⟩
    rw [hW2] at BB MM TT ⊢
    have HBB := Lib.hid BB
    have HMM := Lib.hid MM
    have HTW := Lib.hid TT
    clear hW2 BB MM TT
    go_loopw [10, 11] (fun s i wr => ∃ (j : Nat) (b : Bool), j ≤ n ∧ i = .int .i64 j ∧ s = .bool b ∧ (b = true ↔ c ∈ fs.take j) ∧ Mods Nil W2 wr) (fun _ i _ => n - (intOf i).toNat)
    case atStart => exact ⟨0, false, by omega, rfl, rfl, by simp, Mods.refl _ _⟩
    case round =>
      obtain ⟨j, b, hj, rfl, rfl, hb, hmo⟩ := hrel
      have HMO := Lib.hid (HMM.out.trans hmo)
      have HM2 := Lib.hid hmo
      have HB := Lib.hid hb
      clear hb
      by_cases hlt : j < n
      · have hltI : (j : Int) < (n : Int) := by omega
        have hjl : j < fs.length := by rw [HN.out]; exact hlt
        have hx1 := fun W => index_strOf W fs j hjl
        obtain ⟨c2, hc2⟩ : ∃ c2, fs[j] = c2 := ⟨_, rfl⟩
        rw [hc2] at hx1
        have HC2 := Lib.hid hc2
        have HJL := Lib.hid hjl
        clear hc2 hmo
        cases b with
        | true =>
          have HNX : Hid (true = true ↔ c ∈ fs.take (j + 1)) := by
            show _ ↔ _
            exact ⟨fun _ => by rw [List.take_add_one]; exact List.mem_append.2 (.inl (HB.out.1 rfl)), fun _ => rfl⟩
          go_wp2_with fail
          go_quiet (fail)
          go_wp2_with fail
          exact ⟨⟨j + 1, true, by omega, by go_num, rfl, by simpa using HNX.out, HM2.out.drewN _⟩, by simp [intOf]; omega⟩
        | false =>
          by_cases hcc : c2 = c
          · subst hcc
            have HNX : Hid (true = true ↔ c2 ∈ fs.take (j + 1)) := by
              show _ ↔ _
              exact ⟨fun _ => by rw [List.take_add_one, List.getElem?_eq_getElem HJL.out, HC2.out]; simp, fun _ => rfl⟩
            go_wp2_with fail
            go_quiet (fail)
            go_wp2_with fail
            exact ⟨⟨j + 1, true, by omega, by go_num, rfl, by simpa using HNX.out, HM2.out.drewN _⟩, by simp [intOf]; omega⟩
          · have hne : ((c2.toNat : Int) == (c.toNat : Int)) = false := by
              rw [beq_eq_false_iff_ne]
              intro h
              exact hcc (UInt8.toNat_inj.1 (by omega))
            have HNX : Hid (false = true ↔ c ∈ fs.take (j + 1)) := by
              show _ ↔ _
              constructor
              · intro h; cases h
              · rw [List.take_add_one, List.getElem?_eq_getElem HJL.out, HC2.out]
                intro h
                rcases List.mem_append.1 h with h | h
                · exact HB.out.2 h
                · simp at h; exact absurd h.symm hcc
            go_wp2_with fail
            go_quiet (fail)
            go_wp2_with fail
            exact ⟨⟨j + 1, false, by omega, by go_num, rfl, by simpa using HNX.out, HM2.out.drewN _⟩, by simp [intOf]; omega⟩
      · obtain rfl : j = n := by omega
        obtain ⟨d0, d1, d2, d3, d4, d5, d6, d7, d8, d9, d10⟩ := (HBB.out.mods hmo (fun h => h)).mc
        have hbo : b = own kd 8 := by
          have h := HB.out
          rw [List.take_of_length_le (Nat.le_of_eq HN.out), HOW.out] at h
          exact Bool.eq_iff_iff.2 h
        subst hbo
        dsimp only [List.length_nil, List.length_cons] at d0 d1 d2 d3 d4 d5 d6 d7 d8 d9 d10
        go_wp2_with (go_at_call 17; refine (check_any (m := { kind := kd, vec := [0] }) (L := { Av := (some ⟨w1.heap.size + 1 + 1, 0, none⟩), cv := 1 }) HOK.out (HTW.out.mods hmo (fun h => h))).mono ?_; rintro e w3 ⟨rfl, m3⟩; rw [HCK.out]; have M3 := Lib.hid (HMO.out.trans m3); clear m3)
        all_goals
          go_ret
          exact ⟨rfl, M3.out⟩

set_option maxHeartbeats 8000000 in
theorem msgKinds_9 (w : World) (hT : Tab w) (kd : Int) (hkd : -9223372036854775808 ≤ kd ∧ kd ≤ 9223372036854775807) (d : Nat) (hd : d < 256) (hdk : d % 10 = 9) (hk : isK kd = true) :
    Calls Tryd.prog 6 #[.int .i64 kd, .int .u8 d] w fun e w' => e = .returned (.bool true) ∧ Mods Nil w w' := by
    have HT := Lib.hid hT
    have hb : 1 ≤ kd ∧ kd ≤ 18 := by simpa [isK] using hk
    have h1 := hb.1
    have h2 := hb.2
    obtain ⟨fs, hfs⟩ : ∃ fs, fstr kd = fs := ⟨_, rfl⟩
    obtain ⟨n, hn⟩ : ∃ n, fs.length = n := ⟨_, rfl⟩
    have hsz : (strOf fs).size = n := by simp [hn]
    have hn10 : n ≤ 10 := by rw [← hn, ← hfs]; exact fstr_len kd
    have HFS := Lib.hid hfs.symm
    have HN := Lib.hid hn
    have HIK : Hid (∀ k (m : PM), m.kind = kd → k < 10 → (∀ j, j < 10 → amt m j = if j = k then 1 else 0) → chk m = if own kd k then 0 else 1) := fun k m e h10 h => by
      subst e
      exact chk_single hk h10 h
    clear hfs hn hb hT hk
    have hok : PM.ok { kind := kd, body := [0] } := by constructor <;> simp <;> omega
    have HOK := Lib.hid hok
    obtain ⟨c, hc⟩ : ∃ c, lt 9 = c := ⟨_, rfl⟩
    have hx2 : ∀ W, (Instr.index 9 (.string ⟨#[98, 115, 104, 103, 99, 113, 112, 100, 118, 120]⟩) (.int .i64 9)).run Tryd.prog W = .ok (.int .u8 (c.toNat : Int)) W := fun W => by rw [← hc]; exact lets_at 9 (by omega) W
    have hmod : (d : Int) % 10 = 9 := by omega
    have hmod2 : (d : Int).tmod 10 = 9 := by rw [Int.tmod_eq_emod_of_nonneg (by omega)]; omega
    have HCK : Hid (chk { kind := kd, body := [0] } = if own kd 9 then 0 else 1) := HIK.out 9 { kind := kd, body := [0] } rfl (by omega) (ten_cases rfl rfl rfl rfl rfl rfl rfl rfl rfl rfl)
    have HOW : Hid (c ∈ fs ↔ own kd 9 = true) := by show _ ↔ _; rw [← hc, HFS.out]; exact fstr_mem (by omega)
    clear hok hc
    go_enter Tryd.func6, Tryd.ntmps6
    go_wp2_with (go_at_call 9; refine (awake4_any _ HT.out).mono ?_; rintro e w1 ⟨rfl, m1⟩; have M1 := Lib.hid m1; have HT1 := Lib.hid (HT.out.mods m1 (fun h => h)); have htb : ((w1.alloc (.cells #[.int .i64 kd, .int .u64 0, .int .u64 0, .int .i64 0, .int .i64 0, .int .u64 0, .int .u64 0, .int .u64 0, .int .i64 0, .slice none 0 0, .slice none 0 0] 32)).alloc (.cells #[.string ⟨#[]⟩, .string ⟨#[104, 103, 99, 113, 120]⟩, .string ⟨#[104, 103, 99, 113, 112, 100]⟩, .string ⟨#[104, 103, 99, 113, 112, 120]⟩, .string ⟨#[104, 103, 112]⟩, .string ⟨#[104, 103, 112]⟩, .string ⟨#[104, 103, 118]⟩, .string ⟨#[98, 115]⟩, .string ⟨#[98, 115, 120]⟩, .string ⟨#[98, 115, 120]⟩, .string ⟨#[98, 115]⟩, .string ⟨#[98]⟩, .string ⟨#[115, 120]⟩, .string ⟨#[115]⟩, .string ⟨#[99, 113, 112]⟩, .string ⟨#[104, 103, 99, 113, 112, 100, 120]⟩, .string ⟨#[104, 103, 99, 113, 112, 100]⟩, .string ⟨#[99, 113, 112, 100]⟩, .string ⟨#[98, 115]⟩] 9)).cell? ⟨w1.heap.size + 1, kd.toNat, none⟩ = some (.string (strOf fs)) := (by rw [HFS.out]; have := tabL_at h1 h2 (w1.alloc (.cells #[.int .i64 kd, .int .u64 0, .int .u64 0, .int .i64 0, .int .i64 0, .int .u64 0, .int .u64 0, .int .u64 0, .int .i64 0, .slice none 0 0, .slice none 0 0] 32)); simp only [World.size_alloc] at this; exact this); clear m1)
    have BB : Blk (((w1.alloc (.cells #[.int .i64 kd, .int .u64 0, .int .u64 0, .int .i64 0, .int .i64 0, .int .u64 0, .int .u64 0, .int .u64 0, .int .i64 0, .slice none 0 0, .slice (some ⟨w1.heap.size + 1 + 1, 0, none⟩) 1 1] 32)).alloc (.cells #[.string ⟨#[]⟩, .string ⟨#[104, 103, 99, 113, 120]⟩, .string ⟨#[104, 103, 99, 113, 112, 100]⟩, .string ⟨#[104, 103, 99, 113, 112, 120]⟩, .string ⟨#[104, 103, 112]⟩, .string ⟨#[104, 103, 112]⟩, .string ⟨#[104, 103, 118]⟩, .string ⟨#[98, 115]⟩, .string ⟨#[98, 115, 120]⟩, .string ⟨#[98, 115, 120]⟩, .string ⟨#[98, 115]⟩, .string ⟨#[98]⟩, .string ⟨#[115, 120]⟩, .string ⟨#[115]⟩, .string ⟨#[99, 113, 112]⟩, .string ⟨#[104, 103, 99, 113, 112, 100, 120]⟩, .string ⟨#[104, 103, 99, 113, 112, 100]⟩, .string ⟨#[99, 113, 112, 100]⟩, .string ⟨#[98, 115]⟩] 9)).alloc (.cells #[.int .u8 0] 5)) w1.heap.size 32 (MC { kind := kd, body := [0] } { Ab := (some ⟨w1.heap.size + 1 + 1, 0, none⟩), cb := 1 }) := by exact (Blk.new w1 32 (MC { kind := kd, body := [0] } { Ab := (some ⟨w1.heap.size + 1 + 1, 0, none⟩), cb := 1 })).alloc _ |>.alloc _
    have MM : Mods Nil w (((w1.alloc (.cells #[.int .i64 kd, .int .u64 0, .int .u64 0, .int .i64 0, .int .i64 0, .int .u64 0, .int .u64 0, .int .u64 0, .int .i64 0, .slice none 0 0, .slice (some ⟨w1.heap.size + 1 + 1, 0, none⟩) 1 1] 32)).alloc (.cells #[.string ⟨#[]⟩, .string ⟨#[104, 103, 99, 113, 120]⟩, .string ⟨#[104, 103, 99, 113, 112, 100]⟩, .string ⟨#[104, 103, 99, 113, 112, 120]⟩, .string ⟨#[104, 103, 112]⟩, .string ⟨#[104, 103, 112]⟩, .string ⟨#[104, 103, 118]⟩, .string ⟨#[98, 115]⟩, .string ⟨#[98, 115, 120]⟩, .string ⟨#[98, 115, 120]⟩, .string ⟨#[98, 115]⟩, .string ⟨#[98]⟩, .string ⟨#[115, 120]⟩, .string ⟨#[115]⟩, .string ⟨#[99, 113, 112]⟩, .string ⟨#[104, 103, 99, 113, 112, 100, 120]⟩, .string ⟨#[104, 103, 99, 113, 112, 100]⟩, .string ⟨#[99, 113, 112, 100]⟩, .string ⟨#[98, 115]⟩] 9)).alloc (.cells #[.int .u8 0] 5)) := M1.out.alloc _ |>.alloc _ |>.alloc _
    have TT : Tab (((w1.alloc (.cells #[.int .i64 kd, .int .u64 0, .int .u64 0, .int .i64 0, .int .i64 0, .int .u64 0, .int .u64 0, .int .u64 0, .int .i64 0, .slice none 0 0, .slice (some ⟨w1.heap.size + 1 + 1, 0, none⟩) 1 1] 32)).alloc (.cells #[.string ⟨#[]⟩, .string ⟨#[104, 103, 99, 113, 120]⟩, .string ⟨#[104, 103, 99, 113, 112, 100]⟩, .string ⟨#[104, 103, 99, 113, 112, 120]⟩, .string ⟨#[104, 103, 112]⟩, .string ⟨#[104, 103, 112]⟩, .string ⟨#[104, 103, 118]⟩, .string ⟨#[98, 115]⟩, .string ⟨#[98, 115, 120]⟩, .string ⟨#[98, 115, 120]⟩, .string ⟨#[98, 115]⟩, .string ⟨#[98]⟩, .string ⟨#[115, 120]⟩, .string ⟨#[115]⟩, .string ⟨#[99, 113, 112]⟩, .string ⟨#[104, 103, 99, 113, 112, 100, 120]⟩, .string ⟨#[104, 103, 99, 113, 112, 100]⟩, .string ⟨#[99, 113, 112, 100]⟩, .string ⟨#[98, 115]⟩] 9)).alloc (.cells #[.int .u8 0] 5)) := HT1.out.mods ((Mods.refl Nil _).alloc _ |>.alloc _ |>.alloc _) (fun h => h)
    obtain ⟨W2, hW2⟩ : ∃ W2, (((w1.alloc (.cells #[.int .i64 kd, .int .u64 0, .int .u64 0, .int .i64 0, .int .i64 0, .int .u64 0, .int .u64 0, .int .u64 0, .int .i64 0, .slice none 0 0, .slice (some ⟨w1.heap.size + 1 + 1, 0, none⟩) 1 1] 32)).alloc (.cells #[.string ⟨#[]⟩, .string ⟨#[104, 103, 99, 113, 120]⟩, .string ⟨#[104, 103, 99, 113, 112, 100]⟩, .string ⟨#[104, 103, 99, 113, 112, 120]⟩, .string ⟨#[104, 103, 112]⟩, .string ⟨#[104, 103, 112]⟩, .string ⟨#[104, 103, 118]⟩, .string ⟨#[98, 115]⟩, .string ⟨#[98, 115, 120]⟩, .string ⟨#[98, 115, 120]⟩, .string ⟨#[98, 115]⟩, .string ⟨#[98]⟩, .string ⟨#[115, 120]⟩, .string ⟨#[115]⟩, .string ⟨#[99, 113, 112]⟩, .string ⟨#[104, 103, 99, 113, 112, 100, 120]⟩, .string ⟨#[104, 103, 99, 113, 112, 100]⟩, .string ⟨#[99, 113, 112, 100]⟩, .string ⟨#[98, 115]⟩] 9)).alloc (.cells #[.int .u8 0] 5)) = W2 := ⟨_, rfl⟩
    rw [hW2] at BB MM TT ⊢
    have HBB := Lib.hid BB
    have HMM := Lib.hid MM
    have HTW := Lib.hid TT
    clear hW2 BB MM TT
    go_loopw [10, 11] (fun s i wr => ∃ (j : Nat) (b : Bool), j ≤ n ∧ i = .int .i64 j ∧ s = .bool b ∧ (b = true ↔ c ∈ fs.take j) ∧ Mods Nil W2 wr) (fun _ i _ => n - (intOf i).toNat)
    case atStart => exact ⟨0, false, by omega, rfl, rfl, by simp, Mods.refl _ _⟩
    case round =>
      obtain ⟨j, b, hj, rfl, rfl, hb, hmo⟩ := hrel
      have HMO := Lib.hid (HMM.out.trans hmo)
      have HM2 := Lib.hid hmo
      have HB := Lib.hid hb
      clear hb
      by_cases hlt : j < n
      · have hltI : (j : Int) < (n : Int) := by omega
        have hjl : j < fs.length := by rw [HN.out]; exact hlt
        have hx1 := fun W => index_strOf W fs j hjl
        obtain ⟨c2, hc2⟩ : ∃ c2, fs[j] = c2 := ⟨_, rfl⟩
        rw [hc2] at hx1
        have HC2 := Lib.hid hc2
        have HJL := Lib.hid hjl
        clear hc2 hmo
        cases b with
        | true =>
          have HNX : Hid (true = true ↔ c ∈ fs.take (j + 1)) := by
            show _ ↔ _
            exact ⟨fun _ => by rw [List.take_add_one]; exact List.mem_append.2 (.inl (HB.out.1 rfl)), fun _ => rfl⟩
          go_wp2_with fail
          go_quiet (fail)
          go_wp2_with fail
          exact ⟨⟨j + 1, true, by omega, by go_num, rfl, by simpa using HNX.out, HM2.out.drewN _⟩, by simp [intOf]; omega⟩
        | false =>
          by_cases hcc : c2 = c
          · subst hcc
            have HNX : Hid (true = true ↔ c2 ∈ fs.take (j + 1)) := by
              show _ ↔ _
              exact ⟨fun _ => by rw [List.take_add_one, List.getElem?_eq_getElem HJL.out, HC2.out]; simp, fun _ => rfl⟩
            go_wp2_with fail
            go_quiet (fail)
            go_wp2_with fail
            exact ⟨⟨j + 1, true, by omega, by go_num, rfl, by simpa using HNX.out, HM2.out.drewN _⟩, by simp [intOf]; omega⟩
          · have hne : ((c2.toNat : Int) == (c.toNat : Int)) = false := by
              rw [beq_eq_false_iff_ne]
              intro h
              exact hcc (UInt8.toNat_inj.1 (by omega))
            have HNX : Hid (false = true ↔ c ∈ fs.take (j + 1)) := by
              show _ ↔ _
              constructor
              · intro h; cases h
              · rw [List.take_add_one, List.getElem?_eq_getElem HJL.out, HC2.out]
                intro h
                rcases List.mem_append.1 h with h | h
                · exact HB.out.2 h
                · simp at h; exact absurd h.symm hcc
            go_wp2_with fail
            go_quiet (fail)
            go_wp2_with fail
            exact ⟨⟨j + 1, false, by omega, by go_num, rfl, by simpa using HNX.out, HM2.out.drewN _⟩, by simp [intOf]; omega⟩
      · obtain rfl : j = n := by omega
        obtain ⟨d0, d1, d2, d3, d4, d5, d6, d7, d8, d9, d10⟩ := (HBB.out.mods hmo (fun h => h)).mc
        have hbo : b = own kd 9 := by
          have h := HB.out
          rw [List.take_of_length_le (Nat.le_of_eq HN.out), HOW.out] at h
          exact Bool.eq_iff_iff.2 h
        subst hbo
        dsimp only [List.length_nil, List.length_cons] at d0 d1 d2 d3 d4 d5 d6 d7 d8 d9 d10
        go_wp2_with (go_at_call 17; refine (check_any (m := { kind := kd, body := [0] }) (L := { Ab := (some ⟨w1.heap.size + 1 + 1, 0, none⟩), cb := 1 }) HOK.out (HTW.out.mods hmo (fun h => h))).mono ?_; rintro e w3 ⟨rfl, m3⟩; rw [HCK.out]; have M3 := Lib.hid (HMO.out.trans m3); clear m3)
        all_goals
          go_ret
          exact ⟨rfl, M3.out⟩

end Go.Proofs.YtlheaicojmjdpaaDoor
