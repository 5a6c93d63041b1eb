/- MsgKinds' walk: kinds, the first fields. -/
import Derived.Test.YtlheaicojmjdpaaDoorMsgKindsA
namespace Go.Proofs.YtlheaicojmjdpaaDoor
set_option maxRecDepth 100000
open Go.RowKit
set_option linter.unusedVariables false

set_option maxHeartbeats 8000000 in
theorem msgKinds_0 (w : World) (hT : Tab w) (kd : Int) (hkd : -9223372036854775808 ≤ kd ∧ kd ≤ 9223372036854775807) (d : Nat) (hd : d < 256) (hdk : d % 10 = 0) (hk : isK kd = true) :
    Calls Tryd.prog 6 #[.int .i64 kd, .int .u8 d] w fun e w' => e = .returned (.bool true) ∧ Mods Nil w w' := by
    have HT := Lib.hid hT
    have hb : 1 ≤ kd ∧ kd ≤ 18 := by simpa [isK] using hk
    have h1 := hb.1
    have h2 := hb.2
    obtain ⟨fs, hfs⟩ : ∃ fs, fstr kd = fs := ⟨_, rfl⟩
    obtain ⟨n, hn⟩ : ∃ n, fs.length = n := ⟨_, rfl⟩
    have hsz : (strOf fs).size = n := by simp [hn]
    have hn10 : n ≤ 10 := by rw [← hn, ← hfs]; exact fstr_len kd
    have HFS := Lib.hid hfs.symm
    have HN := Lib.hid hn
    have HIK : Hid (∀ k (m : PM), m.kind = kd → k < 10 → (∀ j, j < 10 → amt m j = if j = k then 1 else 0) → chk m = if own kd k then 0 else 1) := fun k m e h10 h => by
      subst e
      exact chk_single hk h10 h
    clear hfs hn hb hT hk
    have hok : PM.ok { kind := kd, ballot := 1 } := by constructor <;> simp <;> omega
    have HOK := Lib.hid hok
    obtain ⟨c, hc⟩ : ∃ c, lt 0 = c := ⟨_, rfl⟩
    have hx2 : ∀ W, (Instr.index 9 (.string ⟨#[98, 115, 104, 103, 99, 113, 112, 100, 118, 120]⟩) (.int .i64 0)).run Tryd.prog W = .ok (.int .u8 (c.toNat : Int)) W := fun W => by rw [← hc]; exact lets_at 0 (by omega) W
    have hmod : (d : Int) % 10 = 0 := by omega
    have hmod2 : (d : Int).tmod 10 = 0 := by rw [Int.tmod_eq_emod_of_nonneg (by omega)]; omega
    have HCK : Hid (chk { kind := kd, ballot := 1 } = if own kd 0 then 0 else 1) := HIK.out 0 { kind := kd, ballot := 1 } rfl (by omega) (ten_cases rfl rfl rfl rfl rfl rfl rfl rfl rfl rfl)
    have HOW : Hid (c ∈ fs ↔ own kd 0 = true) := by show _ ↔ _; rw [← hc, HFS.out]; exact fstr_mem (by omega)
    clear hok hc
    go_enter Tryd.func6, Tryd.ntmps6
    go_wp2_with (go_at_call 9; refine (awake4_any _ HT.out).mono ?_; rintro e w1 ⟨rfl, m1⟩; have M1 := Lib.hid m1; have HT1 := Lib.hid (HT.out.mods m1 (fun h => h)); have htb : ((w1.alloc (.cells #[.int .i64 kd, .int .u64 0, .int .u64 0, .int .i64 0, .int .i64 0, .int .u64 0, .int .u64 0, .int .u64 0, .int .i64 0, .slice none 0 0, .slice none 0 0] 32)).alloc (.cells #[.string ⟨#[]⟩, .string ⟨#[104, 103, 99, 113, 120]⟩, .string ⟨#[104, 103, 99, 113, 112, 100]⟩, .string ⟨#[104, 103, 99, 113, 112, 120]⟩, .string ⟨#[104, 103, 112]⟩, .string ⟨#[104, 103, 112]⟩, .string ⟨#[104, 103, 118]⟩, .string ⟨#[98, 115]⟩, .string ⟨#[98, 115, 120]⟩, .string ⟨#[98, 115, 120]⟩, .string ⟨#[98, 115]⟩, .string ⟨#[98]⟩, .string ⟨#[115, 120]⟩, .string ⟨#[115]⟩, .string ⟨#[99, 113, 112]⟩, .string ⟨#[104, 103, 99, 113, 112, 100, 120]⟩, .string ⟨#[104, 103, 99, 113, 112, 100]⟩, .string ⟨#[99, 113, 112, 100]⟩, .string ⟨#[98, 115]⟩] 9)).cell? ⟨w1.heap.size + 1, kd.toNat, none⟩ = some (.string (strOf fs)) := (by rw [HFS.out]; have := tabL_at h1 h2 (w1.alloc (.cells #[.int .i64 kd, .int .u64 0, .int .u64 0, .int .i64 0, .int .i64 0, .int .u64 0, .int .u64 0, .int .u64 0, .int .i64 0, .slice none 0 0, .slice none 0 0] 32)); simp only [World.size_alloc] at this; exact this); clear m1)
    have BB : Blk ((w1.alloc (.cells #[.int .i64 kd, .int .u64 1, .int .u64 0, .int .i64 0, .int .i64 0, .int .u64 0, .int .u64 0, .int .u64 0, .int .i64 0, .slice none 0 0, .slice none 0 0] 32)).alloc (.cells #[.string ⟨#[]⟩, .string ⟨#[104, 103, 99, 113, 120]⟩, .string ⟨#[104, 103, 99, 113, 112, 100]⟩, .string ⟨#[104, 103, 99, 113, 112, 120]⟩, .string ⟨#[104, 103, 112]⟩, .string ⟨#[104, 103, 112]⟩, .string ⟨#[104, 103, 118]⟩, .string ⟨#[98, 115]⟩, .string ⟨#[98, 115, 120]⟩, .string ⟨#[98, 115, 120]⟩, .string ⟨#[98, 115]⟩, .string ⟨#[98]⟩, .string ⟨#[115, 120]⟩, .string ⟨#[115]⟩, .string ⟨#[99, 113, 112]⟩, .string ⟨#[104, 103, 99, 113, 112, 100, 120]⟩, .string ⟨#[104, 103, 99, 113, 112, 100]⟩, .string ⟨#[99, 113, 112, 100]⟩, .string ⟨#[98, 115]⟩] 9)) w1.heap.size 32 (MC { kind := kd, ballot := 1 } {}) := by exact (Blk.new w1 32 (MC { kind := kd, ballot := 1 } {})).alloc _
    have MM : Mods Nil w ((w1.alloc (.cells #[.int .i64 kd, .int .u64 1, .int .u64 0, .int .i64 0, .int .i64 0, .int .u64 0, .int .u64 0, .int .u64 0, .int .i64 0, .slice none 0 0, .slice none 0 0] 32)).alloc (.cells #[.string ⟨#[]⟩, .string ⟨#[104, 103, 99, 113, 120]⟩, .string ⟨#[104, 103, 99, 113, 112, 100]⟩, .string ⟨#[104, 103, 99, 113, 112, 120]⟩, .string ⟨#[104, 103, 112]⟩, .string ⟨#[104, 103, 112]⟩, .string ⟨#[104, 103, 118]⟩, .string ⟨#[98, 115]⟩, .string ⟨#[98, 115, 120]⟩, .string ⟨#[98, 115, 120]⟩, .string ⟨#[98, 115]⟩, .string ⟨#[98]⟩, .string ⟨#[115, 120]⟩, .string ⟨#[115]⟩, .string ⟨#[99, 113, 112]⟩, .string ⟨#[104, 103, 99, 113, 112, 100, 120]⟩, .string ⟨#[104, 103, 99, 113, 112, 100]⟩, .string ⟨#[99, 113, 112, 100]⟩, .string ⟨#[98, 115]⟩] 9)) := M1.out.alloc _ |>.alloc _
    have TT : Tab ((w1.alloc (.cells #[.int .i64 kd, .int .u64 1, .int .u64 0, .int .i64 0, .int .i64 0, .int .u64 0, .int .u64 0, .int .u64 0, .int .i64 0, .slice none 0 0, .slice none 0 0] 32)).alloc (.cells #[.string ⟨#[]⟩, .string ⟨#[104, 103, 99, 113, 120]⟩, .string ⟨#[104, 103, 99, 113, 112, 100]⟩, .string ⟨#[104, 103, 99, 113, 112, 120]⟩, .string ⟨#[104, 103, 112]⟩, .string ⟨#[104, 103, 112]⟩, .string ⟨#[104, 103, 118]⟩, .string ⟨#[98, 115]⟩, .string ⟨#[98, 115, 120]⟩, .string ⟨#[98, 115, 120]⟩, .string ⟨#[98, 115]⟩, .string ⟨#[98]⟩, .string ⟨#[115, 120]⟩, .string ⟨#[115]⟩, .string ⟨#[99, 113, 112]⟩, .string ⟨#[104, 103, 99, 113, 112, 100, 120]⟩, .string ⟨#[104, 103, 99, 113, 112, 100]⟩, .string ⟨#[99, 113, 112, 100]⟩, .string ⟨#[98, 115]⟩] 9)) := HT1.out.mods ((Mods.refl Nil _).alloc _ |>.alloc _) (fun h => h)
    obtain ⟨W2, hW2⟩ : ∃ W2, ((w1.alloc (.cells #[.int .i64 kd, .int .u64 1, .int .u64 0, .int .i64 0, .int .i64 0, .int .u64 0, .int .u64 0, .int .u64 0, .int .i64 0, .slice none 0 0, .slice none 0 0] 32)).alloc (.cells #[.string ⟨#[]⟩, .string ⟨#[104, 103, 99, 113, 120]⟩, .string ⟨#[104, 103, 99, 113, 112, 100]⟩, .string ⟨#[104, 103, 99, 113, 112, 120]⟩, .string ⟨#[104, 103, 112]⟩, .string ⟨#[104, 103, 112]⟩, .string ⟨#[104, 103, 118]⟩, .string ⟨#[98, 115]⟩, .string ⟨#[98, 115, 120]⟩, .string ⟨#[98, 115, 120]⟩, .string ⟨#[98, 115]⟩, .string ⟨#[98]⟩, .string ⟨#[115, 120]⟩, .string ⟨#[115]⟩, .string ⟨#[99, 113, 112]⟩, .string ⟨#[104, 103, 99, 113, 112, 100, 120]⟩, .string ⟨#[104, 103, 99, 113, 112, 100]⟩, .string ⟨#[99, 113, 112, 100]⟩, .string ⟨#[98, 115]⟩] 9)) = W2 := ⟨_, rfl⟩
    rw [hW2] at BB MM TT ⊢
    have HBB := Lib.hid BB
    have HMM := Lib.hid MM
    have HTW := Lib.hid TT
    clear hW2 BB MM TT
    go_loopw [10, 11] (fun s i wr => ∃ (j : Nat) (b : Bool), j ≤ n ∧ i = .int .i64 j ∧ s = .bool b ∧ (b = true ↔ c ∈ fs.take j) ∧ Mods Nil W2 wr) (fun _ i _ => n - (intOf i).toNat)
    case atStart => exact ⟨0, false, by omega, rfl, rfl, by simp, Mods.refl _ _⟩
    case round =>
      obtain ⟨j, b, hj, rfl, rfl, hb, hmo⟩ := hrel
      have HMO := Lib.hid (HMM.out.trans hmo)
      have HM2 := Lib.hid hmo
      have HB := Lib.hid hb
      clear hb
      by_cases hlt : j < n
      · have hltI : (j : Int) < (n : Int) := by omega
        have hjl : j < fs.length := by rw [HN.out]; exact hlt
        have hx1 := fun W => index_strOf W fs j hjl
        obtain ⟨c2, hc2⟩ : ∃ c2, fs[j] = c2 := ⟨_, rfl⟩
        rw [hc2] at hx1
        have HC2 := Lib.hid hc2
        have HJL := Lib.hid hjl
        clear hc2 hmo
        cases b with
        | true =>
          have HNX : Hid (true = true ↔ c ∈ fs.take (j + 1)) := by
            show _ ↔ _
            exact ⟨fun _ => by rw [List.take_add_one]; exact List.mem_append.2 (.inl (HB.out.1 rfl)), fun _ => rfl⟩
          go_wp2_with fail
          go_quiet (fail)
          go_wp2_with fail
          exact ⟨⟨j + 1, true, by omega, by go_num, rfl, by simpa using HNX.out, HM2.out.drewN _⟩, by simp [intOf]; omega⟩
        | false =>
          by_cases hcc : c2 = c
          · subst hcc
            have HNX : Hid (true = true ↔ c2 ∈ fs.take (j + 1)) := by
              show _ ↔ _
              exact ⟨fun _ => by rw [List.take_add_one, List.getElem?_eq_getElem HJL.out, HC2.out]; simp, fun _ => rfl⟩
            go_wp2_with fail
            go_quiet (fail)
            go_wp2_with fail
            exact ⟨⟨j + 1, true, by omega, by go_num, rfl, by simpa using HNX.out, HM2.out.drewN _⟩, by simp [intOf]; omega⟩
          · have hne : ((c2.toNat : Int) == (c.toNat : Int)) = false := by
              rw [beq_eq_false_iff_ne]
              intro h
              exact hcc (UInt8.toNat_inj.1 (by omega))
            have HNX : Hid (false = true ↔ c ∈ fs.take (j + 1)) := by
              show _ ↔ _
              constructor
              · intro h; cases h
              · rw [List.take_add_one, List.getElem?_eq_getElem HJL.out, HC2.out]
                intro h
                rcases List.mem_append.1 h with h | h
                · exact HB.out.2 h
                · simp at h; exact absurd h.symm hcc
            go_wp2_with fail
            go_quiet (fail)
            go_wp2_with fail
            exact ⟨⟨j + 1, false, by omega, by go_num, rfl, by simpa using HNX.out, HM2.out.drewN _⟩, by simp [intOf]; omega⟩
      · obtain rfl : j = n := by omega
        obtain ⟨d0, d1, d2, d3, d4, d5, d6, d7, d8, d9, d10⟩ := (HBB.out.mods hmo (fun h => h)).mc
        have hbo : b = own kd 0 := by
          have h := HB.out
          rw [List.take_of_length_le (Nat.le_of_eq HN.out), HOW.out] at h
          exact Bool.eq_iff_iff.2 h
        subst hbo
        dsimp only [List.length_nil, List.length_cons] at d0 d1 d2 d3 d4 d5 d6 d7 d8 d9 d10
        go_wp2_with (go_at_call 17; refine (check_any (m := { kind := kd, ballot := 1 }) (L := {}) HOK.out (HTW.out.mods hmo (fun h => h))).mono ?_; rintro e w3 ⟨rfl, m3⟩; rw [HCK.out]; have M3 := Lib.hid (HMO.out.trans m3); clear m3)
        all_goals
          go_ret
          exact ⟨rfl, M3.out⟩

set_option maxHeartbeats 8000000 in
theorem msgKinds_1 (w : World) (hT : Tab w) (kd : Int) (hkd : -9223372036854775808 ≤ kd ∧ kd ≤ 9223372036854775807) (d : Nat) (hd : d < 256) (hdk : d % 10 = 1) (hk : isK kd = true) :
    Calls Tryd.prog 6 #[.int .i64 kd, .int .u8 d] w fun e w' => e = .returned (.bool true) ∧ Mods Nil w w' := by
    have HT := Lib.hid hT
    have hb : 1 ≤ kd ∧ kd ≤ 18 := by simpa [isK] using hk
    have h1 := hb.1
    have h2 := hb.2
    obtain ⟨fs, hfs⟩ : ∃ fs, fstr kd = fs := ⟨_, rfl⟩
    obtain ⟨n, hn⟩ : ∃ n, fs.length = n := ⟨_, rfl⟩
    have hsz : (strOf fs).size = n := by simp [hn]
    have hn10 : n ≤ 10 := by rw [← hn, ← hfs]; exact fstr_len kd
    have HFS := Lib.hid hfs.symm
    have HN := Lib.hid hn
    have HIK : Hid (∀ k (m : PM), m.kind = kd → k < 10 → (∀ j, j < 10 → amt m j = if j = k then 1 else 0) → chk m = if own kd k then 0 else 1) := fun k m e h10 h => by
      subst e
      exact chk_single hk h10 h
    clear hfs hn hb hT hk
    have hok : PM.ok { kind := kd, slot := 1 } := by constructor <;> simp <;> omega
    have HOK := Lib.hid hok
    obtain ⟨c, hc⟩ : ∃ c, lt 1 = c := ⟨_, rfl⟩
    have hx2 : ∀ W, (Instr.index 9 (.string ⟨#[98, 115, 104, 103, 99, 113, 112, 100, 118, 120]⟩) (.int .i64 1)).run Tryd.prog W = .ok (.int .u8 (c.toNat : Int)) W := fun W => by rw [← hc]; exact lets_at 1 (by omega) W
    have hmod : (d : Int) % 10 = 1 := by omega
    have hmod2 : (d : Int).tmod 10 = 1 := by rw [Int.tmod_eq_emod_of_nonneg (by omega)]; omega
    have HCK : Hid (chk { kind := kd, slot := 1 } = if own kd 1 then 0 else 1) := HIK.out 1 { kind := kd, slot := 1 } rfl (by omega) (ten_cases rfl rfl rfl rfl rfl rfl rfl rfl rfl rfl)
    have HOW : Hid (c ∈ fs ↔ own kd 1 = true) := by show _ ↔ _; rw [← hc, HFS.out]; exact fstr_mem (by omega)
    clear hok hc
    go_enter Tryd.func6, Tryd.ntmps6
    go_wp2_with (go_at_call 9; refine (awake4_any _ HT.out).mono ?_; rintro e w1 ⟨rfl, m1⟩; have M1 := Lib.hid m1; have HT1 := Lib.hid (HT.out.mods m1 (fun h => h)); have htb : ((w1.alloc (.cells #[.int .i64 kd, .int .u64 0, .int .u64 0, .int .i64 0, .int .i64 0, .int .u64 0, .int .u64 0, .int .u64 0, .int .i64 0, .slice none 0 0, .slice none 0 0] 32)).alloc (.cells #[.string ⟨#[]⟩, .string ⟨#[104, 103, 99, 113, 120]⟩, .string ⟨#[104, 103, 99, 113, 112, 100]⟩, .string ⟨#[104, 103, 99, 113, 112, 120]⟩, .string ⟨#[104, 103, 112]⟩, .string ⟨#[104, 103, 112]⟩, .string ⟨#[104, 103, 118]⟩, .string ⟨#[98, 115]⟩, .string ⟨#[98, 115, 120]⟩, .string ⟨#[98, 115, 120]⟩, .string ⟨#[98, 115]⟩, .string ⟨#[98]⟩, .string ⟨#[115, 120]⟩, .string ⟨#[115]⟩, .string ⟨#[99, 113, 112]⟩, .string ⟨#[104, 103, 99, 113, 112, 100, 120]⟩, .string ⟨#[104, 103, 99, 113, 112, 100]⟩, .string ⟨#[99, 113, 112, 100]⟩, .string ⟨#[98, 115]⟩] 9)).cell? ⟨w1.heap.size + 1, kd.toNat, none⟩ = some (.string (strOf fs)) := (by rw [HFS.out]; have := tabL_at h1 h2 (w1.alloc (.cells #[.int .i64 kd, .int .u64 0, .int .u64 0, .int .i64 0, .int .i64 0, .int .u64 0, .int .u64 0, .int .u64 0, .int .i64 0, .slice none 0 0, .slice none 0 0] 32)); simp only [World.size_alloc] at this; exact this); clear m1)
    have BB : Blk ((w1.alloc (.cells #[.int .i64 kd, .int .u64 0, .int .u64 1, .int .i64 0, .int .i64 0, .int .u64 0, .int .u64 0, .int .u64 0, .int .i64 0, .slice none 0 0, .slice none 0 0] 32)).alloc (.cells #[.string ⟨#[]⟩, .string ⟨#[104, 103, 99, 113, 120]⟩, .string ⟨#[104, 103, 99, 113, 112, 100]⟩, .string ⟨#[104, 103, 99, 113, 112, 120]⟩, .string ⟨#[104, 103, 112]⟩, .string ⟨#[104, 103, 112]⟩, .string ⟨#[104, 103, 118]⟩, .string ⟨#[98, 115]⟩, .string ⟨#[98, 115, 120]⟩, .string ⟨#[98, 115, 120]⟩, .string ⟨#[98, 115]⟩, .string ⟨#[98]⟩, .string ⟨#[115, 120]⟩, .string ⟨#[115]⟩, .string ⟨#[99, 113, 112]⟩, .string ⟨#[104, 103, 99, 113, 112, 100, 120]⟩, .string ⟨#[104, 103, 99, 113, 112, 100]⟩, .string ⟨#[99, 113, 112, 100]⟩, .string ⟨#[98, 115]⟩] 9)) w1.heap.size 32 (MC { kind := kd, slot := 1 } {}) := by exact (Blk.new w1 32 (MC { kind := kd, slot := 1 } {})).alloc _
    have MM : Mods Nil w ((w1.alloc (.cells #[.int .i64 kd, .int .u64 0, .int .u64 1, .int .i64 0, .int .i64 0, .int .u64 0, .int .u64 0, .int .u64 0, .int .i64 0, .slice none 0 0, .slice none 0 0] 32)).alloc (.cells #[.string ⟨#[]⟩, .string ⟨#[104, 103, 99, 113, 120]⟩, .string ⟨#[104, 103, 99, 113, 112, 100]⟩, .string ⟨#[104, 103, 99, 113, 112, 120]⟩, .string ⟨#[104, 103, 112]⟩, .string ⟨#[104, 103, 112]⟩, .string ⟨#[104, 103, 118]⟩, .string ⟨#[98, 115]⟩, .string ⟨#[98, 115, 120]⟩, .string ⟨#[98, 115, 120]⟩, .string ⟨#[98, 115]⟩, .string ⟨#[98]⟩, .string ⟨#[115, 120]⟩, .string ⟨#[115]⟩, .string ⟨#[99, 113, 112]⟩, .string ⟨#[104, 103, 99, 113, 112, 100, 120]⟩, .string ⟨#[104, 103, 99, 113, 112, 100]⟩, .string ⟨#[99, 113, 112, 100]⟩, .string ⟨#[98, 115]⟩] 9)) := M1.out.alloc _ |>.alloc _
    have TT : Tab ((w1.alloc (.cells #[.int .i64 kd, .int .u64 0, .int .u64 1, .int .i64 0, .int .i64 0, .int .u64 0, .int .u64 0, .int .u64 0, .int .i64 0, .slice none 0 0, .slice none 0 0] 32)).alloc (.cells #[.string ⟨#[]⟩, .string ⟨#[104, 103, 99, 113, 120]⟩, .string ⟨#[104, 103, 99, 113, 112, 100]⟩, .string ⟨#[104, 103, 99, 113, 112, 120]⟩, .string ⟨#[104, 103, 112]⟩, .string ⟨#[104, 103, 112]⟩, .string ⟨#[104, 103, 118]⟩, .string ⟨#[98, 115]⟩, .string ⟨#[98, 115, 120]⟩, .string ⟨#[98, 115, 120]⟩, .string ⟨#[98, 115]⟩, .string ⟨#[98]⟩, .string ⟨#[115, 120]⟩, .string ⟨#[115]⟩, .string ⟨#[99, 113, 112]⟩, .string ⟨#[104, 103, 99, 113, 112, 100, 120]⟩, .string ⟨#[104, 103, 99, 113, 112, 100]⟩, .string ⟨#[99, 113, 112, 100]⟩, .string ⟨#[98, 115]⟩] 9)) := HT1.out.mods ((Mods.refl Nil _).alloc _ |>.alloc _) (fun h => h)
    obtain ⟨W2, hW2⟩ : ∃ W2, ((w1.alloc (.cells #[.int .i64 kd, .int .u64 0, .int .u64 1, .int .i64 0, .int .i64 0, .int .u64 0, .int .u64 0, .int .u64 0, .int .i64 0, .slice none 0 0, .slice none 0 0] 32)).alloc (.cells #[.string ⟨#[]⟩, .string ⟨#[104, 103, 99, 113, 120]⟩, .string ⟨#[104, 103, 99, 113, 112, 100]⟩, .string ⟨#[104, 103, 99, 113, 112, 120]⟩, .string ⟨#[104, 103, 112]⟩, .string ⟨#[104, 103, 112]⟩, .string ⟨#[104, 103, 118]⟩, .string ⟨#[98, 115]⟩, .string ⟨#[98, 115, 120]⟩, .string ⟨#[98, 115, 120]⟩, .string ⟨#[98, 115]⟩, .string ⟨#[98]⟩, .string ⟨#[115, 120]⟩, .string ⟨#[115]⟩, .string ⟨#[99, 113, 112]⟩, .string ⟨#[104, 103, 99, 113, 112, 100, 120]⟩, .string ⟨#[104, 103, 99, 113, 112, 100]⟩, .string ⟨#[99, 113, 112, 100]⟩, .string ⟨#[98, 115]⟩] 9)) = W2 := ⟨_, rfl⟩
    rw [hW2] at BB MM TT ⊢
    have HBB := Lib.hid BB
    have HMM := Lib.hid MM
    have HTW := Lib.hid TT
    clear hW2 BB MM TT
    go_loopw [10, 11] (fun s i wr => ∃ (j : Nat) (b : Bool), j ≤ n ∧ i = .int .i64 j ∧ s = .bool b ∧ (b = true ↔ c ∈ fs.take j) ∧ Mods Nil W2 wr) (fun _ i _ => n - (intOf i).toNat)
    case atStart => exact ⟨0, false, by omega, rfl, rfl, by simp, Mods.refl _ _⟩
    case round =>
      obtain ⟨j, b, hj, rfl, rfl, hb, hmo⟩ := hrel
      have HMO := Lib.hid (HMM.out.trans hmo)
      have HM2 := Lib.hid hmo
      have HB := Lib.hid hb
      clear hb
      by_cases hlt : j < n
      · have hltI : (j : Int) < (n : Int) := by omega
        have hjl : j < fs.length := by rw [HN.out]; exact hlt
        have hx1 := fun W => index_strOf W fs j hjl
        obtain ⟨c2, hc2⟩ : ∃ c2, fs[j] = c2 := ⟨_, rfl⟩
        rw [hc2] at hx1
        have HC2 := Lib.hid hc2
        have HJL := Lib.hid hjl
        clear hc2 hmo
        cases b with
        | true =>
          have HNX : Hid (true = true ↔ c ∈ fs.take (j + 1)) := by
            show _ ↔ _
            exact ⟨fun _ => by rw [List.take_add_one]; exact List.mem_append.2 (.inl (HB.out.1 rfl)), fun _ => rfl⟩
          go_wp2_with fail
          go_quiet (fail)
          go_wp2_with fail
          exact ⟨⟨j + 1, true, by omega, by go_num, rfl, by simpa using HNX.out, HM2.out.drewN _⟩, by simp [intOf]; omega⟩
        | false =>
          by_cases hcc : c2 = c
          · subst hcc
            have HNX : Hid (true = true ↔ c2 ∈ fs.take (j + 1)) := by
              show _ ↔ _
              exact ⟨fun _ => by rw [List.take_add_one, List.getElem?_eq_getElem HJL.out, HC2.out]; simp, fun _ => rfl⟩
            go_wp2_with fail
            go_quiet (fail)
            go_wp2_with fail
            exact ⟨⟨j + 1, true, by omega, by go_num, rfl, by simpa using HNX.out, HM2.out.drewN _⟩, by simp [intOf]; omega⟩
          · have hne : ((c2.toNat : Int) == (c.toNat : Int)) = false := by
              rw [beq_eq_false_iff_ne]
              intro h
              exact hcc (UInt8.toNat_inj.1 (by omega))
            have HNX : Hid (false = true ↔ c ∈ fs.take (j + 1)) := by
              show _ ↔ _
              constructor
              · intro h; cases h
              · rw [List.take_add_one, List.getElem?_eq_getElem HJL.out, HC2.out]
                intro h
                rcases List.mem_append.1 h with h | h
                · exact HB.out.2 h
                · simp at h; exact absurd h.symm hcc
            go_wp2_with fail
            go_quiet (fail)
            go_wp2_with fail
            exact ⟨⟨j + 1, false, by omega, by go_num, rfl, by simpa using HNX.out, HM2.out.drewN _⟩, by simp [intOf]; omega⟩
      · obtain rfl : j = n := by omega
        obtain ⟨d0, d1, d2, d3, d4, d5, d6, d7, d8, d9, d10⟩ := (HBB.out.mods hmo (fun h => h)).mc
        have hbo : b = own kd 1 := by
          have h := HB.out
          rw [List.take_of_length_le (Nat.le_of_eq HN.out), HOW.out] at h
          exact Bool.eq_iff_iff.2 h
        subst hbo
        dsimp only [List.length_nil, List.length_cons] at d0 d1 d2 d3 d4 d5 d6 d7 d8 d9 d10
        go_wp2_with (go_at_call 17; refine (check_any (m := { kind := kd, slot := 1 }) (L := {}) HOK.out (HTW.out.mods hmo (fun h => h))).mono ?_; rintro e w3 ⟨rfl, m3⟩; rw [HCK.out]; have M3 := Lib.hid (HMO.out.trans m3); clear m3)
        all_goals
          go_ret
          exact ⟨rfl, M3.out⟩

set_option maxHeartbeats 8000000 in
theorem msgKinds_2 (w : World) (hT : Tab w) (kd : Int) (hkd : -9223372036854775808 ≤ kd ∧ kd ≤ 9223372036854775807) (d : Nat) (hd : d < 256) (hdk : d % 10 = 2) (hk : isK kd = true) :
    Calls Tryd.prog 6 #[.int .i64 kd, .int .u8 d] w fun e w' => e = .returned (.bool true) ∧ Mods Nil w w' := by
    have HT := Lib.hid hT
    have hb : 1 ≤ kd ∧ kd ≤ 18 := by simpa [isK] using hk
    have h1 := hb.1
    have h2 := hb.2
    obtain ⟨fs, hfs⟩ : ∃ fs, fstr kd = fs := ⟨_, rfl⟩
    obtain ⟨n, hn⟩ : ∃ n, fs.length = n := ⟨_, rfl⟩
    have hsz : (strOf fs).size = n := by simp [hn]
    have hn10 : n ≤ 10 := by rw [← hn, ← hfs]; exact fstr_len kd
    have HFS := Lib.hid hfs.symm
    have HN := Lib.hid hn
    have HIK : Hid (∀ k (m : PM), m.kind = kd → k < 10 → (∀ j, j < 10 → amt m j = if j = k then 1 else 0) → chk m = if own kd k then 0 else 1) := fun k m e h10 h => by
      subst e
      exact chk_single hk h10 h
    clear hfs hn hb hT hk
    have hok : PM.ok { kind := kd, shard := 1 } := by constructor <;> simp <;> omega
    have HOK := Lib.hid hok
    obtain ⟨c, hc⟩ : ∃ c, lt 2 = c := ⟨_, rfl⟩
    have hx2 : ∀ W, (Instr.index 9 (.string ⟨#[98, 115, 104, 103, 99, 113, 112, 100, 118, 120]⟩) (.int .i64 2)).run Tryd.prog W = .ok (.int .u8 (c.toNat : Int)) W := fun W => by rw [← hc]; exact lets_at 2 (by omega) W
    have hmod : (d : Int) % 10 = 2 := by omega
    have hmod2 : (d : Int).tmod 10 = 2 := by rw [Int.tmod_eq_emod_of_nonneg (by omega)]; omega
    have HCK : Hid (chk { kind := kd, shard := 1 } = if own kd 2 then 0 else 1) := HIK.out 2 { kind := kd, shard := 1 } rfl (by omega) (ten_cases rfl rfl rfl rfl rfl rfl rfl rfl rfl rfl)
    have HOW : Hid (c ∈ fs ↔ own kd 2 = true) := by show _ ↔ _; rw [← hc, HFS.out]; exact fstr_mem (by omega)
    clear hok hc
    go_enter Tryd.func6, Tryd.ntmps6
    go_wp2_with (go_at_call 9; refine (awake4_any _ HT.out).mono ?_; rintro e w1 ⟨rfl, m1⟩; have M1 := Lib.hid m1; have HT1 := Lib.hid (HT.out.mods m1 (fun h => h)); have htb : ((w1.alloc (.cells #[.int .i64 kd, .int .u64 0, .int .u64 0, .int .i64 0, .int .i64 0, .int .u64 0, .int .u64 0, .int .u64 0, .int .i64 0, .slice none 0 0, .slice none 0 0] 32)).alloc (.cells #[.string ⟨#[]⟩, .string ⟨#[104, 103, 99, 113, 120]⟩, .string ⟨#[104, 103, 99, 113, 112, 100]⟩, .string ⟨#[104, 103, 99, 113, 112, 120]⟩, .string ⟨#[104, 103, 112]⟩, .string ⟨#[104, 103, 112]⟩, .string ⟨#[104, 103, 118]⟩, .string ⟨#[98, 115]⟩, .string ⟨#[98, 115, 120]⟩, .string ⟨#[98, 115, 120]⟩, .string ⟨#[98, 115]⟩, .string ⟨#[98]⟩, .string ⟨#[115, 120]⟩, .string ⟨#[115]⟩, .string ⟨#[99, 113, 112]⟩, .string ⟨#[104, 103, 99, 113, 112, 100, 120]⟩, .string ⟨#[104, 103, 99, 113, 112, 100]⟩, .string ⟨#[99, 113, 112, 100]⟩, .string ⟨#[98, 115]⟩] 9)).cell? ⟨w1.heap.size + 1, kd.toNat, none⟩ = some (.string (strOf fs)) := (by rw [HFS.out]; have := tabL_at h1 h2 (w1.alloc (.cells #[.int .i64 kd, .int .u64 0, .int .u64 0, .int .i64 0, .int .i64 0, .int .u64 0, .int .u64 0, .int .u64 0, .int .i64 0, .slice none 0 0, .slice none 0 0] 32)); simp only [World.size_alloc] at this; exact this); clear m1)
    have BB : Blk ((w1.alloc (.cells #[.int .i64 kd, .int .u64 0, .int .u64 0, .int .i64 1, .int .i64 0, .int .u64 0, .int .u64 0, .int .u64 0, .int .i64 0, .slice none 0 0, .slice none 0 0] 32)).alloc (.cells #[.string ⟨#[]⟩, .string ⟨#[104, 103, 99, 113, 120]⟩, .string ⟨#[104, 103, 99, 113, 112, 100]⟩, .string ⟨#[104, 103, 99, 113, 112, 120]⟩, .string ⟨#[104, 103, 112]⟩, .string ⟨#[104, 103, 112]⟩, .string ⟨#[104, 103, 118]⟩, .string ⟨#[98, 115]⟩, .string ⟨#[98, 115, 120]⟩, .string ⟨#[98, 115, 120]⟩, .string ⟨#[98, 115]⟩, .string ⟨#[98]⟩, .string ⟨#[115, 120]⟩, .string ⟨#[115]⟩, .string ⟨#[99, 113, 112]⟩, .string ⟨#[104, 103, 99, 113, 112, 100, 120]⟩, .string ⟨#[104, 103, 99, 113, 112, 100]⟩, .string ⟨#[99, 113, 112, 100]⟩, .string ⟨#[98, 115]⟩] 9)) w1.heap.size 32 (MC { kind := kd, shard := 1 } {}) := by exact (Blk.new w1 32 (MC { kind := kd, shard := 1 } {})).alloc _
    have MM : Mods Nil w ((w1.alloc (.cells #[.int .i64 kd, .int .u64 0, .int .u64 0, .int .i64 1, .int .i64 0, .int .u64 0, .int .u64 0, .int .u64 0, .int .i64 0, .slice none 0 0, .slice none 0 0] 32)).alloc (.cells #[.string ⟨#[]⟩, .string ⟨#[104, 103, 99, 113, 120]⟩, .string ⟨#[104, 103, 99, 113, 112, 100]⟩, .string ⟨#[104, 103, 99, 113, 112, 120]⟩, .string ⟨#[104, 103, 112]⟩, .string ⟨#[104, 103, 112]⟩, .string ⟨#[104, 103, 118]⟩, .string ⟨#[98, 115]⟩, .string ⟨#[98, 115, 120]⟩, .string ⟨#[98, 115, 120]⟩, .string ⟨#[98, 115]⟩, .string ⟨#[98]⟩, .string ⟨#[115, 120]⟩, .string ⟨#[115]⟩, .string ⟨#[99, 113, 112]⟩, .string ⟨#[104, 103, 99, 113, 112, 100, 120]⟩, .string ⟨#[104, 103, 99, 113, 112, 100]⟩, .string ⟨#[99, 113, 112, 100]⟩, .string ⟨#[98, 115]⟩] 9)) := M1.out.alloc _ |>.alloc _
    have TT : Tab ((w1.alloc (.cells #[.int .i64 kd, .int .u64 0, .int .u64 0, .int .i64 1, .int .i64 0, .int .u64 0, .int .u64 0, .int .u64 0, .int .i64 0, .slice none 0 0, .slice none 0 0] 32)).alloc (.cells #[.string ⟨#[]⟩, .string ⟨#[104, 103, 99, 113, 120]⟩, .string ⟨#[104, 103, 99, 113, 112, 100]⟩, .string ⟨#[104, 103, 99, 113, 112, 120]⟩, .string ⟨#[104, 103, 112]⟩, .string ⟨#[104, 103, 112]⟩, .string ⟨#[104, 103, 118]⟩, .string ⟨#[98, 115]⟩, .string ⟨#[98, 115, 120]⟩, .string ⟨#[98, 115, 120]⟩, .string ⟨#[98, 115]⟩, .string ⟨#[98]⟩, .string ⟨#[115, 120]⟩, .string ⟨#[115]⟩, .string ⟨#[99, 113, 112]⟩, .string ⟨#[104, 103, 99, 113, 112, 100, 120]⟩, .string ⟨#[104, 103, 99, 113, 112, 100]⟩, .string ⟨#[99, 113, 112, 100]⟩, .string ⟨#[98, 115]⟩] 9)) := HT1.out.mods ((Mods.refl Nil _).alloc _ |>.alloc _) (fun h => h)
    obtain ⟨W2, hW2⟩ : ∃ W2, ((w1.alloc (.cells #[.int .i64 kd, .int .u64 0, .int .u64 0, .int .i64 1, .int .i64 0, .int .u64 0, .int .u64 0, .int .u64 0, .int .i64 0, .slice none 0 0, .slice none 0 0] 32)).alloc (.cells #[.string ⟨#[]⟩, .string ⟨#[104, 103, 99, 113, 120]⟩, .string ⟨#[104, 103, 99, 113, 112, 100]⟩, .string ⟨#[104, 103, 99, 113, 112, 120]⟩, .string ⟨#[104, 103, 112]⟩, .string ⟨#[104, 103, 112]⟩, .string ⟨#[104, 103, 118]⟩, .string ⟨#[98, 115]⟩, .string ⟨#[98, 115, 120]⟩, .string ⟨#[98, 115, 120]⟩, .string ⟨#[98, 115]⟩, .string ⟨#[98]⟩, .string ⟨#[115, 120]⟩, .string ⟨#[115]⟩, .string ⟨#[99, 113, 112]⟩, .string ⟨#[104, 103, 99, 113, 112, 100, 120]⟩, .string ⟨#[104, 103, 99, 113, 112, 100]⟩, .string ⟨#[99, 113, 112, 100]⟩, .string ⟨#[98, 115]⟩] 9)) = W2 := ⟨_, rfl⟩
    rw [hW2] at BB MM TT ⊢
    have HBB := Lib.hid BB
    have HMM := Lib.hid MM
    have HTW := Lib.hid TT
    clear hW2 BB MM TT
    go_loopw [10, 11] (fun s i wr => ∃ (j : Nat) (b : Bool), j ≤ n ∧ i = .int .i64 j ∧ s = .bool b ∧ (b = true ↔ c ∈ fs.take j) ∧ Mods Nil W2 wr) (fun _ i _ => n - (intOf i).toNat)
    case atStart => exact ⟨0, false, by omega, rfl, rfl, by simp, Mods.refl _ _⟩
    case round =>
      obtain ⟨j, b, hj, rfl, rfl, hb, hmo⟩ := hrel
      have HMO := Lib.hid (HMM.out.trans hmo)
      have HM2 := Lib.hid hmo
      have HB := Lib.hid hb
      clear hb
      by_cases hlt : j < n
      · have hltI : (j : Int) < (n : Int) := by omega
        have hjl : j < fs.length := by rw [HN.out]; exact hlt
        have hx1 := fun W => index_strOf W fs j hjl
        obtain ⟨c2, hc2⟩ : ∃ c2, fs[j] = c2 := ⟨_, rfl⟩
        rw [hc2] at hx1
        have HC2 := Lib.hid hc2
        have HJL := Lib.hid hjl
        clear hc2 hmo
        cases b with
        | true =>
          have HNX : Hid (true = true ↔ c ∈ fs.take (j + 1)) := by
            show _ ↔ _
            exact ⟨fun _ => by rw [List.take_add_one]; exact List.mem_append.2 (.inl (HB.out.1 rfl)), fun _ => rfl⟩
          go_wp2_with fail
          go_quiet (fail)
          go_wp2_with fail
          exact ⟨⟨j + 1, true, by omega, by go_num, rfl, by simpa using HNX.out, HM2.out.drewN _⟩, by simp [intOf]; omega⟩
        | false =>
          by_cases hcc : c2 = c
          · subst hcc
            have HNX : Hid (true = true ↔ c2 ∈ fs.take (j + 1)) := by
              show _ ↔ _
              exact ⟨fun _ => by rw [List.take_add_one, List.getElem?_eq_getElem HJL.out, HC2.out]; simp, fun _ => rfl⟩
            go_wp2_with fail
            go_quiet (fail)
            go_wp2_with fail
            exact ⟨⟨j + 1, true, by omega, by go_num, rfl, by simpa using HNX.out, HM2.out.drewN _⟩, by simp [intOf]; omega⟩
          · have hne : ((c2.toNat : Int) == (c.toNat : Int)) = false := by
              rw [beq_eq_false_iff_ne]
              intro h
              exact hcc (UInt8.toNat_inj.1 (by omega))
            have HNX : Hid (false = true ↔ c ∈ fs.take (j + 1)) := by
              show _ ↔ _
              constructor
              · intro h; cases h
              · rw [List.take_add_one, List.getElem?_eq_getElem HJL.out, HC2.out]
                intro h
                rcases List.mem_append.1 h with h | h
                · exact HB.out.2 h
                · simp at h; exact absurd h.symm hcc
            go_wp2_with fail
            go_quiet (fail)
            go_wp2_with fail
            exact ⟨⟨j + 1, false, by omega, by go_num, rfl, by simpa using HNX.out, HM2.out.drewN _⟩, by simp [intOf]; omega⟩
      · obtain rfl : j = n := by omega
        obtain ⟨d0, d1, d2, d3, d4, d5, d6, d7, d8, d9, d10⟩ := (HBB.out.mods hmo (fun h => h)).mc
        have hbo : b = own kd 2 := by
          have h := HB.out
          rw [List.take_of_length_le (Nat.le_of_eq HN.out), HOW.out] at h
          exact Bool.eq_iff_iff.2 h
        subst hbo
        dsimp only [List.length_nil, List.length_cons] at d0 d1 d2 d3 d4 d5 d6 d7 d8 d9 d10
        go_wp2_with (go_at_call 17; refine (check_any (m := { kind := kd, shard := 1 }) (L := {}) HOK.out (HTW.out.mods hmo (fun h => h))).mono ?_; rintro e w3 ⟨rfl, m3⟩; rw [HCK.out]; have M3 := Lib.hid (HMO.out.trans m3); clear m3)
        all_goals
          go_ret
          exact ⟨rfl, M3.out⟩

set_option maxHeartbeats 8000000 in
theorem msgKinds_3 (w : World) (hT : Tab w) (kd : Int) (hkd : -9223372036854775808 ≤ kd ∧ kd ≤ 9223372036854775807) (d : Nat) (hd : d < 256) (hdk : d % 10 = 3) (hk : isK kd = true) :
    Calls Tryd.prog 6 #[.int .i64 kd, .int .u8 d] w fun e w' => e = .returned (.bool true) ∧ Mods Nil w w' := by
    have HT := Lib.hid hT
    have hb : 1 ≤ kd ∧ kd ≤ 18 := by simpa [isK] using hk
    have h1 := hb.1
    have h2 := hb.2
    obtain ⟨fs, hfs⟩ : ∃ fs, fstr kd = fs := ⟨_, rfl⟩
    obtain ⟨n, hn⟩ : ∃ n, fs.length = n := ⟨_, rfl⟩
    have hsz : (strOf fs).size = n := by simp [hn]
    have hn10 : n ≤ 10 := by rw [← hn, ← hfs]; exact fstr_len kd
    have HFS := Lib.hid hfs.symm
    have HN := Lib.hid hn
    have HIK : Hid (∀ k (m : PM), m.kind = kd → k < 10 → (∀ j, j < 10 → amt m j = if j = k then 1 else 0) → chk m = if own kd k then 0 else 1) := fun k m e h10 h => by
      subst e
      exact chk_single hk h10 h
    clear hfs hn hb hT hk
    have hok : PM.ok { kind := kd, seg := 1 } := by constructor <;> simp <;> omega
    have HOK := Lib.hid hok
    obtain ⟨c, hc⟩ : ∃ c, lt 3 = c := ⟨_, rfl⟩
    have hx2 : ∀ W, (Instr.index 9 (.string ⟨#[98, 115, 104, 103, 99, 113, 112, 100, 118, 120]⟩) (.int .i64 3)).run Tryd.prog W = .ok (.int .u8 (c.toNat : Int)) W := fun W => by rw [← hc]; exact lets_at 3 (by omega) W
    have hmod : (d : Int) % 10 = 3 := by omega
    have hmod2 : (d : Int).tmod 10 = 3 := by rw [Int.tmod_eq_emod_of_nonneg (by omega)]; omega
    have HCK : Hid (chk { kind := kd, seg := 1 } = if own kd 3 then 0 else 1) := HIK.out 3 { kind := kd, seg := 1 } rfl (by omega) (ten_cases rfl rfl rfl rfl rfl rfl rfl rfl rfl rfl)
    have HOW : Hid (c ∈ fs ↔ own kd 3 = true) := by show _ ↔ _; rw [← hc, HFS.out]; exact fstr_mem (by omega)
    clear hok hc
    go_enter Tryd.func6, Tryd.ntmps6
    go_wp2_with (go_at_call 9; refine (awake4_any _ HT.out).mono ?_; rintro e w1 ⟨rfl, m1⟩; have M1 := Lib.hid m1; have HT1 := Lib.hid (HT.out.mods m1 (fun h => h)); have htb : ((w1.alloc (.cells #[.int .i64 kd, .int .u64 0, .int .u64 0, .int .i64 0, .int .i64 0, .int .u64 0, .int .u64 0, .int .u64 0, .int .i64 0, .slice none 0 0, .slice none 0 0] 32)).alloc (.cells #[.string ⟨#[]⟩, .string ⟨#[104, 103, 99, 113, 120]⟩, .string ⟨#[104, 103, 99, 113, 112, 100]⟩, .string ⟨#[104, 103, 99, 113, 112, 120]⟩, .string ⟨#[104, 103, 112]⟩, .string ⟨#[104, 103, 112]⟩, .string ⟨#[104, 103, 118]⟩, .string ⟨#[98, 115]⟩, .string ⟨#[98, 115, 120]⟩, .string ⟨#[98, 115, 120]⟩, .string ⟨#[98, 115]⟩, .string ⟨#[98]⟩, .string ⟨#[115, 120]⟩, .string ⟨#[115]⟩, .string ⟨#[99, 113, 112]⟩, .string ⟨#[104, 103, 99, 113, 112, 100, 120]⟩, .string ⟨#[104, 103, 99, 113, 112, 100]⟩, .string ⟨#[99, 113, 112, 100]⟩, .string ⟨#[98, 115]⟩] 9)).cell? ⟨w1.heap.size + 1, kd.toNat, none⟩ = some (.string (strOf fs)) := (by rw [HFS.out]; have := tabL_at h1 h2 (w1.alloc (.cells #[.int .i64 kd, .int .u64 0, .int .u64 0, .int .i64 0, .int .i64 0, .int .u64 0, .int .u64 0, .int .u64 0, .int .i64 0, .slice none 0 0, .slice none 0 0] 32)); simp only [World.size_alloc] at this; exact this); clear m1)
    have BB : Blk ((w1.alloc (.cells #[.int .i64 kd, .int .u64 0, .int .u64 0, .int .i64 0, .int .i64 1, .int .u64 0, .int .u64 0, .int .u64 0, .int .i64 0, .slice none 0 0, .slice none 0 0] 32)).alloc (.cells #[.string ⟨#[]⟩, .string ⟨#[104, 103, 99, 113, 120]⟩, .string ⟨#[104, 103, 99, 113, 112, 100]⟩, .string ⟨#[104, 103, 99, 113, 112, 120]⟩, .string ⟨#[104, 103, 112]⟩, .string ⟨#[104, 103, 112]⟩, .string ⟨#[104, 103, 118]⟩, .string ⟨#[98, 115]⟩, .string ⟨#[98, 115, 120]⟩, .string ⟨#[98, 115, 120]⟩, .string ⟨#[98, 115]⟩, .string ⟨#[98]⟩, .string ⟨#[115, 120]⟩, .string ⟨#[115]⟩, .string ⟨#[99, 113, 112]⟩, .string ⟨#[104, 103, 99, 113, 112, 100, 120]⟩, .string ⟨#[104, 103, 99, 113, 112, 100]⟩, .string ⟨#[99, 113, 112, 100]⟩, .string ⟨#[98, 115]⟩] 9)) w1.heap.size 32 (MC { kind := kd, seg := 1 } {}) := by exact (Blk.new w1 32 (MC { kind := kd, seg := 1 } {})).alloc _
    have MM : Mods Nil w ((w1.alloc (.cells #[.int .i64 kd, .int .u64 0, .int .u64 0, .int .i64 0, .int .i64 1, .int .u64 0, .int .u64 0, .int .u64 0, .int .i64 0, .slice none 0 0, .slice none 0 0] 32)).alloc (.cells #[.string ⟨#[]⟩, .string ⟨#[104, 103, 99, 113, 120]⟩, .string ⟨#[104, 103, 99, 113, 112, 100]⟩, .string ⟨#[104, 103, 99, 113, 112, 120]⟩, .string ⟨#[104, 103, 112]⟩, .string ⟨#[104, 103, 112]⟩, .string ⟨#[104, 103, 118]⟩, .string ⟨#[98, 115]⟩, .string ⟨#[98, 115, 120]⟩, .string ⟨#[98, 115, 120]⟩, .string ⟨#[98, 115]⟩, .string ⟨#[98]⟩, .string ⟨#[115, 120]⟩, .string ⟨#[115]⟩, .string ⟨#[99, 113, 112]⟩, .string ⟨#[104, 103, 99, 113, 112, 100, 120]⟩, .string ⟨#[104, 103, 99, 113, 112, 100]⟩, .string ⟨#[99, 113, 112, 100]⟩, .string ⟨#[98, 115]⟩] 9)) := M1.out.alloc _ |>.alloc _
    have TT : Tab ((w1.alloc (.cells #[.int .i64 kd, .int .u64 0, .int .u64 0, .int .i64 0, .int .i64 1, .int .u64 0, .int .u64 0, .int .u64 0, .int .i64 0, .slice none 0 0, .slice none 0 0] 32)).alloc (.cells #[.string ⟨#[]⟩, .string ⟨#[104, 103, 99, 113, 120]⟩, .string ⟨#[104, 103, 99, 113, 112, 100]⟩, .string ⟨#[104, 103, 99, 113, 112, 120]⟩, .string ⟨#[104, 103, 112]⟩, .string ⟨#[104, 103, 112]⟩, .string ⟨#[104, 103, 118]⟩, .string ⟨#[98, 115]⟩, .string ⟨#[98, 115, 120]⟩, .string ⟨#[98, 115, 120]⟩, .string ⟨#[98, 115]⟩, .string ⟨#[98]⟩, .string ⟨#[115, 120]⟩, .string ⟨#[115]⟩, .string ⟨#[99, 113, 112]⟩, .string ⟨#[104, 103, 99, 113, 112, 100, 120]⟩, .string ⟨#[104, 103, 99, 113, 112, 100]⟩, .string ⟨#[99, 113, 112, 100]⟩, .string ⟨#[98, 115]⟩] 9)) := HT1.out.mods ((Mods.refl Nil _).alloc _ |>.alloc _) (fun h => h)
    obtain ⟨W2, hW2⟩ : ∃ W2, ((w1.alloc (.cells #[.int .i64 kd, .int .u64 0, .int .u64 0, .int .i64 0, .int .i64 1, .int .u64 0, .int .u64 0, .int .u64 0, .int .i64 0, .slice none 0 0, .slice none 0 0] 32)).alloc (.cells #[.string ⟨#[]⟩, .string ⟨#[104, 103, 99, 113, 120]⟩, .string ⟨#[104, 103, 99, 113, 112, 100]⟩, .string ⟨#[104, 103, 99, 113, 112, 120]⟩, .string ⟨#[104, 103, 112]⟩, .string ⟨#[104, 103, 112]⟩, .string ⟨#[104, 103, 118]⟩, .string ⟨#[98, 115]⟩, .string ⟨#[98, 115, 120]⟩, .string ⟨#[98, 115, 120]⟩, .string ⟨#[98, 115]⟩, .string ⟨#[98]⟩, .string ⟨#[115, 120]⟩, .string ⟨#[115]⟩, .string ⟨#[99, 113, 112]⟩, .string ⟨#[104, 103, 99, 113, 112, 100, 120]⟩, .string ⟨#[104, 103, 99, 113, 112, 100]⟩, .string ⟨#[99, 113, 112, 100]⟩, .string ⟨#[98, 115]⟩] 9)) = W2 := ⟨_, rfl⟩
    rw [hW2] at BB MM TT ⊢
    have HBB := Lib.hid BB
    have HMM := Lib.hid MM
    have HTW := Lib.hid TT
    clear hW2 BB MM TT
    go_loopw [10, 11] (fun s i wr => ∃ (j : Nat) (b : Bool), j ≤ n ∧ i = .int .i64 j ∧ s = .bool b ∧ (b = true ↔ c ∈ fs.take j) ∧ Mods Nil W2 wr) (fun _ i _ => n - (intOf i).toNat)
    case atStart => exact ⟨0, false, by omega, rfl, rfl, by simp, Mods.refl _ _⟩
    case round =>
      obtain ⟨j, b, hj, rfl, rfl, hb, hmo⟩ := hrel
      have HMO := Lib.hid (HMM.out.trans hmo)
      have HM2 := Lib.hid hmo
      have HB := Lib.hid hb
      clear hb
      by_cases hlt : j < n
      · have hltI : (j : Int) < (n : Int) := by omega
        have hjl : j < fs.length := by rw [HN.out]; exact hlt
        have hx1 := fun W => index_strOf W fs j hjl
        obtain ⟨c2, hc2⟩ : ∃ c2, fs[j] = c2 := ⟨_, rfl⟩
        rw [hc2] at hx1
        have HC2 := Lib.hid hc2
        have HJL := Lib.hid hjl
        clear hc2 hmo
        cases b with
        | true =>
          have HNX : Hid (true = true ↔ c ∈ fs.take (j + 1)) := by
            show _ ↔ _
            exact ⟨fun _ => by rw [List.take_add_one]; exact List.mem_append.2 (.inl (HB.out.1 rfl)), fun _ => rfl⟩
          go_wp2_with fail
          go_quiet (fail)
          go_wp2_with fail
          exact ⟨⟨j + 1, true, by omega, by go_num, rfl, by simpa using HNX.out, HM2.out.drewN _⟩, by simp [intOf]; omega⟩
        | false =>
          by_cases hcc : c2 = c
          · subst hcc
            have HNX : Hid (true = true ↔ c2 ∈ fs.take (j + 1)) := by
              show _ ↔ _
              exact ⟨fun _ => by rw [List.take_add_one, List.getElem?_eq_getElem HJL.out, HC2.out]; simp, fun _ => rfl⟩
            go_wp2_with fail
            go_quiet (fail)
            go_wp2_with fail
            exact ⟨⟨j + 1, true, by omega, by go_num, rfl, by simpa using HNX.out, HM2.out.drewN _⟩, by simp [intOf]; omega⟩
          · have hne : ((c2.toNat : Int) == (c.toNat : Int)) = false := by
              rw [beq_eq_false_iff_ne]
              intro h
              exact hcc (UInt8.toNat_inj.1 (by omega))
            have HNX : Hid (false = true ↔ c ∈ fs.take (j + 1)) := by
              show _ ↔ _
              constructor
              · intro h; cases h
              · rw [List.take_add_one, List.getElem?_eq_getElem HJL.out, HC2.out]
                intro h
                rcases List.mem_append.1 h with h | h
                · exact HB.out.2 h
                · simp at h; exact absurd h.symm hcc
            go_wp2_with fail
            go_quiet (fail)
            go_wp2_with fail
            exact ⟨⟨j + 1, false, by omega, by go_num, rfl, by simpa using HNX.out, HM2.out.drewN _⟩, by simp [intOf]; omega⟩
      · obtain rfl : j = n := by omega
        obtain ⟨d0, d1, d2, d3, d4, d5, d6, d7, d8, d9, d10⟩ := (HBB.out.mods hmo (fun h => h)).mc
        have hbo : b = own kd 3 := by
          have h := HB.out
          rw [List.take_of_length_le (Nat.le_of_eq HN.out), HOW.out] at h
          exact Bool.eq_iff_iff.2 h
        subst hbo
        dsimp only [List.length_nil, List.length_cons] at d0 d1 d2 d3 d4 d5 d6 d7 d8 d9 d10
        go_wp2_with (go_at_call 17; refine (check_any (m := { kind := kd, seg := 1 }) (L := {}) HOK.out (HTW.out.mods hmo (fun h => h))).mono ?_; rintro e w3 ⟨rfl, m3⟩; rw [HCK.out]; have M3 := Lib.hid (HMO.out.trans m3); clear m3)
        all_goals
          go_ret
          exact ⟨rfl, M3.out⟩

set_option maxHeartbeats 8000000 in
theorem msgKinds_4 (w : World) (hT : Tab w) (kd : Int) (hkd : -9223372036854775808 ≤ kd ∧ kd ≤ 9223372036854775807) (d : Nat) (hd : d < 256) (hdk : d % 10 = 4) (hk : isK kd = true) :
    Calls Tryd.prog 6 #[.int .i64 kd, .int .u8 d] w fun e w' => e = .returned (.bool true) ∧ Mods Nil w w' := by
    have HT := Lib.hid hT
    have hb : 1 ≤ kd ∧ kd ≤ 18 := by simpa [isK] using hk
    have h1 := hb.1
    have h2 := hb.2
    obtain ⟨fs, hfs⟩ : ∃ fs, fstr kd = fs := ⟨_, rfl⟩
    obtain ⟨n, hn⟩ : ∃ n, fs.length = n := ⟨_, rfl⟩
    have hsz : (strOf fs).size = n := by simp [hn]
    have hn10 : n ≤ 10 := by rw [← hn, ← hfs]; exact fstr_len kd
    have HFS := Lib.hid hfs.symm
    have HN := Lib.hid hn
    have HIK : Hid (∀ k (m : PM), m.kind = kd → k < 10 → (∀ j, j < 10 → amt m j = if j = k then 1 else 0) → chk m = if own kd k then 0 else 1) := fun k m e h10 h => by
      subst e
      exact chk_single hk h10 h
    clear hfs hn hb hT hk
    have hok : PM.ok { kind := kd, client := 1 } := by constructor <;> simp <;> omega
    have HOK := Lib.hid hok
    obtain ⟨c, hc⟩ : ∃ c, lt 4 = c := ⟨_, rfl⟩
    have hx2 : ∀ W, (Instr.index 9 (.string ⟨#[98, 115, 104, 103, 99, 113, 112, 100, 118, 120]⟩) (.int .i64 4)).run Tryd.prog W = .ok (.int .u8 (c.toNat : Int)) W := fun W => by rw [← hc]; exact lets_at 4 (by omega) W
    have hmod : (d : Int) % 10 = 4 := by omega
    have hmod2 : (d : Int).tmod 10 = 4 := by rw [Int.tmod_eq_emod_of_nonneg (by omega)]; omega
    have HCK : Hid (chk { kind := kd, client := 1 } = if own kd 4 then 0 else 1) := HIK.out 4 { kind := kd, client := 1 } rfl (by omega) (ten_cases rfl rfl rfl rfl rfl rfl rfl rfl rfl rfl)
    have HOW : Hid (c ∈ fs ↔ own kd 4 = true) := by show _ ↔ _; rw [← hc, HFS.out]; exact fstr_mem (by omega)
    clear hok hc
    go_enter Tryd.func6, Tryd.ntmps6
    go_wp2_with (go_at_call 9; refine (awake4_any _ HT.out).mono ?_; rintro e w1 ⟨rfl, m1⟩; have M1 := Lib.hid m1; have HT1 := Lib.hid (HT.out.mods m1 (fun h => h)); have htb : ((w1.alloc (.cells #[.int .i64 kd, .int .u64 0, .int .u64 0, .int .i64 0, .int .i64 0, .int .u64 0, .int .u64 0, .int .u64 0, .int .i64 0, .slice none 0 0, .slice none 0 0] 32)).alloc (.cells #[.string ⟨#[]⟩, .string ⟨#[104, 103, 99, 113, 120]⟩, .string ⟨#[104, 103, 99, 113, 112, 100]⟩, .string ⟨#[104, 103, 99, 113, 112, 120]⟩, .string ⟨#[104, 103, 112]⟩, .string ⟨#[104, 103, 112]⟩, .string ⟨#[104, 103, 118]⟩, .string ⟨#[98, 115]⟩, .string ⟨#[98, 115, 120]⟩, .string ⟨#[98, 115, 120]⟩, .string ⟨#[98, 115]⟩, .string ⟨#[98]⟩, .string ⟨#[115, 120]⟩, .string ⟨#[115]⟩, .string ⟨#[99, 113, 112]⟩, .string ⟨#[104, 103, 99, 113, 112, 100, 120]⟩, .string ⟨#[104, 103, 99, 113, 112, 100]⟩, .string ⟨#[99, 113, 112, 100]⟩, .string ⟨#[98, 115]⟩] 9)).cell? ⟨w1.heap.size + 1, kd.toNat, none⟩ = some (.string (strOf fs)) := (by rw [HFS.out]; have := tabL_at h1 h2 (w1.alloc (.cells #[.int .i64 kd, .int .u64 0, .int .u64 0, .int .i64 0, .int .i64 0, .int .u64 0, .int .u64 0, .int .u64 0, .int .i64 0, .slice none 0 0, .slice none 0 0] 32)); simp only [World.size_alloc] at this; exact this); clear m1)
    have BB : Blk ((w1.alloc (.cells #[.int .i64 kd, .int .u64 0, .int .u64 0, .int .i64 0, .int .i64 0, .int .u64 1, .int .u64 0, .int .u64 0, .int .i64 0, .slice none 0 0, .slice none 0 0] 32)).alloc (.cells #[.string ⟨#[]⟩, .string ⟨#[104, 103, 99, 113, 120]⟩, .string ⟨#[104, 103, 99, 113, 112, 100]⟩, .string ⟨#[104, 103, 99, 113, 112, 120]⟩, .string ⟨#[104, 103, 112]⟩, .string ⟨#[104, 103, 112]⟩, .string ⟨#[104, 103, 118]⟩, .string ⟨#[98, 115]⟩, .string ⟨#[98, 115, 120]⟩, .string ⟨#[98, 115, 120]⟩, .string ⟨#[98, 115]⟩, .string ⟨#[98]⟩, .string ⟨#[115, 120]⟩, .string ⟨#[115]⟩, .string ⟨#[99, 113, 112]⟩, .string ⟨#[104, 103, 99, 113, 112, 100, 120]⟩, .string ⟨#[104, 103, 99, 113, 112, 100]⟩, .string ⟨#[99, 113, 112, 100]⟩, .string ⟨#[98, 115]⟩] 9)) w1.heap.size 32 (MC { kind := kd, client := 1 } {}) := by exact (Blk.new w1 32 (MC { kind := kd, client := 1 } {})).alloc _
    have MM : Mods Nil w ((w1.alloc (.cells #[.int .i64 kd, .int .u64 0, .int .u64 0, .int .i64 0, .int .i64 0, .int .u64 1, .int .u64 0, .int .u64 0, .int .i64 0, .slice none 0 0, .slice none 0 0] 32)).alloc (.cells #[.string ⟨#[]⟩, .string ⟨#[104, 103, 99, 113, 120]⟩, .string ⟨#[104, 103, 99, 113, 112, 100]⟩, .string ⟨#[104, 103, 99, 113, 112, 120]⟩, .string ⟨#[104, 103, 112]⟩, .string ⟨#[104, 103, 112]⟩, .string ⟨#[104, 103, 118]⟩, .string ⟨#[98, 115]⟩, .string ⟨#[98, 115, 120]⟩, .string ⟨#[98, 115, 120]⟩, .string ⟨#[98, 115]⟩, .string ⟨#[98]⟩, .string ⟨#[115, 120]⟩, .string ⟨#[115]⟩, .string ⟨#[99, 113, 112]⟩, .string ⟨#[104, 103, 99, 113, 112, 100, 120]⟩, .string ⟨#[104, 103, 99, 113, 112, 100]⟩, .string ⟨#[99, 113, 112, 100]⟩, .string ⟨#[98, 115]⟩] 9)) := M1.out.alloc _ |>.alloc _
    have TT : Tab ((w1.alloc (.cells #[.int .i64 kd, .int .u64 0, .int .u64 0, .int .i64 0, .int .i64 0, .int .u64 1, .int .u64 0, .int .u64 0, .int .i64 0, .slice none 0 0, .slice none 0 0] 32)).alloc (.cells #[.string ⟨#[]⟩, .string ⟨#[104, 103, 99, 113, 120]⟩, .string ⟨#[104, 103, 99, 113, 112, 100]⟩, .string ⟨#[104, 103, 99, 113, 112, 120]⟩, .string ⟨#[104, 103, 112]⟩, .string ⟨#[104, 103, 112]⟩, .string ⟨#[104, 103, 118]⟩, .string ⟨#[98, 115]⟩, .string ⟨#[98, 115, 120]⟩, .string ⟨#[98, 115, 120]⟩, .string ⟨#[98, 115]⟩, .string ⟨#[98]⟩, .string ⟨#[115, 120]⟩, .string ⟨#[115]⟩, .string ⟨#[99, 113, 112]⟩, .string ⟨#[104, 103, 99, 113, 112, 100, 120]⟩, .string ⟨#[104, 103, 99, 113, 112, 100]⟩, .string ⟨#[99, 113, 112, 100]⟩, .string ⟨#[98, 115]⟩] 9)) := HT1.out.mods ((Mods.refl Nil _).alloc _ |>.alloc _) (fun h => h)
    obtain ⟨W2, hW2⟩ : ∃ W2, ((w1.alloc (.cells #[.int .i64 kd, .int .u64 0, .int .u64 0, .int .i64 0, .int .i64 0, .int .u64 1, .int .u64 0, .int .u64 0, .int .i64 0, .slice none 0 0, .slice none 0 0] 32)).alloc (.cells #[.string ⟨#[]⟩, .string ⟨#[104, 103, 99, 113, 120]⟩, .string ⟨#[104, 103, 99, 113, 112, 100]⟩, .string ⟨#[104, 103, 99, 113, 112, 120]⟩, .string ⟨#[104, 103, 112]⟩, .string ⟨#[104, 103, 112]⟩, .string ⟨#[104, 103, 118]⟩, .string ⟨#[98, 115]⟩, .string ⟨#[98, 115, 120]⟩, .string ⟨#[98, 115, 120]⟩, .string ⟨#[98, 115]⟩, .string ⟨#[98]⟩, .string ⟨#[115, 120]⟩, .string ⟨#[115]⟩, .string ⟨#[99, 113, 112]⟩, .string ⟨#[104, 103, 99, 113, 112, 100, 120]⟩, .string ⟨#[104, 103, 99, 113, 112, 100]⟩, .string ⟨#[99, 113, 112, 100]⟩, .string ⟨#[98, 115]⟩] 9)) = W2 := ⟨_, rfl⟩
    rw [hW2] at BB MM TT ⊢
    have HBB := Lib.hid BB
    have HMM := Lib.hid MM
    have HTW := Lib.hid TT
    clear hW2 BB MM TT
    go_loopw [10, 11] (fun s i wr => ∃ (j : Nat) (b : Bool), j ≤ n ∧ i = .int .i64 j ∧ s = .bool b ∧ (b = true ↔ c ∈ fs.take j) ∧ Mods Nil W2 wr) (fun _ i _ => n - (intOf i).toNat)
    case atStart => exact ⟨0, false, by omega, rfl, rfl, by simp, Mods.refl _ _⟩
    case round =>
      obtain ⟨j, b, hj, rfl, rfl, hb, hmo⟩ := hrel
      have HMO := Lib.hid (HMM.out.trans hmo)
      have HM2 := Lib.hid hmo
      have HB := Lib.hid hb
      clear hb
      by_cases hlt : j < n
      · have hltI : (j : Int) < (n : Int) := by omega
        have hjl : j < fs.length := by rw [HN.out]; exact hlt
        have hx1 := fun W => index_strOf W fs j hjl
        obtain ⟨c2, hc2⟩ : ∃ c2, fs[j] = c2 := ⟨_, rfl⟩
        rw [hc2] at hx1
        have HC2 := Lib.hid hc2
        have HJL := Lib.hid hjl
        clear hc2 hmo
        cases b with
        | true =>
          have HNX : Hid (true = true ↔ c ∈ fs.take (j + 1)) := by
            show _ ↔ _
            exact ⟨fun _ => by rw [List.take_add_one]; exact List.mem_append.2 (.inl (HB.out.1 rfl)), fun _ => rfl⟩
          go_wp2_with fail
          go_quiet (fail)
          go_wp2_with fail
          exact ⟨⟨j + 1, true, by omega, by go_num, rfl, by simpa using HNX.out, HM2.out.drewN _⟩, by simp [intOf]; omega⟩
        | false =>
          by_cases hcc : c2 = c
          · subst hcc
            have HNX : Hid (true = true ↔ c2 ∈ fs.take (j + 1)) := by
              show _ ↔ _
              exact ⟨fun _ => by rw [List.take_add_one, List.getElem?_eq_getElem HJL.out, HC2.out]; simp, fun _ => rfl⟩
            go_wp2_with fail
            go_quiet (fail)
            go_wp2_with fail
            exact ⟨⟨j + 1, true, by omega, by go_num, rfl, by simpa using HNX.out, HM2.out.drewN _⟩, by simp [intOf]; omega⟩
          · have hne : ((c2.toNat : Int) == (c.toNat : Int)) = false := by
              rw [beq_eq_false_iff_ne]
              intro h
              exact hcc (UInt8.toNat_inj.1 (by omega))
            have HNX : Hid (false = true ↔ c ∈ fs.take (j + 1)) := by
              show _ ↔ _
              constructor
              · intro h; cases h
              · rw [List.take_add_one, List.getElem?_eq_getElem HJL.out, HC2.out]
                intro h
                rcases List.mem_append.1 h with h | h
                · exact HB.out.2 h
                · simp at h; exact absurd h.symm hcc
            go_wp2_with fail
            go_quiet (fail)
            go_wp2_with fail
            exact ⟨⟨j + 1, false, by omega, by go_num, rfl, by simpa using HNX.out, HM2.out.drewN _⟩, by simp [intOf]; omega⟩
      · obtain rfl : j = n := by omega
        obtain ⟨d0, d1, d2, d3, d4, d5, d6, d7, d8, d9, d10⟩ := (HBB.out.mods hmo (fun h => h)).mc
        have hbo : b = own kd 4 := by
          have h := HB.out
          rw [List.take_of_length_le (Nat.le_of_eq HN.out), HOW.out] at h
          exact Bool.eq_iff_iff.2 h
        subst hbo
        dsimp only [List.length_nil, List.length_cons] at d0 d1 d2 d3 d4 d5 d6 d7 d8 d9 d10
        go_wp2_with (go_at_call 17; refine (check_any (m := { kind := kd, client := 1 }) (L := {}) HOK.out (HTW.out.mods hmo (fun h => h))).mono ?_; rintro e w3 ⟨rfl, m3⟩; rw [HCK.out]; have M3 := Lib.hid (HMO.out.trans m3); clear m3)
        all_goals
          go_ret
          exact ⟨rfl, M3.out⟩

end Go.Proofs.YtlheaicojmjdpaaDoor
