/- LeaderStops: who stopped, or asks anew, hears no vote of an old ballot. -/
import Derived.Test.YtfnecjogiafekaaLawM15
import Derived.Test.YtfnecjogiafekaaOpen
namespace Go.Proofs.Ytfnecjogiafekaa
set_option maxRecDepth 1000000
open Go.RowKit
set_option linter.unusedVariables false
set_option linter.unusedSimpArgs false
def st2 (b : Nat) : PLd := { many := 1, stage := 2, bal := b, prom := [0] }
theorem stop_mute {l : PLd} (h : l.stage ≠ 2) (node : Int) (b : Nat) : l.mute node b := .inl h
def st3 (b : Nat) : PLd := { many := 1, stage := 2, bal := b, next := 1, prom := [0], opn := [⟨⟨0, b, [120]⟩, []⟩] }
theorem st_begin {b : Nat} (h : 1 ≤ b) : ({ many := 1 } : PLd).begin_ b 0 = { many := 1, stage := 1, bal := b } ∧ ({ many := 1 } : PLd).beginE b = 0 := by
  unfold PLd.begin_ PLd.beginE
  rw [if_neg (by show ¬ b ≤ 0; omega), if_neg (by show ¬ b ≤ 0; omega)]
  exact ⟨rfl, rfl⟩
theorem st_prom (b : Nat) : ({ many := 1, stage := 1, bal := b } : PLd).promise 0 b 0 [] = st2 b ∧ ({ many := 1, stage := 1, bal := b } : PLd).promV 0 b 0 [] = [] ∧ ({ many := 1, stage := 1, bal := b } : PLd).promB 0 b 0 [] = true := by
  obtain ⟨h1, h2, h3⟩ := promise_lead (l := { many := 1, stage := 1, bal := b }) (node := 0) (b := b) (low := 0) (vs := []) (deaf_not rfl rfl (by decide) (by show (0 : Int) < ((1 : Nat) : Int); omega) (by simp)) (by show 1 / 2 < 0 + 1; omega) (fun v hv => by cases hv)
  exact ⟨h1.trans rfl, h2.trans rfl, h3⟩
theorem st_x (b : Nat) : (st2 b).propose [120] = st3 b ∧ (st2 b).propX [120] = ⟨0, b, [120]⟩ ∧ (st2 b).propE = 0 := propose_ok rfl (by simp [st2]) [120]
theorem st_acc (b : Nat) : (st3 b).chosen 0 b 0 = some ⟨0, b, [120]⟩ := by
  rw [(accept_hears (l := st3 b) (node := 0) (b := b) (mute_not (l := st3 b) rfl rfl (by decide) (by show (0 : Int) < ((1 : Nat) : Int); omega)) 0).2]
  simp [st3, chosenO, addW]
theorem st_begin2 {b c : Nat} : (st3 b).begin_ c 0 = (if c ≤ b then st3 b else { many := 1, stage := 1, bal := c }) ∧ (st3 b).beginE c = if c ≤ b then 32 else 0 := ⟨rfl, rfl⟩
set_option maxHeartbeats 6400000 in
theorem leaderStops_walk (w : World) {bi : Int} (wb : (Lit.int .u8 bi).wf = true) {ci : Int} (wc : (Lit.int .u8 ci).wf = true) (stop : Bool) :
    Calls Try.prog 7 #[.int .u8 bi, .int .u8 ci, .bool stop] w fun e w' => e = .returned (.bool true) ∧ Mods Nil w w' := by
  have hb0 := u8_of_wf wb
  have hc0 := u8_of_wf wc
  obtain ⟨b9, rfl⟩ : ∃ s : Nat, bi = (s : Int) := ⟨bi.toNat, by omega⟩
  obtain ⟨c, rfl⟩ : ∃ m : Nat, ci = (m : Int) := ⟨ci.toNat, by omega⟩
  obtain ⟨b, hb⟩ : ∃ b, b9 + 1 = b := ⟨_, rfl⟩
  have hw0 : IntKind.u64.wrap (b9 : Int) = (b9 : Int) := by rw [IntKind.wrap_u64]; omega
  have hw1 : IntKind.u64.wrap ((b9 : Int) + 1) = (b : Int) := by rw [IntKind.wrap_u64]; omega
  have hw2 : IntKind.u64.wrap (c : Int) = (c : Int) := by rw [IntKind.wrap_u64]; omega
  have hb1 : 1 ≤ b := by omega
  have hb2 : b ≤ 256 := by omega
  have hc2 : c < 256 := by omega
  clear wb wc hb0 hc0 hb
  have hcv := fun (w : World) (C : Array Value) (n c : Nat) => Lib.run_convert_bytes_const (P := Try.prog) w 34 5 C n c Try.underlying34 Try.underlying5
  have HB1 : Hid (∀ (V W : World) g, LdS V W (fun _ => False) g { many := 1 } 0 → Calls Try.prog 12 #[.pointer (some ⟨g, 0, none⟩), .int .u64 (b : Int), .int .u64 0] W fun e W' => e = .returned (.int .i64 0) ∧ LdS V W' (fun _ => False) g { many := 1, stage := 1, bal := b } 0) := Lib.hid (fun V W g h => (h.begin' (x := b) (f := 0) (by omega) (by omega) (st_begin hb1).1 (st_begin hb1).2).mono fun e W' ⟨h1, h2, _⟩ => ⟨h1, h2⟩)
  have HP1 : Hid (∀ (V W : World) g, LdS V W (fun _ => False) g { many := 1, stage := 1, bal := b } 0 → Calls Try.prog 14 #[.pointer (some ⟨g, 0, none⟩), .int .i64 0, .int .u64 (b : Int), .int .u64 0, .slice none 0 0] W fun e W' => ∃ A n c, e = .returned (.tuple #[.slice A n c, .bool true]) ∧ LdS V W' (fun _ => False) g (st2 b) 4096) := Lib.hid (fun V W g h => (h.promise2 (by omega) (node := 0) (x := b) (low := 0) (by omega) (by omega) (by omega) (by omega) (PVs.none_ W (fun _ => False)) (by omega) (fun q hq => by cases hq) (st_prom b).1 (st_prom b).2.1 (st_prom b).2.2 rfl).mono fun e W' ⟨A, n, c, L, h1, _, _, h4, _⟩ => ⟨A, n, c, h1, h4.more (Mods.refl _ _) (fun _ h => h.elim)⟩)
  have HX : Hid (∀ (V W : World) g A c, LdS V W (fun _ => False) g (st2 b) 4096 → Sl W A c (bts [120]) → Calls Try.prog 18 #[.pointer (some ⟨g, 0, none⟩), .slice A 1 c] W fun e W' => ∃ A' c', e = .returned (.tuple #[.agg #[.int .u64 0, .int .u64 (b : Int), .slice A' 1 c'], .int .i64 0]) ∧ LdS V W' (fun _ => False) g (st3 b) 4097) := Lib.hid (fun V W g A c h hv => (h.propose2 (by omega) (v := [120]) (n := 1) rfl (by omega) hv (st_x b).1 (st_x b).2.1 (st_x b).2.2).mono fun e W' ⟨A', n, c', h1, h2, h3, h4⟩ => by
    obtain rfl : n = 1 := h2.1.symm
    exact ⟨A', c', h1, h3.more (Mods.refl _ _) (fun _ h => h.elim)⟩)
  have HST : Hid (b ≤ 256) := Lib.hid hb2
  cases stop with
  | true =>
    have HNL : Hid ((st3 b).stop.stage ≠ 2) := Lib.hid (by simp [PLd.stop])
    have HOP : Hid ((st3 b).stop.opens = []) := Lib.hid rfl
    go_enter Try.func7, Try.ntmps7
    go_wp2_with (first
      | (go_at_call 27; have hx := S10.out; clear hx; refine (S10.out.open_ (by omega)).mono ?_; rintro e w11 ⟨A11, n11, c11, L11, rfl, l11, p11, _, m11⟩; obtain rfl : n11 = 0 := by { rw [HOP.out] at l11; rw [← p11.len]; exact congrArg List.length (List.map_eq_nil_iff.1 l11) }; have M11 := Lib.hid (S10.out.m.trans m11); clear l11 p11 m11)
      | (go_at_call 25; have hx := S9.out; clear hx; refine (S9.out.leads).mono ?_; rintro e w10 ⟨he, m10⟩; rw [decide_eq_false HNL.out] at he; subst he; have S10 := Lib.hid (S9.out.nil m10); clear m10 S9)
      | (go_at_call 18; have hx := S8.out; clear hx; refine (S8.out.propose2 (by omega) (v := []) (n := 0) (c := 0) (A := none) rfl (by omega) (Sl.none_ _) (propose_idle HNL.out []).1 (propose_idle HNL.out []).2.1 (propose_idle HNL.out []).2.2).mono ?_; rintro e w9 ⟨A9, n9, c9, rfl, _, s9, _⟩; have S9 := Lib.hid (s9.nil ((Mods.refl Nil w9).alloc (.cells #[.int .u64 0, .int .u64 0, .slice A9 n9 c9] 49))); clear s9 S8)
      | (go_at_call 21; have hx := S7.out; clear hx; refine (S7.out.accepted2 (by omega) (node := 0) (x := b) (s := 0) (by omega) (by omega) (by omega) (by omega) (accept_mute (stop_mute HNL.out 0 b) 0).1 (accept_mute (stop_mute HNL.out 0 b) 0).2).mono ?_; rintro e w8 ⟨A8, n8, c8, he, _, s8, _⟩; replace he : e = .returned (.tuple #[.agg #[.int .u64 0, .int .u64 0, .slice A8 n8 c8], .bool false]) := he; subst he; have S8 := Lib.hid (s8.nil ((Mods.refl Nil w8).alloc (.cells #[.int .u64 0, .int .u64 0, .slice A8 n8 c8] 49))); clear s8 S7)
      | (go_at_call 23; refine (S6.out.stop).mono ?_; rintro e w7 ⟨rfl, s7, m7⟩; have BV7 := Lib.hid (BV6.out.mods m7 (fun hk => hk.2 (.inr ⟨Nat.le_refl _, by simp⟩))); have z7 := BV7.out.cell 0; simp at z7; have S7 := Lib.hid s7; clear s7 m7 S6 BV6)
      | (go_at_call 25; have hx := S5.out; clear hx; refine (S5.out.leads).mono ?_; rintro e w6 ⟨he, m6⟩; replace he : e = .returned (.bool true) := he; subst he; have S6 := Lib.hid (S5.out.nil m6); have BV6 := Lib.hid (BV5.out.mods m6 (fun h => h)); have z6 := BV6.out.cell 0; simp at z6; clear m6 S5 BV5)
      | (go_at_call 18; have hx := S4.out; clear hx; refine (HX.out _ _ _ _ _ (S4.out.nil ((Mods.refl Nil w4).alloc _)) (build_at (n := 1) rfl rfl rfl (by simp [maxLen]))).mono ?_; rintro e w5 ⟨A5, c5, rfl, s5⟩; have S5 := Lib.hid (s5.more ((Mods.refl Nil w5).alloc (.cells #[.int .u64 0, .int .u64 (b : Int), .slice A5 1 c5] 49)) (fun k hk => hk)); have BV5 := Lib.hid (Blk.new w5 49 #[.int .u64 0, .int .u64 (b : Int), .slice A5 1 c5]); clear s5 S4)
      | (go_at_call 14; refine (HP1.out _ _ _ S3.out).mono ?_; rintro e w4 ⟨A4, n4, c4, rfl, s4⟩; have S4 := Lib.hid s4; clear s4 S3)
      | (go_at_call 12; have hx := S2.out; clear hx; refine (HB1.out _ _ _ S2.out).mono ?_; rintro e w3 ⟨rfl, s3⟩; have S3 := Lib.hid s3; clear s3 S2)
      | (go_at_call 10; refine (ldr_new _ (many := 1) (by omega) (by omega)).mono ?_; rintro e w2 ⟨g, rfl, s2⟩; have S2 := Lib.hid s2; clear s2)
      | (go_at_call 9; refine (awake15_any _).mono ?_; rintro e w1 ⟨rfl, m1⟩; have M1 := Lib.hid m1; clear m1))
    go_ret
    exact ⟨rfl, M1.out.trans M11.out⟩
  | false =>
    by_cases hcb : c ≤ b
    · have hcbI : (c : Int) ≤ (b : Int) := by omega
      have hcbJ : ¬ (b : Int) < (c : Int) := by omega
      have HL7 : Hid ((st3 b).begin_ c 0 = st3 b ∧ (st3 b).beginE c = 32) := Lib.hid (by unfold PLd.begin_ PLd.beginE; rw [if_pos (show c ≤ (st3 b).bal from hcb), if_pos (show c ≤ (st3 b).bal from hcb)]; exact ⟨rfl, rfl⟩)
      clear hcb
      go_enter Try.func7, Try.ntmps7
      go_wp2_with (first
        | (go_at_call 21; have hx := S7.out; clear hx; refine (S7.out.accepted2 (by omega) (node := 0) (x := b) (s := 0) (by omega) (by omega) (by omega) (by omega) rfl (st_acc b)).mono ?_; rintro e w8 ⟨A8, n8, c8, he, _, s8, _⟩; replace he : e = .returned (.tuple #[.agg #[.int .u64 0, .int .u64 (b : Int), .slice A8 n8 c8], .bool true]) := he; subst he; have S8 := Lib.hid s8; clear s8 S7)
        | (go_at_call 12; have hx := S6.out; clear hx; refine (S6.out.begin' (x := c) (f := 0) (by omega) (by omega) HL7.out.1 HL7.out.2).mono ?_; rintro e w7 ⟨rfl, s7, m7⟩; have BV7 := Lib.hid (BV6.out.mods m7 (fun hk => hk.2 (.inr ⟨Nat.le_refl _, by simp⟩))); have z7 := BV7.out.cell 0; simp at z7; have S7 := Lib.hid s7; clear s7 m7 S6 BV6)
        | (go_at_call 25; have hx := S5.out; clear hx; refine (S5.out.leads).mono ?_; rintro e w6 ⟨he, m6⟩; replace he : e = .returned (.bool true) := he; subst he; have S6 := Lib.hid (S5.out.nil m6); have BV6 := Lib.hid (BV5.out.mods m6 (fun h => h)); have z6 := BV6.out.cell 0; simp at z6; clear m6 S5 BV5)
        | (go_at_call 18; have hx := S4.out; clear hx; refine (HX.out _ _ _ _ _ (S4.out.nil ((Mods.refl Nil w4).alloc _)) (build_at (n := 1) rfl rfl rfl (by simp [maxLen]))).mono ?_; rintro e w5 ⟨A5, c5, rfl, s5⟩; have S5 := Lib.hid (s5.more ((Mods.refl Nil w5).alloc (.cells #[.int .u64 0, .int .u64 (b : Int), .slice A5 1 c5] 49)) (fun k hk => hk)); have BV5 := Lib.hid (Blk.new w5 49 #[.int .u64 0, .int .u64 (b : Int), .slice A5 1 c5]); clear s5 S4)
        | (go_at_call 14; refine (HP1.out _ _ _ S3.out).mono ?_; rintro e w4 ⟨A4, n4, c4, rfl, s4⟩; have S4 := Lib.hid s4; clear s4 S3)
        | (go_at_call 12; have hx := S2.out; clear hx; refine (HB1.out _ _ _ S2.out).mono ?_; rintro e w3 ⟨rfl, s3⟩; have S3 := Lib.hid s3; clear s3 S2)
        | (go_at_call 10; refine (ldr_new _ (many := 1) (by omega) (by omega)).mono ?_; rintro e w2 ⟨g, rfl, s2⟩; have S2 := Lib.hid s2; clear s2)
        | (go_at_call 9; refine (awake15_any _).mono ?_; rintro e w1 ⟨rfl, m1⟩; have M1 := Lib.hid m1; clear m1))
      go_ret
      exact ⟨rfl, M1.out.trans (S8.out.m.alloc _)⟩
    · have hcbI : ¬ (c : Int) ≤ (b : Int) := by omega
      have hcbJ : (b : Int) < (c : Int) := by omega
      have HL7 : Hid ((st3 b).begin_ c 0 = { many := 1, stage := 1, bal := c } ∧ (st3 b).beginE c = 0) := Lib.hid (by unfold PLd.begin_ PLd.beginE; rw [if_neg (show ¬ c ≤ (st3 b).bal from hcb), if_neg (show ¬ c ≤ (st3 b).bal from hcb)]; exact ⟨rfl, rfl⟩)
      have HNL : Hid (({ many := 1, stage := 1, bal := c } : PLd).stage ≠ 2) := Lib.hid (by simp)
      have HOP : Hid (({ many := 1, stage := 1, bal := c } : PLd).opens = []) := Lib.hid rfl
      clear hcb
      go_enter Try.func7, Try.ntmps7
      go_wp2_with (first
        | (go_at_call 27; have hx := S10.out; clear hx; refine (S10.out.open_ (by omega)).mono ?_; rintro e w11 ⟨A11, n11, c11, L11, rfl, l11, p11, _, m11⟩; obtain rfl : n11 = 0 := by { rw [HOP.out] at l11; rw [← p11.len]; exact congrArg List.length (List.map_eq_nil_iff.1 l11) }; have M11 := Lib.hid (S10.out.m.trans m11); clear l11 p11 m11)
        | (go_at_call 25; have hx := S9.out; clear hx; refine (S9.out.leads).mono ?_; rintro e w10 ⟨he, m10⟩; rw [decide_eq_false HNL.out] at he; subst he; have S10 := Lib.hid (S9.out.nil m10); clear m10 S9)
        | (go_at_call 18; have hx := S8.out; clear hx; refine (S8.out.propose2 (by omega) (v := []) (n := 0) (c := 0) (A := none) rfl (by omega) (Sl.none_ _) (propose_idle HNL.out []).1 (propose_idle HNL.out []).2.1 (propose_idle HNL.out []).2.2).mono ?_; rintro e w9 ⟨A9, n9, c9, rfl, _, s9, _⟩; have S9 := Lib.hid (s9.nil ((Mods.refl Nil w9).alloc (.cells #[.int .u64 0, .int .u64 0, .slice A9 n9 c9] 49))); clear s9 S8)
        | (go_at_call 21; have hx := S7.out; clear hx; refine (S7.out.accepted2 (by omega) (node := 0) (x := b) (s := 0) (by omega) (by omega) (by omega) (by omega) (accept_mute (stop_mute HNL.out 0 b) 0).1 (accept_mute (stop_mute HNL.out 0 b) 0).2).mono ?_; rintro e w8 ⟨A8, n8, c8, he, _, s8, _⟩; replace he : e = .returned (.tuple #[.agg #[.int .u64 0, .int .u64 0, .slice A8 n8 c8], .bool false]) := he; subst he; have S8 := Lib.hid (s8.nil ((Mods.refl Nil w8).alloc (.cells #[.int .u64 0, .int .u64 0, .slice A8 n8 c8] 49))); clear s8 S7)
        | (go_at_call 12; have hx := S6.out; clear hx; refine (S6.out.begin' (x := c) (f := 0) (by omega) (by omega) HL7.out.1 HL7.out.2).mono ?_; rintro e w7 ⟨rfl, s7, m7⟩; have BV7 := Lib.hid (BV6.out.mods m7 (fun hk => hk.2 (.inr ⟨Nat.le_refl _, by simp⟩))); have z7 := BV7.out.cell 0; simp at z7; have S7 := Lib.hid s7; clear s7 m7 S6 BV6)
        | (go_at_call 25; have hx := S5.out; clear hx; refine (S5.out.leads).mono ?_; rintro e w6 ⟨he, m6⟩; replace he : e = .returned (.bool true) := he; subst he; have S6 := Lib.hid (S5.out.nil m6); have BV6 := Lib.hid (BV5.out.mods m6 (fun h => h)); have z6 := BV6.out.cell 0; simp at z6; clear m6 S5 BV5)
        | (go_at_call 18; have hx := S4.out; clear hx; refine (HX.out _ _ _ _ _ (S4.out.nil ((Mods.refl Nil w4).alloc _)) (build_at (n := 1) rfl rfl rfl (by simp [maxLen]))).mono ?_; rintro e w5 ⟨A5, c5, rfl, s5⟩; have S5 := Lib.hid (s5.more ((Mods.refl Nil w5).alloc (.cells #[.int .u64 0, .int .u64 (b : Int), .slice A5 1 c5] 49)) (fun k hk => hk)); have BV5 := Lib.hid (Blk.new w5 49 #[.int .u64 0, .int .u64 (b : Int), .slice A5 1 c5]); clear s5 S4)
        | (go_at_call 14; refine (HP1.out _ _ _ S3.out).mono ?_; rintro e w4 ⟨A4, n4, c4, rfl, s4⟩; have S4 := Lib.hid s4; clear s4 S3)
        | (go_at_call 12; have hx := S2.out; clear hx; refine (HB1.out _ _ _ S2.out).mono ?_; rintro e w3 ⟨rfl, s3⟩; have S3 := Lib.hid s3; clear s3 S2)
        | (go_at_call 10; refine (ldr_new _ (many := 1) (by omega) (by omega)).mono ?_; rintro e w2 ⟨g, rfl, s2⟩; have S2 := Lib.hid s2; clear s2)
        | (go_at_call 9; refine (awake15_any _).mono ?_; rintro e w1 ⟨rfl, m1⟩; have M1 := Lib.hid m1; clear m1))
      go_ret
      exact ⟨rfl, M1.out.trans M11.out⟩
end Go.Proofs.Ytfnecjogiafekaa
