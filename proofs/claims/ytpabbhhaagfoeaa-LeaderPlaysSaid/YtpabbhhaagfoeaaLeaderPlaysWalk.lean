/- LeaderPlays' walk; printed by wip/tools/gen15/plays.py. -/
import Derived.Test.YtpabbhhaagfoeaaPlays15
import Derived.Test.YtpabbhhaagfoeaaLawM15
import Derived.Test.YtpabbhhaagfoeaaLawP15
import Derived.Deep.QuietTactic
import Derived.BigQuiet
import Derived.Deep.RegionHeld
import Derived.Deep.CutRange
import Derived.Deep.CutBlock
namespace Go.Proofs.Ytpabbhhaagfoeaa
set_option maxRecDepth 1000000
open Go.RowKit
set_option linter.unusedVariables false
set_option linter.unusedSimpArgs false

set_option maxHeartbeats 25600000 in
theorem leaderPlays_walk (w : World) {many : Int} (wm : (Lit.int .i64 many).wf = true) {A : Option Addr} {n c : Nat} {ls : List (List Gv)} (h : Acts2 w A n c ks15 ls) :
    Calls Try.prog 3 #[.int .i64 many, .slice A n c] w fun e w' => e = .returned (.bool true) ∧ Mods Nil w w' := by
  have HS := Lib.hid h
  have HW := Lib.hid (i64_of_wf15 wm)
  clear h wm
  by_cases hmany : 1 ≤ many ∧ many ≤ 32
  · obtain ⟨h1, h32⟩ := hmany
    obtain ⟨m, rfl⟩ : ∃ m : Nat, many = (m : Int) := ⟨many.toNat, by omega⟩
    have hm1 : 1 ≤ m := by omega
    have hm32 : m ≤ 32 := by omega
    clear h1 h32
    go_enter Try.func3, Try.ntmps3
    go_wp2_with (first
      | (go_at_call 8; refine (awake15_any _).mono ?_; rintro e w1 ⟨rfl, m1⟩; have M1 := Lib.hid m1; clear m1)
      | (go_at_call 9; refine (ldr_new _ (many := (m : Int)) (by omega) (by omega)).mono ?_; rintro e w2 ⟨b, rfl, s2⟩; rw [show ((m : Int)).toNat = m from rfl] at s2; have S2 := Lib.hid s2; clear s2; have gm1 : (decide ((1 : Int) ≤ (m : Int))) = true := (by simp; omega); have gm2 : (decide ((m : Int) ≤ 32)) = true := (by simp; omega)))
    obtain ⟨W0, hW0⟩ : ∃ W0, w1 = W0 := ⟨_, rfl⟩
    rw [hW0] at M1 S2
    clear gm1 gm2
    obtain ⟨g, hg⟩ : ∃ g, w2.heap.size = g := ⟨_, rfl⟩
    have Q0 : Hid (Q15 W0 (w2.alloc (.cells #[.int .i64 (m : Int), .int .i64 0, .int .u64 0, .int .u64 0, .int .u64 0, .slice none 0 0, .slice none 0 0, .slice none 0 0] 33)) (fun k => k = g) b g { many := m } { many := m } {} [] (4200 * 0) (8 * 0)) := Lib.hid (by
      refine ⟨S2.out.more ((Mods.refl Nil w2).alloc _) (fun k hk => .inr ⟨by omega, by simp; omega⟩), ?_, ⟨RNs.none_ _, RVs.none_ _, ROs.none_ _⟩, ⟨rfl, by rw [← hg]; exact S2.out.m.size⟩, ?_, Nat.le_refl _, Nat.zero_le _⟩
      · rw [← hg]; exact Blk.new w2 _ _
      · exact ⟨fun a ha => (by cases ha), fun a ha => (by cases ha), fun a ha => (by cases ha), fun x hx => (by cases hx)⟩)
    rw [hg]
    clear S2 hg
    go_loopw [9] (fun x wr => ∃ (i : Nat) (X : Nat → Prop) (l : PLd) (p : LdA) (L : List ROp), i ≤ n ∧ i ≤ 40 ∧ x = .int .i64 (i : Int) ∧ Q15 W0 wr X b g l l p L (4200 * i) (8 * i)) (fun x _ => 40 - (intOf x).toNat)
    case atStart => exact ⟨0, _, _, _, _, Nat.zero_le _, Nat.zero_le _, rfl, Q0.out⟩
    case round =>
      clear Q0
      obtain ⟨i, X, l, p, L, hi, hi40, rfl, hq⟩ := hrel
      have HQ := Lib.hid hq
      clear hq
      by_cases hgo : i < n ∧ i < 40
      · obtain ⟨hlt, hlt40⟩ := hgo
        have hltI : decide ((i : Int) < (n : Int)) = true := by simp; omega
        have hltN : decide (i < n) = true := by simp; omega
        have hltL : (i : Int) < (n : Int) := by omega
        have hlt4 : decide ((i : Int) < 40) = true := by simp; omega
        have hlt4N : decide (i < 40) = true := by simp; omega
        obtain ⟨b1, o1, kd, nd, bal, s, lo, B, cb, xs, q, VA, vn, vc, VL, rfl, hb1, ⟨x0, x1, x2, x3, x4, x5, x6⟩, hq, hby, hpv, hnd, hbal, hs64, hlo⟩ := act15_at HS.out (M1.out.trans HQ.out.s.m) hlt
        obtain ⟨gx, hgx⟩ : ∃ gx, wr.heap.size = gx := ⟨_, rfl⟩
        obtain ⟨W1, hW1⟩ : ∃ W, wr.alloc (.cells #[.int .i64 kd, .int .i64 nd, .int .u64 (bal : Int), .int .u64 (s : Int), .int .u64 (lo : Int), .slice B q cb, .slice VA vn vc] 37) = W := ⟨_, rfl⟩
        have m1w : Mods Nil wr W1 := by rw [← hW1]; exact (Mods.refl Nil wr).alloc _
        have hsz1 : W1.heap.size = gx + 1 := by rw [← hW1, World.size_alloc, hgx]
        obtain ⟨X1, hX1⟩ : ∃ X1 : Nat → Prop, LDN X wr W1 = X1 := ⟨_, rfl⟩
        have P1 : Hid (P15 W0 W1 X1 b g l l p L (4200 * i) (8 * i) gx #[.int .i64 kd, .int .i64 nd, .int .u64 (bal : Int), .int .u64 (s : Int), .int .u64 (lo : Int), .slice B q cb, .slice VA vn vc]) := Lib.hid (by
          rw [← hX1]
          exact ⟨HQ.out.more m1w, by rw [← hW1, ← hgx]; exact Blk.new wr _ _, .inr ⟨by omega, by omega⟩⟩)
        have HBY : Hid (∀ V, Mods Nil W0 V → Sl V B cb (bts xs)) := Lib.hid (fun V hV => hby.mods (M1.out.trans hV) (fun _ _ h => h))
        have HPV : Hid (∀ V, Mods Nil W0 V → PVs V (fun _ => True) VA vc vn VL) := Lib.hid (fun V hV => hpv.nil (M1.out.trans hV))
        have HQQ := Lib.hid hq
        have HND := Lib.hid hnd
        have HBAL := Lib.hid (And.intro hbal (And.intro hs64 hlo))
        obtain ⟨y0, y1, y2, y3, y4, y5, y6⟩ := P1.out.ax.seven15
        clear hq hby hpv hnd hbal hs64 hlo hb1 m1w hX1 hsz1
        go_upto_region 13 with (first
          | (go_at_call 10; refine (few15_any _ kd nd bal s lo (L := VL) (HPV.out _ P1.out.q.s.m)).mono ?_; rintro e w3 ⟨r, rfl, hr, m3⟩; have HR := Lib.hid hr; have P3 := Lib.hid (P1.out.nil m3); have M3 := Lib.hid m3; clear hr m3))
        clear y0 y1 y2 y3 y4 y5 y6 x0 x1 x2 x3 x4 x5 x6
        cases r with
        | false =>
          go_wp2
          go_ret
          exact ⟨rfl, M1.out.trans P3.out.q.s.m⟩
        | true =>
        obtain ⟨y0, y1, y2, y3, y4, y5, y6⟩ := P3.out.ax.seven15
        go_upto_block 2 with fail
        go_cut [7, 12, 13, 14, 15, 16, 17, 18, 19, 20, 21, 22, 23, 24, 25, 26, 27] from 61 to 237 (fun s7 s12 s13 s14 s15 s16 s17 s18 s19 s20 s21 s22 s23 s24 s25 s26 s27 wx => ∃ (E : Nat) (X : Nat → Prop) (l : PLd) (p : LdA) (L : List ROp), s7 = .int .i64 (E : Int) ∧ s12 = .int .i64 (E : Int) ∧ Q15 W0 wx X b g l l p L (4200 * (i + 1)) (8 * (i + 1)))
        case first =>
          obtain ⟨u, hu⟩ : ∃ u, bits .and .i64 kd 7 = u := ⟨_, rfl⟩
          by_cases hu0 : u = 0
          · subst hu0
            as_aux_lemma =>
              obtain ⟨l9, hl9⟩ : ∃ x, l.begin_ bal s = x := ⟨_, rfl⟩
              obtain ⟨E, hE⟩ : ∃ x, l.beginE bal = x := ⟨_, rfl⟩
              obtain ⟨p9, hp9⟩ : ∃ x, (if bal ≤ l.bal then p else ({} : LdA)) = x := ⟨_, rfl⟩
              obtain ⟨L9, g1, g2, g3, g4⟩ := rl_begin (L := L) hl9 hp9
              have G := Lib.hid (And.intro g1 (And.intro g2 (And.intro g3 g4)))
              have HC := Lib.hid (P3.out.q.s.begin' HBAL.out.1 HBAL.out.2.1 hl9 hE)
              have HRF : Hid (∀ V, Calls Try.prog 12 #[.agg (ldC l p), .int .u64 (bal : Int), .int .u64 (s : Int)] V fun e W' => e = .returned (.tuple #[.agg (ldC l9 p9), .int .i64 (E : Int)]) ∧ Mods Nil V W') := Lib.hid (fun V => by
                have h := r15begin_any V l p bal s
                unfold RBeg at h
                rw [hl9, hE, hp9] at h
                exact h)
              clear hl9 hE hp9 g1 g2 g3 g4
              go_wp2_with (first
                | (go_at_call 12; refine (HRF.out _).mono ?_; rintro e w5 ⟨rfl, m5⟩; have P5 := Lib.hid (P4.out.nil m5); clear m5)
                | (go_at_call 11; refine (HC.out).mono ?_; rintro e w4 ⟨rfl, s4, m4⟩; have P4 := Lib.hid (P3.out.call s4 (fun _ h => h) m4); clear y0 y1 y2 y3 y4 y5 y6; obtain ⟨y0, y1, y2, y3, y4, y5, y6⟩ := P4.out.ax.seven15; obtain ⟨k0, k1, k2, k3, k4, k5, k6, k7⟩ := P4.out.q.box.eight; clear s4 m4)
                | (refine wpList_store_mk rfl 33 (.tmp 8) (.tmp 106) rfl rfl g rfl 33 (ldC l p) (ldC l9 p9) rfl P5.out.q.box rfl (by simp [Value.oneCell']) ld_info (by simp [Value.cells]) ?_; intro w6 b6 m6; have P6 := Lib.hid (P5.out.put (U' := 8 * i) (G.out.1 _ P5.out.q.r) (G.out.2.1 _ P5.out.q.xa) (by have := P5.out.q.kn; have := G.out.2.2.1; omega) (by have := P5.out.q.on; have := G.out.2.2.2; omega) b6 m6); clear b6 m6))
              go_meet
              case rel => exact ⟨E, X1, l9, p9, L9, rfl, rfl, P6.out.q.mono (by omega) (by omega)⟩
          have hu0I : (u == 0) = false := by rw [beq_eq_false_iff_ne]; exact hu0
          by_cases hu1 : u = 1
          · subst hu1
            as_aux_lemma =>
              obtain ⟨l9, hl9⟩ : ∃ x, l.begin_ bal s = x := ⟨_, rfl⟩
              obtain ⟨E, hE⟩ : ∃ x, l.beginE bal = x := ⟨_, rfl⟩
              obtain ⟨p9, hp9⟩ : ∃ x, (if bal ≤ l.bal then p else ({} : LdA)) = x := ⟨_, rfl⟩
              obtain ⟨L9, g1, g2, g3, g4⟩ := rl_begin (L := L) hl9 hp9
              have G := Lib.hid (And.intro g1 (And.intro g2 (And.intro g3 g4)))
              have HC := Lib.hid (P3.out.q.s.begin' HBAL.out.1 HBAL.out.2.1 hl9 hE)
              have HRF : Hid (∀ V, Calls Try.prog 12 #[.agg (ldC l p), .int .u64 (bal : Int), .int .u64 (s : Int)] V fun e W' => e = .returned (.tuple #[.agg (ldC l9 p9), .int .i64 (E : Int)]) ∧ Mods Nil V W') := Lib.hid (fun V => by
                have h := r15begin_any V l p bal s
                unfold RBeg at h
                rw [hl9, hE, hp9] at h
                exact h)
              clear hl9 hE hp9 g1 g2 g3 g4
              go_wp2_with (first
                | (go_at_call 12; refine (HRF.out _).mono ?_; rintro e w5 ⟨rfl, m5⟩; have P5 := Lib.hid (P4.out.nil m5); clear m5)
                | (go_at_call 11; refine (HC.out).mono ?_; rintro e w4 ⟨rfl, s4, m4⟩; have P4 := Lib.hid (P3.out.call s4 (fun _ h => h) m4); clear y0 y1 y2 y3 y4 y5 y6; obtain ⟨y0, y1, y2, y3, y4, y5, y6⟩ := P4.out.ax.seven15; obtain ⟨k0, k1, k2, k3, k4, k5, k6, k7⟩ := P4.out.q.box.eight; clear s4 m4)
                | (refine wpList_store_mk rfl 33 (.tmp 8) (.tmp 106) rfl rfl g rfl 33 (ldC l p) (ldC l9 p9) rfl P5.out.q.box rfl (by simp [Value.oneCell']) ld_info (by simp [Value.cells]) ?_; intro w6 b6 m6; have P6 := Lib.hid (P5.out.put (U' := 8 * i) (G.out.1 _ P5.out.q.r) (G.out.2.1 _ P5.out.q.xa) (by have := P5.out.q.kn; have := G.out.2.2.1; omega) (by have := P5.out.q.on; have := G.out.2.2.2; omega) b6 m6); clear b6 m6))
              go_meet
              case rel => exact ⟨E, X1, l9, p9, L9, rfl, rfl, P6.out.q.mono (by omega) (by omega)⟩
          have hu1I : (u == 1) = false := by rw [beq_eq_false_iff_ne]; exact hu1
          by_cases hu2 : u = 2
          · subst hu2
            as_aux_lemma =>
              obtain ⟨vp, hvp⟩ : ∃ x, VL.map VtP.plain = x := ⟨_, rfl⟩
              obtain ⟨l9, hl9⟩ : ∃ x, l.promise nd bal lo vp = x := ⟨_, rfl⟩
              obtain ⟨v9, hv9⟩ : ∃ x, l.promV nd bal lo vp = x := ⟨_, rfl⟩
              obtain ⟨r9, hr9⟩ : ∃ x, l.promB nd bal lo vp = x := ⟨_, rfl⟩
              have hfew := HR.out rfl
              have HFW := Lib.hid hfew
              have HC := Lib.hid (P3.out.q.s.promise2 (by omega) HND.out.1 HND.out.2 HBAL.out.1 HBAL.out.2.2 (HPV.out _ P3.out.q.s.m) (by omega) (fun y hy => by have := hfew.2.2 y hy; omega) (l' := l9) (told := v9) (r := r9) (by rw [hvp]; exact hl9) (by rw [hvp]; exact hv9) (by rw [hvp]; exact hr9) rfl)
              have hgood := P3.out.q.s.good
              have HRF : Hid (∀ V A c n, RL V l p L → RVs V A c n vp → n = vn → Calls Try.prog 14 #[.agg (ldC l p), .int .i64 nd, .int .u64 (bal : Int), .int .u64 (lo : Int), .slice A n c] V fun e W' => ∃ p9 L9 A9 c9 n9, e = .returned (.tuple #[.agg (ldC l9 p9), .slice A9 n9 c9, .bool r9]) ∧ RL W' l9 p9 L9 ∧ RVs W' A9 c9 n9 v9 ∧ p9.kn ≤ p.kn + vn ∧ p9.on ≤ 4096 + 8 * i ∧ p9.in_ L9 (LDN X1 V W') ∧ Mods Nil V W') := Lib.hid (fun V A c n hV hv hn => by
                have hvs : ∀ v ∈ vp, v.slot < 18446744073709551616 ∧ v.bal < 18446744073709551616 := by
                  intro v hv
                  rw [← hvp] at hv
                  obtain ⟨y, hy, rfl⟩ := List.mem_map.1 hv
                  have := (HPV.out _ P3.out.q.s.m).bys y hy
                  exact ⟨this.2.2.1, this.2.2.2⟩
                have h := r15promise_any V l p hV hgood (by have := pn_good hV hgood; omega) (by have := P3.out.q.kn; omega) (by have := P3.out.q.on; omega) nd bal lo HBAL.out.2.2 hv (by have := hfew.1; omega) hvs
                unfold RPrm at h
                rw [hl9, hv9, hr9] at h
                refine h.mono fun e W' ⟨p9, L9, A9, c9, n9, h1, h2, h3, ⟨h4, h5, h6⟩, g1, g2, g3, g4, h7⟩ => ?_
                exact ⟨p9, L9, A9, c9, n9, h1, h2, h3, by rw [hn] at h5; exact h5, on_promise (n := 0) hV hgood nd bal lo vp h2 hl9 h6 P3.out.q.on, in_old P3.out.q.xa g1 g2 g3 g4 h2, h7⟩)
              have HVL : Hid (v9.length ≤ l9.opn.length) := Lib.hid (by rw [← hv9, ← hl9]; exact promV_len _ _ _ _ _)
              have HVP := Lib.hid hvp
              clear hvp hl9 hv9 hr9 hfew hgood
              go_upto_region 27 with (first
                | (go_at_call 13; refine (HC.out).mono ?_; rintro e w4 ⟨A4, n4, c4, M4, rfl, hm4, v4, s4, m4⟩; have P4 := Lib.hid (P3.out.call s4 (fun _ h => h) m4); have HM4 := Lib.hid hm4; have V4 := Lib.hid v4; clear y0 y1 y2 y3 y4 y5 y6; clear s4 m4 hm4 v4))
              have HPV4 := Lib.hid (HPV.out _ P4.out.q.s.m)
              go_cut [15, 16, 17] from 61 to 237 (fun s15 s16 s17 wx => ∃ (g15 : Nat) (p9 : LdA) (L9 : List ROp) (A9 : Option Addr) (c9 n9 : Nat), s15 = .pointer (some ⟨g15, 0, none⟩) ∧ s16 = .slice A9 n9 c9 ∧ s17 = .bool r9 ∧ Hid (Blk wx g15 33 (ldC l9 p9)) ∧ Hid (RL wx l9 p9 L9) ∧ Hid (RVs wx A9 c9 n9 v9) ∧ Hid (p9.kn ≤ p.kn + vn) ∧ Hid (p9.on ≤ 4096 + 8 * i) ∧ Hid (p9.in_ L9 (LDN X1 w4 wx)) ∧ Hid (Mods Nil w4 wx))
              case first =>
                have HP4V := Lib.hid (fun V (hV : Mods Nil w4 V) => P4.out.nil hV)
                have t0 := fun V (hV : Mods Nil w4 V) => (HP4V.out V hV).q.box.eight.1
                have t1 := fun V (hV : Mods Nil w4 V) => (HP4V.out V hV).q.box.eight.2.1
                have t2 := fun V (hV : Mods Nil w4 V) => (HP4V.out V hV).q.box.eight.2.2.1
                have t3 := fun V (hV : Mods Nil w4 V) => (HP4V.out V hV).q.box.eight.2.2.2.1
                have t4 := fun V (hV : Mods Nil w4 V) => (HP4V.out V hV).q.box.eight.2.2.2.2.1
                have t5 := fun V (hV : Mods Nil w4 V) => (HP4V.out V hV).q.box.eight.2.2.2.2.2.1
                have t6 := fun V (hV : Mods Nil w4 V) => (HP4V.out V hV).q.box.eight.2.2.2.2.2.2.1
                have t7 := fun V (hV : Mods Nil w4 V) => (HP4V.out V hV).q.box.eight.2.2.2.2.2.2.2
                have z1 := fun V (hV : Mods Nil w4 V) => (HP4V.out V hV).ax.seven15.2.1
                have z2 := fun V (hV : Mods Nil w4 V) => (HP4V.out V hV).ax.seven15.2.2.1
                have z4 := fun V (hV : Mods Nil w4 V) => (HP4V.out V hV).ax.seven15.2.2.2.2.1
                have z6 := fun V (hV : Mods Nil w4 V) => (HP4V.out V hV).ax.seven15.2.2.2.2.2.2
                refine qk_region (S := fun V => Mods Nil w4 V) (k := 16) 19 (by kernel_rfl) rfl ?_
                have hS0 : Mods Nil w4 w4.drew := (Mods.refl Nil w4).drew
                refine qk_ahead 0 18 _ _ rfl (by kernel_rfl) (by kernel_rfl) (by kernel_rfl) (by kernel_rfl) (by kernel_rfl) (fun _ _ _ h => h) rfl (by rfl) (v := ?_) ?_ hS0 ?_
                rotate_left
                · intro V hV
                  obtain ⟨x0, x1, x2, x3, x4, x5, x6, x7⟩ := (HP4V.out V hV).q.box.eight
                  obtain ⟨z0, z1, z2, z3, z4, z5, z6⟩ := (HP4V.out V hV).ax.seven15
                  go_simp
                  try with_reducible rfl
                simp only [List.getElem_toArray, List.getElem_cons_succ, List.getElem_cons_zero, Act.put, List.setIfInBounds_toArray, List.set_cons_zero, List.set_cons_succ]
                refine qk_ahead 1 17 _ _ rfl (by kernel_rfl) (by kernel_rfl) (by kernel_rfl) (by kernel_rfl) (by kernel_rfl) (fun _ _ _ h => h) rfl (by rfl) (v := ?_) ?_ hS0 ?_
                rotate_left
                · intro V hV
                  obtain ⟨x0, x1, x2, x3, x4, x5, x6, x7⟩ := (HP4V.out V hV).q.box.eight
                  obtain ⟨z0, z1, z2, z3, z4, z5, z6⟩ := (HP4V.out V hV).ax.seven15
                  go_simp
                  try with_reducible rfl
                simp only [List.getElem_toArray, List.getElem_cons_succ, List.getElem_cons_zero, Act.put, List.setIfInBounds_toArray, List.set_cons_zero, List.set_cons_succ]
                refine qk_ahead 2 16 _ _ rfl (by kernel_rfl) (by kernel_rfl) (by kernel_rfl) (by kernel_rfl) (by kernel_rfl) (fun _ _ _ h => h) rfl (by rfl) (v := ?_) ?_ hS0 ?_
                rotate_left
                · intro V hV
                  obtain ⟨x0, x1, x2, x3, x4, x5, x6, x7⟩ := (HP4V.out V hV).q.box.eight
                  obtain ⟨z0, z1, z2, z3, z4, z5, z6⟩ := (HP4V.out V hV).ax.seven15
                  go_simp
                  try with_reducible rfl
                simp only [List.getElem_toArray, List.getElem_cons_succ, List.getElem_cons_zero, Act.put, List.setIfInBounds_toArray, List.set_cons_zero, List.set_cons_succ]
                refine qk_ahead 3 15 _ _ rfl (by kernel_rfl) (by kernel_rfl) (by kernel_rfl) (by kernel_rfl) (by kernel_rfl) (fun _ _ _ h => h) rfl (by rfl) (v := ?_) ?_ hS0 ?_
                rotate_left
                · intro V hV
                  obtain ⟨x0, x1, x2, x3, x4, x5, x6, x7⟩ := (HP4V.out V hV).q.box.eight
                  obtain ⟨z0, z1, z2, z3, z4, z5, z6⟩ := (HP4V.out V hV).ax.seven15
                  go_simp
                  try with_reducible rfl
                simp only [List.getElem_toArray, List.getElem_cons_succ, List.getElem_cons_zero, Act.put, List.setIfInBounds_toArray, List.set_cons_zero, List.set_cons_succ]
                refine qk_ahead 4 14 _ _ rfl (by kernel_rfl) (by kernel_rfl) (by kernel_rfl) (by kernel_rfl) (by kernel_rfl) (fun _ _ _ h => h) rfl (by rfl) (v := ?_) ?_ hS0 ?_
                rotate_left
                · intro V hV
                  obtain ⟨x0, x1, x2, x3, x4, x5, x6, x7⟩ := (HP4V.out V hV).q.box.eight
                  obtain ⟨z0, z1, z2, z3, z4, z5, z6⟩ := (HP4V.out V hV).ax.seven15
                  go_simp
                  try with_reducible rfl
                simp only [List.getElem_toArray, List.getElem_cons_succ, List.getElem_cons_zero, Act.put, List.setIfInBounds_toArray, List.set_cons_zero, List.set_cons_succ]
                refine qk_ahead 5 13 _ _ rfl (by kernel_rfl) (by kernel_rfl) (by kernel_rfl) (by kernel_rfl) (by kernel_rfl) (fun _ _ _ h => h) rfl (by rfl) (v := ?_) ?_ hS0 ?_
                rotate_left
                · intro V hV
                  obtain ⟨x0, x1, x2, x3, x4, x5, x6, x7⟩ := (HP4V.out V hV).q.box.eight
                  obtain ⟨z0, z1, z2, z3, z4, z5, z6⟩ := (HP4V.out V hV).ax.seven15
                  go_simp
                  try with_reducible rfl
                simp only [List.getElem_toArray, List.getElem_cons_succ, List.getElem_cons_zero, Act.put, List.setIfInBounds_toArray, List.set_cons_zero, List.set_cons_succ]
                refine qk_ahead 6 12 _ _ rfl (by kernel_rfl) (by kernel_rfl) (by kernel_rfl) (by kernel_rfl) (by kernel_rfl) (fun _ _ _ h => h) rfl (by rfl) (v := ?_) ?_ hS0 ?_
                rotate_left
                · intro V hV
                  obtain ⟨x0, x1, x2, x3, x4, x5, x6, x7⟩ := (HP4V.out V hV).q.box.eight
                  obtain ⟨z0, z1, z2, z3, z4, z5, z6⟩ := (HP4V.out V hV).ax.seven15
                  go_simp
                  try with_reducible rfl
                simp only [List.getElem_toArray, List.getElem_cons_succ, List.getElem_cons_zero, Act.put, List.setIfInBounds_toArray, List.set_cons_zero, List.set_cons_succ]
                refine qk_ahead 7 11 _ _ rfl (by kernel_rfl) (by kernel_rfl) (by kernel_rfl) (by kernel_rfl) (by kernel_rfl) (fun _ _ _ h => h) rfl (by rfl) (v := ?_) ?_ hS0 ?_
                rotate_left
                · intro V hV
                  obtain ⟨x0, x1, x2, x3, x4, x5, x6, x7⟩ := (HP4V.out V hV).q.box.eight
                  obtain ⟨z0, z1, z2, z3, z4, z5, z6⟩ := (HP4V.out V hV).ax.seven15
                  go_simp
                  try with_reducible rfl
                simp only [List.getElem_toArray, List.getElem_cons_succ, List.getElem_cons_zero, Act.put, List.setIfInBounds_toArray, List.set_cons_zero, List.set_cons_succ]
                refine qk_ahead 8 10 _ _ rfl (by kernel_rfl) (by kernel_rfl) (by kernel_rfl) (by kernel_rfl) (by kernel_rfl) (fun _ _ _ h => h) rfl (by rfl) (v := ?_) ?_ hS0 ?_
                rotate_left
                · intro V hV
                  obtain ⟨x0, x1, x2, x3, x4, x5, x6, x7⟩ := (HP4V.out V hV).q.box.eight
                  obtain ⟨z0, z1, z2, z3, z4, z5, z6⟩ := (HP4V.out V hV).ax.seven15
                  go_simp
                  try with_reducible rfl
                simp only [List.getElem_toArray, List.getElem_cons_succ, List.getElem_cons_zero, Act.put, List.setIfInBounds_toArray, List.set_cons_zero, List.set_cons_succ]
                refine qk_two 9 15 9 _ _ _ rfl rfl (by kernel_rfl) rfl rfl (by rfl) (by rfl) _ _ (v2 := .pointer (some ⟨w4.heap.size, 0, none⟩)) (w2 := w4.drew.alloc (.cells #[.int .i64 0, .int .i64 0, .int .u64 0, .int .u64 0, .int .u64 0, .slice none 0 0, .slice none 0 0, .slice none 0 0] 33)) ?_ ?_ (hS0.alloc _) ((votes15_any w4.drew (HPV4.out.nil hS0) (by have := HFW.out.1; omega)).mono ?_) ?_
                · go_simp
                · go_simp
                  try with_reducible rfl
                · rintro e z1' ⟨A6, c6, rfl, r6, -, y1⟩
                  rw [HVP.out] at r6
                  have hz1 := hS0.trans y1
                  have RZ := Lib.hid r6
                  clear r6
                  refine ⟨_, rfl, hz1, ?_⟩
                  simp only [List.getElem_toArray, List.getElem_cons_succ, List.getElem_cons_zero, Act.put, List.setIfInBounds_toArray, List.set_cons_zero, List.set_cons_succ]
                  refine qk_two 10 15 8 _ _ _ rfl rfl (by kernel_rfl) rfl rfl (by rfl) (by rfl) _ _ (v2 := .pointer (some ⟨z1'.heap.size, 0, none⟩)) (w2 := z1'.alloc (.cells #[.int .i64 0, .int .i64 0, .int .u64 0, .int .u64 0, .int .u64 0, .slice none 0 0, .slice none 0 0, .slice none 0 0] 33)) ?_ ?_ (hz1.alloc _) ((HRF.out z1' _ _ _ (P4.out.nil hz1).q.r RZ.out rfl).mono ?_) ?_
                  · go_simp
                  · go_simp
                    try with_reducible rfl
                  · as_aux_lemma =>
                      rintro e z2' ⟨p9, L9, A9, c9, n9, rfl, hr9, hv9, hk9, ho9, hx9, y2⟩
                      have R9 := Lib.hid hr9
                      have V9 := Lib.hid hv9
                      have K9 := Lib.hid hk9
                      have O9 := Lib.hid ho9
                      have hz2 := hz1.trans y2
                      have X9 : Hid (p9.in_ L9 (LDN X1 w4 z2')) := Lib.hid (hx9.sub (fun k hk => by
                        rcases hk with h | h
                        · exact .inl h
                        · exact .inr ⟨Nat.le_trans hz1.size h.1, h.2⟩))
                      clear hr9 hv9 hk9 ho9 hx9
                      refine ⟨_, rfl, hz2, ?_⟩
                      simp only [List.getElem_toArray, List.getElem_cons_succ, List.getElem_cons_zero, Act.put, List.setIfInBounds_toArray, List.set_cons_zero, List.set_cons_succ]
                      refine qk_takeL 11 7 _ _ rfl (by kernel_rfl) (by kernel_rfl) (by kernel_rfl) (by decide) (fun _ _ _ h => h) rfl (by rfl) (v := ?_) ?_ hz2 ?_
                      rotate_left
                      · intro V
                        go_simp
                        try with_reducible rfl
                      simp only [List.getElem_toArray, List.getElem_cons_succ, List.getElem_cons_zero, Act.put, List.setIfInBounds_toArray, List.set_cons_zero, List.set_cons_succ]
                      refine qk_takeL 12 6 _ _ rfl (by kernel_rfl) (by kernel_rfl) (by kernel_rfl) (by decide) (fun _ _ _ h => h) rfl (by rfl) (v := ?_) ?_ hz2 ?_
                      rotate_left
                      · intro V
                        go_simp
                        try with_reducible rfl
                      simp only [List.getElem_toArray, List.getElem_cons_succ, List.getElem_cons_zero, Act.put, List.setIfInBounds_toArray, List.set_cons_zero, List.set_cons_succ]
                      refine qk_takeL 13 5 _ _ rfl (by kernel_rfl) (by kernel_rfl) (by kernel_rfl) (by decide) (fun _ _ _ h => h) rfl (by rfl) (v := ?_) ?_ hz2 ?_
                      rotate_left
                      · intro V
                        go_simp
                        try with_reducible rfl
                      simp only [List.getElem_toArray, List.getElem_cons_succ, List.getElem_cons_zero, Act.put, List.setIfInBounds_toArray, List.set_cons_zero, List.set_cons_succ]
                      refine qk_takeL 14 4 _ _ rfl (by kernel_rfl) (by kernel_rfl) (by kernel_rfl) (by decide) (fun _ _ _ h => h) rfl (by rfl) (v := ?_) ?_ hz2 ?_
                      rotate_left
                      · intro V
                        go_simp
                        try with_reducible rfl
                      simp only [List.getElem_toArray, List.getElem_cons_succ, List.getElem_cons_zero, Act.put, List.setIfInBounds_toArray, List.set_cons_zero, List.set_cons_succ]
                      refine qk_makesL 15 3 _ _ rfl (by kernel_rfl) rfl (by rfl) (v := .pointer (some ⟨z2'.heap.size, 0, none⟩)) (w' := z2'.alloc (.cells #[.int .i64 0, .int .i64 0, .int .u64 0, .int .u64 0, .int .u64 0, .slice none 0 0, .slice none 0 0, .slice none 0 0] 33)) ?_ (hz2.alloc _) ?_
                      · go_simp
                        try with_reducible rfl
                      simp only [List.getElem_toArray, List.getElem_cons_succ, List.getElem_cons_zero, Act.put, List.setIfInBounds_toArray, List.set_cons_zero, List.set_cons_succ]
                      refine qk_restL 2 _ (by kernel_rfl) (by decide) (by kernel_rfl) ?_
                      refine qt_list 16 3 rfl (by kernel_rfl) ?_
                      simp only [List.drop_succ_cons, List.drop_zero]
                      clear t0 t1 t2 t3 t4 t5 t6 t7 z1 z2 z4 z6
                      have mz : Mods Nil z2' (z2'.alloc (.cells (ldC l9 p9) 33)) := (Mods.refl Nil z2').alloc _
                      go_wp2_with fail
                      go_meet
                      case rel => exact ⟨z2'.heap.size, p9, L9, A9, c9, n9, rfl, rfl, rfl, Lib.hid (Blk.new z2' _ _), Lib.hid (R9.out.nil mz), Lib.hid (V9.out.nil mz), K9, O9, Lib.hid (X9.out.sub (fun k hk => by
                        rcases hk with h | h
                        · exact .inl h
                        · exact .inr ⟨h.1, Nat.lt_of_lt_of_le h.2 mz.size⟩)), Lib.hid (hz2.trans mz)⟩
                  · as_aux_lemma =>
                      simp only [List.getElem_toArray, List.getElem_cons_succ, List.getElem_cons_zero, Act.put, List.setIfInBounds_toArray, List.set_cons_zero, List.set_cons_succ]
                      refine qk_callL 10 7 _ _ rfl (by kernel_rfl) rfl (by rfl) _ _ ?_ ((HRF.out (z1'.alloc (.cells #[.int .i64 0, .int .i64 0, .int .u64 0, .int .u64 0, .int .u64 0, .slice none 0 0, .slice none 0 0, .slice none 0 0] 33)) _ _ _ (P4.out.nil (hz1.alloc _)).q.r (RZ.out.nil ((Mods.refl Nil z1').alloc _)) rfl).mono ?_)
                      · go_simp
                      rintro e z2' ⟨p9, L9, A9, c9, n9, rfl, hr9, hv9, hk9, ho9, hx9, y2⟩
                      have hb := (Blk.new z1' 33 #[.int .i64 0, .int .i64 0, .int .u64 0, .int .u64 0, .int .u64 0, .slice none 0 0, .slice none 0 0, .slice none 0 0]).mods y2 (fun h => h)
                      have hgb : w4.heap.size ≤ z1'.heap.size := hz1.size
                      have R9 := Lib.hid hr9
                      have V9 := Lib.hid hv9
                      have K9 := Lib.hid hk9
                      have O9 := Lib.hid ho9
                      have hz2 := (hz1.alloc _).trans y2
                      have X9 : Hid (p9.in_ L9 (LDN X1 w4 z2')) := Lib.hid (hx9.sub (fun k hk => by
                        rcases hk with h | h
                        · exact .inl h
                        · exact .inr ⟨Nat.le_trans (hz1.alloc _).size h.1, h.2⟩))
                      clear hr9 hv9 hk9 ho9 hx9
                      refine ⟨_, rfl, hz2, ?_⟩
                      simp only [List.getElem_toArray, List.getElem_cons_succ, List.getElem_cons_zero, Act.put, List.setIfInBounds_toArray, List.set_cons_zero, List.set_cons_succ]
                      refine qk_takeL 11 6 _ _ rfl (by kernel_rfl) (by kernel_rfl) (by kernel_rfl) (by decide) (fun _ _ _ h => h) rfl (by rfl) (v := ?_) ?_ hz2 ?_
                      rotate_left
                      · intro V
                        go_simp
                        try with_reducible rfl
                      simp only [List.getElem_toArray, List.getElem_cons_succ, List.getElem_cons_zero, Act.put, List.setIfInBounds_toArray, List.set_cons_zero, List.set_cons_succ]
                      refine qk_takeL 12 5 _ _ rfl (by kernel_rfl) (by kernel_rfl) (by kernel_rfl) (by decide) (fun _ _ _ h => h) rfl (by rfl) (v := ?_) ?_ hz2 ?_
                      rotate_left
                      · intro V
                        go_simp
                        try with_reducible rfl
                      simp only [List.getElem_toArray, List.getElem_cons_succ, List.getElem_cons_zero, Act.put, List.setIfInBounds_toArray, List.set_cons_zero, List.set_cons_succ]
                      refine qk_takeL 13 4 _ _ rfl (by kernel_rfl) (by kernel_rfl) (by kernel_rfl) (by decide) (fun _ _ _ h => h) rfl (by rfl) (v := ?_) ?_ hz2 ?_
                      rotate_left
                      · intro V
                        go_simp
                        try with_reducible rfl
                      simp only [List.getElem_toArray, List.getElem_cons_succ, List.getElem_cons_zero, Act.put, List.setIfInBounds_toArray, List.set_cons_zero, List.set_cons_succ]
                      refine qk_takeL 14 3 _ _ rfl (by kernel_rfl) (by kernel_rfl) (by kernel_rfl) (by decide) (fun _ _ _ h => h) rfl (by rfl) (v := ?_) ?_ hz2 ?_
                      rotate_left
                      · intro V
                        go_simp
                        try with_reducible rfl
                      simp only [List.getElem_toArray, List.getElem_cons_succ, List.getElem_cons_zero, Act.put, List.setIfInBounds_toArray, List.set_cons_zero, List.set_cons_succ]
                      refine qk_restL 2 _ (by kernel_rfl) (by decide) (by kernel_rfl) ?_
                      refine qt_list 16 3 rfl (by kernel_rfl) ?_
                      simp only [List.drop_succ_cons, List.drop_zero]
                      clear t0 t1 t2 t3 t4 t5 t6 t7 z1 z2 z4 z6
                      go_wp2_with (first
                        | (refine wpList_store_mk rfl 33 (.tmp 15) (.tmp 136) rfl rfl z1'.heap.size rfl 33 (#[.int .i64 0, .int .i64 0, .int .u64 0, .int .u64 0, .int .u64 0, .slice none 0 0, .slice none 0 0, .slice none 0 0]) (ldC l9 p9) rfl hb rfl (by simp [Value.oneCell']) ld_info (by simp [Value.cells]) ?_; intro w8 b6 m6))
                      go_meet
                      case rel => exact ⟨z1'.heap.size, p9, L9, A9, c9, n9, rfl, rfl, rfl, Lib.hid b6, Lib.hid (R9.out.mods m6 (R9.out.offBox hb)), Lib.hid (V9.out.mods m6 (fun x hx e => by obtain ⟨cs, hc⟩ := V9.out.ty x hx; exact hc.ne_ hb (by decide) e)), K9, O9, Lib.hid (X9.out.sub (fun k hk => by
                        rcases hk with h | h
                        · exact .inl h
                        · exact .inr ⟨h.1, Nat.lt_of_lt_of_le h.2 m6.size⟩)), Lib.hid (Mods.trans2 hz2 m6 (fun k hk hT => by have := hgb; omega))⟩
                · as_aux_lemma =>
                    simp only [List.getElem_toArray, List.getElem_cons_succ, List.getElem_cons_zero, Act.put, List.setIfInBounds_toArray, List.set_cons_zero, List.set_cons_succ]
                    refine qk_callL 9 8 _ _ rfl (by kernel_rfl) rfl (by rfl) _ _ ?_ ((votes15_any (w4.drew.alloc (.cells #[.int .i64 0, .int .i64 0, .int .u64 0, .int .u64 0, .int .u64 0, .slice none 0 0, .slice none 0 0, .slice none 0 0] 33)) (HPV4.out.nil (hS0.alloc _)) (by have := HFW.out.1; omega)).mono ?_)
                    · go_simp
                    rintro e z1' ⟨A6, c6, rfl, r6, -, y1⟩
                    rw [HVP.out] at r6
                    have hb1 := (Blk.new w4.drew 33 #[.int .i64 0, .int .i64 0, .int .u64 0, .int .u64 0, .int .u64 0, .slice none 0 0, .slice none 0 0, .slice none 0 0]).mods y1 (fun h => h)
                    have hz1 := (hS0.alloc _).trans y1
                    have RZ := Lib.hid r6
                    clear r6
                    refine ⟨_, rfl, hz1, ?_⟩
                    simp only [List.getElem_toArray, List.getElem_cons_succ, List.getElem_cons_zero, Act.put, List.setIfInBounds_toArray, List.set_cons_zero, List.set_cons_succ]
                    refine qk_callL 10 7 _ _ rfl (by kernel_rfl) rfl (by rfl) _ _ ?_ ((HRF.out z1' _ _ _ (P4.out.nil hz1).q.r RZ.out rfl).mono ?_)
                    · go_simp
                    rintro e z2' ⟨p9, L9, A9, c9, n9, rfl, hr9, hv9, hk9, ho9, hx9, y2⟩
                    have hb := hb1.mods y2 (fun h => h)
                    have hgb : w4.heap.size ≤ w4.drew.heap.size := Nat.le_refl _
                    have R9 := Lib.hid hr9
                    have V9 := Lib.hid hv9
                    have K9 := Lib.hid hk9
                    have O9 := Lib.hid ho9
                    have hz2 := hz1.trans y2
                    have X9 : Hid (p9.in_ L9 (LDN X1 w4 z2')) := Lib.hid (hx9.sub (fun k hk => by
                      rcases hk with h | h
                      · exact .inl h
                      · exact .inr ⟨Nat.le_trans hz1.size h.1, h.2⟩))
                    clear hr9 hv9 hk9 ho9 hx9
                    refine ⟨_, rfl, hz2, ?_⟩
                    simp only [List.getElem_toArray, List.getElem_cons_succ, List.getElem_cons_zero, Act.put, List.setIfInBounds_toArray, List.set_cons_zero, List.set_cons_succ]
                    refine qk_takeL 11 6 _ _ rfl (by kernel_rfl) (by kernel_rfl) (by kernel_rfl) (by decide) (fun _ _ _ h => h) rfl (by rfl) (v := ?_) ?_ hz2 ?_
                    rotate_left
                    · intro V
                      go_simp
                      try with_reducible rfl
                    simp only [List.getElem_toArray, List.getElem_cons_succ, List.getElem_cons_zero, Act.put, List.setIfInBounds_toArray, List.set_cons_zero, List.set_cons_succ]
                    refine qk_takeL 12 5 _ _ rfl (by kernel_rfl) (by kernel_rfl) (by kernel_rfl) (by decide) (fun _ _ _ h => h) rfl (by rfl) (v := ?_) ?_ hz2 ?_
                    rotate_left
                    · intro V
                      go_simp
                      try with_reducible rfl
                    simp only [List.getElem_toArray, List.getElem_cons_succ, List.getElem_cons_zero, Act.put, List.setIfInBounds_toArray, List.set_cons_zero, List.set_cons_succ]
                    refine qk_takeL 13 4 _ _ rfl (by kernel_rfl) (by kernel_rfl) (by kernel_rfl) (by decide) (fun _ _ _ h => h) rfl (by rfl) (v := ?_) ?_ hz2 ?_
                    rotate_left
                    · intro V
                      go_simp
                      try with_reducible rfl
                    simp only [List.getElem_toArray, List.getElem_cons_succ, List.getElem_cons_zero, Act.put, List.setIfInBounds_toArray, List.set_cons_zero, List.set_cons_succ]
                    refine qk_takeL 14 3 _ _ rfl (by kernel_rfl) (by kernel_rfl) (by kernel_rfl) (by decide) (fun _ _ _ h => h) rfl (by rfl) (v := ?_) ?_ hz2 ?_
                    rotate_left
                    · intro V
                      go_simp
                      try with_reducible rfl
                    simp only [List.getElem_toArray, List.getElem_cons_succ, List.getElem_cons_zero, Act.put, List.setIfInBounds_toArray, List.set_cons_zero, List.set_cons_succ]
                    refine qk_restL 2 _ (by kernel_rfl) (by decide) (by kernel_rfl) ?_
                    refine qt_list 16 3 rfl (by kernel_rfl) ?_
                    simp only [List.drop_succ_cons, List.drop_zero]
                    clear t0 t1 t2 t3 t4 t5 t6 t7 z1 z2 z4 z6
                    go_wp2_with (first
                      | (refine wpList_store_mk rfl 33 (.tmp 15) (.tmp 136) rfl rfl w4.drew.heap.size rfl 33 (#[.int .i64 0, .int .i64 0, .int .u64 0, .int .u64 0, .int .u64 0, .slice none 0 0, .slice none 0 0, .slice none 0 0]) (ldC l9 p9) rfl hb rfl (by simp [Value.oneCell']) ld_info (by simp [Value.cells]) ?_; intro w8 b6 m6))
                    go_meet
                    case rel => exact ⟨w4.drew.heap.size, p9, L9, A9, c9, n9, rfl, rfl, rfl, Lib.hid b6, Lib.hid (R9.out.mods m6 (R9.out.offBox hb)), Lib.hid (V9.out.mods m6 (fun x hx e => by obtain ⟨cs, hc⟩ := V9.out.ty x hx; exact hc.ne_ hb (by decide) e)), K9, O9, Lib.hid (X9.out.sub (fun k hk => by
                      rcases hk with h | h
                      · exact .inl h
                      · exact .inr ⟨h.1, Nat.lt_of_lt_of_le h.2 m6.size⟩)), Lib.hid (Mods.trans2 hz2 m6 (fun k hk hT => by have := hgb; omega))⟩
              case rest =>
                obtain ⟨g15, p9, L9, A9, c9, n9, rfl, rfl, rfl, B15, R9, V9, KN9, ON9, X9, M9⟩ := hcut
                have P9 := Lib.hid (P4.out.more M9.out)
                have X9' : Hid (p9.in_ L9 (LDN X1 w4 wc)) := X9
                have HFV4 : Hid (PVs wc (fun k => k ≠ g) A4 c4 n4 M4) := Lib.hid ((V4.out.nil M9.out).sub (fun k hk e => by have := P3.out.q.box.lt; have := hk.1; omega))
                obtain ⟨e0, e1, e2, e3, e4, e5, e6, e7⟩ := B15.out.eight
                have hrr : (r9 != r9) = false := by simp
                go_upto_region 29 with (first
                  | (refine wpList_store_mk rfl 33 (.tmp 8) (.tmp 139) rfl rfl g rfl 33 (ldC l p) (ldC l9 p9) rfl P9.out.q.box rfl (by simp [Value.oneCell']) ld_info (by simp [Value.cells]) ?_; intro w8 b6 m6; have P8 := Lib.hid (P9.out.put (U' := 8 * i + vn) R9.out X9'.out (by have := P9.out.q.kn; have := KN9.out; omega) (by have := ON9.out; omega) b6 m6); have V8 := Lib.hid (HFV4.out.mods m6 (fun k hk hd => hd hk)); have R8 := Lib.hid (V9.out.mods m6 (fun x hx e => by obtain ⟨cs, hc⟩ := V9.out.ty x hx; exact hc.ne_ P9.out.q.box (by decide) e)); clear b6 m6 e0 e1 e2 e3 e4 e5 e6 e7))
                have HN4 : Hid (n4 ≤ 100000 ∧ n9 ≤ 100000) := Lib.hid (by
                  have h1 := V4.out.len
                  have h2 := congrArg List.length HM4.out
                  rw [List.length_map] at h2
                  have h3 := V9.out.len
                  have h4 := HVL.out
                  have h5 := R9.out.onLen
                  have h6 := ON9.out
                  omega)
                go_wp2_with (first
                  | (go_at_call 16; have hx := RA.out; clear hx; refine (r13same_any _ RA.out RB.out HN4.out.1 HN4.out.2).mono ?_; rintro e wb ⟨rr, rfl, h8, m8⟩; obtain rfl : rr = true := h8.2 rfl; have PB := Lib.hid (PA.out.nil m8); clear h8 m8)
                  | (go_at_call 15; refine (votes15_any _ V8.out HN4.out.1).mono ?_; rintro e wa ⟨A6, c6, rfl, r6, -, m6⟩; rw [HM4.out] at r6; have RA := Lib.hid r6; have RB := Lib.hid (R8.out.nil m6); have PA := Lib.hid (P8.out.nil m6); clear r6 m6))
                go_meet
                case rel => exact ⟨0, LDN X1 w4 wc, l9, p9, L9, rfl, rfl, PB.out.q.mono (by have := HFW.out.1; omega) (by have := HFW.out.1; omega)⟩
          have hu2I : (u == 2) = false := by rw [beq_eq_false_iff_ne]; exact hu2
          by_cases hu3 : u = 3
          · subst hu3
            as_aux_lemma =>
              obtain ⟨vp, hvp⟩ : ∃ x, VL.map VtP.plain = x := ⟨_, rfl⟩
              obtain ⟨l9, hl9⟩ : ∃ x, l.promise nd bal lo vp = x := ⟨_, rfl⟩
              obtain ⟨v9, hv9⟩ : ∃ x, l.promV nd bal lo vp = x := ⟨_, rfl⟩
              obtain ⟨r9, hr9⟩ : ∃ x, l.promB nd bal lo vp = x := ⟨_, rfl⟩
              have hfew := HR.out rfl
              have HFW := Lib.hid hfew
              have HC := Lib.hid (P3.out.q.s.promise2 (by omega) HND.out.1 HND.out.2 HBAL.out.1 HBAL.out.2.2 (HPV.out _ P3.out.q.s.m) (by omega) (fun y hy => by have := hfew.2.2 y hy; omega) (l' := l9) (told := v9) (r := r9) (by rw [hvp]; exact hl9) (by rw [hvp]; exact hv9) (by rw [hvp]; exact hr9) rfl)
              have hgood := P3.out.q.s.good
              have HRF : Hid (∀ V A c n, RL V l p L → RVs V A c n vp → n = vn → Calls Try.prog 14 #[.agg (ldC l p), .int .i64 nd, .int .u64 (bal : Int), .int .u64 (lo : Int), .slice A n c] V fun e W' => ∃ p9 L9 A9 c9 n9, e = .returned (.tuple #[.agg (ldC l9 p9), .slice A9 n9 c9, .bool r9]) ∧ RL W' l9 p9 L9 ∧ RVs W' A9 c9 n9 v9 ∧ p9.kn ≤ p.kn + vn ∧ p9.on ≤ 4096 + 8 * i ∧ p9.in_ L9 (LDN X1 V W') ∧ Mods Nil V W') := Lib.hid (fun V A c n hV hv hn => by
                have hvs : ∀ v ∈ vp, v.slot < 18446744073709551616 ∧ v.bal < 18446744073709551616 := by
                  intro v hv
                  rw [← hvp] at hv
                  obtain ⟨y, hy, rfl⟩ := List.mem_map.1 hv
                  have := (HPV.out _ P3.out.q.s.m).bys y hy
                  exact ⟨this.2.2.1, this.2.2.2⟩
                have h := r15promise_any V l p hV hgood (by have := pn_good hV hgood; omega) (by have := P3.out.q.kn; omega) (by have := P3.out.q.on; omega) nd bal lo HBAL.out.2.2 hv (by have := hfew.1; omega) hvs
                unfold RPrm at h
                rw [hl9, hv9, hr9] at h
                refine h.mono fun e W' ⟨p9, L9, A9, c9, n9, h1, h2, h3, ⟨h4, h5, h6⟩, g1, g2, g3, g4, h7⟩ => ?_
                exact ⟨p9, L9, A9, c9, n9, h1, h2, h3, by rw [hn] at h5; exact h5, on_promise (n := 0) hV hgood nd bal lo vp h2 hl9 h6 P3.out.q.on, in_old P3.out.q.xa g1 g2 g3 g4 h2, h7⟩)
              have HVL : Hid (v9.length ≤ l9.opn.length) := Lib.hid (by rw [← hv9, ← hl9]; exact promV_len _ _ _ _ _)
              have HVP := Lib.hid hvp
              clear hvp hl9 hv9 hr9 hfew hgood
              go_upto_region 27 with (first
                | (go_at_call 13; refine (HC.out).mono ?_; rintro e w4 ⟨A4, n4, c4, M4, rfl, hm4, v4, s4, m4⟩; have P4 := Lib.hid (P3.out.call s4 (fun _ h => h) m4); have HM4 := Lib.hid hm4; have V4 := Lib.hid v4; clear y0 y1 y2 y3 y4 y5 y6; clear s4 m4 hm4 v4))
              have HPV4 := Lib.hid (HPV.out _ P4.out.q.s.m)
              go_cut [15, 16, 17] from 61 to 237 (fun s15 s16 s17 wx => ∃ (g15 : Nat) (p9 : LdA) (L9 : List ROp) (A9 : Option Addr) (c9 n9 : Nat), s15 = .pointer (some ⟨g15, 0, none⟩) ∧ s16 = .slice A9 n9 c9 ∧ s17 = .bool r9 ∧ Hid (Blk wx g15 33 (ldC l9 p9)) ∧ Hid (RL wx l9 p9 L9) ∧ Hid (RVs wx A9 c9 n9 v9) ∧ Hid (p9.kn ≤ p.kn + vn) ∧ Hid (p9.on ≤ 4096 + 8 * i) ∧ Hid (p9.in_ L9 (LDN X1 w4 wx)) ∧ Hid (Mods Nil w4 wx))
              case first =>
                have HP4V := Lib.hid (fun V (hV : Mods Nil w4 V) => P4.out.nil hV)
                have t0 := fun V (hV : Mods Nil w4 V) => (HP4V.out V hV).q.box.eight.1
                have t1 := fun V (hV : Mods Nil w4 V) => (HP4V.out V hV).q.box.eight.2.1
                have t2 := fun V (hV : Mods Nil w4 V) => (HP4V.out V hV).q.box.eight.2.2.1
                have t3 := fun V (hV : Mods Nil w4 V) => (HP4V.out V hV).q.box.eight.2.2.2.1
                have t4 := fun V (hV : Mods Nil w4 V) => (HP4V.out V hV).q.box.eight.2.2.2.2.1
                have t5 := fun V (hV : Mods Nil w4 V) => (HP4V.out V hV).q.box.eight.2.2.2.2.2.1
                have t6 := fun V (hV : Mods Nil w4 V) => (HP4V.out V hV).q.box.eight.2.2.2.2.2.2.1
                have t7 := fun V (hV : Mods Nil w4 V) => (HP4V.out V hV).q.box.eight.2.2.2.2.2.2.2
                have z1 := fun V (hV : Mods Nil w4 V) => (HP4V.out V hV).ax.seven15.2.1
                have z2 := fun V (hV : Mods Nil w4 V) => (HP4V.out V hV).ax.seven15.2.2.1
                have z4 := fun V (hV : Mods Nil w4 V) => (HP4V.out V hV).ax.seven15.2.2.2.2.1
                have z6 := fun V (hV : Mods Nil w4 V) => (HP4V.out V hV).ax.seven15.2.2.2.2.2.2
                refine qk_region (S := fun V => Mods Nil w4 V) (k := 16) 19 (by kernel_rfl) rfl ?_
                have hS0 : Mods Nil w4 w4.drew := (Mods.refl Nil w4).drew
                refine qk_ahead 0 18 _ _ rfl (by kernel_rfl) (by kernel_rfl) (by kernel_rfl) (by kernel_rfl) (by kernel_rfl) (fun _ _ _ h => h) rfl (by rfl) (v := ?_) ?_ hS0 ?_
                rotate_left
                · intro V hV
                  obtain ⟨x0, x1, x2, x3, x4, x5, x6, x7⟩ := (HP4V.out V hV).q.box.eight
                  obtain ⟨z0, z1, z2, z3, z4, z5, z6⟩ := (HP4V.out V hV).ax.seven15
                  go_simp
                  try with_reducible rfl
                simp only [List.getElem_toArray, List.getElem_cons_succ, List.getElem_cons_zero, Act.put, List.setIfInBounds_toArray, List.set_cons_zero, List.set_cons_succ]
                refine qk_ahead 1 17 _ _ rfl (by kernel_rfl) (by kernel_rfl) (by kernel_rfl) (by kernel_rfl) (by kernel_rfl) (fun _ _ _ h => h) rfl (by rfl) (v := ?_) ?_ hS0 ?_
                rotate_left
                · intro V hV
                  obtain ⟨x0, x1, x2, x3, x4, x5, x6, x7⟩ := (HP4V.out V hV).q.box.eight
                  obtain ⟨z0, z1, z2, z3, z4, z5, z6⟩ := (HP4V.out V hV).ax.seven15
                  go_simp
                  try with_reducible rfl
                simp only [List.getElem_toArray, List.getElem_cons_succ, List.getElem_cons_zero, Act.put, List.setIfInBounds_toArray, List.set_cons_zero, List.set_cons_succ]
                refine qk_ahead 2 16 _ _ rfl (by kernel_rfl) (by kernel_rfl) (by kernel_rfl) (by kernel_rfl) (by kernel_rfl) (fun _ _ _ h => h) rfl (by rfl) (v := ?_) ?_ hS0 ?_
                rotate_left
                · intro V hV
                  obtain ⟨x0, x1, x2, x3, x4, x5, x6, x7⟩ := (HP4V.out V hV).q.box.eight
                  obtain ⟨z0, z1, z2, z3, z4, z5, z6⟩ := (HP4V.out V hV).ax.seven15
                  go_simp
                  try with_reducible rfl
                simp only [List.getElem_toArray, List.getElem_cons_succ, List.getElem_cons_zero, Act.put, List.setIfInBounds_toArray, List.set_cons_zero, List.set_cons_succ]
                refine qk_ahead 3 15 _ _ rfl (by kernel_rfl) (by kernel_rfl) (by kernel_rfl) (by kernel_rfl) (by kernel_rfl) (fun _ _ _ h => h) rfl (by rfl) (v := ?_) ?_ hS0 ?_
                rotate_left
                · intro V hV
                  obtain ⟨x0, x1, x2, x3, x4, x5, x6, x7⟩ := (HP4V.out V hV).q.box.eight
                  obtain ⟨z0, z1, z2, z3, z4, z5, z6⟩ := (HP4V.out V hV).ax.seven15
                  go_simp
                  try with_reducible rfl
                simp only [List.getElem_toArray, List.getElem_cons_succ, List.getElem_cons_zero, Act.put, List.setIfInBounds_toArray, List.set_cons_zero, List.set_cons_succ]
                refine qk_ahead 4 14 _ _ rfl (by kernel_rfl) (by kernel_rfl) (by kernel_rfl) (by kernel_rfl) (by kernel_rfl) (fun _ _ _ h => h) rfl (by rfl) (v := ?_) ?_ hS0 ?_
                rotate_left
                · intro V hV
                  obtain ⟨x0, x1, x2, x3, x4, x5, x6, x7⟩ := (HP4V.out V hV).q.box.eight
                  obtain ⟨z0, z1, z2, z3, z4, z5, z6⟩ := (HP4V.out V hV).ax.seven15
                  go_simp
                  try with_reducible rfl
                simp only [List.getElem_toArray, List.getElem_cons_succ, List.getElem_cons_zero, Act.put, List.setIfInBounds_toArray, List.set_cons_zero, List.set_cons_succ]
                refine qk_ahead 5 13 _ _ rfl (by kernel_rfl) (by kernel_rfl) (by kernel_rfl) (by kernel_rfl) (by kernel_rfl) (fun _ _ _ h => h) rfl (by rfl) (v := ?_) ?_ hS0 ?_
                rotate_left
                · intro V hV
                  obtain ⟨x0, x1, x2, x3, x4, x5, x6, x7⟩ := (HP4V.out V hV).q.box.eight
                  obtain ⟨z0, z1, z2, z3, z4, z5, z6⟩ := (HP4V.out V hV).ax.seven15
                  go_simp
                  try with_reducible rfl
                simp only [List.getElem_toArray, List.getElem_cons_succ, List.getElem_cons_zero, Act.put, List.setIfInBounds_toArray, List.set_cons_zero, List.set_cons_succ]
                refine qk_ahead 6 12 _ _ rfl (by kernel_rfl) (by kernel_rfl) (by kernel_rfl) (by kernel_rfl) (by kernel_rfl) (fun _ _ _ h => h) rfl (by rfl) (v := ?_) ?_ hS0 ?_
                rotate_left
                · intro V hV
                  obtain ⟨x0, x1, x2, x3, x4, x5, x6, x7⟩ := (HP4V.out V hV).q.box.eight
                  obtain ⟨z0, z1, z2, z3, z4, z5, z6⟩ := (HP4V.out V hV).ax.seven15
                  go_simp
                  try with_reducible rfl
                simp only [List.getElem_toArray, List.getElem_cons_succ, List.getElem_cons_zero, Act.put, List.setIfInBounds_toArray, List.set_cons_zero, List.set_cons_succ]
                refine qk_ahead 7 11 _ _ rfl (by kernel_rfl) (by kernel_rfl) (by kernel_rfl) (by kernel_rfl) (by kernel_rfl) (fun _ _ _ h => h) rfl (by rfl) (v := ?_) ?_ hS0 ?_
                rotate_left
                · intro V hV
                  obtain ⟨x0, x1, x2, x3, x4, x5, x6, x7⟩ := (HP4V.out V hV).q.box.eight
                  obtain ⟨z0, z1, z2, z3, z4, z5, z6⟩ := (HP4V.out V hV).ax.seven15
                  go_simp
                  try with_reducible rfl
                simp only [List.getElem_toArray, List.getElem_cons_succ, List.getElem_cons_zero, Act.put, List.setIfInBounds_toArray, List.set_cons_zero, List.set_cons_succ]
                refine qk_ahead 8 10 _ _ rfl (by kernel_rfl) (by kernel_rfl) (by kernel_rfl) (by kernel_rfl) (by kernel_rfl) (fun _ _ _ h => h) rfl (by rfl) (v := ?_) ?_ hS0 ?_
                rotate_left
                · intro V hV
                  obtain ⟨x0, x1, x2, x3, x4, x5, x6, x7⟩ := (HP4V.out V hV).q.box.eight
                  obtain ⟨z0, z1, z2, z3, z4, z5, z6⟩ := (HP4V.out V hV).ax.seven15
                  go_simp
                  try with_reducible rfl
                simp only [List.getElem_toArray, List.getElem_cons_succ, List.getElem_cons_zero, Act.put, List.setIfInBounds_toArray, List.set_cons_zero, List.set_cons_succ]
                refine qk_two 9 15 9 _ _ _ rfl rfl (by kernel_rfl) rfl rfl (by rfl) (by rfl) _ _ (v2 := .pointer (some ⟨w4.heap.size, 0, none⟩)) (w2 := w4.drew.alloc (.cells #[.int .i64 0, .int .i64 0, .int .u64 0, .int .u64 0, .int .u64 0, .slice none 0 0, .slice none 0 0, .slice none 0 0] 33)) ?_ ?_ (hS0.alloc _) ((votes15_any w4.drew (HPV4.out.nil hS0) (by have := HFW.out.1; omega)).mono ?_) ?_
                · go_simp
                · go_simp
                  try with_reducible rfl
                · rintro e z1' ⟨A6, c6, rfl, r6, -, y1⟩
                  rw [HVP.out] at r6
                  have hz1 := hS0.trans y1
                  have RZ := Lib.hid r6
                  clear r6
                  refine ⟨_, rfl, hz1, ?_⟩
                  simp only [List.getElem_toArray, List.getElem_cons_succ, List.getElem_cons_zero, Act.put, List.setIfInBounds_toArray, List.set_cons_zero, List.set_cons_succ]
                  refine qk_two 10 15 8 _ _ _ rfl rfl (by kernel_rfl) rfl rfl (by rfl) (by rfl) _ _ (v2 := .pointer (some ⟨z1'.heap.size, 0, none⟩)) (w2 := z1'.alloc (.cells #[.int .i64 0, .int .i64 0, .int .u64 0, .int .u64 0, .int .u64 0, .slice none 0 0, .slice none 0 0, .slice none 0 0] 33)) ?_ ?_ (hz1.alloc _) ((HRF.out z1' _ _ _ (P4.out.nil hz1).q.r RZ.out rfl).mono ?_) ?_
                  · go_simp
                  · go_simp
                    try with_reducible rfl
                  · as_aux_lemma =>
                      rintro e z2' ⟨p9, L9, A9, c9, n9, rfl, hr9, hv9, hk9, ho9, hx9, y2⟩
                      have R9 := Lib.hid hr9
                      have V9 := Lib.hid hv9
                      have K9 := Lib.hid hk9
                      have O9 := Lib.hid ho9
                      have hz2 := hz1.trans y2
                      have X9 : Hid (p9.in_ L9 (LDN X1 w4 z2')) := Lib.hid (hx9.sub (fun k hk => by
                        rcases hk with h | h
                        · exact .inl h
                        · exact .inr ⟨Nat.le_trans hz1.size h.1, h.2⟩))
                      clear hr9 hv9 hk9 ho9 hx9
                      refine ⟨_, rfl, hz2, ?_⟩
                      simp only [List.getElem_toArray, List.getElem_cons_succ, List.getElem_cons_zero, Act.put, List.setIfInBounds_toArray, List.set_cons_zero, List.set_cons_succ]
                      refine qk_takeL 11 7 _ _ rfl (by kernel_rfl) (by kernel_rfl) (by kernel_rfl) (by decide) (fun _ _ _ h => h) rfl (by rfl) (v := ?_) ?_ hz2 ?_
                      rotate_left
                      · intro V
                        go_simp
                        try with_reducible rfl
                      simp only [List.getElem_toArray, List.getElem_cons_succ, List.getElem_cons_zero, Act.put, List.setIfInBounds_toArray, List.set_cons_zero, List.set_cons_succ]
                      refine qk_takeL 12 6 _ _ rfl (by kernel_rfl) (by kernel_rfl) (by kernel_rfl) (by decide) (fun _ _ _ h => h) rfl (by rfl) (v := ?_) ?_ hz2 ?_
                      rotate_left
                      · intro V
                        go_simp
                        try with_reducible rfl
                      simp only [List.getElem_toArray, List.getElem_cons_succ, List.getElem_cons_zero, Act.put, List.setIfInBounds_toArray, List.set_cons_zero, List.set_cons_succ]
                      refine qk_takeL 13 5 _ _ rfl (by kernel_rfl) (by kernel_rfl) (by kernel_rfl) (by decide) (fun _ _ _ h => h) rfl (by rfl) (v := ?_) ?_ hz2 ?_
                      rotate_left
                      · intro V
                        go_simp
                        try with_reducible rfl
                      simp only [List.getElem_toArray, List.getElem_cons_succ, List.getElem_cons_zero, Act.put, List.setIfInBounds_toArray, List.set_cons_zero, List.set_cons_succ]
                      refine qk_takeL 14 4 _ _ rfl (by kernel_rfl) (by kernel_rfl) (by kernel_rfl) (by decide) (fun _ _ _ h => h) rfl (by rfl) (v := ?_) ?_ hz2 ?_
                      rotate_left
                      · intro V
                        go_simp
                        try with_reducible rfl
                      simp only [List.getElem_toArray, List.getElem_cons_succ, List.getElem_cons_zero, Act.put, List.setIfInBounds_toArray, List.set_cons_zero, List.set_cons_succ]
                      refine qk_makesL 15 3 _ _ rfl (by kernel_rfl) rfl (by rfl) (v := .pointer (some ⟨z2'.heap.size, 0, none⟩)) (w' := z2'.alloc (.cells #[.int .i64 0, .int .i64 0, .int .u64 0, .int .u64 0, .int .u64 0, .slice none 0 0, .slice none 0 0, .slice none 0 0] 33)) ?_ (hz2.alloc _) ?_
                      · go_simp
                        try with_reducible rfl
                      simp only [List.getElem_toArray, List.getElem_cons_succ, List.getElem_cons_zero, Act.put, List.setIfInBounds_toArray, List.set_cons_zero, List.set_cons_succ]
                      refine qk_restL 2 _ (by kernel_rfl) (by decide) (by kernel_rfl) ?_
                      refine qt_list 16 3 rfl (by kernel_rfl) ?_
                      simp only [List.drop_succ_cons, List.drop_zero]
                      clear t0 t1 t2 t3 t4 t5 t6 t7 z1 z2 z4 z6
                      have mz : Mods Nil z2' (z2'.alloc (.cells (ldC l9 p9) 33)) := (Mods.refl Nil z2').alloc _
                      go_wp2_with fail
                      go_meet
                      case rel => exact ⟨z2'.heap.size, p9, L9, A9, c9, n9, rfl, rfl, rfl, Lib.hid (Blk.new z2' _ _), Lib.hid (R9.out.nil mz), Lib.hid (V9.out.nil mz), K9, O9, Lib.hid (X9.out.sub (fun k hk => by
                        rcases hk with h | h
                        · exact .inl h
                        · exact .inr ⟨h.1, Nat.lt_of_lt_of_le h.2 mz.size⟩)), Lib.hid (hz2.trans mz)⟩
                  · as_aux_lemma =>
                      simp only [List.getElem_toArray, List.getElem_cons_succ, List.getElem_cons_zero, Act.put, List.setIfInBounds_toArray, List.set_cons_zero, List.set_cons_succ]
                      refine qk_callL 10 7 _ _ rfl (by kernel_rfl) rfl (by rfl) _ _ ?_ ((HRF.out (z1'.alloc (.cells #[.int .i64 0, .int .i64 0, .int .u64 0, .int .u64 0, .int .u64 0, .slice none 0 0, .slice none 0 0, .slice none 0 0] 33)) _ _ _ (P4.out.nil (hz1.alloc _)).q.r (RZ.out.nil ((Mods.refl Nil z1').alloc _)) rfl).mono ?_)
                      · go_simp
                      rintro e z2' ⟨p9, L9, A9, c9, n9, rfl, hr9, hv9, hk9, ho9, hx9, y2⟩
                      have hb := (Blk.new z1' 33 #[.int .i64 0, .int .i64 0, .int .u64 0, .int .u64 0, .int .u64 0, .slice none 0 0, .slice none 0 0, .slice none 0 0]).mods y2 (fun h => h)
                      have hgb : w4.heap.size ≤ z1'.heap.size := hz1.size
                      have R9 := Lib.hid hr9
                      have V9 := Lib.hid hv9
                      have K9 := Lib.hid hk9
                      have O9 := Lib.hid ho9
                      have hz2 := (hz1.alloc _).trans y2
                      have X9 : Hid (p9.in_ L9 (LDN X1 w4 z2')) := Lib.hid (hx9.sub (fun k hk => by
                        rcases hk with h | h
                        · exact .inl h
                        · exact .inr ⟨Nat.le_trans (hz1.alloc _).size h.1, h.2⟩))
                      clear hr9 hv9 hk9 ho9 hx9
                      refine ⟨_, rfl, hz2, ?_⟩
                      simp only [List.getElem_toArray, List.getElem_cons_succ, List.getElem_cons_zero, Act.put, List.setIfInBounds_toArray, List.set_cons_zero, List.set_cons_succ]
                      refine qk_takeL 11 6 _ _ rfl (by kernel_rfl) (by kernel_rfl) (by kernel_rfl) (by decide) (fun _ _ _ h => h) rfl (by rfl) (v := ?_) ?_ hz2 ?_
                      rotate_left
                      · intro V
                        go_simp
                        try with_reducible rfl
                      simp only [List.getElem_toArray, List.getElem_cons_succ, List.getElem_cons_zero, Act.put, List.setIfInBounds_toArray, List.set_cons_zero, List.set_cons_succ]
                      refine qk_takeL 12 5 _ _ rfl (by kernel_rfl) (by kernel_rfl) (by kernel_rfl) (by decide) (fun _ _ _ h => h) rfl (by rfl) (v := ?_) ?_ hz2 ?_
                      rotate_left
                      · intro V
                        go_simp
                        try with_reducible rfl
                      simp only [List.getElem_toArray, List.getElem_cons_succ, List.getElem_cons_zero, Act.put, List.setIfInBounds_toArray, List.set_cons_zero, List.set_cons_succ]
                      refine qk_takeL 13 4 _ _ rfl (by kernel_rfl) (by kernel_rfl) (by kernel_rfl) (by decide) (fun _ _ _ h => h) rfl (by rfl) (v := ?_) ?_ hz2 ?_
                      rotate_left
                      · intro V
                        go_simp
                        try with_reducible rfl
                      simp only [List.getElem_toArray, List.getElem_cons_succ, List.getElem_cons_zero, Act.put, List.setIfInBounds_toArray, List.set_cons_zero, List.set_cons_succ]
                      refine qk_takeL 14 3 _ _ rfl (by kernel_rfl) (by kernel_rfl) (by kernel_rfl) (by decide) (fun _ _ _ h => h) rfl (by rfl) (v := ?_) ?_ hz2 ?_
                      rotate_left
                      · intro V
                        go_simp
                        try with_reducible rfl
                      simp only [List.getElem_toArray, List.getElem_cons_succ, List.getElem_cons_zero, Act.put, List.setIfInBounds_toArray, List.set_cons_zero, List.set_cons_succ]
                      refine qk_restL 2 _ (by kernel_rfl) (by decide) (by kernel_rfl) ?_
                      refine qt_list 16 3 rfl (by kernel_rfl) ?_
                      simp only [List.drop_succ_cons, List.drop_zero]
                      clear t0 t1 t2 t3 t4 t5 t6 t7 z1 z2 z4 z6
                      go_wp2_with (first
                        | (refine wpList_store_mk rfl 33 (.tmp 15) (.tmp 136) rfl rfl z1'.heap.size rfl 33 (#[.int .i64 0, .int .i64 0, .int .u64 0, .int .u64 0, .int .u64 0, .slice none 0 0, .slice none 0 0, .slice none 0 0]) (ldC l9 p9) rfl hb rfl (by simp [Value.oneCell']) ld_info (by simp [Value.cells]) ?_; intro w8 b6 m6))
                      go_meet
                      case rel => exact ⟨z1'.heap.size, p9, L9, A9, c9, n9, rfl, rfl, rfl, Lib.hid b6, Lib.hid (R9.out.mods m6 (R9.out.offBox hb)), Lib.hid (V9.out.mods m6 (fun x hx e => by obtain ⟨cs, hc⟩ := V9.out.ty x hx; exact hc.ne_ hb (by decide) e)), K9, O9, Lib.hid (X9.out.sub (fun k hk => by
                        rcases hk with h | h
                        · exact .inl h
                        · exact .inr ⟨h.1, Nat.lt_of_lt_of_le h.2 m6.size⟩)), Lib.hid (Mods.trans2 hz2 m6 (fun k hk hT => by have := hgb; omega))⟩
                · as_aux_lemma =>
                    simp only [List.getElem_toArray, List.getElem_cons_succ, List.getElem_cons_zero, Act.put, List.setIfInBounds_toArray, List.set_cons_zero, List.set_cons_succ]
                    refine qk_callL 9 8 _ _ rfl (by kernel_rfl) rfl (by rfl) _ _ ?_ ((votes15_any (w4.drew.alloc (.cells #[.int .i64 0, .int .i64 0, .int .u64 0, .int .u64 0, .int .u64 0, .slice none 0 0, .slice none 0 0, .slice none 0 0] 33)) (HPV4.out.nil (hS0.alloc _)) (by have := HFW.out.1; omega)).mono ?_)
                    · go_simp
                    rintro e z1' ⟨A6, c6, rfl, r6, -, y1⟩
                    rw [HVP.out] at r6
                    have hb1 := (Blk.new w4.drew 33 #[.int .i64 0, .int .i64 0, .int .u64 0, .int .u64 0, .int .u64 0, .slice none 0 0, .slice none 0 0, .slice none 0 0]).mods y1 (fun h => h)
                    have hz1 := (hS0.alloc _).trans y1
                    have RZ := Lib.hid r6
                    clear r6
                    refine ⟨_, rfl, hz1, ?_⟩
                    simp only [List.getElem_toArray, List.getElem_cons_succ, List.getElem_cons_zero, Act.put, List.setIfInBounds_toArray, List.set_cons_zero, List.set_cons_succ]
                    refine qk_callL 10 7 _ _ rfl (by kernel_rfl) rfl (by rfl) _ _ ?_ ((HRF.out z1' _ _ _ (P4.out.nil hz1).q.r RZ.out rfl).mono ?_)
                    · go_simp
                    rintro e z2' ⟨p9, L9, A9, c9, n9, rfl, hr9, hv9, hk9, ho9, hx9, y2⟩
                    have hb := hb1.mods y2 (fun h => h)
                    have hgb : w4.heap.size ≤ w4.drew.heap.size := Nat.le_refl _
                    have R9 := Lib.hid hr9
                    have V9 := Lib.hid hv9
                    have K9 := Lib.hid hk9
                    have O9 := Lib.hid ho9
                    have hz2 := hz1.trans y2
                    have X9 : Hid (p9.in_ L9 (LDN X1 w4 z2')) := Lib.hid (hx9.sub (fun k hk => by
                      rcases hk with h | h
                      · exact .inl h
                      · exact .inr ⟨Nat.le_trans hz1.size h.1, h.2⟩))
                    clear hr9 hv9 hk9 ho9 hx9
                    refine ⟨_, rfl, hz2, ?_⟩
                    simp only [List.getElem_toArray, List.getElem_cons_succ, List.getElem_cons_zero, Act.put, List.setIfInBounds_toArray, List.set_cons_zero, List.set_cons_succ]
                    refine qk_takeL 11 6 _ _ rfl (by kernel_rfl) (by kernel_rfl) (by kernel_rfl) (by decide) (fun _ _ _ h => h) rfl (by rfl) (v := ?_) ?_ hz2 ?_
                    rotate_left
                    · intro V
                      go_simp
                      try with_reducible rfl
                    simp only [List.getElem_toArray, List.getElem_cons_succ, List.getElem_cons_zero, Act.put, List.setIfInBounds_toArray, List.set_cons_zero, List.set_cons_succ]
                    refine qk_takeL 12 5 _ _ rfl (by kernel_rfl) (by kernel_rfl) (by kernel_rfl) (by decide) (fun _ _ _ h => h) rfl (by rfl) (v := ?_) ?_ hz2 ?_
                    rotate_left
                    · intro V
                      go_simp
                      try with_reducible rfl
                    simp only [List.getElem_toArray, List.getElem_cons_succ, List.getElem_cons_zero, Act.put, List.setIfInBounds_toArray, List.set_cons_zero, List.set_cons_succ]
                    refine qk_takeL 13 4 _ _ rfl (by kernel_rfl) (by kernel_rfl) (by kernel_rfl) (by decide) (fun _ _ _ h => h) rfl (by rfl) (v := ?_) ?_ hz2 ?_
                    rotate_left
                    · intro V
                      go_simp
                      try with_reducible rfl
                    simp only [List.getElem_toArray, List.getElem_cons_succ, List.getElem_cons_zero, Act.put, List.setIfInBounds_toArray, List.set_cons_zero, List.set_cons_succ]
                    refine qk_takeL 14 3 _ _ rfl (by kernel_rfl) (by kernel_rfl) (by kernel_rfl) (by decide) (fun _ _ _ h => h) rfl (by rfl) (v := ?_) ?_ hz2 ?_
                    rotate_left
                    · intro V
                      go_simp
                      try with_reducible rfl
                    simp only [List.getElem_toArray, List.getElem_cons_succ, List.getElem_cons_zero, Act.put, List.setIfInBounds_toArray, List.set_cons_zero, List.set_cons_succ]
                    refine qk_restL 2 _ (by kernel_rfl) (by decide) (by kernel_rfl) ?_
                    refine qt_list 16 3 rfl (by kernel_rfl) ?_
                    simp only [List.drop_succ_cons, List.drop_zero]
                    clear t0 t1 t2 t3 t4 t5 t6 t7 z1 z2 z4 z6
                    go_wp2_with (first
                      | (refine wpList_store_mk rfl 33 (.tmp 15) (.tmp 136) rfl rfl w4.drew.heap.size rfl 33 (#[.int .i64 0, .int .i64 0, .int .u64 0, .int .u64 0, .int .u64 0, .slice none 0 0, .slice none 0 0, .slice none 0 0]) (ldC l9 p9) rfl hb rfl (by simp [Value.oneCell']) ld_info (by simp [Value.cells]) ?_; intro w8 b6 m6))
                    go_meet
                    case rel => exact ⟨w4.drew.heap.size, p9, L9, A9, c9, n9, rfl, rfl, rfl, Lib.hid b6, Lib.hid (R9.out.mods m6 (R9.out.offBox hb)), Lib.hid (V9.out.mods m6 (fun x hx e => by obtain ⟨cs, hc⟩ := V9.out.ty x hx; exact hc.ne_ hb (by decide) e)), K9, O9, Lib.hid (X9.out.sub (fun k hk => by
                      rcases hk with h | h
                      · exact .inl h
                      · exact .inr ⟨h.1, Nat.lt_of_lt_of_le h.2 m6.size⟩)), Lib.hid (Mods.trans2 hz2 m6 (fun k hk hT => by have := hgb; omega))⟩
              case rest =>
                obtain ⟨g15, p9, L9, A9, c9, n9, rfl, rfl, rfl, B15, R9, V9, KN9, ON9, X9, M9⟩ := hcut
                have P9 := Lib.hid (P4.out.more M9.out)
                have X9' : Hid (p9.in_ L9 (LDN X1 w4 wc)) := X9
                have HFV4 : Hid (PVs wc (fun k => k ≠ g) A4 c4 n4 M4) := Lib.hid ((V4.out.nil M9.out).sub (fun k hk e => by have := P3.out.q.box.lt; have := hk.1; omega))
                obtain ⟨e0, e1, e2, e3, e4, e5, e6, e7⟩ := B15.out.eight
                have hrr : (r9 != r9) = false := by simp
                go_upto_region 29 with (first
                  | (refine wpList_store_mk rfl 33 (.tmp 8) (.tmp 139) rfl rfl g rfl 33 (ldC l p) (ldC l9 p9) rfl P9.out.q.box rfl (by simp [Value.oneCell']) ld_info (by simp [Value.cells]) ?_; intro w8 b6 m6; have P8 := Lib.hid (P9.out.put (U' := 8 * i + vn) R9.out X9'.out (by have := P9.out.q.kn; have := KN9.out; omega) (by have := ON9.out; omega) b6 m6); have V8 := Lib.hid (HFV4.out.mods m6 (fun k hk hd => hd hk)); have R8 := Lib.hid (V9.out.mods m6 (fun x hx e => by obtain ⟨cs, hc⟩ := V9.out.ty x hx; exact hc.ne_ P9.out.q.box (by decide) e)); clear b6 m6 e0 e1 e2 e3 e4 e5 e6 e7))
                have HN4 : Hid (n4 ≤ 100000 ∧ n9 ≤ 100000) := Lib.hid (by
                  have h1 := V4.out.len
                  have h2 := congrArg List.length HM4.out
                  rw [List.length_map] at h2
                  have h3 := V9.out.len
                  have h4 := HVL.out
                  have h5 := R9.out.onLen
                  have h6 := ON9.out
                  omega)
                go_wp2_with (first
                  | (go_at_call 16; have hx := RA.out; clear hx; refine (r13same_any _ RA.out RB.out HN4.out.1 HN4.out.2).mono ?_; rintro e wb ⟨rr, rfl, h8, m8⟩; obtain rfl : rr = true := h8.2 rfl; have PB := Lib.hid (PA.out.nil m8); clear h8 m8)
                  | (go_at_call 15; refine (votes15_any _ V8.out HN4.out.1).mono ?_; rintro e wa ⟨A6, c6, rfl, r6, -, m6⟩; rw [HM4.out] at r6; have RA := Lib.hid r6; have RB := Lib.hid (R8.out.nil m6); have PA := Lib.hid (P8.out.nil m6); clear r6 m6))
                go_meet
                case rel => exact ⟨0, LDN X1 w4 wc, l9, p9, L9, rfl, rfl, PB.out.q.mono (by have := HFW.out.1; omega) (by have := HFW.out.1; omega)⟩
          have hu3I : (u == 3) = false := by rw [beq_eq_false_iff_ne]; exact hu3
          by_cases hu4 : u = 4
          · subst hu4
            as_aux_lemma =>
              obtain ⟨l9, hl9⟩ : ∃ x, l.propose xs = x := ⟨_, rfl⟩
              obtain ⟨v9, hv9⟩ : ∃ x, l.propX xs = x := ⟨_, rfl⟩
              obtain ⟨E, hE⟩ : ∃ x, l.propE = x := ⟨_, rfl⟩
              have hfew := HR.out rfl
              have HFW := Lib.hid hfew
              have HC := Lib.hid (P3.out.q.s.propose2 (by omega) HQQ.out (by omega) (HBY.out _ P3.out.q.s.m) hl9 hv9 hE)
              have hgood := P3.out.q.s.good
              have hnx := hgood.next
              have HRF : Hid (∀ V, RL V l p L → Calls Try.prog 18 #[.agg (ldC l p), .string (strOf xs)] V fun e W' => ∃ p9 L9, e = .returned (.tuple #[.agg (ldC l9 p9), .agg #[.int .u64 (v9.slot : Int), .int .u64 (v9.bal : Int), .string (strOf v9.val)], .int .i64 (E : Int)]) ∧ RL W' l9 p9 L9 ∧ (∀ W1, W1.heap.size ≤ V.heap.size → ∀ X, p.in_ L X → p9.in_ L9 (LDN X W1 W')) ∧ p9.kn ≤ p.kn ∧ p9.on ≤ p.on + 1 ∧ Mods Nil V W') := Lib.hid (fun V hV => by
                have h := r15propose_any V l p hV.opn (by have := P3.out.q.on; omega) hnx xs
                unfold RProp at h
                rw [hl9, hv9, hE] at h
                refine h.mono fun e W' ⟨p9, L9, h1, e1, e2, e3, e4, e5, e6, h2, h3, h4, h5, h6⟩ => ?_
                have hk : l9.prom = l.prom ∧ l9.known = l.known := by
                  rw [← hl9]; unfold PLd.propose; split <;> exact ⟨rfl, rfl⟩
                have hr : RL W' l9 p9 L9 := ⟨by rw [e1, e2, e3, hk.1]; exact hV.prom.nil h6, by rw [e4, e5, e6, hk.2]; exact hV.known.nil h6, h2⟩
                refine ⟨p9, L9, h1, hr, fun W1 hW1 X hX => ?_, by rw [e5]; exact Nat.le_refl _, h3, h6⟩
                refine in_old hX (fun a ha => .inl (by rw [← e1]; exact ha)) (fun a ha => .inl (by rw [← e4]; exact ha)) (fun a ha => ?_) (fun x hx a ha => ?_) hr
                · rcases h4 a ha with h | h
                  · exact .inl h
                  · exact .inr (by omega)
                · rcases h5 x hx with h | h
                  · exact .inl ⟨x, h, ha⟩
                  · rw [h] at ha; cases ha)
              clear hl9 hv9 hE hfew hgood hnx
              go_upto_region 33 with (first
                | (go_at_call 17; refine (HC.out).mono ?_; rintro e w4 ⟨A4, n4, c4, rfl, hb4, s4, m4⟩; have P4 := Lib.hid (P3.out.call s4 (fun _ h => h) m4); have HB4 := Lib.hid hb4; clear y0 y1 y2 y3 y4 y5 y6; clear s4 m4 hb4))
              obtain ⟨gv, hgv⟩ : ∃ gv, w4.heap.size = gv := ⟨_, rfl⟩
              obtain ⟨W5, hW5⟩ : ∃ W, w4.alloc (.cells #[.int .u64 (v9.slot : Int), .int .u64 (v9.bal : Int), .slice A4 n4 c4] 49) = W := ⟨_, rfl⟩
              have m45 : Mods Nil w4 W5 := by rw [← hW5]; exact (Mods.refl Nil w4).alloc _
              have P5 := Lib.hid (P4.out.nil m45)
              have HB5 : Hid (v9.val.length = n4 ∧ Sl W5 A4 c4 (bts v9.val)) := Lib.hid ⟨HB4.out.1, HB4.out.2.1.mods m45 (fun _ _ h => h)⟩
              have BV5 : Hid (Blk W5 gv 49 #[.int .u64 (v9.slot : Int), .int .u64 (v9.bal : Int), .slice A4 n4 c4]) := Lib.hid (by rw [← hW5, ← hgv]; exact Blk.new w4 _ _)
              rw [hW5, hgv]
              clear m45 hW5 hgv
              have hcv5 := conv15 HQQ.out (HBY.out _ P5.out.q.s.m)
              obtain ⟨y0, y1, y2, y3, y4, y5, y6⟩ := P5.out.ax.seven15
              obtain ⟨k0, k1, k2, k3, k4, k5, k6, k7⟩ := P5.out.q.box.eight
              have HOFF : Hid (bts v9.val ≠ [] → ∀ a, A4 = some a → a.block ≠ g) := Lib.hid (fun hne a ha e => by have h1 := (HB4.out.2.2 hne a ha).1; have h2 := P3.out.q.box.lt; omega)
              go_upto_region 34 with (first
                | (go_at_call 18; refine (HRF.out _ P5.out.q.r).mono ?_; rintro e w6 ⟨p9, L9, rfl, r9, x9, kn9, on9, m6⟩; have R6 := Lib.hid r9; have X9 := Lib.hid x9; have KN9 := Lib.hid kn9; have ON9 := Lib.hid on9; have M6 := Lib.hid m6; clear r9 x9 kn9 on9 m6 y0 y1 y2 y3 y4 y5 y6 k0 k1 k2 k3 k4 k5 k6 k7 hcv5))
              obtain ⟨g20, hg20⟩ : ∃ x, w6.heap.size = x := ⟨_, rfl⟩
              obtain ⟨W7, hW7⟩ : ∃ W, (w6.alloc (.cells (ldC l9 p9) 33)).alloc (.cells #[.int .u64 (v9.slot : Int), .int .u64 (v9.bal : Int), .string (strOf v9.val)] 53) = W := ⟨_, rfl⟩
              have m67 : Mods Nil w6 W7 := by rw [← hW7]; exact ((Mods.refl Nil w6).alloc _).alloc _
              have B20 : Hid (Blk W7 g20 33 (ldC l9 p9)) := Lib.hid (by rw [← hW7, ← hg20]; exact (Blk.new w6 _ _).alloc _)
              have B21 : Hid (Blk W7 (g20 + 1) 53 #[.int .u64 (v9.slot : Int), .int .u64 (v9.bal : Int), .string (strOf v9.val)]) := Lib.hid (by
                rw [← hW7, ← hg20]
                have h := Blk.new (w6.alloc (.cells (ldC l9 p9) 33)) 53 #[.int .u64 (v9.slot : Int), .int .u64 (v9.bal : Int), .string (strOf v9.val)]
                rw [World.size_alloc] at h
                exact h)
              have P7 := Lib.hid (P5.out.more (M6.out.trans m67))
              have R7 := Lib.hid (R6.out.nil m67)
              have X7 : Hid (p9.in_ L9 (LDN X1 W5 W7)) := Lib.hid ((X9.out W5 (Nat.le_refl _) _ P5.out.q.xa).sub (fun k hk => by
                rcases hk with h | h
                · exact .inl h
                · exact .inr ⟨h.1, Nat.lt_of_lt_of_le h.2 m67.size⟩))
              have BV7 := Lib.hid (BV5.out.mods (M6.out.trans m67) (fun h => h))
              have HB7 : Hid (v9.val.length = n4 ∧ Sl W7 A4 c4 (bts v9.val)) := Lib.hid ⟨HB5.out.1, HB5.out.2.mods (M6.out.trans m67) (fun _ _ h => h)⟩
              rw [hW7, hg20]
              obtain ⟨e0, e1, e2, e3, e4, e5, e6, e7⟩ := B20.out.eight
              clear m67 hW7 hg20
              go_upto_region 37 with (first
                | (refine wpList_store_mk rfl 33 (.tmp 8) (.tmp 168) rfl rfl g rfl 33 (ldC l p) (ldC l9 p9) rfl P7.out.q.box rfl (by simp [Value.oneCell']) ld_info (by simp [Value.cells]) ?_; intro w8 b6 m6; have P8 := Lib.hid (P7.out.put (U' := 8 * i + 1) R7.out X7.out (by have := P5.out.q.kn; have := KN9.out; omega) (by have := P5.out.q.on; have := ON9.out; omega) b6 m6); have B8 := Lib.hid (B21.out.mods m6 (fun e => B21.out.ne_ P7.out.q.box (by decide) e)); have BV8 := Lib.hid (BV7.out.mods m6 (fun e => BV7.out.ne_ P7.out.q.box (by decide) e)); have HB8 : Hid (Sl w8 A4 c4 (bts v9.val)) := Lib.hid (HB7.out.2.mods' m6 (fun hne a ha e => HOFF.out hne a ha e)); clear b6 m6 e0 e1 e2 e3 e4 e5 e6 e7))
              have HONE : Hid (∀ V, Mods Nil w8 V → Calls Try.prog 19 #[.agg #[.int .u64 (v9.slot : Int), .int .u64 (v9.bal : Int), .slice A4 n4 c4]] V fun e W' => e = .returned (.agg #[.int .u64 (v9.slot : Int), .int .u64 (v9.bal : Int), .string (strOf v9.val)]) ∧ Mods Nil w8 W') := Lib.hid (fun V hV => (one15_any V v9.slot v9.bal HB7.out.1 (HB8.out.mods hV (fun _ _ h => h))).mono fun e W' ⟨h1, h2⟩ => ⟨h1, hV.trans h2⟩)
              have hrr : ∀ r : Bool, (r != r) = false := fun r => by simp
              refine qt_region 4 (by kernel_rfl) rfl ?_
              refine qt_quiet (fun V => Mods Nil w8 V) 0 3 1 (by kernel_rfl) ((Mods.refl Nil w8).drew) ?_
              simp only [List.drop_succ_cons, List.drop_zero, List.take_succ_cons, List.take_zero]
              repeat (first
                | go_big_quiet_skip
                | (go_big_quiet_want; first
                    | (refine gq_call HONE.out ?_ ?_; (focus (intro V; go_simp; done)); go_big_quiet_on)
                    | (refine gq_op (v := ?_) ?_ ?_; rotate_left; (focus (intro V hV; obtain ⟨f0, f1, f2⟩ := (BV8.out.mods hV (fun h => h)).three; obtain ⟨h0, h1, h2⟩ := (B8.out.mods hV (fun h => h)).three; have hneq := vneq_self15 V v9; go_simp; try with_reducible rfl)); go_big_quiet_on))
                  simp only [Act.put, List.setIfInBounds_toArray, List.set_cons_zero, List.set_cons_succ])
              refine wpQuiet_nil ?_
              intro V hV
              have NV := Lib.hid hV
              refine qt_list 3 1 rfl (by kernel_rfl) ?_
              simp only [List.drop_succ_cons, List.drop_zero]
              have hneq := vneq_self15 V v9
              clear hV hrr
              go_wp2_with fail
              go_meet
              case rel => exact ⟨E, LDN X1 W5 W7, l9, p9, L9, rfl, rfl, (P8.out.nil NV.out).q.mono (by omega) (by omega)⟩
          have hu4I : (u == 4) = false := by rw [beq_eq_false_iff_ne]; exact hu4
          by_cases hu5 : u = 5
          · subst hu5
            as_aux_lemma =>
              obtain ⟨l9, hl9⟩ : ∃ x, l.accept nd bal s = x := ⟨_, rfl⟩
              obtain ⟨o9, ho9⟩ : ∃ x, l.chosen nd bal s = x := ⟨_, rfl⟩
              obtain ⟨v9, hv9⟩ : ∃ x, orZ o9 = x := ⟨_, rfl⟩
              obtain ⟨r9, hr9⟩ : ∃ x, o9.isSome = x := ⟨_, rfl⟩
              have hc := P3.out.q.s.accepted2 (by omega) HND.out.1 HND.out.2 HBAL.out.1 HBAL.out.2.1 hl9 ho9
              rw [hv9, hr9] at hc
              have HC := Lib.hid hc
              have hgood := P3.out.q.s.good
              have HRF : Hid (∀ V, RL V l p L → Calls Try.prog 21 #[.agg (ldC l p), .int .i64 nd, .int .u64 (bal : Int), .int .u64 (s : Int)] V fun e W' => ∃ p9 L9, e = .returned (.tuple #[.agg (ldC l9 p9), .agg #[.int .u64 (v9.slot : Int), .int .u64 (v9.bal : Int), .string (strOf v9.val)], .bool r9]) ∧ RL W' l9 p9 L9 ∧ (∀ W1, W1.heap.size ≤ V.heap.size → ∀ X, p.in_ L X → p9.in_ L9 (LDN X W1 W')) ∧ p9.kn ≤ p.kn ∧ p9.on ≤ p.on ∧ Mods Nil V W') := Lib.hid (fun V hV => by
                have h := r15accepted_any V l p hV.opn (by have := P3.out.q.on; omega) (by have := hgood.many2; omega) (who_good hV hgood) nd bal s
                unfold RAcd at h
                rw [hl9, ho9, hv9, hr9] at h
                refine h.mono fun e W' ⟨p9, L9, h1, e1, e2, e3, e4, e5, e6, h2, h3, h4, h5, h6⟩ => ?_
                have hk : l9.prom = l.prom ∧ l9.known = l.known := by
                  rw [← hl9]; unfold PLd.accept; split <;> exact ⟨rfl, rfl⟩
                have hr : RL W' l9 p9 L9 := ⟨by rw [e1, e2, e3, hk.1]; exact hV.prom.nil h6, by rw [e4, e5, e6, hk.2]; exact hV.known.nil h6, h2⟩
                refine ⟨p9, L9, h1, hr, fun W1 hW1 X hX => ?_, by rw [e5]; exact Nat.le_refl _, h3, h6⟩
                refine in_old hX (fun a ha => .inl (by rw [← e1]; exact ha)) (fun a ha => .inl (by rw [← e4]; exact ha)) (fun a ha => ?_) (fun x hx a ha => ?_) hr
                · rcases h4 a ha with h | h
                  · exact .inl h
                  · exact .inr (by omega)
                · rcases h5 x hx a ha with h | h
                  · exact .inl h
                  · exact .inr (by omega))
              clear hl9 ho9 hv9 hr9 hgood hc
              go_upto_region 42 with (first
                | (go_at_call 20; refine (HC.out).mono ?_; rintro e w4 ⟨A4, n4, c4, rfl, hb4, s4, m4⟩; have P4 := Lib.hid (P3.out.call s4 (fun k hk => ldn_old hk) m4); have HB4 := Lib.hid hb4; clear y0 y1 y2 y3 y4 y5 y6; clear s4 m4 hb4))
              obtain ⟨gv, hgv⟩ : ∃ gv, w4.heap.size = gv := ⟨_, rfl⟩
              obtain ⟨W5, hW5⟩ : ∃ W, w4.alloc (.cells #[.int .u64 (v9.slot : Int), .int .u64 (v9.bal : Int), .slice A4 n4 c4] 49) = W := ⟨_, rfl⟩
              have m45 : Mods Nil w4 W5 := by rw [← hW5]; exact (Mods.refl Nil w4).alloc _
              have P5 := Lib.hid (P4.out.nil m45)
              have HB5 : Hid (v9.val.length = n4 ∧ Sl W5 A4 c4 (bts v9.val)) := Lib.hid ⟨HB4.out.1, HB4.out.2.1.mods m45 (fun _ _ h => h)⟩
              have BV5 : Hid (Blk W5 gv 49 #[.int .u64 (v9.slot : Int), .int .u64 (v9.bal : Int), .slice A4 n4 c4]) := Lib.hid (by rw [← hW5, ← hgv]; exact Blk.new w4 _ _)
              rw [hW5, hgv]
              clear m45 hW5 hgv
              obtain ⟨y0, y1, y2, y3, y4, y5, y6⟩ := P5.out.ax.seven15
              obtain ⟨k0, k1, k2, k3, k4, k5, k6, k7⟩ := P5.out.q.box.eight
              have HOFF : Hid (bts v9.val ≠ [] → ∀ a, A4 = some a → a.block ≠ g) := Lib.hid (fun hne a ha e => (HB4.out.2.2 hne a ha).2 (by rw [e]; exact P3.out.q.xg.1))
              go_upto_region 43 with (first
                | (go_at_call 21; refine (HRF.out _ P5.out.q.r).mono ?_; rintro e w6 ⟨p9, L9, rfl, r9, x9, kn9, on9, m6⟩; have R6 := Lib.hid r9; have X9 := Lib.hid x9; have KN9 := Lib.hid kn9; have ON9 := Lib.hid on9; have M6 := Lib.hid m6; clear r9 x9 kn9 on9 m6 y0 y1 y2 y3 y4 y5 y6 k0 k1 k2 k3 k4 k5 k6 k7))
              obtain ⟨g20, hg20⟩ : ∃ x, w6.heap.size = x := ⟨_, rfl⟩
              obtain ⟨W7, hW7⟩ : ∃ W, (w6.alloc (.cells (ldC l9 p9) 33)).alloc (.cells #[.int .u64 (v9.slot : Int), .int .u64 (v9.bal : Int), .string (strOf v9.val)] 53) = W := ⟨_, rfl⟩
              have m67 : Mods Nil w6 W7 := by rw [← hW7]; exact ((Mods.refl Nil w6).alloc _).alloc _
              have B20 : Hid (Blk W7 g20 33 (ldC l9 p9)) := Lib.hid (by rw [← hW7, ← hg20]; exact (Blk.new w6 _ _).alloc _)
              have B21 : Hid (Blk W7 (g20 + 1) 53 #[.int .u64 (v9.slot : Int), .int .u64 (v9.bal : Int), .string (strOf v9.val)]) := Lib.hid (by
                rw [← hW7, ← hg20]
                have h := Blk.new (w6.alloc (.cells (ldC l9 p9) 33)) 53 #[.int .u64 (v9.slot : Int), .int .u64 (v9.bal : Int), .string (strOf v9.val)]
                rw [World.size_alloc] at h
                exact h)
              have P7 := Lib.hid (P5.out.more (M6.out.trans m67))
              have R7 := Lib.hid (R6.out.nil m67)
              have X7 : Hid (p9.in_ L9 (LDN (LDN X1 w3 w4) W5 W7)) := Lib.hid ((X9.out W5 (Nat.le_refl _) _ P5.out.q.xa).sub (fun k hk => by
                rcases hk with h | h
                · exact .inl h
                · exact .inr ⟨h.1, Nat.lt_of_lt_of_le h.2 m67.size⟩))
              have BV7 := Lib.hid (BV5.out.mods (M6.out.trans m67) (fun h => h))
              have HB7 : Hid (v9.val.length = n4 ∧ Sl W7 A4 c4 (bts v9.val)) := Lib.hid ⟨HB5.out.1, HB5.out.2.mods (M6.out.trans m67) (fun _ _ h => h)⟩
              rw [hW7, hg20]
              obtain ⟨e0, e1, e2, e3, e4, e5, e6, e7⟩ := B20.out.eight
              clear m67 hW7 hg20
              go_upto_region 44 with (first
                | (refine wpList_store_mk rfl 33 (.tmp 8) (.tmp 201) rfl rfl g rfl 33 (ldC l p) (ldC l9 p9) rfl P7.out.q.box rfl (by simp [Value.oneCell']) ld_info (by simp [Value.cells]) ?_; intro w8 b6 m6; have P8 := Lib.hid (P7.out.put (U' := 8 * i) R7.out X7.out (by have := P5.out.q.kn; have := KN9.out; omega) (by have := P5.out.q.on; have := ON9.out; omega) b6 m6); have B8 := Lib.hid (B21.out.mods m6 (fun e => B21.out.ne_ P7.out.q.box (by decide) e)); have BV8 := Lib.hid (BV7.out.mods m6 (fun e => BV7.out.ne_ P7.out.q.box (by decide) e)); have HB8 : Hid (Sl w8 A4 c4 (bts v9.val)) := Lib.hid (HB7.out.2.mods' m6 (fun hne a ha e => HOFF.out hne a ha e)); clear b6 m6 e0 e1 e2 e3 e4 e5 e6 e7))
              have HONE : Hid (∀ V, Mods Nil w8 V → Calls Try.prog 19 #[.agg #[.int .u64 (v9.slot : Int), .int .u64 (v9.bal : Int), .slice A4 n4 c4]] V fun e W' => e = .returned (.agg #[.int .u64 (v9.slot : Int), .int .u64 (v9.bal : Int), .string (strOf v9.val)]) ∧ Mods Nil w8 W') := Lib.hid (fun V hV => (one15_any V v9.slot v9.bal HB7.out.1 (HB8.out.mods hV (fun _ _ h => h))).mono fun e W' ⟨h1, h2⟩ => ⟨h1, hV.trans h2⟩)
              have hrr : ∀ r : Bool, (r != r) = false := fun r => by simp
              have hr9 := hrr r9
              refine qt_region 9 (by kernel_rfl) rfl ?_
              refine qt_quiet (fun V => Mods Nil w8 V) 0 8 1 (by kernel_rfl) ((Mods.refl Nil w8).drew) ?_
              simp only [List.drop_succ_cons, List.drop_zero, List.take_succ_cons, List.take_zero]
              repeat (first
                | go_big_quiet_skip
                | (go_big_quiet_want; first
                    | (refine gq_call HONE.out ?_ ?_; (focus (intro V; go_simp; done)); go_big_quiet_on)
                    | (refine gq_op (v := ?_) ?_ ?_; rotate_left; (focus (intro V hV; obtain ⟨f0, f1, f2⟩ := (BV8.out.mods hV (fun h => h)).three; obtain ⟨h0, h1, h2⟩ := (B8.out.mods hV (fun h => h)).three; have hneq := vneq_self15 V v9; go_simp; try with_reducible rfl)); go_big_quiet_on))
                  simp only [Act.put, List.setIfInBounds_toArray, List.set_cons_zero, List.set_cons_succ])
              refine wpQuiet_nil ?_
              intro V hV
              have NV := Lib.hid hV
              refine qt_list 8 1 rfl (by kernel_rfl) ?_
              simp only [List.drop_succ_cons, List.drop_zero]
              have hneq := vneq_self15 V v9
              clear hV hrr
              go_wp2_with fail
              go_meet
              case rel => exact ⟨0, LDN (LDN X1 w3 w4) W5 W7, l9, p9, L9, rfl, rfl, (P8.out.nil NV.out).q.mono (by omega) (by omega)⟩
          have hu5I : (u == 5) = false := by rw [beq_eq_false_iff_ne]; exact hu5
          by_cases hu6 : u = 6
          · subst hu6
            as_aux_lemma =>
              obtain ⟨l9, hl9⟩ : ∃ x, l.accept nd bal s = x := ⟨_, rfl⟩
              obtain ⟨o9, ho9⟩ : ∃ x, l.chosen nd bal s = x := ⟨_, rfl⟩
              obtain ⟨v9, hv9⟩ : ∃ x, orZ o9 = x := ⟨_, rfl⟩
              obtain ⟨r9, hr9⟩ : ∃ x, o9.isSome = x := ⟨_, rfl⟩
              have hc := P3.out.q.s.accepted2 (by omega) HND.out.1 HND.out.2 HBAL.out.1 HBAL.out.2.1 hl9 ho9
              rw [hv9, hr9] at hc
              have HC := Lib.hid hc
              have hgood := P3.out.q.s.good
              have HRF : Hid (∀ V, RL V l p L → Calls Try.prog 21 #[.agg (ldC l p), .int .i64 nd, .int .u64 (bal : Int), .int .u64 (s : Int)] V fun e W' => ∃ p9 L9, e = .returned (.tuple #[.agg (ldC l9 p9), .agg #[.int .u64 (v9.slot : Int), .int .u64 (v9.bal : Int), .string (strOf v9.val)], .bool r9]) ∧ RL W' l9 p9 L9 ∧ (∀ W1, W1.heap.size ≤ V.heap.size → ∀ X, p.in_ L X → p9.in_ L9 (LDN X W1 W')) ∧ p9.kn ≤ p.kn ∧ p9.on ≤ p.on ∧ Mods Nil V W') := Lib.hid (fun V hV => by
                have h := r15accepted_any V l p hV.opn (by have := P3.out.q.on; omega) (by have := hgood.many2; omega) (who_good hV hgood) nd bal s
                unfold RAcd at h
                rw [hl9, ho9, hv9, hr9] at h
                refine h.mono fun e W' ⟨p9, L9, h1, e1, e2, e3, e4, e5, e6, h2, h3, h4, h5, h6⟩ => ?_
                have hk : l9.prom = l.prom ∧ l9.known = l.known := by
                  rw [← hl9]; unfold PLd.accept; split <;> exact ⟨rfl, rfl⟩
                have hr : RL W' l9 p9 L9 := ⟨by rw [e1, e2, e3, hk.1]; exact hV.prom.nil h6, by rw [e4, e5, e6, hk.2]; exact hV.known.nil h6, h2⟩
                refine ⟨p9, L9, h1, hr, fun W1 hW1 X hX => ?_, by rw [e5]; exact Nat.le_refl _, h3, h6⟩
                refine in_old hX (fun a ha => .inl (by rw [← e1]; exact ha)) (fun a ha => .inl (by rw [← e4]; exact ha)) (fun a ha => ?_) (fun x hx a ha => ?_) hr
                · rcases h4 a ha with h | h
                  · exact .inl h
                  · exact .inr (by omega)
                · rcases h5 x hx a ha with h | h
                  · exact .inl h
                  · exact .inr (by omega))
              clear hl9 ho9 hv9 hr9 hgood hc
              go_upto_region 42 with (first
                | (go_at_call 20; refine (HC.out).mono ?_; rintro e w4 ⟨A4, n4, c4, rfl, hb4, s4, m4⟩; have P4 := Lib.hid (P3.out.call s4 (fun k hk => ldn_old hk) m4); have HB4 := Lib.hid hb4; clear y0 y1 y2 y3 y4 y5 y6; clear s4 m4 hb4))
              obtain ⟨gv, hgv⟩ : ∃ gv, w4.heap.size = gv := ⟨_, rfl⟩
              obtain ⟨W5, hW5⟩ : ∃ W, w4.alloc (.cells #[.int .u64 (v9.slot : Int), .int .u64 (v9.bal : Int), .slice A4 n4 c4] 49) = W := ⟨_, rfl⟩
              have m45 : Mods Nil w4 W5 := by rw [← hW5]; exact (Mods.refl Nil w4).alloc _
              have P5 := Lib.hid (P4.out.nil m45)
              have HB5 : Hid (v9.val.length = n4 ∧ Sl W5 A4 c4 (bts v9.val)) := Lib.hid ⟨HB4.out.1, HB4.out.2.1.mods m45 (fun _ _ h => h)⟩
              have BV5 : Hid (Blk W5 gv 49 #[.int .u64 (v9.slot : Int), .int .u64 (v9.bal : Int), .slice A4 n4 c4]) := Lib.hid (by rw [← hW5, ← hgv]; exact Blk.new w4 _ _)
              rw [hW5, hgv]
              clear m45 hW5 hgv
              obtain ⟨y0, y1, y2, y3, y4, y5, y6⟩ := P5.out.ax.seven15
              obtain ⟨k0, k1, k2, k3, k4, k5, k6, k7⟩ := P5.out.q.box.eight
              have HOFF : Hid (bts v9.val ≠ [] → ∀ a, A4 = some a → a.block ≠ g) := Lib.hid (fun hne a ha e => (HB4.out.2.2 hne a ha).2 (by rw [e]; exact P3.out.q.xg.1))
              go_upto_region 43 with (first
                | (go_at_call 21; refine (HRF.out _ P5.out.q.r).mono ?_; rintro e w6 ⟨p9, L9, rfl, r9, x9, kn9, on9, m6⟩; have R6 := Lib.hid r9; have X9 := Lib.hid x9; have KN9 := Lib.hid kn9; have ON9 := Lib.hid on9; have M6 := Lib.hid m6; clear r9 x9 kn9 on9 m6 y0 y1 y2 y3 y4 y5 y6 k0 k1 k2 k3 k4 k5 k6 k7))
              obtain ⟨g20, hg20⟩ : ∃ x, w6.heap.size = x := ⟨_, rfl⟩
              obtain ⟨W7, hW7⟩ : ∃ W, (w6.alloc (.cells (ldC l9 p9) 33)).alloc (.cells #[.int .u64 (v9.slot : Int), .int .u64 (v9.bal : Int), .string (strOf v9.val)] 53) = W := ⟨_, rfl⟩
              have m67 : Mods Nil w6 W7 := by rw [← hW7]; exact ((Mods.refl Nil w6).alloc _).alloc _
              have B20 : Hid (Blk W7 g20 33 (ldC l9 p9)) := Lib.hid (by rw [← hW7, ← hg20]; exact (Blk.new w6 _ _).alloc _)
              have B21 : Hid (Blk W7 (g20 + 1) 53 #[.int .u64 (v9.slot : Int), .int .u64 (v9.bal : Int), .string (strOf v9.val)]) := Lib.hid (by
                rw [← hW7, ← hg20]
                have h := Blk.new (w6.alloc (.cells (ldC l9 p9) 33)) 53 #[.int .u64 (v9.slot : Int), .int .u64 (v9.bal : Int), .string (strOf v9.val)]
                rw [World.size_alloc] at h
                exact h)
              have P7 := Lib.hid (P5.out.more (M6.out.trans m67))
              have R7 := Lib.hid (R6.out.nil m67)
              have X7 : Hid (p9.in_ L9 (LDN (LDN X1 w3 w4) W5 W7)) := Lib.hid ((X9.out W5 (Nat.le_refl _) _ P5.out.q.xa).sub (fun k hk => by
                rcases hk with h | h
                · exact .inl h
                · exact .inr ⟨h.1, Nat.lt_of_lt_of_le h.2 m67.size⟩))
              have BV7 := Lib.hid (BV5.out.mods (M6.out.trans m67) (fun h => h))
              have HB7 : Hid (v9.val.length = n4 ∧ Sl W7 A4 c4 (bts v9.val)) := Lib.hid ⟨HB5.out.1, HB5.out.2.mods (M6.out.trans m67) (fun _ _ h => h)⟩
              rw [hW7, hg20]
              obtain ⟨e0, e1, e2, e3, e4, e5, e6, e7⟩ := B20.out.eight
              clear m67 hW7 hg20
              go_upto_region 44 with (first
                | (refine wpList_store_mk rfl 33 (.tmp 8) (.tmp 201) rfl rfl g rfl 33 (ldC l p) (ldC l9 p9) rfl P7.out.q.box rfl (by simp [Value.oneCell']) ld_info (by simp [Value.cells]) ?_; intro w8 b6 m6; have P8 := Lib.hid (P7.out.put (U' := 8 * i) R7.out X7.out (by have := P5.out.q.kn; have := KN9.out; omega) (by have := P5.out.q.on; have := ON9.out; omega) b6 m6); have B8 := Lib.hid (B21.out.mods m6 (fun e => B21.out.ne_ P7.out.q.box (by decide) e)); have BV8 := Lib.hid (BV7.out.mods m6 (fun e => BV7.out.ne_ P7.out.q.box (by decide) e)); have HB8 : Hid (Sl w8 A4 c4 (bts v9.val)) := Lib.hid (HB7.out.2.mods' m6 (fun hne a ha e => HOFF.out hne a ha e)); clear b6 m6 e0 e1 e2 e3 e4 e5 e6 e7))
              have HONE : Hid (∀ V, Mods Nil w8 V → Calls Try.prog 19 #[.agg #[.int .u64 (v9.slot : Int), .int .u64 (v9.bal : Int), .slice A4 n4 c4]] V fun e W' => e = .returned (.agg #[.int .u64 (v9.slot : Int), .int .u64 (v9.bal : Int), .string (strOf v9.val)]) ∧ Mods Nil w8 W') := Lib.hid (fun V hV => (one15_any V v9.slot v9.bal HB7.out.1 (HB8.out.mods hV (fun _ _ h => h))).mono fun e W' ⟨h1, h2⟩ => ⟨h1, hV.trans h2⟩)
              have hrr : ∀ r : Bool, (r != r) = false := fun r => by simp
              have hr9 := hrr r9
              refine qt_region 9 (by kernel_rfl) rfl ?_
              refine qt_quiet (fun V => Mods Nil w8 V) 0 8 1 (by kernel_rfl) ((Mods.refl Nil w8).drew) ?_
              simp only [List.drop_succ_cons, List.drop_zero, List.take_succ_cons, List.take_zero]
              repeat (first
                | go_big_quiet_skip
                | (go_big_quiet_want; first
                    | (refine gq_call HONE.out ?_ ?_; (focus (intro V; go_simp; done)); go_big_quiet_on)
                    | (refine gq_op (v := ?_) ?_ ?_; rotate_left; (focus (intro V hV; obtain ⟨f0, f1, f2⟩ := (BV8.out.mods hV (fun h => h)).three; obtain ⟨h0, h1, h2⟩ := (B8.out.mods hV (fun h => h)).three; have hneq := vneq_self15 V v9; go_simp; try with_reducible rfl)); go_big_quiet_on))
                  simp only [Act.put, List.setIfInBounds_toArray, List.set_cons_zero, List.set_cons_succ])
              refine wpQuiet_nil ?_
              intro V hV
              have NV := Lib.hid hV
              refine qt_list 8 1 rfl (by kernel_rfl) ?_
              simp only [List.drop_succ_cons, List.drop_zero]
              have hneq := vneq_self15 V v9
              clear hV hrr
              go_wp2_with fail
              go_meet
              case rel => exact ⟨0, LDN (LDN X1 w3 w4) W5 W7, l9, p9, L9, rfl, rfl, (P8.out.nil NV.out).q.mono (by omega) (by omega)⟩
          have hu6I : (u == 6) = false := by rw [beq_eq_false_iff_ne]; exact hu6
          as_aux_lemma =>
            obtain ⟨l9, hl9⟩ : ∃ x, l.stop = x := ⟨_, rfl⟩
            obtain ⟨p9, hp9⟩ : ∃ x, ({ p with oA := none, on := 0, oc := 0 } : LdA) = x := ⟨_, rfl⟩
            obtain ⟨g1, g2, g3, g4⟩ := rl_stop (L := L) hl9 hp9
            have G := Lib.hid (And.intro g1 (And.intro g2 (And.intro g3 g4)))
            have hc := P3.out.q.s.stop
            rw [hl9] at hc
            have HC := Lib.hid hc
            have HRF : Hid (∀ V, Calls Try.prog 23 #[.agg (ldC l p)] V fun e W' => e = .returned (.agg (ldC l9 p9)) ∧ Mods Nil V W') := Lib.hid (fun V => by
              have h := r15stop_any V l p
              unfold RStop at h
              rw [hl9, hp9] at h
              exact h)
            clear hl9 hp9 g1 g2 g3 g4 hc
            go_wp2_with (first
              | (go_at_call 23; refine (HRF.out _).mono ?_; rintro e w5 ⟨rfl, m5⟩; have P5 := Lib.hid (P4.out.nil m5); clear m5)
              | (go_at_call 22; refine (HC.out).mono ?_; rintro e w4 ⟨rfl, s4, m4⟩; have P4 := Lib.hid (P3.out.call s4 (fun _ h => h) m4); clear y0 y1 y2 y3 y4 y5 y6; obtain ⟨k0, k1, k2, k3, k4, k5, k6, k7⟩ := P4.out.q.box.eight; clear s4 m4)
              | (refine wpList_store_mk rfl 33 (.tmp 8) (.tmp 89) rfl rfl g rfl 33 (ldC l p) (ldC l9 p9) rfl P5.out.q.box rfl (by simp [Value.oneCell']) ld_info (by simp [Value.cells]) ?_; intro w6 b6 m6; have P6 := Lib.hid (P5.out.put (U' := 8 * i) (G.out.1 _ P5.out.q.r) (G.out.2.1 _ P5.out.q.xa) (by have := P5.out.q.kn; have := G.out.2.2.1; omega) (by have := P5.out.q.on; have := G.out.2.2.2; omega) b6 m6); clear b6 m6))
            go_meet
            case rel => exact ⟨0, X1, l9, p9, [], rfl, rfl, P6.out.q.mono (by omega) (by omega)⟩
        case rest =>
          obtain ⟨E, X8, l8, p8, L8, rfl, rfl, hq8⟩ := hcut
          have HQ8 := Lib.hid hq8
          obtain ⟨k0, k1, k2, k3, k4, k5, k6, k7⟩ := hq8.box.eight
          clear hq8 y0 y1 y2 y3 y4 y5 y6
          as_aux_lemma =>
            obtain ⟨s2, hs2⟩ : ∃ x, decide (l8.stage = 2) = x := ⟨_, rfl⟩
            have hst : ((l8.stage : Int) == 2) = s2 := by rw [← hs2, Bool.eq_iff_iff]; simp; omega
            have HLD : Hid (∀ V, Mods Nil wc V → Calls Try.prog 24 #[.pointer (some ⟨b, 0, none⟩)] V fun e W' => e = .returned (.bool s2) ∧ Mods Nil wc W') := Lib.hid (fun V hV => (HQ8.out.nil hV).s.leads.mono fun e W' ⟨h1, h2⟩ => ⟨by rw [h1, hs2], hV.trans h2⟩)
            have HBL : Hid (∀ V, Mods Nil wc V → Calls Try.prog 25 #[.pointer (some ⟨b, 0, none⟩)] V fun e W' => e = .returned (.int .u64 (l8.bal : Int)) ∧ Mods Nil wc W') := Lib.hid (fun V hV => (HQ8.out.nil hV).s.ballot.mono fun e W' ⟨h1, h2⟩ => ⟨h1, hV.trans h2⟩)
            have HG8 : Hid (g < wc.heap.size) := Lib.hid HQ8.out.box.lt
            have hne : (s2 != s2) = false := by simp
            have hEE : ((E : Int) != (E : Int)) = false := by simp
            have hBB : ((l8.bal : Int) != (l8.bal : Int)) = false := by simp
            clear hs2
            go_wp2_with fail
            refine qk_region (S := fun V => Mods Nil wc V) (k := 23) 27 (by kernel_rfl) rfl ?_
            refine qk_quiet (fun V => Mods Nil wc V) 0 18 9 (by kernel_rfl) ((Mods.refl Nil wc).drew) (fun V h => h) ?_
            simp only [List.drop_succ_cons, List.drop_zero, List.take_succ_cons, List.take_zero]
            repeat (first
              | go_big_quiet_skip
              | (go_big_quiet_want; first
                  | (refine gq_call HLD.out ?_ ?_; (focus (intro V; go_simp; done)); go_big_quiet_on)
                  | (refine gq_call HBL.out ?_ ?_; (focus (intro V; go_simp; done)); go_big_quiet_on)
                  | (refine gq_op (v := ?_) ?_ ?_; rotate_left; (focus (intro V hV; have e1 := (World.cell?_of_block (a := ⟨g, 1, none⟩) (hV.block g HG8.out (fun h => h))).trans k1; have e2 := (World.cell?_of_block (a := ⟨g, 2, none⟩) (hV.block g HG8.out (fun h => h))).trans k2; go_simp; try with_reducible rfl)); go_big_quiet_on))
                simp only [Act.put, List.setIfInBounds_toArray, List.set_cons_zero, List.set_cons_succ])
            refine wpQuiet_nil ?_
            intro V hV
            have HV := Lib.hid hV
            refine qk_value 18 8 rfl (by kernel_rfl) (by rfl) (v := ?_) ?_ hV ?_
            rotate_left
            · go_simp
              try with_reducible rfl
            simp only [List.getElem_toArray, List.getElem_cons_succ, List.getElem_cons_zero, Act.put, List.setIfInBounds_toArray, List.set_cons_zero, List.set_cons_succ]
            refine qk_ahead 22 7 _ _ rfl (by kernel_rfl) (by kernel_rfl) (by kernel_rfl) (by kernel_rfl) (by kernel_rfl) (fun _ _ _ h => h) rfl (by rfl) (v := ?_) ?_ hV ?_
            rotate_left
            · intro V6 hV6
              obtain ⟨e0, e1, e2, e3, e4, e5, e6, e7⟩ := (HQ8.out.nil hV6).box.eight
              go_simp
              try with_reducible rfl
            simp only [List.getElem_toArray, List.getElem_cons_succ, List.getElem_cons_zero, Act.put, List.setIfInBounds_toArray, List.set_cons_zero, List.set_cons_succ]
            refine qk_valueL 19 6 _ _ rfl (by kernel_rfl) rfl (by rfl) (v := ?_) ?_ hV ?_
            rotate_left
            · go_simp
              try with_reducible rfl
            simp only [List.getElem_toArray, List.getElem_cons_succ, List.getElem_cons_zero, Act.put, List.setIfInBounds_toArray, List.set_cons_zero, List.set_cons_succ]
            refine qk_callL 20 5 _ _ rfl (by kernel_rfl) rfl (by rfl) _ _ ?_ (((HQ8.out.nil hV).opens (by omega)).mono ?_)
            · go_simp
            rintro e w5 ⟨A5, n5, c5, M5, rfl, hm5, v5, m5⟩
            have V5 := Lib.hid v5
            have HM5 := Lib.hid hm5
            have N5 := Lib.hid (hV.trans m5)
            have HN5 : Hid (n5 ≤ 100000) := Lib.hid (by
              have h1 := v5.len
              have h2 := congrArg List.length hm5
              unfold PLd.opens at h2
              rw [List.length_map, List.length_map] at h2
              have h3 := HQ8.out.r.onLen
              have h4 := HQ8.out.on
              omega)
            refine ⟨_, rfl, N5.out, ?_⟩
            clear v5 hm5 m5
            simp only [List.getElem_toArray, List.getElem_cons_succ, List.getElem_cons_zero, Act.put, List.setIfInBounds_toArray, List.set_cons_zero, List.set_cons_succ]
            refine qk_callU 21 4 _ rfl (by kernel_rfl) (by kernel_rfl) (by rfl) _ _ ?_ ((votes15_any _ V5.out HN5.out).mono ?_)
            · go_simp
            rintro e w6 ⟨A6, c6, rfl, r6, -, m6⟩
            rw [HM5.out] at r6
            have R6 := Lib.hid r6
            have N6 := Lib.hid (N5.out.trans m6)
            refine ⟨_, rfl, N6.out, ?_⟩
            clear r6 m6
            simp only [List.getElem_toArray, List.getElem_cons_succ, List.getElem_cons_zero, Act.put, List.setIfInBounds_toArray, List.set_cons_zero, List.set_cons_succ]
            refine qk_last 3 rfl (by kernel_rfl) (by rfl) _ _ ?_ ((r15opens_any w6 l8 p8 (HQ8.out.nil N6.out).r.opn (by have := HQ8.out.on; omega)).mono ?_)
            · go_simp
            rintro e w7 ⟨A7, c7, rfl, r7, -, m7⟩
            have R7 := Lib.hid r7
            have R6' := Lib.hid (R6.out.nil m7)
            have N7 := Lib.hid (N6.out.trans m7)
            have HL7 : Hid (l8.opn.length ≤ 100000) := Lib.hid (by have h3 := HQ8.out.r.onLen; have h4 := HQ8.out.on; omega)
            refine ⟨_, rfl, ?_⟩
            clear r7 m7
            simp only [List.getElem_toArray, List.getElem_cons_succ, List.getElem_cons_zero, Act.put, List.setIfInBounds_toArray, List.set_cons_zero, List.set_cons_succ]
            refine qt_call 24 2 (by kernel_rfl) _ rfl (by rfl) _ _ ?_ ((r13same_any w7 R6'.out R7.out HN5.out HL7.out).mono ?_)
            · go_simp
            rintro e w8 ⟨r8, rfl, h8, m8⟩
            obtain rfl : r8 = true := h8.2 rfl
            have N8 := Lib.hid (N7.out.trans m8)
            refine ⟨_, rfl, ?_⟩
            clear h8 m8
            simp only [List.getElem_toArray, List.getElem_cons_succ, List.getElem_cons_zero, Act.put, List.setIfInBounds_toArray, List.set_cons_zero, List.set_cons_succ]
            refine qt_list 25 2 rfl (by kernel_rfl) ?_
            simp only [List.drop_succ_cons, List.drop_zero]
            go_wp2
            exact ⟨⟨i + 1, X8, l8, p8, L8, by omega, by omega, by go_num, HQ8.out.nil N8.out⟩, by simp [intOf]; omega⟩
      ·
        have NN : Hid (Mods Nil w wr) := Lib.hid (M1.out.trans HQ.out.s.m)
        by_cases hlt : i < n
        · have hi4 : decide ((i : Int) < 40) = false := by simp; omega
          have hi4N : decide (i < 40) = false := by simp; omega
          have hltI : decide ((i : Int) < (n : Int)) = true := by simp; omega
          have hltN : decide (i < n) = true := by simp; omega
          clear hgo hlt
          go_wp2_with (first
            | (go_at_call 26; refine (ldr_open_nil _).mono ?_; rintro e z7 ⟨A7, c7, rfl, y7⟩; have N7 := Lib.hid (N6.out.trans y7); clear y7)
            | (go_at_call 25; refine (ldr_ballot_nil _).mono ?_; rintro e z6 ⟨rfl, y6⟩; have N6 := Lib.hid (N5.out.trans y6); clear y6)
            | (go_at_call 24; refine (ldr_leads_nil _).mono ?_; rintro e z5 ⟨rfl, y5⟩; have N5 := Lib.hid (N4.out.trans y5); clear y5)
            | (go_at_call 11; refine (ldr_begin_nil _ _ _).mono ?_; rintro e z4 ⟨rfl, y4⟩; have N4 := Lib.hid (((N3.out.alloc (.cells #[.int .u64 0, .int .u64 0, .slice none 0 0] 49))).trans y4); clear y4)
            | (go_at_call 20; refine (ldr_acc_nilZ _ _ _ _).mono ?_; rintro e z3 ⟨rfl, y3⟩; have N3 := Lib.hid (N2.out.trans y3); clear y3)
            | (go_at_call 13; refine (ldr_prom_nil _ _ _ _ _ _ _).mono ?_; rintro e z2 ⟨v2, rfl, y2⟩; have N2 := Lib.hid ((N1.out.alloc (.cells #[.int .u64 0, .int .u64 0, .slice none 0 0] 49)).trans y2); clear y2)
            | (go_at_call 17; refine (ldr_prop_nilZ _ _ _ _).mono ?_; rintro e z1 ⟨rfl, y1⟩; have N1 := Lib.hid (N0.out.trans y1); clear y1)
            | (go_at_call 22; refine (ldr_stop_nil _).mono ?_; rintro e z0 ⟨rfl, y0⟩; have N0 := Lib.hid (NN.out.trans y0); clear y0))
          go_ret
          exact ⟨rfl, N7.out⟩
        · have hltI : decide ((i : Int) < (n : Int)) = false := by simp; omega
          have hltN : decide (i < n) = false := by simp; omega
          clear hgo hlt
          go_wp2_with (first
            | (go_at_call 26; refine (ldr_open_nil _).mono ?_; rintro e z7 ⟨A7, c7, rfl, y7⟩; have N7 := Lib.hid (N6.out.trans y7); clear y7)
            | (go_at_call 25; refine (ldr_ballot_nil _).mono ?_; rintro e z6 ⟨rfl, y6⟩; have N6 := Lib.hid (N5.out.trans y6); clear y6)
            | (go_at_call 24; refine (ldr_leads_nil _).mono ?_; rintro e z5 ⟨rfl, y5⟩; have N5 := Lib.hid (N4.out.trans y5); clear y5)
            | (go_at_call 11; refine (ldr_begin_nil _ _ _).mono ?_; rintro e z4 ⟨rfl, y4⟩; have N4 := Lib.hid (((N3.out.alloc (.cells #[.int .u64 0, .int .u64 0, .slice none 0 0] 49))).trans y4); clear y4)
            | (go_at_call 20; refine (ldr_acc_nilZ _ _ _ _).mono ?_; rintro e z3 ⟨rfl, y3⟩; have N3 := Lib.hid (N2.out.trans y3); clear y3)
            | (go_at_call 13; refine (ldr_prom_nil _ _ _ _ _ _ _).mono ?_; rintro e z2 ⟨v2, rfl, y2⟩; have N2 := Lib.hid ((N1.out.alloc (.cells #[.int .u64 0, .int .u64 0, .slice none 0 0] 49)).trans y2); clear y2)
            | (go_at_call 17; refine (ldr_prop_nilZ _ _ _ _).mono ?_; rintro e z1 ⟨rfl, y1⟩; have N1 := Lib.hid (N0.out.trans y1); clear y1)
            | (go_at_call 22; refine (ldr_stop_nil _).mono ?_; rintro e z0 ⟨rfl, y0⟩; have N0 := Lib.hid (NN.out.trans y0); clear y0))
          go_ret
          exact ⟨rfl, N7.out⟩
  ·
    have hmany' : many < 1 ∨ 32 < many := by omega
    have gm : (decide ((1 : Int) ≤ many) = false) ∨ (decide ((1 : Int) ≤ many) = true ∧ decide (many ≤ 32) = false) := by
      rcases hmany' with h | h
      · exact .inl (by simp; omega)
      · exact .inr ⟨by simp; omega, by simp; omega⟩
    have HMB := Lib.hid hmany'
    clear hmany hmany'
    go_enter Try.func3, Try.ntmps3
    rcases gm with gm | ⟨gm, gm2⟩
    all_goals
      go_wp2_with (first
        | (go_at_call 8; refine (awake15_any _).mono ?_; rintro e w1 ⟨rfl, m1⟩; have M1 := Lib.hid m1; clear m1)
        | (go_at_call 9; refine (ldr_new_bad _ HMB.out).mono ?_; rintro e w2 ⟨rfl, m2⟩; have M2 := Lib.hid (M1.out.trans m2); clear m2))
      go_loopw [9] (fun x wr => x = .int .i64 0 ∧ Mods Nil w wr) (fun x _ => 0)
      case atStart => exact ⟨rfl, M2.out.alloc _⟩
      case round =>
        obtain ⟨rfl, hnn⟩ := hrel
        have NN := Lib.hid hnn
        clear hnn
        by_cases hlt : 0 < n
        · have hltI : decide ((0 : Int) < (n : Int)) = true := by simp; omega
          have hltN : decide (0 < n) = true := by simp; omega
          clear hlt
          go_wp2_with (first
            | (go_at_call 26; refine (ldr_open_nil _).mono ?_; rintro e z7 ⟨A7, c7, rfl, y7⟩; have N7 := Lib.hid (N6.out.trans y7); clear y7)
            | (go_at_call 25; refine (ldr_ballot_nil _).mono ?_; rintro e z6 ⟨rfl, y6⟩; have N6 := Lib.hid (N5.out.trans y6); clear y6)
            | (go_at_call 24; refine (ldr_leads_nil _).mono ?_; rintro e z5 ⟨rfl, y5⟩; have N5 := Lib.hid (N4.out.trans y5); clear y5)
            | (go_at_call 11; refine (ldr_begin_nil _ _ _).mono ?_; rintro e z4 ⟨rfl, y4⟩; have N4 := Lib.hid (((N3.out.alloc (.cells #[.int .u64 0, .int .u64 0, .slice none 0 0] 49))).trans y4); clear y4)
            | (go_at_call 20; refine (ldr_acc_nilZ _ _ _ _).mono ?_; rintro e z3 ⟨rfl, y3⟩; have N3 := Lib.hid (N2.out.trans y3); clear y3)
            | (go_at_call 13; refine (ldr_prom_nil _ _ _ _ _ _ _).mono ?_; rintro e z2 ⟨v2, rfl, y2⟩; have N2 := Lib.hid ((N1.out.alloc (.cells #[.int .u64 0, .int .u64 0, .slice none 0 0] 49)).trans y2); clear y2)
            | (go_at_call 17; refine (ldr_prop_nilZ _ _ _ _).mono ?_; rintro e z1 ⟨rfl, y1⟩; have N1 := Lib.hid (N0.out.trans y1); clear y1)
            | (go_at_call 22; refine (ldr_stop_nil _).mono ?_; rintro e z0 ⟨rfl, y0⟩; have N0 := Lib.hid (NN.out.trans y0); clear y0))
          go_ret
          exact ⟨rfl, N7.out⟩
        · have hltI : decide ((0 : Int) < (n : Int)) = false := by simp; omega
          have hltN : decide (0 < n) = false := by simp; omega
          clear hlt
          go_wp2_with (first
            | (go_at_call 26; refine (ldr_open_nil _).mono ?_; rintro e z7 ⟨A7, c7, rfl, y7⟩; have N7 := Lib.hid (N6.out.trans y7); clear y7)
            | (go_at_call 25; refine (ldr_ballot_nil _).mono ?_; rintro e z6 ⟨rfl, y6⟩; have N6 := Lib.hid (N5.out.trans y6); clear y6)
            | (go_at_call 24; refine (ldr_leads_nil _).mono ?_; rintro e z5 ⟨rfl, y5⟩; have N5 := Lib.hid (N4.out.trans y5); clear y5)
            | (go_at_call 11; refine (ldr_begin_nil _ _ _).mono ?_; rintro e z4 ⟨rfl, y4⟩; have N4 := Lib.hid (((N3.out.alloc (.cells #[.int .u64 0, .int .u64 0, .slice none 0 0] 49))).trans y4); clear y4)
            | (go_at_call 20; refine (ldr_acc_nilZ _ _ _ _).mono ?_; rintro e z3 ⟨rfl, y3⟩; have N3 := Lib.hid (N2.out.trans y3); clear y3)
            | (go_at_call 13; refine (ldr_prom_nil _ _ _ _ _ _ _).mono ?_; rintro e z2 ⟨v2, rfl, y2⟩; have N2 := Lib.hid ((N1.out.alloc (.cells #[.int .u64 0, .int .u64 0, .slice none 0 0] 49)).trans y2); clear y2)
            | (go_at_call 17; refine (ldr_prop_nilZ _ _ _ _).mono ?_; rintro e z1 ⟨rfl, y1⟩; have N1 := Lib.hid (N0.out.trans y1); clear y1)
            | (go_at_call 22; refine (ldr_stop_nil _).mono ?_; rintro e z0 ⟨rfl, y0⟩; have N0 := Lib.hid (NN.out.trans y0); clear y0))
          go_ret
          exact ⟨rfl, N7.out⟩
end Go.Proofs.Ytpabbhhaagfoeaa
