/- AcceptorBack's walk. -/
import Derived.Test.YthkejoabppocoaaHelp13
import Derived.Test.YthkejoabppocoaaAcc2
import Derived.Test.YthkejoabppocoaaInRows
import Derived.Test.YthkejoabppocoaaQT
namespace Go.Proofs.Ythkejoabppocoaa
set_option maxRecDepth 1000000
open Go.RowKit
set_option linter.unusedVariables false
set_option linter.unusedSimpArgs false

theorem bts_length13 (xs : List UInt8) : (bts xs).length = xs.length := by simp [bts]
theorem u16_of_wf13 {a : Int} (w : (Lit.int .u16 a).wf = true) : ∃ k : Nat, a = (k : Int) ∧ k < 65536 := by
  have h1 : IntKind.u16.min = 0 := rfl
  have h2 : IntKind.u16.max = 65535 := rfl
  simp only [Lit.wf, h1, h2, Bool.and_eq_true, decide_eq_true_eq] at w
  exact ⟨a.toNat, by omega, by omega⟩
/-- What the votes of this law look like. -/
structure BackP (W : World) (s i : Nat) (L : List VtP) : Prop where
  rise : riseV (L.map VtP.plain)
  le : ∀ q ∈ L, q.slot ≤ s
  ok : ∀ q ∈ L, Sl W q.A q.c (bts q.val) ∧ q.bal < 1000000 ∧ q.val.length ≤ 40
  len : L.length = i
  s : s ≤ 256 * i
theorem BackP.nil {W W' : World} {s i : Nat} {L : List VtP} (h : BackP W s i L) (hm : Mods Nil W W') : BackP W' s i L :=
  ⟨h.rise, h.le, fun q hq => ⟨(h.ok q hq).1.mods hm (fun _ _ h => h), (h.ok q hq).2⟩, h.len, h.s⟩
theorem BackP.next {W : World} {s i : Nat} {L : List VtP} (h : BackP W s i L) {g : Nat} (hg : g < 256) {B : Option Addr} {cb : Nat} {vv : List UInt8} (hv : Sl W B cb (bts vv)) (hl : vv.length ≤ 40) : BackP W (s + (g + 1)) (i + 1) (L ++ [⟨s + (g + 1), g * 1000, B, cb, vv⟩]) := by
  refine ⟨?_, ?_, ?_, ?_, ?_⟩
  · rw [List.map_append]
    refine List.pairwise_append.2 ⟨h.rise, List.pairwise_singleton _ _, fun x hx y hy => ?_⟩
    obtain ⟨q, hq, rfl⟩ := List.mem_map.1 hx
    have := h.le q hq
    simp at hy
    subst hy
    show q.slot < s + (g + 1)
    omega
  · intro q hq
    rcases List.mem_append.1 hq with hq | hq
    · have := h.le q hq; omega
    · rw [List.mem_singleton.1 hq]; exact Nat.le_refl _
  · intro q hq
    rcases List.mem_append.1 hq with hq | hq
    · exact h.ok q hq
    · rw [List.mem_singleton.1 hq]; exact ⟨hv, by show g * 1000 < _; omega, hl⟩
  · rw [List.length_append, h.len]; rfl
  · have := h.s; omega

set_option maxHeartbeats 6400000 in
theorem acceptorBack_walk (w : World) {A : Option Addr} {c n : Nat} {xs : List UInt8} (hn : xs.length = n) (hs : Sl w A c (bts xs)) {A1 : Option Addr} {c1 n1 : Nat} {l : List Row} (hn1 : l.length = n1) (hs1 : Sl w A1 c1 (l.map Row.val)) (hr1 : ∀ r ∈ l, r.ok w) {ai : Int} (wa : (Lit.int .u16 ai).wf = true) :
    Calls Try.prog 8 #[.slice A n c, .slice A1 n1 c1, .int .u16 ai] w fun e w' => e = .returned (.bool true) ∧ Mods Nil w w' := by
  obtain ⟨at_, rfl, hat⟩ := u16_of_wf13 wa
  have HN := Lib.hid hn
  have HS := Lib.hid hs
  have HN1 := Lib.hid hn1
  have HS1 := Lib.hid hs1
  have HR1 := Lib.hid hr1
  clear hn hs hn1 hs1 hr1 wa
  by_cases h12 : 12 < n
  · have g1 : decide ((12 : Int) < (n : Int)) = true := by simp; omega
    have g1N : decide (12 < n) = true := by simp; omega
    go_enter Try.func8, Try.ntmps8
    go_wp2_with (go_at_call 9; refine (awake13_any _).mono ?_; rintro e w1 ⟨rfl, m1⟩; have M1 := Lib.hid m1; clear m1)
    go_ret
    exact ⟨rfl, M1.out⟩
  have g1 : decide ((12 : Int) < (n : Int)) = false := by simp; omega
  have g1N : decide (12 < n) = false := by simp; omega
  by_cases hfew : n1 < n
  · have g2 : decide ((n1 : Int) < (n : Int)) = true := by simp; omega
    have g2N : decide (n1 < n) = true := by simp; omega
    go_enter Try.func8, Try.ntmps8
    go_wp2_with (go_at_call 9; refine (awake13_any _).mono ?_; rintro e w1 ⟨rfl, m1⟩; have M1 := Lib.hid m1; clear m1)
    go_ret
    exact ⟨rfl, M1.out⟩
  have g2 : decide ((n1 : Int) < (n : Int)) = false := by simp; omega
  have g2N : decide (n1 < n) = false := by simp; omega
  go_enter Try.func8, Try.ntmps8
  go_wp2_with (go_at_call 9; refine (awake13_any _).mono ?_; rintro e w1 ⟨rfl, m1⟩; have M1 := Lib.hid m1; clear m1)
  go_loopw [8, 9, 10] (fun o t x wr => ∃ (i s : Nat) (L : List VtP), i ≤ n ∧ x = .int .i64 (i : Int) ∧ t = .int .u64 (s : Int) ∧ BackP w s i L ∧ wr.ownsRow w.heap.size 43 3 o i (pvc L) ∧ Mods Nil w wr) (fun _ _ x _ => n - (intOf x).toNat)
  case atStart => exact ⟨0, 0, [], Nat.zero_le _, rfl, rfl, ⟨List.Pairwise.nil, by simp, by simp, rfl, by omega⟩, World.ownsRow_nil _ _ _ _, M1.out⟩
  case round =>
    obtain ⟨i, s, L, hi, rfl, rfl, hb, ho, hm⟩ := hrel
    have HM := Lib.hid hm
    have HB := Lib.hid hb
    have HO := Lib.hid ho
    have hs := hb.s
    clear hm hb ho M1
    by_cases hlt : i < n
    · have hltI : (i : Int) < (n : Int) := by omega
      have hltI1 : (i : Int) < (n1 : Int) := by omega
      obtain ⟨b1, o1, rfl, hb1, e0⟩ := sl_byte13 (HS.out.mods HM.out (fun _ _ h => h)) (j := i) (by rw [HN.out]; exact hlt)
      obtain ⟨g, hg⟩ : ∃ g, (xs[i]'(by rw [HN.out]; exact hlt)).toNat = g := ⟨_, rfl⟩
      have hg256 : g < 256 := by rw [← hg]; exact UInt8.toNat_lt _
      rw [hg] at e0
      have hlr : i < l.length := by rw [HN1.out]; omega
      obtain ⟨b2, o2, rfl, hb2, hcs⟩ := (HS1.out.mods HM.out (fun _ _ h => h)).at_ (by simp; omega)
      have e1 := hcs i _ (by rw [List.getElem?_map, List.getElem?_eq_getElem hlr]; rfl)
      have hrow := HR1.out _ (List.getElem_mem hlr)
      generalize l[i] = r at e1 hrow
      obtain ⟨B, cb, vv⟩ := r
      simp only [Row.val] at e1
      have hby : Sl w B cb (bts vv) := hrow
      obtain ⟨q, hq⟩ : ∃ q, vv.length = q := ⟨_, rfl⟩
      rw [hq] at e1
      have HQ := Lib.hid hq
      have HBY := Lib.hid hby
      clear hg hlr hcs hrow hby hq
      by_cases h40 : 40 < q
      · have k1 : decide ((40 : Int) < (q : Int)) = true := by simp; omega
        have k1N : decide (40 < q) = true := by simp; omega
        go_wp2
        go_ret
        exact ⟨rfl, HM.out⟩
      have k1 : decide ((40 : Int) < (q : Int)) = false := by simp; omega
      have k1N : decide (40 < q) = false := by simp; omega
      have HNX := Lib.hid (HB.out.next hg256 HBY.out (by rw [HQ.out]; omega))
      obtain ⟨s2, hs2⟩ : ∃ s2, s + (g + 1) = s2 := ⟨_, rfl⟩
      obtain ⟨g9, hg9⟩ : ∃ g9, g * 1000 = g9 := ⟨_, rfl⟩
      rw [hs2, hg9] at HNX
      have j1 : IntKind.u64.wrap (g : Int) = (g : Int) := by rw [IntKind.wrap_u64]; omega
      have j2 : IntKind.u64.wrap ((g : Int) + 1) = ((g + 1 : Nat) : Int) := by rw [IntKind.wrap_u64]; omega
      have j3 : IntKind.u64.wrap ((s : Int) + ((g : Int) + 1)) = (s2 : Int) := by rw [IntKind.wrap_u64]; omega
      have j4 : IntKind.u64.wrap ((g : Int) * 1000) = (g9 : Int) := by rw [IntKind.wrap_u64]; omega
      have j5 : (s : Int) + ((g : Int) + 1) = (s2 : Int) := by omega
      have j6 : (g : Int) * 1000 = (g9 : Int) := by omega
      have j7 : IntKind.u64.wrap (g9 : Int) = (g9 : Int) := by rw [IntKind.wrap_u64]; omega
      clear hs2 hg9
      go_wp2_with fail
      refine qt_region 16 (by kernel_rfl) rfl ?_
      refine qt_take 0 15 rfl (by kernel_rfl) (by kernel_rfl) (by kernel_rfl) (fun _ _ _ h => h) (by rfl) (v := ?_) ?_ ?_
      rotate_left
      · intro V
        go_simp
        try with_reducible rfl
      simp only [List.getElem_toArray, List.getElem_cons_succ, List.getElem_cons_zero, Act.put, List.setIfInBounds_toArray, List.set_cons_zero, List.set_cons_succ]
      refine qt_quiet (fun V => Mods Nil wr V) 1 12 3 (by kernel_rfl) ((Mods.refl Nil wr).drew) ?_
      simp only [List.drop_succ_cons, List.drop_zero, List.take_succ_cons, List.take_zero]
      repeat (first
        | go_big_quiet_skip
        | (go_big_quiet_want; first
            | (refine gq_op (v := ?_) ?_ ?_; rotate_left; (focus (intro V hV; have k0 := (World.cell?_of_block (hV.block b1 hb1 (fun h => h))).trans e0; have k1 := (World.cell?_of_block (hV.block b2 hb2 (fun h => h))).trans e1; go_simp; try with_reducible rfl)); go_big_quiet_on))
          simp only [Act.put, List.setIfInBounds_toArray, List.set_cons_zero, List.set_cons_succ])
      refine wpQuiet_nil ?_
      intro V hV
      refine qt_list 13 3 rfl (by kernel_rfl) ?_
      simp only [List.drop_succ_cons, List.drop_zero]
      have OV := Lib.hid (own_mods HO.out hV (fun _ _ h => h))
      have MV := Lib.hid (HM.out.trans hV)
      clear hV e0 e1
      go_wp2_with (at_builtin; refine push_pv rfl _ _ rfl ⟨s2, g9, B, cb, vv⟩ HQ.out rfl OV.out rfl (by omega) (by have := MV.out.size; omega) ?_; intro v' w4 o4 m4; have O4 := Lib.hid o4; have M4 := Lib.hid (own_nilp OV.out (Nat.le_refl _) MV.out m4); clear o4 m4)
      exact ⟨⟨i + 1, s2, L ++ [⟨s2, g9, B, cb, vv⟩], by omega, by go_num, rfl, HNX.out, O4.out, M4.out⟩, by simp [intOf]; omega⟩
    · obtain rfl : i = n := by omega
      have hok : ∀ v ∈ L.map VtP.plain, v.slot < 18446744073709551616 ∧ v.bal < 18446744073709551616 ∧ v.val.length ≤ 40 := fun v hv => by
        obtain ⟨q, hq, rfl⟩ := List.mem_map.1 hv
        have h1 := HB.out.le q hq
        obtain ⟨-, h2, h3⟩ := HB.out.ok q hq
        exact ⟨by show q.slot < _; omega, by show q.bal < _; omega, h3⟩
      obtain ⟨A2, c2, rfl, hpv⟩ := pvs_own (D := fun _ => True) HO.out HB.out.len (fun _ _ => trivial) (fun q hq => by
        have h1 := HB.out.le q hq
        obtain ⟨h0, h2, h3⟩ := HB.out.ok q hq
        exact ⟨h0.mods HM.out (fun _ _ h => h), fun _ _ _ => trivial, by omega, by omega⟩)
      have HPV := Lib.hid hpv
      obtain ⟨P, hP⟩ : ∃ P, vputL (L.map VtP.plain) = P := ⟨_, rfl⟩
      obtain ⟨np, hnp⟩ : ∃ np, P.length = np := ⟨_, rfl⟩
      have hll : (L.map VtP.plain).length = i := by rw [List.length_map, HB.out.len]
      have hpl := vputL_len (B := 40) (by omega) (by omega) hok
      rw [hP, hnp, hll] at hpl
      have hnp2 : np ≤ 900 := by omega
      have hnp0 : 0 < np := by
        rw [← hnp, ← hP]
        have := putU_pos (L.map VtP.plain).length
        unfold vputL
        rw [List.length_append]
        omega
      have hok2 : ∀ v ∈ L.map VtP.plain, v.ok := fun v hv => ⟨(hok v hv).1, (hok v hv).2.1, by have := (hok v hv).2.2; omega⟩
      have hG := vgetL_put (by omega) hok2 HB.out.rise
      rw [hP] at hG
      obtain ⟨t, ht⟩ : ∃ t, at_ % np = t := ⟨_, rfl⟩
      have htn : t < np := by rw [← ht]; exact Nat.mod_lt _ hnp0
      have hC := vgetL_cut (by omega) hok2 HB.out.rise (k := t) (by rw [hP, hnp]; exact htn)
      rw [hP] at hC
      have htI : ((at_ : Int)).tmod (np : Int) = (t : Int) := by rw [Int.tmod_eq_emod_of_nonneg (by omega), ← ht]; omega
      have hwt : IntKind.i64.wrap (at_ : Int) = (at_ : Int) := by rw [IntKind.wrap_i64]; omega
      have hwt2 : IntKind.i64.wrap (t : Int) = (t : Int) := by rw [IntKind.wrap_i64]; omega
      have hnpI : ((np : Int) == 0) = false := by rw [beq_eq_false_iff_ne]; omega
      have htnI : (t : Int) ≤ (np : Int) := by omega
      obtain ⟨LL, hLL⟩ : ∃ LL, L.map VtP.plain = LL := ⟨_, rfl⟩
      rw [hLL] at hG hll hP
      have HPT : Hid (Calls Try.prog 24 #[.slice A2 i c2] wr fun e W' => ∃ A' c', e = .returned (.slice A' np c') ∧ Sl W' A' c' (bts P) ∧ Mods Nil wr W') := Lib.hid ((aput_any wr hpv (by omega) (fun q hq => by have := (HB.out.ok q hq).2.2; omega)).mono fun e W' ⟨A', c', m, h1, h2, h3, h4⟩ => by
        rw [hLL, hP, hnp] at h2
        subst h2
        rw [hLL, hP] at h3
        exact ⟨A', c', h1, h3, h4⟩)
      have HG1 : Hid (∀ V B cb, Sl V B cb (bts P) → Calls Try.prog 22 #[.slice B np cb] V fun e W' => ∃ A' c' L', e = .returned (.tuple #[.slice A' i c', .int .i64 0]) ∧ L'.map VtP.plain = LL ∧ PVs W' (fun _ => True) A' c' i L' ∧ Mods Nil V W') := Lib.hid (fun V B cb hB => (aget_any V hnp (by omega) hB).mono fun e W' ⟨A', c', m, L', h1, h2, h3, h4⟩ => by
        rw [hG] at h1 h2
        have h2' : L'.map VtP.plain = LL := h2
        obtain rfl : m = i := by rw [← h3.len, ← hll, ← h2', List.length_map]
        exact ⟨A', c', L', h1, h2, h3.sub (fun _ _ => trivial), h4⟩)
      have HG2 : Hid (∀ V B cb, Sl V B cb (bts P) → Calls Try.prog 22 #[.slice B t cb] V fun e W' => ∃ A' c' m, e = .returned (.tuple #[.slice A' m c', .int .i64 10]) ∧ Mods Nil V W') := Lib.hid (fun V B cb hB => (aget_any V (xs := P.take t) (by rw [List.length_take, hnp]; omega) (by omega) (by have := hB.take t; rwa [bts_take] at this)).mono fun e W' ⟨A', c', m, L', h1, h2, h3, h4⟩ => ⟨A', c', m, by rw [hC] at h1; exact h1, h4⟩)
      have HV1 : Hid (∀ V, Mods Nil wr V → Calls Try.prog 14 #[.slice A2 i c2] V (VTold V i LL)) := Lib.hid (fun V hV => by have h := votes13_any V (hpv.nil hV) (by omega); rw [hLL] at h; exact h)
      have HNP := Lib.hid hnp
      have HTN := Lib.hid htn
      clear hok hpv hP hnp hll hpl hok2 hG ht htn hC hLL
      go_wp2_with (first
        | (go_at_call 13; have hx := R7.out; clear hx; refine (r13same_any _ (R6.out.nil N7.out) R7.out (by omega) (by omega)).mono ?_; rintro e w8 ⟨r, rfl, h8, n8⟩; have hr8 : r = true := h8.2 rfl; subst hr8; have M8 := Lib.hid (M7.out.trans n8); clear h8 n8)
        | (go_at_call 14; have hx := R6.out; clear hx; refine (HV7.out _ N6.out).mono ?_; rintro e w7 ⟨A7, c7, rfl, r7, -, n7⟩; have M7 := Lib.hid (M6.out.trans n7); have R7 := Lib.hid r7; have N7 := Lib.hid n7; clear r7 n7)
        | (go_at_call 14; refine (HV1.out _ K5.out).mono ?_; rintro e w6 ⟨A6, c6, rfl, r6, -, n6⟩; have M6 := Lib.hid (M5.out.trans n6); have R6 := Lib.hid r6; have N6 := Lib.hid n6; clear r6 n6)
        | (go_at_call 22; have hx := G4.out; clear hx; refine (HG2.out _ _ _ (S4.out.mods N4.out (fun _ _ h => h))).mono ?_; rintro e w5 ⟨A5, c5, m5, rfl, n5⟩; have M5 := Lib.hid (M4.out.trans n5); have K5 := Lib.hid (K4.out.trans n5); have HV7 : Hid (∀ V, Mods Nil w5 V → Calls Try.prog 14 #[.slice A4 i c4] V (VTold V i LL)) := Lib.hid (fun V hV => by have h := votes13_any V (G4.out.nil (n5.trans hV)) (by omega); rw [L4'.out] at h; exact h); clear n5)
        | (go_at_call 22; refine (HG1.out _ _ _ S4.out).mono ?_; rintro e w4 ⟨A4, c4, L4, rfl, l4, g4, n4⟩; have M4 := Lib.hid (M3.out.trans n4); have K4 := Lib.hid (K3.out.trans n4); have G4 := Lib.hid g4; have L4' := Lib.hid l4; have N4 := Lib.hid n4; clear l4 g4 n4)
        | (go_at_call 24; refine (HPT.out).mono ?_; rintro e w3 ⟨A3, c3, rfl, s3, n3⟩; have M3 := Lib.hid (HM.out.trans n3); have K3 := Lib.hid n3; have S4 := Lib.hid s3; have hle3 : (t : Int) ≤ (c3 : Int) := (by have h := s3.le; rw [bts_length13, HNP.out] at h; have := HTN.out; omega); have hc30 : ¬ c3 = 0 := (by have h := s3.le; rw [bts_length13, HNP.out] at h; have := HTN.out; omega); obtain ⟨b3, o3, hA3, -, -⟩ := s3.at_ (by rw [bts_length13, HNP.out]; exact hnp0); subst hA3; clear s3 n3))
      go_ret
      exact ⟨rfl, M8.out⟩
end Go.Proofs.Ythkejoabppocoaa
