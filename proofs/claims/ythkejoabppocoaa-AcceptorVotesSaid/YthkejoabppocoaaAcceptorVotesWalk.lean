/- AcceptorVotes' walk. -/
import Derived.Test.YthkejoabppocoaaHelp13
import Derived.Test.YthkejoabppocoaaRef13f
import Derived.Deep.RegionHeld
namespace Go.Proofs.Ythkejoabppocoaa
set_option maxRecDepth 1000000
open Go.RowKit
set_option linter.unusedVariables false
set_option linter.unusedSimpArgs false

/-- A vote handed in. -/
def VtP.fv (q : VtP) : List Fv := [.int .u64 (q.slot : Int), .int .u64 (q.bal : Int), .bytes q.A q.c q.val]
theorem pvs_of_acts {W : World} {A : Option Addr} {n c : Nat} {l : List (List Fv)} (h : Acts W A n c [.int .u64, .int .u64, .bytes] l) : ∃ L : List VtP, l = L.map VtP.fv ∧ PVs W (fun _ => True) A c n L := by
  have hex : ∀ l' : List (List Fv), (∀ x ∈ l', x.map Fv.kind = [.int .u64, .int .u64, .bytes] ∧ ∀ v ∈ x, v.good W) → ∃ L : List VtP, l' = L.map VtP.fv ∧ ∀ q ∈ L, Sl W q.A q.c (bts q.val) ∧ q.slot < 18446744073709551616 ∧ q.bal < 18446744073709551616 := by
    intro l'
    induction l' with
    | nil => exact fun _ => ⟨[], rfl, fun q h => by cases h⟩
    | cons x l' ih =>
      intro hx
      obtain ⟨L, hL, hg⟩ := ih (fun y hy => hx y (by simp [hy]))
      obtain ⟨hk, hgood⟩ := hx x (by simp)
      match x, hk, hgood with
      | [.int k1 s, .int k2 b, .bytes B cb xs], hk, hgood =>
        simp [Fv.kind] at hk
        obtain ⟨rfl, rfl⟩ := hk
        have g1 : (Lit.int .u64 s).wf = true := hgood (.int .u64 s) (by simp)
        have g2 : (Lit.int .u64 b).wf = true := hgood (.int .u64 b) (by simp)
        have g3 : Sl W B cb (bts xs) := hgood (.bytes B cb xs) (by simp)
        have h1 := u64_of_wf g1
        have h2 := u64_of_wf g2
        refine ⟨⟨s.toNat, b.toNat, B, cb, xs⟩ :: L, ?_, ?_⟩
        · rw [List.map_cons, ← hL]
          congr 1
          unfold VtP.fv
          rw [show ((s.toNat : Nat) : Int) = s by omega, show ((b.toNat : Nat) : Int) = b by omega]
        · intro q hq
          rcases List.mem_cons.1 hq with rfl | hq
          · exact ⟨g3, by show s.toNat < _; omega, by show b.toNat < _; omega⟩
          · exact hg q hq
  obtain ⟨L, rfl, hg⟩ := hex l h.good
  have hlen : L.length = n := by have := h.size; simpa using this
  refine ⟨L, rfl, hlen, ⟨by rw [pvc_length, hlen], h.le, h.most, ?_⟩, fun _ _ _ => trivial, fun q hq => ⟨(hg q hq).1, fun _ _ _ => trivial, (hg q hq).2⟩⟩
  by_cases hn : n = 0
  · exact .inl (List.eq_nil_of_length_eq_zero (by rw [pvc_length, hlen, hn]))
  · obtain ⟨b, off, hA, _, hc⟩ := h.cells (by omega)
    refine .inr ⟨b, off, hA, fun j u hu => ?_⟩
    have hj : j < L.length * 3 := by
      have := (List.getElem?_eq_some_iff.1 hu).1
      rwa [pvc_length] at this
    have hi : j / 3 < L.length := by omega
    obtain ⟨h0, h1, h2⟩ := pvc_at L (j / 3) hi
    have hx : (L.map VtP.fv)[j / 3]? = some (VtP.fv L[j / 3]) := by rw [List.getElem?_map, List.getElem?_eq_getElem hi]; rfl
    have hr : j % 3 = 0 ∨ j % 3 = 1 ∨ j % 3 = 2 := by omega
    rcases hr with hr | hr | hr
    · have hj3 : j = j / 3 * 3 := by omega
      rw [hj3, h0] at hu
      injection hu with hu
      have := hc _ _ hx 0 (.int .u64 (L[j / 3].slot : Int)) rfl
      rw [hj3, ← hu]
      simpa [Fv.val, ← hj3] using this
    · have hj3 : j = j / 3 * 3 + 1 := by omega
      rw [hj3, h1] at hu
      injection hu with hu
      have := hc _ _ hx 1 (.int .u64 (L[j / 3].bal : Int)) rfl
      rw [← hu]
      rw [show j / 3 * [Fk.int .u64, .int .u64, .bytes].length + 1 = j by simp; omega] at this
      exact this
    · have hj3 : j = j / 3 * 3 + 2 := by omega
      rw [hj3, h2] at hu
      injection hu with hu
      have := hc _ _ hx 2 (.bytes L[j / 3].A L[j / 3].c L[j / 3].val) rfl
      rw [← hu]
      rw [show j / 3 * [Fk.int .u64, .int .u64, .bytes].length + 2 = j by simp; omega] at this
      exact this

set_option maxHeartbeats 6400000 in
theorem acceptorVotes_walk (w : World) {A : Option Addr} {n c : Nat} {ls : List (List Fv)} (h : Acts w A n c [.int .u64, .int .u64, .bytes] ls) {A1 : Option Addr} {c1 n1 : Nat} {xs : List UInt8} (hn1 : xs.length = n1) (hs1 : Sl w A1 c1 (bts xs)) :
    Calls Try.prog 4 #[.slice A n c, .slice A1 n1 c1] w fun e w' => e = .returned (.bool true) ∧ Mods Nil w w' := by
  obtain ⟨L, -, hpv⟩ := pvs_of_acts h
  have HPV := Lib.hid hpv
  have HLN := Lib.hid hpv.len
  have HN1 := Lib.hid hn1
  have HS1 := Lib.hid hs1
  clear h hpv hn1 hs1
  by_cases hbig : 20 < n ∨ 300 < n1
  · by_cases h20 : 20 < n
    · have g1 : decide ((20 : Int) < (n : Int)) = true := by simp; omega
      have g1N : decide (20 < n) = true := by simp; omega
      go_enter Try.func4, Try.ntmps4
      go_wp2_with (go_at_call 9; refine (awake13_any _).mono ?_; rintro e w1 ⟨rfl, m1⟩; have M1 := Lib.hid m1; clear m1)
      go_ret
      exact ⟨rfl, M1.out⟩
    · have g1 : decide ((20 : Int) < (n : Int)) = false := by simp; omega
      have g1N : decide (20 < n) = false := by simp; omega
      have g2 : decide ((300 : Int) < (n1 : Int)) = true := by simp; omega
      have g2N : decide (300 < n1) = true := by simp; omega
      go_enter Try.func4, Try.ntmps4
      go_wp2_with (go_at_call 9; refine (awake13_any _).mono ?_; rintro e w1 ⟨rfl, m1⟩; have M1 := Lib.hid m1; clear m1)
      go_ret
      exact ⟨rfl, M1.out⟩
  have g1 : decide ((20 : Int) < (n : Int)) = false := by simp; omega
  have g1N : decide (20 < n) = false := by simp; omega
  have g2 : decide ((300 : Int) < (n1 : Int)) = false := by simp; omega
  have g2N : decide (300 < n1) = false := by simp; omega
  have hn20 : n ≤ 20 := by omega
  have hn300 : n1 ≤ 300 := by omega
  clear hbig
  go_enter Try.func4, Try.ntmps4
  go_wp2_with (go_at_call 9; refine (awake13_any _).mono ?_; rintro e w1 ⟨rfl, m1⟩; have M1 := Lib.hid m1; clear m1)
  go_loopw [6] (fun x wr => ∃ i : Nat, i ≤ n ∧ x = .int .i64 (i : Int) ∧ (∀ q ∈ L.take i, q.val.length ≤ 60) ∧ Mods Nil w wr) (fun x _ => n - (intOf x).toNat)
  case atStart => exact ⟨0, Nat.zero_le _, rfl, by simp, M1.out⟩
  case round =>
    obtain ⟨i, hi, rfl, h60, hm⟩ := hrel
    have HM := Lib.hid hm
    have H60 := Lib.hid h60
    clear hm h60 M1
    by_cases hlt : i < n
    · have hltI : (i : Int) < (n : Int) := by omega
      have hl1 : i < L.length := by rw [HLN.out]; exact hlt
      obtain ⟨q, hq⟩ : ∃ q, L[i]? = some q := ⟨_, List.getElem?_eq_getElem hl1⟩
      obtain ⟨b2, o2, rfl, hb2, e0, e1, e2⟩ := (HPV.out.nil HM.out).cells hq
      have hsn : ∀ x ∈ L.take (i + 1), x ∈ L.take i ∨ x = q := fun x hx => by
        rw [List.take_add_one, hq] at hx
        rcases List.mem_append.1 hx with h | h
        · exact .inl h
        · exact .inr (by simpa using h)
      have HSN := Lib.hid hsn
      obtain ⟨qs, qb, B, cb, qv⟩ := q
      simp only at e0 e1 e2
      obtain ⟨ql, hql⟩ : ∃ ql, qv.length = ql := ⟨_, rfl⟩
      rw [hql] at e2
      have HQL := Lib.hid hql
      clear hsn hq hl1 hql
      by_cases hq60 : 60 < ql
      · have k1 : decide ((60 : Int) < (ql : Int)) = true := by simp; omega
        have k1N : decide (60 < ql) = true := by simp; omega
        go_wp2
        go_ret
        exact ⟨rfl, HM.out⟩
      · have k1 : decide ((60 : Int) < (ql : Int)) = false := by simp; omega
        have k1N : decide (60 < ql) = false := by simp; omega
        go_wp2
        refine ⟨⟨i + 1, by omega, by go_num, fun x hx => ?_, HM.out⟩, by simp [intOf]; omega⟩
        rcases HSN.out x hx with h | h
        · exact H60.out x h
        · rw [h]; show qv.length ≤ 60; rw [HQL.out]; omega
    · obtain rfl : i = n := by omega
      have hall : ∀ q ∈ L, q.val.length ≤ 60 := fun q hq => H60.out q (by rw [List.take_of_length_le (by rw [HLN.out]; exact Nat.le_refl _)]; exact hq)
      obtain ⟨l, hl⟩ : ∃ l, L.map VtP.plain = l := ⟨_, rfl⟩
      have hlen : l.length = i := by rw [← hl, List.length_map, HLN.out]
      have hok : ∀ v ∈ l, v.slot < 18446744073709551616 ∧ v.bal < 18446744073709551616 ∧ v.val.length ≤ 60 := fun v hv => by
        rw [← hl] at hv
        obtain ⟨q, hq, rfl⟩ := List.mem_map.1 hv
        exact ⟨(HPV.out.bys q hq).2.2.1, (HPV.out.bys q hq).2.2.2, hall q hq⟩
      have hpl := vputL_len (B := 60) (by omega) (by omega) hok
      obtain ⟨P, hP⟩ : ∃ P, vputL l = P := ⟨_, rfl⟩
      obtain ⟨np, hnp⟩ : ∃ np, P.length = np := ⟨_, rfl⟩
      rw [hP, hnp, hlen] at hpl
      have hnp2 : np ≤ 1800 := by omega
      obtain ⟨⟨TE, TL⟩, hT⟩ : ∃ r, vgetL xs = r := ⟨_, rfl⟩
      obtain ⟨⟨UE, UL⟩, hU⟩ : ∃ r, vgetL P = r := ⟨_, rfl⟩
      have HG1 : Hid (∀ V, Mods Nil w V → Calls Try.prog 22 #[.slice A1 n1 c1] V fun e W' => ∃ A' c' m L', e = .returned (.tuple #[.slice A' m c', .int .i64 TE]) ∧ L'.map VtP.plain = TL ∧ PVs W' (fun _ => True) A' c' m L' ∧ Mods Nil V W') := Lib.hid (fun V hV => (aget_any V HN1.out (by omega) (HS1.out.mods hV (fun _ _ h => h))).mono fun e W' ⟨A', c', m, L', h1, h2, h3, h4⟩ => ⟨A', c', m, L', by rw [hT] at h1; exact h1, by rw [hT] at h2; exact h2, h3.sub (fun _ _ => trivial), h4⟩)
      have HG2 : Hid (∀ V B cb, Sl V B cb (bts P) → Calls Try.prog 22 #[.slice B np cb] V fun e W' => ∃ A' c' m L', e = .returned (.tuple #[.slice A' m c', .int .i64 UE]) ∧ L'.map VtP.plain = UL ∧ PVs W' (fun _ => True) A' c' m L' ∧ Mods Nil V W') := Lib.hid (fun V B cb hB => (aget_any V hnp (by omega) hB).mono fun e W' ⟨A', c', m, L', h1, h2, h3, h4⟩ => ⟨A', c', m, L', by rw [hU] at h1; exact h1, by rw [hU] at h2; exact h2, h3.sub (fun _ _ => trivial), h4⟩)
      have HR1 : Hid (∀ V, Calls Try.prog 23 #[.string (strOf xs)] V fun e W' => ∃ A' c' m, e = .returned (.tuple #[.slice A' m c', .int .i64 TE]) ∧ RVs W' A' c' m TL ∧ m ≤ n1 + 1 ∧ Mods Nil V W') := Lib.hid (fun V => (r13get_any V (by rw [HN1.out]; omega)).mono fun e W' ⟨A', c', m, h1, h2, h3, h4⟩ => ⟨A', c', m, by rw [hT] at h1; exact h1, by rw [hT] at h2; exact h2, by rw [HN1.out] at h3; exact h3, h4⟩)
      have HR2 : Hid (∀ V, Calls Try.prog 23 #[.string (strOf P)] V fun e W' => ∃ A' c' m, e = .returned (.tuple #[.slice A' m c', .int .i64 UE]) ∧ RVs W' A' c' m UL ∧ m ≤ np + 1 ∧ Mods Nil V W') := Lib.hid (fun V => (r13get_any V (by rw [hnp]; omega)).mono fun e W' ⟨A', c', m, h1, h2, h3, h4⟩ => ⟨A', c', m, by rw [hU] at h1; exact h1, by rw [hU] at h2; exact h2, by rw [hnp] at h3; exact h3, h4⟩)
      have HPT : Hid (∀ V, Mods Nil w V → Calls Try.prog 24 #[.slice A i c] V fun e W' => ∃ A' c', e = .returned (.slice A' np c') ∧ Sl W' A' c' (bts P) ∧ Mods Nil V W') := Lib.hid (fun V hV => (aput_any V (HPV.out.nil hV) (by omega) (fun q hq => by have := hall q hq; omega)).mono fun e W' ⟨A', c', m, h1, h2, h3, h4⟩ => by
        rw [hl, hP, hnp] at h2
        subst h2
        rw [hl, hP] at h3
        exact ⟨A', c', h1, h3, h4⟩)
      have HVL : Hid (∀ V, Mods Nil w V → Calls Try.prog 14 #[.slice A i c] V (VTold V i l)) := Lib.hid (fun V hV => by have h := votes13_any V (HPV.out.nil hV) (by omega); rw [hl] at h; exact h)
      have HRP : Hid (∀ V B cb, RVs V B cb i l → Calls Try.prog 25 #[.slice B i cb] V fun e W' => e = .returned (.string (strOf P)) ∧ Mods Nil V W') := Lib.hid (fun V B cb hB => by have h := r13put_any V hB (by omega) (fun v hv => ⟨(hok v hv).1, (hok v hv).2.1, by have := (hok v hv).2.2; omega⟩); rw [hP] at h; exact h)
      have hcv : ∀ V, Mods Nil w V → (convert 30 9 (.slice A1 n1 c1)).run Try.prog V = .ok (.string (strOf xs)) V := fun V hV => conv13 HN1.out (HS1.out.mods hV (fun _ _ h => h))
      have HCV := Lib.hid hcv
      have HTL := Lib.hid trivial
      have HNP := Lib.hid hnp
      clear hall hl hlen hok hpl hP hnp hT hU hcv
      go_wp2_with (first
        | (go_at_call 23; have hx := G6.out; clear hx; refine (HR2.out _).mono ?_; rintro e w9 ⟨A9, c9, m9, rfl, r9, hm9, n9⟩; have M9 := Lib.hid (M8.out.trans n9); have R9 := Lib.hid r9; have N9 := Lib.hid n9; clear r9 n9)
        | (go_at_call 25; refine (HRP.out _ _ _ R7.out).mono ?_; rintro e w8 ⟨rfl, n8⟩; have M8 := Lib.hid (M7.out.trans n8); have N8 := Lib.hid n8; clear n8)
        | (go_at_call 14; refine (HVL.out _ M6.out).mono ?_; rintro e w7 ⟨A7, c7, rfl, r7, -, n7⟩; have M7 := Lib.hid (M6.out.trans n7); have R7 := Lib.hid r7; have N7 := Lib.hid n7; clear r7 n7)
        | (go_at_call 22; have hx := S5.out; clear hx; refine (HG2.out _ _ _ S5.out).mono ?_; rintro e w6 ⟨A6, c6, m6, L6, rfl, l6, v6, n6⟩; have M6 := Lib.hid (M5.out.trans n6); have G6 := Lib.hid v6; have L6' := Lib.hid l6; have N6 := Lib.hid n6; clear v6 n6 l6)
        | (go_at_call 24; refine (HPT.out _ M4.out).mono ?_; rintro e w5 ⟨A5, c5, rfl, s5, n5⟩; have M5 := Lib.hid (M4.out.trans n5); have S5 := Lib.hid s5; have N5 := Lib.hid n5; clear s5 n5)
        | (go_at_call 23; refine (HR1.out _).mono ?_; rintro e w4 ⟨A4, c4, m4, rfl, r4, hm4, n4⟩; have M4 := Lib.hid (M3.out.trans n4); have R4 := Lib.hid r4; have N4 := Lib.hid n4; clear r4 n4)
        | (go_at_call 22; refine (HG1.out _ HM.out).mono ?_; rintro e w3 ⟨A3, c3, m3, L3, rfl, l3, v3, n3⟩; have M3 := Lib.hid (HM.out.trans n3); have hcv3 := HCV.out w3 M3.out; have G3 := Lib.hid v3; have L3' := Lib.hid l3; clear v3 n3 l3))
      have n39 : Mods Nil w3 w9 := N4.out.trans (N5.out.trans (N6.out.trans (N7.out.trans (N8.out.trans N9.out))))
      have n49 : Mods Nil w4 w9 := N5.out.trans (N6.out.trans (N7.out.trans (N8.out.trans N9.out)))
      have n59 : Mods Nil w5 w9 := N6.out.trans (N7.out.trans (N8.out.trans N9.out))
      have n69 : Mods Nil w6 w9 := N7.out.trans (N8.out.trans N9.out)
      have hm3 : m3 = m4 := by
        have h1 := congrArg List.length L3'.out
        rw [List.length_map, G3.out.len, R4.out.len] at h1
        exact h1
      have hm6 : m6 = m9 := by
        have h1 := congrArg List.length L6'.out
        rw [List.length_map, G6.out.len, R9.out.len] at h1
        exact h1
      have HV3 : Hid (∀ V, Mods Nil w9 V → Calls Try.prog 14 #[.slice A3 m3 c3] V (VTold V m3 TL)) := Lib.hid (fun V hV => by have h := votes13_any V (G3.out.nil (n39.trans hV)) (by omega); rw [L3'.out] at h; exact h)
      have HV6 : Hid (∀ V, Mods Nil w9 V → Calls Try.prog 14 #[.slice A6 m6 c6] V (VTold V m6 UL)) := Lib.hid (fun V hV => by have h := votes13_any V (G6.out.nil (n69.trans hV)) (by omega); rw [L6'.out] at h; exact h)
      have HV1 : Hid (∀ V, Mods Nil w9 V → Calls Try.prog 14 #[.slice A i c] V (VTold V i l)) := Lib.hid (fun V hV => HVL.out V (M9.out.trans hV))
      have HSA : Hid (∀ V B cb, RVs V B cb m3 TL → Mods Nil w9 V → Calls Try.prog 13 #[.slice B m3 cb, .slice A4 m4 c4] V fun e W' => e = .returned (.bool true) ∧ Mods Nil V W') := Lib.hid (fun V B cb hB hV => (r13same_any V hB (R4.out.nil (n49.trans hV)) (by omega) (by omega)).mono fun e W' ⟨r, h1, h2, h3⟩ => ⟨by rw [h1, h2.2 rfl], h3⟩)
      have HSB : Hid (∀ V B cb, RVs V B cb m6 UL → Mods Nil w9 V → Calls Try.prog 13 #[.slice B m6 cb, .slice A9 m9 c9] V fun e W' => e = .returned (.bool true) ∧ Mods Nil V W') := Lib.hid (fun V B cb hB hV => (r13same_any V hB (R9.out.nil hV) (by omega) (by omega)).mono fun e W' ⟨r, h1, h2, h3⟩ => ⟨by rw [h1, h2.2 rfl], h3⟩)
      have hcv5 : ∀ V, Mods Nil w9 V → (convert 30 9 (.slice A5 np c5)).run Try.prog V = .ok (.string (strOf P)) V := fun V hV => conv13 HNP.out (S5.out.mods (n59.trans hV) (fun _ _ h => h))
      have hst := strOf_toList P
      clear n39 n49 n59 n69 hm3 hm6 hm4 hm9 hcv3 HVL HG1 HG2 HR1 HR2 HPT HCV HTL
      go_region_held (fun W => Mods Nil w9 W) (first | assumption | exact (Mods.refl Nil w9).drew) (first
        | (go_at_call 13; have hx := q6; clear hx; refine (HSB.out _ _ _ q6 hz6).mono ?_; rintro e z7 ⟨rfl, y7⟩; have hz7 : Mods Nil w9 z7 := Mods.trans hz6 y7; clear y7)
        | (go_at_call 14; have hx := hz5; clear hx; refine (HV6.out _ hz5).mono ?_; rintro e z6 ⟨B6, d6, rfl, q6, -, y6⟩; have hz6 : Mods Nil w9 z6 := Mods.trans hz5 y6; clear y6)
        | (go_at_call 25; have hx := q4; clear hx; refine (HRP.out _ _ _ q4).mono ?_; rintro e z5 ⟨rfl, y5⟩; have hz5 : Mods Nil w9 z5 := Mods.trans hz4 y5; clear y5)
        | (go_at_call 14; have hx := hz2; clear hx; refine (HV1.out _ hz2).mono ?_; rintro e z4 ⟨B4, d4, rfl, q4, -, y4⟩; have hz4 : Mods Nil w9 z4 := Mods.trans hz2 y4; clear y4)
        | (go_at_call 13; have hx := q1; clear hx; refine (HSA.out _ _ _ q1 hz1).mono ?_; rintro e z2 ⟨rfl, y2⟩; have hz2 : Mods Nil w9 z2 := Mods.trans hz1 y2; clear y2)
        | (go_at_call 14; refine (HV3.out _ (Mods.refl Nil w9).drew).mono ?_; rintro e z1 ⟨B1, d1, rfl, q1, -, y1⟩; have hz1 : Mods Nil w9 z1 := Mods.trans (Mods.refl Nil w9).drew y1; clear y1))
      all_goals
        go_wp2
        go_ret
        exact ⟨rfl, M9.out.trans (by assumption)⟩
end Go.Proofs.Ythkejoabppocoaa
