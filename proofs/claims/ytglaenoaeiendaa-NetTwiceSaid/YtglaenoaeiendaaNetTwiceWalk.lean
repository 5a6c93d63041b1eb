/- NetTwice's walk. -/
import Derived.Test.YtglaenoaeiendaaHelp5
import Derived.Deep.QuietTactic
import Derived.BigQuiet
namespace Go.Proofs.Ytglaenoaeiendaa
set_option maxRecDepth 100000
open Go.RowKit
set_option linter.unusedVariables false

/-- What Take leaves, told by the packet's core, its bytes' block too. -/
def TookD (w : World) (base nb nodes : Nat) (v : Value) (l : List Pk) (i : Nat) (f t : Int) (xs : List UInt8) (m : Nat) (e : Ending) (w' : World) : Prop :=
  ∃ A c, e = .returned (.tuple #[.agg #[.int .i64 f, .int .i64 t, .slice A m c], .bool true]) ∧ Pk.ok base w' ⟨f, t, A, c, xs⟩ ∧ ∃ v', NetAt w' base nb nodes v' (l.eraseIdx i) ∧ Mods (NS nb v) w w'
theorem ntake_core2 {w : World} {base nb nodes i : Nat} {v : Value} {l : List Pk} (h : NetAt w base nb nodes v l) (hl : l.length ≤ 4096) {q0 : Pk} (h0 : l[i]? = some q0) {k : Int} (hk : k = (i : Int)) {f t : Int} {xs : List UInt8} {m : Nat} (hc : q0.core = (f, t, xs)) (hm : xs.length = m) :
    Calls Try.prog 10 #[.pointer (some ⟨nb, 0, none⟩), .int .i64 k] w (TookD w base nb nodes v l i f t xs m) := by
  refine (ntake_int h hl (List.getElem?_eq_some_iff.1 h0).1 hk).mono ?_
  rintro e w' ⟨q, k0, rfl, k1, v', k2, k3, -⟩
  rw [h0] at k0
  injection k0 with k0
  subst k0
  obtain ⟨qf, qt, qA, qc, qx⟩ := q0
  unfold Pk.core at hc
  injection hc with h1 hc
  injection hc with h2 h3
  dsimp only at h1 h2 h3
  subst h1; subst h2; subst h3; subst hm
  exact ⟨qA, qc, rfl, k1, v', k2, k3⟩
theorem ntwice_no_int {w : World} {base nb nodes : Nat} {v : Value} {l : List Pk} (h : NetAt w base nb nodes v l) {k : Int} (hk : (l.length : Int) ≤ k) :
    Calls Try.prog 12 #[.pointer (some ⟨nb, 0, none⟩), .int .i64 k] w fun e w' => e = .returned (.int .i64 15) ∧ w = w' := by
  obtain ⟨i, rfl⟩ := Int.eq_ofNat_of_zero_le (show 0 ≤ k by omega)
  exact ntwice_none h (by omega)

theorem nlen_int {w : World} {nb n c : Nat} {A : Option Addr} {k : Int} (hc : w.cell? ⟨nb, 1, none⟩ = some (.slice A n c)) (hk : (n : Int) = k) :
    Calls Try.prog 11 #[.pointer (some ⟨nb, 0, none⟩)] w fun e w' => e = .returned (.int .i64 k) ∧ w = w' := by
  subst hk
  exact nlen_any hc
/-- What is sent: all of them from the first node to the second one. -/
def Tw (ls : List (List UInt8)) (L : List Pk) : Prop := ∀ (i : Nat) (q : Pk), L[i]? = some q → ∃ b, ls[i]? = some b ∧ q.core = (0, 1, b)
theorem Tw.snoc {ls : List (List UInt8)} {L : List Pk} {q : Pk} {b : List UInt8} (h : Tw ls L) (hb : ls[L.length]? = some b) (hq : q.core = (0, 1, b)) : Tw ls (L ++ [q]) := fun i r hr => by
  rcases Nat.lt_trichotomy i L.length with hi | hi | hi
  · rw [List.getElem?_append_left hi] at hr
    exact h i r hr
  · subst hi
    rw [List.getElem?_append_right (Nat.le_refl _)] at hr
    simp at hr
    subst hr
    exact ⟨b, hb, hq⟩
  · rw [List.getElem?_eq_none (by simp; omega)] at hr
    cases hr
theorem Tw.to {ls : List (List UInt8)} {L : List Pk} (h : Tw ls L) {q : Pk} {b : List UInt8} (hq : q.core = (0, 1, b)) : (placesTo 1 0 (L ++ [q])).length = L.length + 1 := by
  rw [placesTo_all 1 0 (L ++ [q]) (fun p hp => ?_)]
  · simp
  · rcases List.mem_append.1 hp with hp | hp
    · obtain ⟨i, hi, rfl⟩ := List.getElem_of_mem hp
      obtain ⟨b', _, hc⟩ := h i _ (List.getElem?_eq_getElem hi)
      exact (core_of hc).2.1
    · simp at hp
      subst hp
      exact (core_of hq).2.1

set_option maxRecDepth 1000000 in
set_option maxHeartbeats 6400000 in
theorem netTwice_nat (w : World) {A : Option Addr} {c n : Nat} {l : List Row} (hn : l.length = n) (hs : Sl w A c (l.map Row.val)) (hr : ∀ r ∈ l, r.ok w) (x : Nat) (hx : x < 256) :
    Calls Try.prog 5 #[.slice A n c, .int .u8 (x : Int)] w fun e w' => e = .returned (.bool true) ∧ Mods Nil w w' := by
  by_cases hz : n = 0
  · subst hz
    clear hs hr
    go_enter Try.func5, Try.ntmps5
    go_wp2_with (first | (go_at_call 7; refine (awake5_any _).mono ?_; rintro e w1 ⟨rfl, m1⟩; have M1 := Lib.hid m1; clear m1))
    go_ret
    exact ⟨rfl, M1.out⟩
  have hne : ((n : Int) == 0) = false := by rw [beq_eq_false_iff_ne]; omega
  by_cases hbig : 20 < n
  · have hb : (20 : Int) < (n : Int) := by omega
    clear hs hr
    go_enter Try.func5, Try.ntmps5
    go_wp2_with (first | (go_at_call 7; refine (awake5_any _).mono ?_; rintro e w1 ⟨rfl, m1⟩; have M1 := Lib.hid m1; clear m1))
    go_ret
    exact ⟨rfl, M1.out⟩
  have hb20 : (n : Int) ≤ 20 := by omega
  have hn20 : n ≤ 20 := by omega
  have hn1 : 1 ≤ n := by omega
  obtain ⟨ls, hls⟩ : ∃ ls, l.map (·.xs) = ls := ⟨_, rfl⟩
  have hlsn : ls.length = n := by rw [← hls]; simp; exact hn
  have HN := Lib.hid hn
  have HS := Lib.hid hs
  have HR := Lib.hid hr
  have HLS := Lib.hid hls
  have HLN := Lib.hid hlsn
  have HNEW := Lib.hid (fun W : World => nnew_int W (k := 2) (by omega) (by omega))
  clear hs hr hn hbig hls hlsn hz
  go_enter Try.func5, Try.ntmps5
  go_wp2_with (first
    | (go_at_call 7; refine (awake5_any _).mono ?_; rintro e w1 ⟨rfl, m1⟩; have M1 := Lib.hid m1; clear m1)
    | (go_at_call 8; refine (HNEW.out _).mono ?_; rintro e w2 ⟨rfl, rfl⟩; have N0 := Lib.hid ((net_new w1 (k := 2) (n := 2) rfl).sub M1.out.size); have M0 := Lib.hid (M1.out.alloc (.cells #[.int .i64 2, .slice none 0 0] 46))))
  obtain ⟨nb, hnb⟩ : ∃ nb, w1.heap.size = nb := ⟨_, rfl⟩
  rw [hnb] at N0 ⊢
  clear hnb HNEW
  go_loopw [8] (fun i wr => ∃ (j : Nat) (v : Value) (L : List Pk), j ≤ n ∧ i = .int .i64 j ∧ NetAt wr w.heap.size nb 2 v L ∧ L.length = j ∧ Tw ls L ∧ Mods Nil w wr ∧ ∀ b ∈ ls.take j, b.length ≤ 50) (fun i _ => n - (intOf i).toNat)
  case atStart => exact ⟨0, _, [], by omega, rfl, N0.out, rfl, (fun i q h => by simp at h), M0.out, by simp⟩
  case round =>
    obtain ⟨j, v, L, hj, rfl, hnet, hlen, htw, hmo, hsm⟩ := hrel
    clear N0 M0 M1
    by_cases hlt : j < n
    · have hjI : (j : Int) < (n : Int) := by omega
      obtain ⟨b, off, r, rfl, hr1, hr2, hr3⟩ := in5_at HN.out HLS.out HS.out HR.out hlt
      have hrw : wr.cell? ⟨b, off + j, none⟩ = some (.slice r.A r.xs.length r.c) := (World.cell?_of_block (hmo.block b (World.block_lt_of_cell? w _ hr3) (fun h => h))).trans hr3
      have hrok := hr2.mods hmo
      generalize hxs : r.xs = xs at hr1 hrw
      unfold Row.ok at hrok
      rw [hxs] at hrok
      generalize r.A = rA at hrw hrok
      generalize r.c = rc at hrw hrok
      obtain ⟨p, hp⟩ : ∃ p, xs.length = p := ⟨_, rfl⟩
      rw [hp] at hrw
      by_cases h50 : 50 < p
      · have h50I : (50 : Int) < (p : Int) := by omega
        have HMO := Lib.hid hmo
        clear hnet hlen htw hmo hsm hr1 hr2 hr3 hrok hp hxs
        go_wp2_with fail
        go_ret
        exact ⟨rfl, HMO.out⟩
      · have h50I : (p : Int) ≤ 50 := by omega
        have HSEND := Lib.hid (nsend_int (f := 0) (t := 1) hnet (by omega) (by omega) (by omega) (by omega) (by omega) hp (by omega) hrok)
        have htk : ls.take (j + 1) = ls.take j ++ [xs] := by rw [List.take_succ_eq_append_getElem (List.getElem?_eq_some_iff.1 hr1).1, (List.getElem?_eq_some_iff.1 hr1).2]
        have hsm1 : ∀ b ∈ ls.take (j + 1), b.length ≤ 50 := by
          intro b hb
          rw [htk] at hb
          rcases List.mem_append.1 hb with hb | hb
          · exact hsm b hb
          · simp at hb; rw [hb]; omega
        have HSM := Lib.hid hsm1
        have HNET := Lib.hid hnet
        have HLEN := Lib.hid hlen
        have HMO := Lib.hid hmo
        have HTW : Hid (∀ q : Pk, q.core = (0, 1, xs) → Tw ls (L ++ [q])) := fun q hq => htw.snoc (by rw [hlen]; exact hr1) hq
        clear hnet hlen htw hmo hsm hsm1 htk hr1 hr2 hr3 hrok hp hxs
        go_wp2_with (go_at_call 9; refine (HSEND.out).mono ?_; rintro e w3 ⟨rfl, v3, q, k1, k2, k3, k4, k5⟩; have N3 := Lib.hid k1; have T3 := Lib.hid (HTW.out q k2); have M3 := Lib.hid (HNET.out.trans_nil (Nat.le_refl _) HMO.out k4); clear k1 k2 k3 k4 k5)
        exact ⟨⟨j + 1, v3, _, by omega, by go_num, N3.out, by simp [HLEN.out], T3.out, M3.out, HSM.out⟩, by simp [intOf]; omega⟩
    · obtain rfl : n = j := by omega
      have htk : ls.take n = ls := by rw [← HLN.out, List.take_length]
      rw [htk] at hsm
      obtain ⟨k, hk⟩ : ∃ k, x % n = k := ⟨_, rfl⟩
      have hkn : k < n := by rw [← hk]; exact Nat.mod_lt _ (by omega)
      have hkI : (x : Int) % (n : Int) = (k : Int) := by rw [← hk]; omega
      have hknI : (k : Int) < (n : Int) := by omega
      have hk0 : (0 : Int) ≤ (k : Int) := by omega
      have hx0 : (0 : Int) ≤ (x : Int) := by omega
      have hxI : (x : Int) < 256 := by omega
      have hn1I : (1 : Int) ≤ (n : Int) := by omega
      have hkl : k < L.length := by omega
      obtain ⟨b, hb, hcore⟩ := htw k _ (List.getElem?_eq_getElem hkl)
      have hb50 : b.length ≤ 50 := hsm b (List.mem_of_getElem? hb)
      obtain ⟨m, hm⟩ : ∃ m, b.length = m := ⟨_, rfl⟩
      have hqx : L[k].xs.length ≤ 140737488355328 := by rw [(core_of hcore).2.2]; omega
      obtain ⟨n2, hn2⟩ : ∃ n2, n + 1 = n2 := ⟨_, rfl⟩
      obtain ⟨n3, hn3⟩ : ∃ n3, n - 1 = n3 := ⟨_, rfl⟩
      have hn2I : (n2 : Int) = (n : Int) + 1 := by omega
      have hn3I : (n3 : Int) = (n : Int) - 1 := by omega
      have hwr : IntKind.i64.wrap ((n : Int) - 1) = (n : Int) - 1 := by rw [IntKind.wrap_i64]; omega
      have HTWICE := Lib.hid (ntwice_any hnet (by omega) hkl hqx)
      have HTWO : Hid (∀ q : Pk, q.core = (0, 1, b) → (L ++ [q]).length = n2 ∧ (placesTo 1 0 (L ++ [q])).length = n2 ∧ (L ++ [q])[n]? = some q ∧ (L ++ [q]).eraseIdx n = L) := fun q hq => by
        refine ⟨by simp; omega, by rw [htw.to hq]; omega, ?_, ?_⟩
        · rw [List.getElem?_append_right (by omega)]; simp [hlen]
        · rw [List.eraseIdx_append_of_length_le (by omega)]; simp [hlen]
      have HL3 : Hid ((L.eraseIdx k).length = n3) := by show _ = _; rw [List.length_eraseIdx]; simp [hkl]; omega
      have HLK : Hid (L[k]? = some L[k]) := List.getElem?_eq_getElem hkl
      obtain ⟨bb, off, r, rfl, hr1, hr2, hr3⟩ := in5_at HN.out HLS.out HS.out HR.out hkn
      rw [hb] at hr1
      injection hr1 with hr1
      have hbl := World.block_lt_of_cell? w _ hr3
      unfold Row.ok at hr2
      rw [← hr1] at hr2 hr3
      rw [hm] at hr3
      generalize r.A = rA at hr2 hr3
      generalize r.c = rc at hr2 hr3
      have HCORE := Lib.hid hcore
      have HM := Lib.hid hm
      have HLEN := Lib.hid hlen
      have HMO := Lib.hid hmo
      have HNET := Lib.hid hnet
      have HROK := Lib.hid hr2
      have HRC := Lib.hid hr3
      have HN2 := Lib.hid hn2
      clear hnet hlen htw hmo hsm htk hcore hb hm hr1 hr2 hr3 hqx hk hn2 hn3
      go_wp2_with (first
        | (go_at_call 12; refine (ntwice_no_int N3.out (by rw [L3.out]; omega)).mono ?_; rintro e w4 ⟨rfl, rfl⟩)
        | (go_at_call 12; refine (HTWICE.out).mono ?_; rintro e w3 ⟨rfl, v3, q, k1, k2, k3, k4, k5⟩; have QC : Hid (q.core = (0, 1, b)) := (k2.trans HCORE.out); obtain ⟨t1, t2, t3, t4⟩ := HTWO.out q QC.out; obtain ⟨A3, c3, rfl, -, -, -⟩ := k1.place; have g3 := k1.cells.2.1; rw [t1] at k1 g3; have N3 := Lib.hid k1; have L3 := Lib.hid t1; have P3 := Lib.hid t2; have E3 := Lib.hid t3; have R3 := Lib.hid t4; have M3 := Lib.hid (HNET.out.trans_nil (Nat.le_refl _) HMO.out k4); clear k1 k2 k3 k4 k5 t1 t2 t3 t4)
        | (go_at_call 11; refine (nlen_int g3 hn2I).mono ?_; rintro e w4 ⟨rfl, rfl⟩)
        | (go_at_call 14; refine (nto_any N3.out (by rw [L3.out, ← HN2.out]; omega) 1).mono ?_; rintro e w5 ⟨v5, rfl, o5, m5⟩; rw [P3.out] at o5; obtain ⟨A5, c5, rfl, -, -, -⟩ := own_slice o5; have N5 := Lib.hid (N3.out.nil m5); have M5 := Lib.hid (M3.out.trans m5); clear o5 m5)
        | (go_at_call 10; refine (ntake_core2 N7.out (by have := HLEN.out; omega) HLK.out (k := (k : Int)) rfl HCORE.out HM.out).mono ?_; rintro e w8 ⟨A8, c8, rfl, p8, v8, n8, m8⟩; have mB : Mods Nil w8 (w8.alloc (.cells #[.int .i64 0, .int .i64 1, .slice A8 m c8] 32)) := (Mods.refl _ _).alloc _; have x9 : Mods Nil w (w8.alloc (.cells #[.int .i64 0, .int .i64 1, .slice A8 m c8] 32)) := (N7.out.trans_nil (Nat.le_refl _) X7.out m8).trans mB; obtain ⟨d0, d1, d2, -, -, -⟩ := ((B7.out.mods m8 F7.out).mods mB (fun h => h)).three; obtain ⟨e0, e1, e2, -, -, -⟩ := (Blk.new w8 32 #[.int .i64 0, .int .i64 1, .slice A8 m c8]).three; have cp : ∀ nq, (convert 29 9 (.slice A6 m c6)).run Try.prog ((w8.alloc (.cells #[.int .i64 0, .int .i64 1, .slice A8 m c8] 32)).drewN nq) = .ok (.string (strOf b)) ((w8.alloc (.cells #[.int .i64 0, .int .i64 1, .slice A8 m c8] 32)).drewN nq) := (fun nq => conv5 HM.out (((N7.out.ok_ns P7.out m8).mods mB (fun _ _ _ h => h)).1.drewN nq)); have cq : ∀ nq, (convert 29 9 (.slice A8 m c8)).run Try.prog ((w8.alloc (.cells #[.int .i64 0, .int .i64 1, .slice A8 m c8] 32)).drewN nq) = .ok (.string (strOf b)) ((w8.alloc (.cells #[.int .i64 0, .int .i64 1, .slice A8 m c8] 32)).drewN nq) := (fun nq => conv5 HM.out ((p8.mods mB (fun _ _ _ h => h)).1.drewN nq)); have cr : ∀ nq, (convert 29 9 (.slice rA m rc)).run Try.prog ((w8.alloc (.cells #[.int .i64 0, .int .i64 1, .slice A8 m c8] 32)).drewN nq) = .ok (.string (strOf b)) ((w8.alloc (.cells #[.int .i64 0, .int .i64 1, .slice A8 m c8] 32)).drewN nq) := (fun nq => conv5 HM.out ((HROK.out.mods x9 (fun _ _ h => h)).drewN nq)); have r0 := (World.cell?_of_block (x9.block bb hbl (fun h => h))).trans HRC.out; have n9 := n8.nil mB; obtain ⟨A9, c9, rfl, -, -, -⟩ := n9.place; have g9 := n9.cells.2.1; rw [HL3.out] at g9; have G9 : Hid (∀ nq, ((w8.alloc (.cells #[.int .i64 0, .int .i64 1, .slice A8 m c8] 32)).drewN nq).cell? ⟨nb, 1, none⟩ = some (.slice A9 n3 c9)) := (fun nq => g9); have X9 := Lib.hid x9; clear p8 n8 m8 mB x9 n9)
        | (go_at_call 10; refine (ntake_core2 N5.out (by rw [L3.out, ← HN2.out]; omega) E3.out (k := (n : Int)) rfl QC.out HM.out).mono ?_; rintro e w6 ⟨A6, c6, rfl, p6, v6, n6, m6⟩; have mA : Mods Nil w6 (w6.alloc (.cells #[.int .i64 0, .int .i64 1, .slice A6 m c6] 32)) := (Mods.refl _ _).alloc _; rw [R3.out] at n6; have F7 : Hid (¬ NS nb v6 w6.heap.size) := (fun h => by rcases h with e | e; (have := n6.blk.lt; omega); (have := (n6.own.lt _ e).2; omega)); have N7 := Lib.hid (n6.nil mA); have P7 := Lib.hid (p6.mods mA (fun _ _ _ h => h)); have X7 := Lib.hid ((N5.out.trans_nil (Nat.le_refl _) M5.out m6).trans mA); have B7 := Lib.hid (Blk.new w6 32 #[.int .i64 0, .int .i64 1, .slice A6 m c6]); clear p6 n6 m6 mA))
      go_quiet ((go_at_call 11; exact Calls.quiet_of_same ((nlen_int (G9.out _) hn3I).mono fun _ _ h => ⟨h.1, h.2.symm⟩)))
      go_wp2
      go_ret
      exact ⟨rfl, X9.out.drewN nq⟩
theorem netTwice_walk (w : World) {A : Option Addr} {c n : Nat} {l : List Row} (hn : l.length = n) (hs : Sl w A c (l.map Row.val)) (hr : ∀ r ∈ l, r.ok w) {a1 : Int} (w1 : (Lit.int .u8 a1).wf = true) :
    Calls Try.prog 5 #[.slice A n c, .int .u8 a1] w fun e w' => e = .returned (.bool true) ∧ Mods Nil w w' := by
  have h1 := u8_of_wf w1
  obtain ⟨x, rfl⟩ := Int.eq_ofNat_of_zero_le h1.1
  exact netTwice_nat w hn hs hr x (by omega)
end Go.Proofs.Ytglaenoaeiendaa
