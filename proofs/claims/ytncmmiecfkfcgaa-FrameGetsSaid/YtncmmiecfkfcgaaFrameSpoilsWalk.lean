/- FrameSpoils' walk. -/
import Derived.Test.YtncmmiecfkfcgaaFrameBigWalk
import Derived.Laws.BitsAllLaws
namespace Go.Proofs.Ytncmmiecfkfcgaa
open Go.RowKit
set_option linter.unusedVariables false

/-- A frame with a byte behind its length changed: what Get says. -/
theorem spoiled {k : UInt8} {body : List UInt8} (hb : body.length ≤ 65535) {j : Nat} (h1 : (putU body.length).length ≤ j) (h2 : j < (frameOf k body).length) {x : Nat} (hx : x < 256) {y : UInt8} (hy : y = (frameOf k body)[j] ^^^ UInt8.ofNat x) :
    getE ((frameOf k body).set j y) = if x = 0 then 0 else 14 := by
  by_cases h0 : x = 0
  · rw [if_pos h0]
    have hyy : y = (frameOf k body)[j] := by rw [hy, h0]; simp
    rw [hyy, List.set_getElem_self]
    exact (get_self hb).1
  · rw [if_neg h0]
    refine frame_spoils hb h1 h2 ?_
    intro h
    rw [hy] at h
    have h3 := congrArg ((frameOf k body)[j] ^^^ ·) h
    simp only [← UInt8.xor_assoc, UInt8.xor_self, UInt8.zero_xor] at h3
    have h4 := congrArg UInt8.toNat h3
    simp at h4
    omega
theorem frame_front (k : UInt8) {body : List UInt8} (hb : body.length ≤ 65535) : (bts (frameOf k body))[0]? = some (.int .u8 (((putU body.length).length - 1 : Nat) : Int)) := by
  have h8 := digs_le8 (x := body.length) (by omega)
  unfold bts frameOf sealedOf putU
  simp
  omega

set_option maxRecDepth 100000 in
set_option maxHeartbeats 6400000 in
theorem frameSpoils_nat (w : World) (k : UInt8) {A : Option Addr} {c n : Nat} {body : List UInt8} (hn : body.length = n) (hs : Sl w A c (bts body)) (at_ : Nat) (hat : at_ < 65536) (x : Nat) (hx : x < 256) :
    Calls Try.prog 8 #[.int .u8 (k.toNat : Int), .slice A n c, .int .u16 at_, .int .u8 x] w fun e w' => e = .returned (.bool true) ∧ Mods Nil w w' := by
  have hmx := hs.max
  have hle := hs.le
  unfold maxLen at hmx
  simp at hle
  by_cases hbig : 300 < n
  · have hb : (300 : Int) < (n : Int) := by omega
    clear hs
    go_enter Try.func8, Try.ntmps8
    go_wp2_with (first | (go_at_call 9; refine (awake_any _).mono ?_; rintro e w1 ⟨rfl, m1⟩; have M1 := Lib.hid m1; clear m1))
    go_ret
    exact ⟨rfl, M1.out⟩
  · have hb : (n : Int) ≤ 300 := by omega
    obtain ⟨P, hP⟩ : ∃ P, (putU body.length).length = P := ⟨_, rfl⟩
    obtain ⟨F, hF⟩ : ∃ F, frameOf k body = F := ⟨_, rfl⟩
    obtain ⟨M, hM⟩ : ∃ M, F.length = M := ⟨_, rfl⟩
    have hlen := frameOf_length k body
    rw [hF, hM, hP] at hlen
    have hP9 : P ≤ 9 := by rw [← hP]; exact putU_length _ (by omega)
    have hP1 : 1 ≤ P := by rw [← hP]; simp [putU]
    obtain ⟨L, hL⟩ : ∃ L, M - P = L := ⟨_, rfl⟩
    obtain ⟨r, hr⟩ : ∃ r, at_ % L = r := ⟨_, rfl⟩
    have hrl : r < L := by rw [← hr]; exact Nat.mod_lt _ (by omega)
    obtain ⟨j, hj⟩ : ∃ j, P + r = j := ⟨_, rfl⟩
    have hjM : j < M := by omega
    have hjF : j < F.length := by omega
    obtain ⟨y, hy⟩ : ∃ y, y = F[j] ^^^ UInt8.ofNat x := ⟨_, rfl⟩
    have hE : getE (F.set j y) = if x = 0 then 0 else 14 := by
      subst hF
      exact spoiled (by omega) (by omega) hjF hx hy
    have hxor : bits .xor .u8 (F[j].toNat : Int) (x : Int) = (y.toNat : Int) := by
      rw [u8_xor_nat _ _ F[j].toNat_lt hx, hy, UInt8.toNat_xor]
      simp [Nat.mod_eq_of_lt hx]
    have hget : (bts F)[j]? = some (.int .u8 (F[j].toNat : Int)) := bts_get F j hjF
    have hset : (bts F).set j (.int .u8 (y.toNat : Int)) = bts (F.set j y) := by simp [bts, List.map_set]
    have hfr : (bts F)[0]? = some (.int .u8 ((P - 1 : Nat) : Int)) := by
      have := frame_front k (body := body) (by omega)
      rwa [hF, hP] at this
    obtain ⟨p, hp⟩ : ∃ p, P - 1 = p := ⟨_, rfl⟩
    rw [hp] at hfr
    have hpP : (p : Int) + 1 = (P : Int) := by omega
    have hMP : (M : Int) - (P : Int) = (L : Int) := by omega
    have hrI : (at_ : Int) % (L : Int) = (r : Int) := by rw [← hr]; omega
    have hjI : (P : Int) + (r : Int) = (j : Int) := by omega
    have hL0 : (0 : Int) < (L : Int) := by omega
    have hLne : ((L : Int) == 0) = false := by rw [beq_eq_false_iff_ne]; omega
    have hjJ : (j : Int) < (M : Int) := by omega
    have hPM : (P : Int) < (M : Int) := by omega
    have hM6 : (6 : Int) ≤ (M : Int) := by omega
    have hM0 : (0 : Int) < (M : Int) := by omega
    have hM0' : 0 < M := by omega
    have hM63 : (M : Int) ≤ 1000 := by omega
    have hL63 : (L : Int) ≤ 1000 := by omega
    have hj63 : (j : Int) ≤ 1000 := by omega
    have hr63 : (r : Int) ≤ 1000 := by omega
    have HF : Hid ((frameOf k body).length = M) := by show _ = _; rw [hF]; exact hM
    have HFF := Lib.hid hF
    have HN := Lib.hid hn
    have HS := Lib.hid hs
    have HSET := Lib.hid hset
    have HFR := Lib.hid hfr
    have HE := Lib.hid hE
    have HLEN := Lib.hid (show (F.set j y).length = M by simp; exact hM)
    have HGET := Lib.hid hget
    generalize F[j].toNat = d at hxor hget HGET
    generalize y.toNat = z at hxor hset HSET
    clear hs hn hle hr hL hj hP hM hF hlen hy hE hset hfr hget hjF hp
    by_cases h0 : x = 0
    · subst h0
      rw [if_pos rfl] at HE
      have hxor0 : bits .xor .u8 (d : Int) 0 = (z : Int) := hxor
      clear hxor
      go_enter Try.func8, Try.ntmps8
      go_wp2_with (first
        | (go_at_call 9; refine (awake_any _).mono ?_; rintro e w1 ⟨rfl, m1⟩; have M1 := Lib.hid m1; have S1 := Lib.hid (HS.out.mods m1 (fun _ _ h => h)); clear m1)
        | (go_at_call 14; refine (fput_any HN.out (by omega) HF.out S1.out).mono ?_; rintro e w2 ⟨v2, rfl, o2, m2⟩; rw [HFF.out] at o2; obtain ⟨g, cap, rfl, hnc, hcm, hbg, hgl, hfz, hcl, hst⟩ := own_set o2 hjM; have hc := hcl _ HGET.out; have hc0 := o2.cells (g := g) rfl 0 _ HFR.out; rw [Addr.add_lit, Nat.add_zero] at hc0; have M2 := Lib.hid (M1.out.trans m2); have HO2 := Lib.hid hst; have HBG := Lib.hid (Nat.le_trans M1.out.size hbg); clear o2 m2 hcl hst hbg)
        | (go_at_call 10; refine (get_any (xs := F.set j y) HLEN.out (by have h := HO2.out (.int .u8 (z : Int)); rw [HSET.out] at h; obtain ⟨A4, c4, e4, _, s4, _⟩ := own_slice h; injection e4 with e5 e6 e7; subst e5; subst e7; exact s4)).mono ?_; rintro e w4 ⟨A4, c4, he, s4, b4, m4⟩; rw [HE.out] at he; subst he; have M4 := Lib.hid ((M2.out.setNew (p := ⟨g, j, none⟩) HBG.out (.int .u8 (z : Int))).trans m4); clear s4 b4 m4))
      go_ret
      exact ⟨rfl, M4.out.alloc _⟩
    · rw [if_neg h0] at HE
      have hx0 : ((x : Int) == 0) = false := by rw [beq_eq_false_iff_ne]; omega
      go_enter Try.func8, Try.ntmps8
      go_wp2_with (first
        | (go_at_call 9; refine (awake_any _).mono ?_; rintro e w1 ⟨rfl, m1⟩; have M1 := Lib.hid m1; have S1 := Lib.hid (HS.out.mods m1 (fun _ _ h => h)); clear m1)
        | (go_at_call 14; refine (fput_any HN.out (by omega) HF.out S1.out).mono ?_; rintro e w2 ⟨v2, rfl, o2, m2⟩; rw [HFF.out] at o2; obtain ⟨g, cap, rfl, hnc, hcm, hbg, hgl, hfz, hcl, hst⟩ := own_set o2 hjM; have hc := hcl _ HGET.out; have hc0 := o2.cells (g := g) rfl 0 _ HFR.out; rw [Addr.add_lit, Nat.add_zero] at hc0; have M2 := Lib.hid (M1.out.trans m2); have HO2 := Lib.hid hst; have HBG := Lib.hid (Nat.le_trans M1.out.size hbg); clear o2 m2 hcl hst hbg)
        | (go_at_call 10; refine (get_any (xs := F.set j y) HLEN.out (by have h := HO2.out (.int .u8 (z : Int)); rw [HSET.out] at h; obtain ⟨A4, c4, e4, _, s4, _⟩ := own_slice h; injection e4 with e5 e6 e7; subst e5; subst e7; exact s4)).mono ?_; rintro e w4 ⟨A4, c4, he, s4, b4, m4⟩; rw [HE.out] at he; subst he; have M4 := Lib.hid ((M2.out.setNew (p := ⟨g, j, none⟩) HBG.out (.int .u8 (z : Int))).trans m4); clear s4 b4 m4))
      go_ret
      exact ⟨rfl, M4.out.alloc _⟩
theorem frameSpoils_walk (w : World) {a0 : Int} (w0 : (Lit.int .u8 a0).wf = true) {A : Option Addr} {c n : Nat} {body : List UInt8} (hn : body.length = n) (hs : Sl w A c (bts body)) {a2 : Int} (w2 : (Lit.int .u16 a2).wf = true) {a3 : Int} (w3 : (Lit.int .u8 a3).wf = true) :
    Calls Try.prog 8 #[.int .u8 a0, .slice A n c, .int .u16 a2, .int .u8 a3] w fun e w' => e = .returned (.bool true) ∧ Mods Nil w w' := by
  obtain ⟨k, rfl⟩ := u8_nat w0
  have h2 := u16_of_wf w2
  have h3 := u8_of_wf w3
  obtain ⟨n2, rfl⟩ := Int.eq_ofNat_of_zero_le h2.1
  obtain ⟨n3, rfl⟩ := Int.eq_ofNat_of_zero_le h3.1
  exact frameSpoils_nat w k hn hs n2 (by omega) n3 (by omega)
end Go.Proofs.Ytncmmiecfkfcgaa
