/- Package segment: Open. -/
import Derived.Test.YtgebcpfgihcoiaaSgm15
namespace Go.Proofs.Ytgebcpfgihcoiaa
set_option maxRecDepth 100000
open Go.RowKit
set_option linter.unusedVariables false

theorem sopen_none (w : World) (a n : Int) : Calls Try.prog 12 #[.pointer none, .int .i64 a, .int .i64 n] w fun e w' => e = .returned (.tuple #[.pointer none, .int .i64 1]) ∧ w = w' := by
  go_enter Try.func12, Try.ntmps12
  go_wp2_with fail
  go_ret2
  exact ⟨rfl, rfl⟩
theorem sopen_bad {w : World} {base db : Nat} {d : PD} (h : DiskAt w base db d) (hL : d.L.length ≤ 65536) {a n : Int} (h3 : a ≤ 9223372036854775807) (hbad : a < 0 ∨ n < 1 ∨ (d.L.length : Int) - a < n) :
    Calls Try.prog 12 #[.pointer (some ⟨db, 0, none⟩), .int .i64 a, .int .i64 n] w fun e w' => e = .returned (.tuple #[.pointer none, .int .i64 1]) ∧ w = w' := by
  have HLEN := Lib.hid (dlen_any h)
  obtain ⟨m, hm⟩ : ∃ m, d.L.length = m := ⟨_, rfl⟩
  rw [hm] at HLEN
  by_cases h1 : a < 0
  · clear h hbad
    go_enter Try.func12, Try.ntmps12
    go_wp2_with fail
    go_ret2
    exact ⟨rfl, rfl⟩
  have h1I : 0 ≤ a := by omega
  by_cases h2 : n < 1
  · clear h hbad
    go_enter Try.func12, Try.ntmps12
    go_wp2_with fail
    go_ret2
    exact ⟨rfl, rfl⟩
  have h2I : 1 ≤ n := by omega
  have hw : IntKind.i64.wrap ((m : Int) - a) = (m : Int) - a := by rw [IntKind.wrap_i64]; omega
  have h3I : (m : Int) - a < n := by omega
  clear h hbad hm h1 h2 h3
  go_enter Try.func12, Try.ntmps12
  go_wp2_with (go_at_call 36; refine HLEN.out.mono ?_; rintro e w1 ⟨rfl, rfl⟩)
  go_ret2
  exact ⟨rfl, rfl⟩
theorem sscan_down {w : World} {base db : Nat} {d : PD} (h : DiskAt w base db d) {a n : Nat} (hn : 1 ≤ n) (ha : a ≤ 65536) (hdn : d.down = true) :
    Calls Try.prog 37 #[.pointer (some ⟨db, 0, none⟩), .int .i64 (a : Int), .int .i64 (n : Int)] w fun e w' => e = .returned (.tuple #[.map none, .int .u32 0, .int .i64 20]) ∧ Mods Nil w w' := by
  have H := Lib.hid h
  have hmm := @run_makeMap Try.prog
  have hnI : (0 : Int) < (n : Int) := by omega
  have hwa : IntKind.i64.wrap (a : Int) = (a : Int) := by rw [IntKind.wrap_i64]; omega
  have HA := Lib.hid (show (d.read (a : Int)) = ([], 20) by unfold PD.read PD.at_; rw [hdn]; rfl)
  clear h hn ha
  go_enter Try.func37, Try.ntmps37
  go_wp2_with fail
  go_loopw [17] (fun x wr => x = .int .i64 0 ∧ Mods Nil w wr) (fun x _ => 0)
  case atStart => exact ⟨rfl, (Mods.refl Nil w).alloc _⟩
  case round =>
    obtain ⟨rfl, hmo⟩ := hrel
    have HM := Lib.hid hmo
    clear hmo
    have HRD : Hid (Calls Try.prog 59 #[.pointer (some ⟨db, 0, none⟩), .int .i64 (a : Int)] wr fun e w' => ∃ A c m, e = .returned (.tuple #[.slice A m c, .int .i64 20]) ∧ Mods Nil wr w') := Lib.hid ((dread_any (H.out.nil HM.out) (a : Int)).mono (fun e w' ⟨A, c, m, h1, h2, h3, h4⟩ => by
      rw [HA.out] at h1
      exact ⟨A, c, m, h1, h4⟩))
    go_wp2_with (go_at_call 59; refine HRD.out.mono ?_; rintro e w3 ⟨A, c, m, rfl, m3⟩; have M3 := Lib.hid (HM.out.trans m3); clear m3)
    go_ret3
    exact ⟨rfl, M3.out⟩
/-- A segment that is opened, ahead of its records. -/
def seg0 (a n e : Nat) : PSeg := ⟨a, n, e, [], 0, 0, 0, 0⟩
theorem seg0_in {w1 w : World} {base db : Nat} {d : PD} (hd : DiskAt w1 base db d) (hb : base ≤ w1.heap.size) {a n e : Nat} (hfit : a + n ≤ 65536) (he : e < 4294967296) (hw : (w1.alloc (.map #[] 0)).alloc (.cells (segC db w1.heap.size (seg0 a n e)) 86) = w) :
    SegIn w base (w1.heap.size + 1) db w1.heap.size (seg0 a n e) ∧ DiskAt w base db d ∧ Mods Nil w1 w := by
  subst hw
  have hm : Mods Nil w1 ((w1.alloc (.map #[] 0)).alloc (.cells (segC db w1.heap.size (seg0 a n e)) 86)) := ((Mods.refl Nil w1).alloc _).alloc _
  refine ⟨⟨?_, ⟨fun _ => none, ?_, ?_⟩, by omega, hb, ⟨hfit, Nat.zero_le _, Nat.le_refl _, Nat.le_refl _, Nat.le_refl _, he, ⟨by show (-1000 : Int) ≤ 0; omega, by show (0 : Int) ≤ 1000; omega⟩⟩⟩, hd.nil hm, hm⟩
  · have := Blk.new (w1.alloc (.map #[] 0)) 86 (segC db w1.heap.size (seg0 a n e))
    rwa [World.size_alloc] at this
  · exact (IMap.made w1 Try.prog 3).mods ((Mods.refl Nil _).alloc _) (fun h => h)
  · exact ⟨fun _ _ => rfl, fun k _ h => absurd h (Nat.not_lt_zero _)⟩
set_option maxHeartbeats 3200000 in
theorem sopen_ok {w : World} {base db : Nat} {d : PD} (h : DiskAt w base db d) (hb : base ≤ w.heap.size) (hL : d.L.length ≤ 65536) {a n : Nat} (h1 : 1 ≤ n) (hn : a + n ≤ d.L.length) (hup : d.down = false) (hst : stampP (segL d a n) < 4294967295) :
    Calls Try.prog 12 #[.pointer (some ⟨db, 0, none⟩), .int .i64 (a : Int), .int .i64 (n : Int)] w fun e w' => ∃ sb, e = .returned (.tuple #[.pointer (some ⟨sb, 0, none⟩), .int .i64 0]) ∧ SegAt w' base sb db d (segOpen (segL d a n) a) ∧ Mods Nil w w' := by
  have HLEN := Lib.hid (dlen_any h)
  have HSC := Lib.hid (sscan_up h hn hL hup)
  have hsl := segL_length d a n
  have h64 : ∀ b ∈ segL d a n, b.length = 64 := fun b hb => by
    obtain ⟨i, hi, e⟩ := mem_getD hb
    rw [hsl] at hi
    rw [← e, segL_get hi]
    obtain ⟨_, _, _, h⟩ := h
    exact h.ok.lat (by omega)
  obtain ⟨l, hl⟩ : ∃ l, segL d a n = l := ⟨_, rfl⟩
  rw [hl] at hst HSC hsl h64
  rw [hl]
  obtain ⟨st, hst2⟩ : ∃ st, stampP l = st := ⟨_, rfl⟩
  rw [hst2] at hst HSC
  obtain ⟨m, hm⟩ : ∃ m, d.L.length = m := ⟨_, rfl⟩
  rw [hm] at HLEN hn hL
  have hw : IntKind.i64.wrap ((m : Int) - (a : Int)) = (m : Int) - (a : Int) := by rw [IntKind.wrap_i64]; omega
  have h3I : (n : Int) ≤ (m : Int) - (a : Int) := by omega
  have h1I : (1 : Int) ≤ (n : Int) := by omega
  have hneq : ((st : Int) == 4294967295) = false := by simp; omega
  have hadd : IntKind.u32.wrap ((st : Int) + 1) = ((st + 1 : Nat) : Int) := by rw [IntKind.wrap_u32]; omega
  obtain ⟨ep, hep⟩ : ∃ ep, st + 1 = ep := ⟨_, rfl⟩
  rw [hep] at hadd
  have hmm := @run_makeMap Try.prog
  have HFIND : Hid (∀ w1 w2, Mods Nil w w1 → (w1.alloc (.map #[] 0)).alloc (.cells (segC db w1.heap.size (seg0 a n ep)) 86) = w2 → (∃ cnt f, IMap Try.prog 3 w1 w.heap.size cnt f ∧ KnownF l f) → Calls Try.prog 38 #[.pointer (some ⟨w1.heap.size + 1, 0, none⟩), .map (some w.heap.size)] w2 fun e w' => e = .returned (.tuple #[]) ∧ SegAt w' base (w1.heap.size + 1) db d (segOpen l a) ∧ Mods Nil w w') :=
    Lib.hid (fun w1 w2 hm1 hw2 hk => by
      obtain ⟨cnt, f, hi, hkf⟩ := hk
      have hlt := hi.lt
      obtain ⟨g1, g2, g3⟩ := seg0_in (h.nil hm1) (Nat.le_trans hb hm1.size) (by omega) (show ep < 4294967296 by omega) hw2
      refine (sfind_in g1 g2 (hi.mods g3 (fun h => h)) hkf (by omega) hsl h64 ⟨rfl, rfl⟩).mono ?_
      rintro e w' ⟨rfl, s1, d1, m1⟩
      refine ⟨rfl, ⟨d1, w1.heap.size, ?_⟩, ((hm1.trans g3).nil_trans m1 (fun i hi => by have := hm1.size; omega))⟩
      have e1 : segOpen l a = (seg0 a n ep).done (walkP l (l.length + 1) 0 0 0).1 (walkP l (l.length + 1) 0 0 0).2 := by
        unfold segOpen PSeg.done seg0
        rw [hst2, hep, hsl]
      rw [e1]
      exact s1)
  clear h hb hL h1 hn hup hst hsl h64 hl hst2 hm hep
  go_enter Try.func12, Try.ntmps12
  go_wp2_with (first
    | (go_at_call 36; refine HLEN.out.mono ?_; rintro e w1 ⟨rfl, rfl⟩)
    | (go_at_call 37; refine HSC.out.mono ?_; rintro e w1 ⟨rfl, hk, m1⟩; have HKF := Lib.hid hk; have M1 := Lib.hid m1; clear hk m1)
    | (go_at_call 38; refine (HFIND.out w1 _ M1.out rfl HKF.out).mono ?_; rintro e w3 ⟨rfl, s3, m3⟩; have S3 := Lib.hid s3; have M3 := Lib.hid m3; clear s3 m3))
  go_ret2
  exact ⟨_, rfl, S3.out, M3.out⟩
end Go.Proofs.Ytgebcpfgihcoiaa
