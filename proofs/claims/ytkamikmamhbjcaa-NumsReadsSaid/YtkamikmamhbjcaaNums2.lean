/- Package nums: the reader. -/
import Derived.Test.YtkamikmamhbjcaaNums1
import Derived.StillTailTactics
import Derived.Deep.QuietTactic
import Derived.BigQuiet
namespace Go.Proofs.Ytkamikmamhbjcaa
open Go.RowKit

theorem infoByte : (Try.prog.info? 5).map (fun i => (i.zero, i.size, i.bytes)) = some (some (.int .u8 0), 1, 1) := by kernel_rfl

theorem IsReader.cut {w : World} {g : Nat} {k : Option Nat} {err : Int} {xs : List UInt8} {A : Option Addr} {c n : Nat} (hne : k ≠ some g) (hb : Blk w g 58 #[.slice A xs.length c, .int .i64 err]) (hs : Sl w A c (bts xs)) (ha : ∀ a, A = some a → k = some a.block)
    (hn : n ≤ xs.length) (A2 : Option Addr) (c2 : Nat) (hA : A2 = if c = n then A else A.map (·.add n)) (hc2 : c2 = c - n) :
    IsReader (w.setCell ⟨g, 0, none⟩ (.slice A2 (xs.length - n) c2)) g k err (xs.drop n) := by
  subst hA hc2
  have h1 := hb.set_ 0 (.slice (if c = n then A else A.map (·.add n)) (xs.length - n) (c - n))
  have h2 := hs.cut (k := n) (by simpa using hn)
  have hA2 : ∀ a, (if c = n then A else A.map (·.add n)) = some a → k = some a.block := by
    intro a h
    split at h
    · exact ha a h
    · cases A with
      | none => simp at h
      | some a0 =>
        simp at h
        subst h
        rw [ha a0 rfl]
        unfold Addr.add
        split <;> rfl
  refine ⟨hne, _, c - n, ?_, ?_, hA2⟩
  · simpa using h1
  · rw [bts_drop] at h2
    exact h2.mods ((Mods.refl (· = g) w).setCell (fun _ => rfl) _) (fun a e h => hne (by rw [hA2 a e, h]))

theorem take_any {w : World} {g : Nat} {k : Option Nat} {err : Int} {xs : List UInt8} (n : Nat) (hn : n ≤ xs.length) (hlim : xs.length ≤ 140737488355328) (h : IsReader w g k err xs) :
    Calls Try.prog 31 #[.pointer (some ⟨g, 0, none⟩), .int .i64 n] w fun e w' => ∃ A c, e = .returned (.slice A n c) ∧ Sl w' A c (bts (xs.take n)) ∧ Fresh w A (bts (xs.take n)) ∧ IsReader w' g k err (xs.drop n) ∧ Mods (· = g) w w' := by
  obtain ⟨hne, A, c, hb, hs, ha⟩ := h
  obtain ⟨i0, hi, hz0, hz1, hz2⟩ := info_parts infoByte
  have hc := hb.cell 0
  have hf := hb.frozen 0
  have hle := hs.le
  have hmx := hs.max
  unfold maxLen at hmx
  simp at hle hc
  have hn2 : (n : Int) ≤ (xs.length : Int) := by omega
  have hn3 : (n : Int) ≤ (c : Int) := by omega
  have HS := Lib.hid hs
  have HB := Lib.hid hb
  clear hs hb
  go_enter Try.func31, Try.ntmps31
  go_wp2
  go_still_tail 11, (by kernel_rfl)
  refine wpList_append_zero _ rfl (.tmp 10) (.tmp 16) 23 rfl 5 i0 (.int .u8 0) 1 Try.underlying23 hi hz0 hz1 hz2 rfl A rfl A n c (bts (xs.take n)) rfl (by simp; omega) (by have := (HS.out.take n).drew; rwa [bts_take] at this) (bts_one _) (by omega) ?_
  intro A' c' w' hsl' hm hfr
  have hm0 := hm.of_drew
  have hb' := HB.out.mods hm0 (fun h => h)
  have hs' := HS.out.mods hm0 (fun _ _ h => h)
  have hc' := hb'.cell 0
  have hf' := hb'.frozen 0
  simp at hc'
  have HS' := Lib.hid hs'
  have HB' := Lib.hid hb'
  have HL := Lib.hid hsl'
  have HM := Lib.hid hm0
  have HF := Lib.hid hfr
  clear hs' hb' hsl' hm0 hm hfr hc hf
  have fin : ∀ A2 c2, A2 = (if c = n then A else A.map (·.add n)) → c2 = c - n →
      Sl (w'.setCell ⟨g, 0, none⟩ (.slice A2 (xs.length - n) c2)) A' c' (bts (xs.take n)) ∧ Fresh w A' (bts (xs.take n)) ∧ IsReader (w'.setCell ⟨g, 0, none⟩ (.slice A2 (xs.length - n) c2)) g k err (xs.drop n) ∧ Mods (· = g) w (w'.setCell ⟨g, 0, none⟩ (.slice A2 (xs.length - n) c2)) := by
    intro A2 c2 hA hc2
    have hfr : Fresh w A' (bts (xs.take n)) := HF.out
    refine ⟨HL.out.mods' ((Mods.refl (· = g) w').setCell (fun _ => rfl) _) (fun hx => hfr.off hx (fun q hq => by subst hq; exact HB.out.lt)), hfr, IsReader.cut hne HB'.out HS'.out ha hn A2 c2 hA hc2, ?_⟩
    exact Mods.setCell (S := (· = g)) (HM.out.mono (fun _ _ h => h.elim)) (fun _ => rfl) _
  have FIN := Lib.hid fin
  clear fin
  by_cases hcn : c = n
  · have F1 := FIN.out A 0 (by rw [if_pos hcn]) (by omega)
    have e0 : xs.length - n = 0 := by omega
    rw [e0] at F1
    replace F1 := Lib.hid F1
    clear FIN e0
    subst hcn
    go_wp2
    go_ret
    exact ⟨_, _, rfl, F1.out⟩
  · have F1 := Lib.hid (FIN.out (A.map (·.add n)) (c - n) (by rw [if_neg hcn]) rfl)
    clear FIN
    go_wp2
    go_ret
    exact ⟨_, _, rfl, F1.out⟩

def readRaw (err : Int) (xs : List UInt8) (n : Int) : Int × List UInt8 × List UInt8 :=
  if err ≠ 0 then (err, xs, []) else if n < 0 then (1, [], []) else if (xs.length : Int) < n then (10, [], []) else (0, xs.drop n.toNat, xs.take n.toNat)

/-- What a call that tells bytes leaves: the slice e, the reader's new state r. -/
def Told (w : World) (g : Nat) (k : Option Nat) (r : Int × List UInt8 × List UInt8) (e : Ending) (w' : World) : Prop :=
  ∃ A c, e = .returned (.slice A r.2.2.length c) ∧ Sl w' A c (bts r.2.2) ∧ Fresh w A (bts r.2.2) ∧ IsReader w' g k r.1 r.2.1 ∧ Mods (· = g) w w'

theorem raw_any {w : World} {g : Nat} {k : Option Nat} {err : Int} {xs : List UInt8} (n : Int) (hlim : xs.length ≤ 140737488355328) (h : IsReader w g k err xs) :
    Calls Try.prog 22 #[.pointer (some ⟨g, 0, none⟩), .int .i64 n] w (Told w g k (readRaw err xs n)) := by
  have H := Lib.hid h
  obtain ⟨hne, A, c, hb, hs, ha⟩ := h
  have hc := hb.cell 0
  have hf := hb.frozen 0
  have hle := hs.le
  have hmx := hs.max
  unfold maxLen at hmx
  simp at hle hc
  clear hs hb
  by_cases he : err = 0
  · subst he
    by_cases hn : n < 0
    · have e : readRaw 0 xs n = (1, [], []) := by unfold readRaw; rw [if_neg (by simp), if_pos hn]
      rw [e]
      go_enter Try.func22, Try.ntmps22
      go_wp2_with (first | (go_at_call 24; refine (err_any H.out).mono ?_; rintro e w' ⟨rfl, rfl⟩) | (go_at_call 30; refine (fail_any 1 0 H.out).mono ?_; rintro e w' ⟨rfl, hr, hm⟩; have HR := Lib.hid hr; clear hr))
      go_ret
      exact ⟨none, 0, rfl, Sl.none_ _, .inl rfl, HR.out, hm⟩
    · by_cases hl : (xs.length : Int) < n
      · have e : readRaw 0 xs n = (10, [], []) := by unfold readRaw; rw [if_neg (by simp), if_neg hn, if_pos hl]
        rw [e]
        go_enter Try.func22, Try.ntmps22
        go_wp2_with (first | (go_at_call 24; refine (err_any H.out).mono ?_; rintro e w' ⟨rfl, rfl⟩) | (go_at_call 30; refine (fail_any 10 0 H.out).mono ?_; rintro e w' ⟨rfl, hr, hm⟩; have HR := Lib.hid hr; clear hr))
        go_ret
        exact ⟨none, 0, rfl, Sl.none_ _, .inl rfl, HR.out, hm⟩
      · obtain ⟨m, rfl⟩ : ∃ m : Nat, n = m := ⟨n.toNat, by omega⟩
        have e : readRaw 0 xs m = (0, xs.drop m, xs.take m) := by unfold readRaw; rw [if_neg (by simp), if_neg hn, if_neg hl]; rfl
        have hm : m ≤ xs.length := by omega
        rw [e]
        have hl2 : (xs.take m).length = m := by simp; omega
        go_enter Try.func22, Try.ntmps22
        go_wp2_with (first | (go_at_call 24; refine (err_any H.out).mono ?_; rintro e w' ⟨rfl, rfl⟩) | (go_at_call 31; refine (take_any m hm hlim H.out).mono ?_; rintro e w' ⟨A1, c1, rfl, hq⟩; have HQ := Lib.hid hq; clear hq))
        go_ret
        exact ⟨A1, c1, by show _ = Ending.returned (Value.slice A1 (xs.take m).length c1); rw [hl2]; rfl, HQ.out⟩
  · have hb2 : (err != 0) = true := by simp [he]
    have hb3 : (err == 0) = false := by simp [he]
    have e : readRaw err xs n = (err, xs, []) := by unfold readRaw; rw [if_pos he]
    rw [e]
    go_enter Try.func22, Try.ntmps22
    go_wp2_with (first | (go_at_call 24; refine (err_any H.out).mono ?_; rintro e w' ⟨rfl, rfl⟩))
    go_ret
    exact ⟨none, 0, rfl, Sl.none_ _, .inl rfl, H.out, Mods.refl _ _⟩
end Go.Proofs.Ytkamikmamhbjcaa
