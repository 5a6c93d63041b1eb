/- Package nums: the reader's numbers. -/
import Derived.Test.YtncmmiecfkfcgaaNums2
namespace Go.Proofs.Ytncmmiecfkfcgaa
open Go.RowKit

def valOf (l : List UInt8) : Nat := l.foldl (fun a b => a * 256 + b.toNat) 0
theorem valOf_snoc (l : List UInt8) (b : UInt8) : valOf (l ++ [b]) = valOf l * 256 + b.toNat := by simp [valOf, List.foldl_append]
theorem valOf_lt : ∀ (n : Nat) (l : List UInt8), l.length = n → valOf l < 256 ^ n := by
  intro n
  induction n with
  | zero => intro l h; obtain rfl : l = [] := List.eq_nil_of_length_eq_zero h; decide
  | succ n ih =>
    intro l h
    have e : l = l.take n ++ [l[n]'(by omega)] := by rw [← List.take_succ_eq_append_getElem (by omega), List.take_of_length_le (by omega)]
    rw [e, valOf_snoc]
    have h1 := ih (l.take n) (by simp; omega)
    have h2 := (l[n]'(by omega)).toNat_lt
    rw [Nat.pow_succ]
    omega

theorem or_step (v b : Nat) (hv : v < 72057594037927936) (hb : b < 256) : bits .or .u64 (IntKind.u64.wrap ((v : Int) * 256)) (IntKind.u64.wrap (b : Int)) = ((v * 256 + b : Nat) : Int) := by
  have e1 : IntKind.u64.wrap ((v : Int) * 256) = ((v * 256 : Nat) : Int) := by rw [IntKind.wrap_u64]; omega
  have e2 : IntKind.u64.wrap (b : Int) = (b : Int) := by rw [IntKind.wrap_u64]; omega
  rw [e1, e2, u64_or_nat _ _ (by omega) (by omega), nat_join 8 (v * 256) b (by omega) (by omega)]

set_option maxHeartbeats 400000 in
theorem uint_ok {w : World} {g : Nat} {k : Option Nat} {c : UInt8} {r : List UInt8} (hlim : (c :: r).length ≤ 140737488355328) (h8 : ¬ 8 < c.toNat) (hs1 : ¬ r.length < c.toNat) (hnum : numErr (c :: r) = 0) (h : IsReader w g k 0 (c :: r)) :
    Calls Try.prog 29 #[.pointer (some ⟨g, 0, none⟩)] w fun e w' => e = .returned (.int .u64 (valOf (r.take c.toNat))) ∧ IsReader w' g k 0 (r.drop c.toNat) ∧ Mods (· = g) w w' := by
  have H := Lib.hid h
  obtain ⟨hne, A, cp, hb, hs, ha⟩ := h
  have hle := hs.le
  have hmx := hs.max
  unfold maxLen at hmx
  obtain ⟨b, off, rfl, _, hcell⟩ := hs.at_ (by simp)
  have h0 : w.cell? ⟨b, off, none⟩ = some (.int .u8 (c.toNat : Int)) := hcell 0 _ (by simp [bts])
  have HC : ∀ j (hj : j < r.length), w.cell? ⟨b, off + 1 + j, none⟩ = some (.int .u8 (r[j].toNat : Int)) := fun j hj => by
    rw [show off + 1 + j = off + (j + 1) from by omega]
    exact hcell (j + 1) _ (by simp [bts, hj])
  have HC' := Lib.hid HC
  clear HC hcell
  have hc := hb.cell 0
  have hf := hb.frozen 0
  simp at hle hc hlim
  have HS := Lib.hid hs
  have HB := Lib.hid hb
  have HA := Lib.hid ha
  clear hs hb ha
  obtain ⟨L, hL⟩ : ∃ L, L = r.length + 1 := ⟨_, rfl⟩
  have hcL : w.cell? ⟨g, 0, none⟩ = some (.slice (some ⟨b, off, none⟩) L cp) := by rw [hL]; exact hc
  have hpos : 0 < L := by omega
  have hposI : (0 : Int) < (L : Int) := by omega
  have hL2 : L ≤ cp := by omega
  have hL3 : r.length < L := by omega
  have HL := Lib.hid hL
  clear hc hL
  have hx8 : (c.toNat : Int) ≤ 8 := by omega
  have hnL : (c.toNat : Int) + 1 ≤ (L : Int) := by omega
  have hnL2 : c.toNat + 1 ≤ L := by omega
  have HN := Lib.hid hnum
  clear hnum
  have hnerr : (numErr (c :: r)) = 0 := HN.out
  have HNC : Hid (Calls Try.prog 40 #[.slice (some ⟨b, off, none⟩) L cp] w fun e w' => e = .returned (.int .i64 0) ∧ w = w') := by
    have := numberError_any (n := L) (by simp; exact HL.out.symm) HS.out
    rw [HN.out] at this
    exact this
  clear hnerr
  by_cases hz : c.toNat = 0
  · rw [hz] at h0
    have e1 : L - 1 = r.length + 1 - 1 := by rw [HL.out]
    have FIN : ∀ A2 c2, A2 = (if cp = 1 then (some ⟨b, off, none⟩ : Option Addr) else (some ⟨b, off, none⟩ : Option Addr).map (·.add 1)) → c2 = cp - 1 →
        IsReader (w.setCell ⟨g, 0, none⟩ (.slice A2 (L - 1) c2)) g k 0 r := by
      intro A2 c2 h1 h2
      have := IsReader.cut (n := 1) hne HB.out HS.out HA.out (by simp) A2 c2 h1 h2
      have e2 : (c :: r).drop 1 = r := rfl
      rw [e2] at this
      rw [e1]
      exact this
    have HM : ∀ v, Mods (· = g) w (w.setCell ⟨g, 0, none⟩ v) := fun v => Mods.setCell (S := (· = g)) (Mods.refl _ _) (fun _ => rfl) v
    replace HM := Lib.hid HM
    have e3 : r.take 0 = [] := rfl
    have e4 : r.drop 0 = r := rfl
    rw [hz, e3, e4]
    clear e1 e3 e4 hz h8 hs1 hx8 hnL hnL2 hlim hle hL3
    by_cases hce : cp = 1
    · have F1 := FIN (some ⟨b, off, none⟩) 0 (by rw [if_pos hce]) (by omega)
      have e5 : L - 1 = 0 := by omega
      rw [e5] at F1
      replace F1 := Lib.hid F1
      clear FIN e5
      subst hce
      obtain rfl : L = 1 := by omega
      go_enter Try.func29, Try.ntmps29
      go_wp2_with (first | (go_at_call 30; refine (err_any H.out).mono ?_; rintro e w' ⟨rfl, rfl⟩) | (go_at_call 40; refine (HNC.out).mono ?_; rintro e w' ⟨rfl, rfl⟩))
      refine wp_loop_rounds 1 ?_
      rw [rounds_succ]
      go_wp2
      go_ret
      exact ⟨rfl, F1.out, HM.out _⟩
    · have F1 := FIN ((some ⟨b, off, none⟩ : Option Addr).map (·.add 1)) (cp - 1) (by rw [if_neg hce]) rfl
      simp [Addr.add_lit] at F1
      replace F1 := Lib.hid F1
      clear FIN
      go_enter Try.func29, Try.ntmps29
      go_wp2_with (first | (go_at_call 30; refine (err_any H.out).mono ?_; rintro e w' ⟨rfl, rfl⟩) | (go_at_call 40; refine (HNC.out).mono ?_; rintro e w' ⟨rfl, rfl⟩))
      refine wp_loop_rounds 1 ?_
      rw [rounds_succ]
      go_wp2
      go_ret
      exact ⟨rfl, F1.out, HM.out _⟩
  · have hcp : ¬ cp = 1 := by omega
    go_enter Try.func29, Try.ntmps29
    go_wp2_with (first | (go_at_call 30; refine (err_any H.out).mono ?_; rintro e w' ⟨rfl, rfl⟩) | (go_at_call 40; refine (HNC.out).mono ?_; rintro e w' ⟨rfl, rfl⟩))
    go_loop [5, 36] (fun x i => ∃ j : Nat, j ≤ c.toNat ∧ i = .int .i64 j ∧ x = .int .u64 (valOf (r.take j))) (fun _ i => c.toNat - (intOf i).toNat)
    case atStart => exact ⟨0, Nat.zero_le _, rfl, rfl⟩
    case round =>
      obtain ⟨j, hj, rfl, rfl⟩ := hrel
      by_cases hlt : j < c.toNat
      · have hb1 := HC'.out j (by omega)
        go_wp2
        have hv : valOf (r.take j) < 72057594037927936 := by
          have h1 := valOf_lt (r.take j).length (r.take j) rfl
          have h2 : 256 ^ (r.take j).length ≤ 256 ^ 7 := Nat.pow_le_pow_right (by omega) (by simp; omega)
          have h3 : (256 : Nat) ^ 7 = 72057594037927936 := rfl
          omega
        refine ⟨⟨j + 1, by omega, by go_num, ?_⟩, by simp [intOf]; omega⟩
        rw [or_step _ _ hv (r[j].toNat_lt), take_snoc' r j (by omega), valOf_snoc]
      · obtain rfl : j = c.toNat := by omega
        have e1 : L - (1 + c.toNat) = r.length + 1 - (1 + c.toNat) := by rw [HL.out]
        have FIN : ∀ A2 c2, A2 = (if cp = 1 + c.toNat then (some ⟨b, off, none⟩ : Option Addr) else (some ⟨b, off, none⟩ : Option Addr).map (·.add (1 + c.toNat))) → c2 = cp - (1 + c.toNat) →
            IsReader (w.setCell ⟨g, 0, none⟩ (.slice A2 (L - (1 + c.toNat)) c2)) g k 0 (r.drop c.toNat) := by
          intro A2 c2 h1 h2
          have := IsReader.cut (n := 1 + c.toNat) hne HB.out HS.out HA.out (by simp; omega) A2 c2 h1 h2
          have e2 : (c :: r).drop (1 + c.toNat) = r.drop c.toNat := by rw [Nat.add_comm, List.drop_succ_cons]
          rw [e2] at this
          rw [e1]
          exact this
        have HM : ∀ v, Mods (· = g) w (w.setCell ⟨g, 0, none⟩ v) := fun v => Mods.setCell (S := (· = g)) (Mods.refl _ _) (fun _ => rfl) v
        replace HM := Lib.hid HM
        clear e1
        by_cases hce : cp = 1 + c.toNat
        · have F1 := FIN (some ⟨b, off, none⟩) 0 (by rw [if_pos hce]) (by omega)
          replace F1 := Lib.hid F1
          clear FIN
          go_wp2
          go_ret
          exact ⟨rfl, F1.out, HM.out _⟩
        · have F1 := FIN ((some ⟨b, off, none⟩ : Option Addr).map (·.add (1 + c.toNat))) (cp - (1 + c.toNat)) (by rw [if_neg hce]) rfl
          simp [Addr.add_lit] at F1
          replace F1 := Lib.hid F1
          clear FIN
          go_wp2
          go_ret
          exact ⟨rfl, F1.out, HM.out _⟩

def readUint (err : Int) (xs : List UInt8) : Int × List UInt8 × Nat :=
  if err ≠ 0 then (err, xs, 0) else if numErr xs ≠ 0 then (numErr xs, [], 0) else (0, xs.drop (1 + (xs.headD 0).toNat), valOf ((xs.drop 1).take (xs.headD 0).toNat))

theorem numErr_zero_inv {xs : List UInt8} (h : numErr xs = 0) : ∃ c r, xs = c :: r ∧ ¬ 8 < c.toNat ∧ ¬ r.length < c.toNat := by
  cases xs with
  | nil => simp [numErr] at h
  | cons c r =>
    refine ⟨c, r, rfl, ?_, ?_⟩
    · intro h8; rw [numErr_big h8] at h; simp at h
    · intro hs
      by_cases h8 : 8 < c.toNat
      · rw [numErr_big h8] at h; simp at h
      · rw [numErr_short h8 hs] at h; simp at h

theorem uint_any {w : World} {g : Nat} {k : Option Nat} {err : Int} {xs : List UInt8} (hlim : xs.length ≤ 140737488355328) (h : IsReader w g k err xs) :
    Calls Try.prog 29 #[.pointer (some ⟨g, 0, none⟩)] w fun e w' => e = .returned (.int .u64 ((readUint err xs).2.2 : Nat)) ∧ IsReader w' g k (readUint err xs).1 (readUint err xs).2.1 ∧ Mods (· = g) w w' := by
  have H := Lib.hid h
  by_cases he : err = 0
  · subst he
    by_cases hn : numErr xs = 0
    · obtain ⟨c, r, rfl, h8, hs⟩ := numErr_zero_inv hn
      have e : readUint 0 (c :: r) = (0, r.drop c.toNat, valOf (r.take c.toNat)) := by
        unfold readUint
        rw [if_neg (by simp), if_neg (by simp [hn])]
        simp only [List.headD_cons, List.drop_succ_cons, List.drop_zero]
        rw [Nat.add_comm, List.drop_succ_cons]
      rw [e]
      exact uint_ok hlim h8 hs hn h
    · have e : readUint 0 xs = (numErr xs, [], 0) := by unfold readUint; rw [if_neg (by simp), if_pos hn]
      rw [e]
      obtain ⟨hne, A, c, hb, hs, ha⟩ := h
      have hc := hb.cell 0
      have hf := hb.frozen 0
      simp at hc
      have HS := Lib.hid hs
      clear hs hb
      have hnb : ((numErr xs) != 0) = true := by simp [hn]
      have hnb2 : ((numErr xs) == 0) = false := by simp [hn]
      clear hn
      go_enter Try.func29, Try.ntmps29
      go_wp2_with (first | (go_at_call 30; refine (err_any H.out).mono ?_; rintro e w' ⟨rfl, rfl⟩) | (go_at_call 40; refine (numberError_any rfl HS.out).mono ?_; rintro e w' ⟨rfl, rfl⟩) | (go_at_call 41; refine (fail_any (numErr xs) 0 H.out).mono ?_; rintro e w' ⟨rfl, hr, hm⟩; have HR := Lib.hid hr; clear hr))
      go_ret
      exact ⟨rfl, HR.out, hm⟩
  · have hb2 : (err != 0) = true := by simp [he]
    have hb3 : (err == 0) = false := by simp [he]
    have e : readUint err xs = (err, xs, 0) := by unfold readUint; rw [if_pos he]
    rw [e]
    go_enter Try.func29, Try.ntmps29
    go_wp2_with (first | (go_at_call 30; refine (err_any H.out).mono ?_; rintro e w' ⟨rfl, rfl⟩))
    go_ret
    exact ⟨rfl, H.out, Mods.refl _ _⟩

theorem uint_nil (w : World) : Calls Try.prog 29 #[.pointer none] w fun e w' => e = .returned (.int .u64 0) ∧ w = w' := by
  go_enter Try.func29, Try.ntmps29
  go_wp2_with (first | (go_at_call 30; refine (err_nil _).mono ?_; rintro e w' ⟨rfl, rfl⟩))
  go_ret
  exact ⟨rfl, rfl⟩
def readBytes (err : Int) (xs : List UInt8) (most : Int) : Int × List UInt8 × List UInt8 :=
  if (readUint err xs).1 ≠ 0 then ((readUint err xs).1, (readUint err xs).2.1, [])
  else if most < 0 ∨ most < ((readUint err xs).2.2 : Int) then (13, [], [])
  else readRaw 0 (readUint err xs).2.1 ((readUint err xs).2.2 : Int)
end Go.Proofs.Ytncmmiecfkfcgaa
