/- Texts laid as one: Nums1, Nums2, Nums3, Nums4, Nums5, Nums6. -/
import Derived.Test.YthkejoabppocoaaProg
import Derived.Test.YthkejoabppocoaaBaseM
import Derived.Outline
import Derived.WalkLawsBesides
import Derived.StillTailTactics
import Derived.Deep.QuietTactic
import Derived.BigQuiet
import Derived.Deep.RegionLaw

section
/- Package nums: the reader's small calls. -/
namespace Go.Proofs.Ythkejoabppocoaa
set_option maxRecDepth 100000
open Go.RowKit

/-- A reader in block g, its bytes in block k: what is left, and the first error. -/
def IsReader (w : World) (g : Nat) (k : Option Nat) (err : Int) (xs : List UInt8) : Prop :=
  k ≠ some g ∧ ∃ A c, Blk w g 100 #[.slice A xs.length c, .int .i64 err] ∧ Sl w A c (bts xs) ∧ ∀ a, A = some a → k = some a.block

theorem IsReader.mods {S : Nat → Prop} {w w' : World} {g : Nat} {k : Option Nat} {err : Int} {xs : List UInt8} (h : IsReader w g k err xs) (hm : Mods S w w') (hg : ¬ S g) (hk : ∀ q, k = some q → ¬ S q) : IsReader w' g k err xs := by
  obtain ⟨hne, A, c, hb, hs, ha⟩ := h
  exact ⟨hne, A, c, hb.mods hm hg, hs.mods hm (fun a e => hk _ (ha a e)), ha⟩

theorem err_any {w : World} {g : Nat} {k : Option Nat} {err : Int} {xs : List UInt8} (h : IsReader w g k err xs) :
    Calls Try.prog 47 #[.pointer (some ⟨g, 0, none⟩)] w fun e w' => e = .returned (.int .i64 err) ∧ w = w' := by
  obtain ⟨hne, A, c, hb, hs, ha⟩ := h
  have hc := hb.cell 1
  have hf := hb.frozen 1
  clear hs hb
  simp at hc
  go_enter Try.func47, Try.ntmps47
  go_wp2
  go_ret
  exact ⟨rfl, rfl⟩

theorem err_nil (w : World) :
    Calls Try.prog 47 #[.pointer none] w fun e w' => e = .returned (.int .i64 1) ∧ w = w' := by
  go_enter Try.func47, Try.ntmps47
  go_wp2
  go_ret
  exact ⟨rfl, rfl⟩

theorem end_any {w : World} {g : Nat} {k : Option Nat} {err : Int} {xs : List UInt8} (h : IsReader w g k err xs) :
    Calls Try.prog 33 #[.pointer (some ⟨g, 0, none⟩)] w fun e w' => e = .returned (.int .i64 (if err = 0 then (if xs = [] then 0 else 12) else err)) ∧ w = w' := by
  have h' := h
  obtain ⟨hne, A, c, hb, hs, ha⟩ := h
  have hc := hb.cell 0
  have hf := hb.frozen 0
  have hle := hs.le
  have hmx := hs.max
  unfold maxLen at hmx
  simp at hle
  clear hs hb
  simp at hc
  by_cases he : err = 0
  · subst he
    cases xs with
    | nil =>
      go_enter Try.func33, Try.ntmps33
      go_wp2_with (go_at_call 47; refine (err_any h').mono ?_; rintro e w' ⟨rfl, rfl⟩)
      go_ret
      exact ⟨rfl, rfl⟩
    | cons x xs =>
      simp at hc hle
      have h0 : (0 : Int) < (xs.length : Int) + 1 := by omega
      go_enter Try.func33, Try.ntmps33
      go_wp2_with (go_at_call 47; refine (err_any h').mono ?_; rintro e w' ⟨rfl, rfl⟩)
      go_ret
      exact ⟨rfl, rfl⟩
  · have hb : (err == 0) = false := by simp [he]
    have hb2 : (err != 0) = true := by simp [he]
    go_enter Try.func33, Try.ntmps33
    go_wp2_with (go_at_call 47; refine (err_any h').mono ?_; rintro e w' ⟨rfl, rfl⟩)
    go_ret
    exact ⟨rfl, rfl⟩

theorem end_nil (w : World) :
    Calls Try.prog 33 #[.pointer none] w fun e w' => e = .returned (.int .i64 1) ∧ w = w' := by
  go_enter Try.func33, Try.ntmps33
  go_wp2_with (go_at_call 47; refine (err_nil _).mono ?_; rintro e w' ⟨rfl, rfl⟩)
  go_ret
  exact ⟨rfl, rfl⟩

theorem fail_any {w : World} {g : Nat} {k : Option Nat} {xs : List UInt8} (e0 : Int) (err : Int) (h : IsReader w g k err xs) :
    Calls Try.prog 49 #[.pointer (some ⟨g, 0, none⟩), .int .i64 e0] w fun e w' => e = .returned (.tuple #[]) ∧ IsReader w' g k e0 [] ∧ Mods (· = g) w w' := by
  obtain ⟨hne, A, c, hb, hs, ha⟩ := h
  have hc := hb.cell 0
  have hc1 := hb.cell 1
  have hf := hb.frozen 0
  have hf1 := hb.frozen 1
  have hb1 := (hb.set_ 1 (.int .i64 e0)).set_ 0 (.slice none 0 0)
  have hm : Mods (· = g) w ((w.setCell ⟨g, 1, none⟩ (.int .i64 e0)).setCell ⟨g, 0, none⟩ (.slice none 0 0)) :=
    ((Mods.refl (· = g) _).setCell (fun _ => rfl) _).setCell (fun _ => rfl) _
  clear hs hb
  simp at hc hc1
  simp at hb1
  go_enter Try.func49, Try.ntmps49
  go_wp2
  go_end0
  exact ⟨rfl, ⟨hne, none, 0, hb1, Sl.none_ _, fun a h => by cases h⟩, hm⟩

/-! numberError. -/
def numErr : List UInt8 → Int
  | [] => 10
  | c :: r => if 8 < c.toNat then 11 else if r.length < c.toNat then 10 else if 0 < c.toNat ∧ r.head? = some 0 then 11 else 0

theorem numErr_nil : numErr [] = 10 := rfl
theorem numErr_big {c : UInt8} {r : List UInt8} (h : 8 < c.toNat) : numErr (c :: r) = 11 := by simp only [numErr]; rw [if_pos h]
theorem numErr_short {c : UInt8} {r : List UInt8} (h : ¬ 8 < c.toNat) (h2 : r.length < c.toNat) : numErr (c :: r) = 10 := by simp only [numErr]; rw [if_neg h, if_pos h2]
theorem numErr_zero {c : UInt8} {r : List UInt8} (h2 : c.toNat = 0) : numErr (c :: r) = 0 := by simp only [numErr]; rw [if_neg (by omega), if_neg (by omega), if_neg (by omega)]
theorem numErr_front {c d : UInt8} {r : List UInt8} (h : ¬ 8 < c.toNat) (h2 : ¬ (d :: r).length < c.toNat) (h3 : 0 < c.toNat) (h4 : d.toNat = 0) : numErr (c :: d :: r) = 11 := by
  simp only [numErr]; rw [if_neg h, if_neg h2, if_pos ⟨h3, by simp; exact UInt8.toNat_inj.1 (by simpa using h4)⟩]
theorem numErr_ok {c d : UInt8} {r : List UInt8} (h : ¬ 8 < c.toNat) (h2 : ¬ (d :: r).length < c.toNat) (h4 : d.toNat ≠ 0) : numErr (c :: d :: r) = 0 := by
  simp only [numErr]; rw [if_neg h, if_neg h2, if_neg (by simp; intro _ e; subst e; simp at h4)]

theorem numberError_any {w : World} {A : Option Addr} {c : Nat} {n : Nat} {xs : List UInt8} (hn : xs.length = n) (h : Sl w A c (bts xs)) :
    Calls Try.prog 48 #[.slice A n c] w fun e w' => e = .returned (.int .i64 (numErr xs)) ∧ w = w' := by
  have hle := h.le
  have hmx := h.max
  unfold maxLen at hmx
  simp at hle
  rcases xs with _ | ⟨x, r⟩
  · subst hn
    rw [numErr_nil]
    go_enter Try.func48, Try.ntmps48
    go_wp2
    go_ret
    exact ⟨rfl, rfl⟩
  · obtain ⟨b, off, rfl, _, hcell⟩ := h.at_ (by simp)
    have h0 : w.cell? ⟨b, off, none⟩ = some (.int .u8 (x.toNat : Int)) := hcell 0 _ (by simp [bts])
    simp at hn hle
    have hz : ((n : Int) == 0) = false := by rw [beq_eq_false_iff_ne]; omega
    have hpos : (0 : Int) < (n : Int) := by omega
    have hpos' : 0 < n := by omega
    have hn2 : (n : Int) ≤ 9223372036854775807 := by omega
    have hxb : (x.toNat : Int) ≤ 255 := by have := x.toNat_lt; omega
    by_cases h8 : 8 < x.toNat
    · rw [numErr_big h8]
      have h8' : (8 : Int) < (x.toNat : Int) := by omega
      clear hcell h
      go_enter Try.func48, Try.ntmps48
      go_wp2
      go_ret
      exact ⟨rfl, rfl⟩
    · have h8' : ¬ (8 : Int) < (x.toNat : Int) := by omega
      by_cases hs : r.length < x.toNat
      · rw [numErr_short h8 hs]
        have hs' : (n : Int) - 1 < (x.toNat : Int) := by omega
        clear hcell h
        go_enter Try.func48, Try.ntmps48
        go_wp2
        go_ret
        exact ⟨rfl, rfl⟩
      · have hs' : ¬ (n : Int) - 1 < (x.toNat : Int) := by omega
        by_cases h1 : x.toNat = 0
        · rw [numErr_zero h1]
          have hx0 : ¬ (0 : Int) < (x.toNat : Int) := by omega
          have hx0' : decide ((0 : Int) < (x.toNat : Int)) = false := by simpa using hx0
          clear hcell h h1
          go_enter Try.func48, Try.ntmps48
          go_wp2
          go_ret
          exact ⟨rfl, rfl⟩
        · have hx0 : (0 : Int) < (x.toNat : Int) := by omega
          have hx0' : decide ((0 : Int) < (x.toNat : Int)) = true := by simpa using hx0
          rcases r with _ | ⟨d, r⟩
          · simp at hs; omega
          · have h1c : w.cell? ⟨b, off + 1, none⟩ = some (.int .u8 (d.toNat : Int)) := hcell 1 _ (by simp [bts])
            simp at hn
            have hn3 : (1 : Int) < (n : Int) := by omega
            have hn3' : 1 < n := by omega
            by_cases hd : d.toNat = 0
            · rw [numErr_front h8 hs (by omega) hd]
              clear hcell h h1
              rw [hd] at h1c
              clear hd hs
              go_enter Try.func48, Try.ntmps48
              go_wp2
              go_ret
              exact ⟨rfl, rfl⟩
            · rw [numErr_ok h8 hs hd]
              clear hcell h h1
              generalize d.toNat = y at h1c hd
              have hd' : ((y : Int) == 0) = false := by rw [beq_eq_false_iff_ne]; omega
              go_enter Try.func48, Try.ntmps48
              go_wp2
              go_ret
              exact ⟨rfl, rfl⟩
end Go.Proofs.Ythkejoabppocoaa
end

section
/- Package nums: the reader. -/
namespace Go.Proofs.Ythkejoabppocoaa
set_option maxRecDepth 100000
open Go.RowKit

theorem IsReader.cut {w : World} {g : Nat} {k : Option Nat} {err : Int} {xs : List UInt8} {A : Option Addr} {c n : Nat} (hne : k ≠ some g) (hb : Blk w g 100 #[.slice A xs.length c, .int .i64 err]) (hs : Sl w A c (bts xs)) (ha : ∀ a, A = some a → k = some a.block)
    (hn : n ≤ xs.length) (A2 : Option Addr) (c2 : Nat) (hA : A2 = if c = n then A else A.map (·.add n)) (hc2 : c2 = c - n) :
    IsReader (w.setCell ⟨g, 0, none⟩ (.slice A2 (xs.length - n) c2)) g k err (xs.drop n) := by
  subst hA hc2
  have h1 := hb.set_ 0 (.slice (if c = n then A else A.map (·.add n)) (xs.length - n) (c - n))
  have h2 := hs.cut (k := n) (by simpa using hn)
  have hA2 : ∀ a, (if c = n then A else A.map (·.add n)) = some a → k = some a.block := by
    intro a h
    split at h
    · exact ha a h
    · cases A with
      | none => simp at h
      | some a0 =>
        simp at h
        subst h
        rw [ha a0 rfl]
        unfold Addr.add
        split <;> rfl
  refine ⟨hne, _, c - n, ?_, ?_, hA2⟩
  · simpa using h1
  · rw [bts_drop] at h2
    exact h2.mods ((Mods.refl (· = g) w).setCell (fun _ => rfl) _) (fun a e h => hne (by rw [hA2 a e, h]))

theorem take_any {w : World} {g : Nat} {k : Option Nat} {err : Int} {xs : List UInt8} (n : Nat) (hn : n ≤ xs.length) (hlim : xs.length ≤ 140737488355328) (h : IsReader w g k err xs) :
    Calls Try.prog 70 #[.pointer (some ⟨g, 0, none⟩), .int .i64 n] w fun e w' => ∃ A c, e = .returned (.slice A n c) ∧ Sl w' A c (bts (xs.take n)) ∧ Fresh w A (bts (xs.take n)) ∧ IsReader w' g k err (xs.drop n) ∧ Mods (· = g) w w' := by
  obtain ⟨hne, A, c, hb, hs, ha⟩ := h
  obtain ⟨i0, hi, hz0, hz1, hz2⟩ := info_parts infoByte
  have hc := hb.cell 0
  have hf := hb.frozen 0
  have hle := hs.le
  have hmx := hs.max
  unfold maxLen at hmx
  simp at hle hc
  have hn2 : (n : Int) ≤ (xs.length : Int) := by omega
  have hn3 : (n : Int) ≤ (c : Int) := by omega
  have HS := Lib.hid hs
  have HB := Lib.hid hb
  clear hs hb
  go_enter Try.func70, Try.ntmps70
  go_wp2
  go_still_tail 11, (by kernel_rfl)
  refine wpList_append_zero _ rfl (.tmp 10) (.tmp 16) 30 rfl 5 i0 (.int .u8 0) 1 Try.underlying30 hi hz0 hz1 hz2 rfl A rfl A n c (bts (xs.take n)) rfl (by simp; omega) (by have := (HS.out.take n).drew; rwa [bts_take] at this) (bts_one _) (by omega) ?_
  intro A' c' w' hsl' hm hfr
  have hm0 := hm.of_drew
  have hb' := HB.out.mods hm0 (fun h => h)
  have hs' := HS.out.mods hm0 (fun _ _ h => h)
  have hc' := hb'.cell 0
  have hf' := hb'.frozen 0
  simp at hc'
  have HS' := Lib.hid hs'
  have HB' := Lib.hid hb'
  have HL := Lib.hid hsl'
  have HM := Lib.hid hm0
  have HF := Lib.hid hfr
  clear hs' hb' hsl' hm0 hm hfr hc hf
  have fin : ∀ A2 c2, A2 = (if c = n then A else A.map (·.add n)) → c2 = c - n →
      Sl (w'.setCell ⟨g, 0, none⟩ (.slice A2 (xs.length - n) c2)) A' c' (bts (xs.take n)) ∧ Fresh w A' (bts (xs.take n)) ∧ IsReader (w'.setCell ⟨g, 0, none⟩ (.slice A2 (xs.length - n) c2)) g k err (xs.drop n) ∧ Mods (· = g) w (w'.setCell ⟨g, 0, none⟩ (.slice A2 (xs.length - n) c2)) := by
    intro A2 c2 hA hc2
    have hfr : Fresh w A' (bts (xs.take n)) := HF.out
    refine ⟨HL.out.mods' ((Mods.refl (· = g) w').setCell (fun _ => rfl) _) (fun hx => hfr.off hx (fun q hq => by subst hq; exact HB.out.lt)), hfr, IsReader.cut hne HB'.out HS'.out ha hn A2 c2 hA hc2, ?_⟩
    exact Mods.setCell (S := (· = g)) (HM.out.mono (fun _ _ h => h.elim)) (fun _ => rfl) _
  have FIN := Lib.hid fin
  clear fin
  by_cases hcn : c = n
  · have F1 := FIN.out A 0 (by rw [if_pos hcn]) (by omega)
    have e0 : xs.length - n = 0 := by omega
    rw [e0] at F1
    replace F1 := Lib.hid F1
    clear FIN e0
    subst hcn
    go_wp2
    go_ret
    exact ⟨_, _, rfl, F1.out⟩
  · have F1 := Lib.hid (FIN.out (A.map (·.add n)) (c - n) (by rw [if_neg hcn]) rfl)
    clear FIN
    go_wp2
    go_ret
    exact ⟨_, _, rfl, F1.out⟩

def readRaw (err : Int) (xs : List UInt8) (n : Int) : Int × List UInt8 × List UInt8 :=
  if err ≠ 0 then (err, xs, []) else if n < 0 then (1, [], []) else if (xs.length : Int) < n then (10, [], []) else (0, xs.drop n.toNat, xs.take n.toNat)

/-- What a call that tells bytes leaves: the slice e, the reader's new state r. -/
def Told (w : World) (g : Nat) (k : Option Nat) (r : Int × List UInt8 × List UInt8) (e : Ending) (w' : World) : Prop :=
  ∃ A c, e = .returned (.slice A r.2.2.length c) ∧ Sl w' A c (bts r.2.2) ∧ Fresh w A (bts r.2.2) ∧ IsReader w' g k r.1 r.2.1 ∧ Mods (· = g) w w'

theorem raw_any {w : World} {g : Nat} {k : Option Nat} {err : Int} {xs : List UInt8} (n : Int) (hlim : xs.length ≤ 140737488355328) (h : IsReader w g k err xs) :
    Calls Try.prog 58 #[.pointer (some ⟨g, 0, none⟩), .int .i64 n] w (Told w g k (readRaw err xs n)) := by
  have H := Lib.hid h
  obtain ⟨hne, A, c, hb, hs, ha⟩ := h
  have hc := hb.cell 0
  have hf := hb.frozen 0
  have hle := hs.le
  have hmx := hs.max
  unfold maxLen at hmx
  simp at hle hc
  clear hs hb
  by_cases he : err = 0
  · subst he
    by_cases hn : n < 0
    · have e : readRaw 0 xs n = (1, [], []) := by unfold readRaw; rw [if_neg (by simp), if_pos hn]
      rw [e]
      go_enter Try.func58, Try.ntmps58
      go_wp2_with (first | (go_at_call 47; refine (err_any H.out).mono ?_; rintro e w' ⟨rfl, rfl⟩) | (go_at_call 49; refine (fail_any 1 0 H.out).mono ?_; rintro e w' ⟨rfl, hr, hm⟩; have HR := Lib.hid hr; clear hr))
      go_ret
      exact ⟨none, 0, rfl, Sl.none_ _, .inl rfl, HR.out, hm⟩
    · by_cases hl : (xs.length : Int) < n
      · have e : readRaw 0 xs n = (10, [], []) := by unfold readRaw; rw [if_neg (by simp), if_neg hn, if_pos hl]
        rw [e]
        go_enter Try.func58, Try.ntmps58
        go_wp2_with (first | (go_at_call 47; refine (err_any H.out).mono ?_; rintro e w' ⟨rfl, rfl⟩) | (go_at_call 49; refine (fail_any 10 0 H.out).mono ?_; rintro e w' ⟨rfl, hr, hm⟩; have HR := Lib.hid hr; clear hr))
        go_ret
        exact ⟨none, 0, rfl, Sl.none_ _, .inl rfl, HR.out, hm⟩
      · obtain ⟨m, rfl⟩ : ∃ m : Nat, n = m := ⟨n.toNat, by omega⟩
        have e : readRaw 0 xs m = (0, xs.drop m, xs.take m) := by unfold readRaw; rw [if_neg (by simp), if_neg hn, if_neg hl]; rfl
        have hm : m ≤ xs.length := by omega
        rw [e]
        have hl2 : (xs.take m).length = m := by simp; omega
        go_enter Try.func58, Try.ntmps58
        go_wp2_with (first | (go_at_call 47; refine (err_any H.out).mono ?_; rintro e w' ⟨rfl, rfl⟩) | (go_at_call 70; refine (take_any m hm hlim H.out).mono ?_; rintro e w' ⟨A1, c1, rfl, hq⟩; have HQ := Lib.hid hq; clear hq))
        go_ret
        exact ⟨A1, c1, by show _ = Ending.returned (Value.slice A1 (xs.take m).length c1); rw [hl2]; rfl, HQ.out⟩
  · have hb2 : (err != 0) = true := by simp [he]
    have hb3 : (err == 0) = false := by simp [he]
    have e : readRaw err xs n = (err, xs, []) := by unfold readRaw; rw [if_pos he]
    rw [e]
    go_enter Try.func58, Try.ntmps58
    go_wp2_with (first | (go_at_call 47; refine (err_any H.out).mono ?_; rintro e w' ⟨rfl, rfl⟩))
    go_ret
    exact ⟨none, 0, rfl, Sl.none_ _, .inl rfl, H.out, Mods.refl _ _⟩
end Go.Proofs.Ythkejoabppocoaa
end

section
/- Package nums: the reader's numbers. -/
namespace Go.Proofs.Ythkejoabppocoaa
set_option maxRecDepth 100000
open Go.RowKit

def valOf (l : List UInt8) : Nat := l.foldl (fun a b => a * 256 + b.toNat) 0
theorem valOf_snoc (l : List UInt8) (b : UInt8) : valOf (l ++ [b]) = valOf l * 256 + b.toNat := by simp [valOf, List.foldl_append]
theorem valOf_lt : ∀ (n : Nat) (l : List UInt8), l.length = n → valOf l < 256 ^ n := by
  intro n
  induction n with
  | zero => intro l h; obtain rfl : l = [] := List.eq_nil_of_length_eq_zero h; decide
  | succ n ih =>
    intro l h
    have e : l = l.take n ++ [l[n]'(by omega)] := by rw [← List.take_succ_eq_append_getElem (by omega), List.take_of_length_le (by omega)]
    rw [e, valOf_snoc]
    have h1 := ih (l.take n) (by simp; omega)
    have h2 := (l[n]'(by omega)).toNat_lt
    rw [Nat.pow_succ]
    omega

theorem or_step (v b : Nat) (hv : v < 72057594037927936) (hb : b < 256) : bits .or .u64 (IntKind.u64.wrap ((v : Int) * 256)) (IntKind.u64.wrap (b : Int)) = ((v * 256 + b : Nat) : Int) := by
  have e1 : IntKind.u64.wrap ((v : Int) * 256) = ((v * 256 : Nat) : Int) := by rw [IntKind.wrap_u64]; omega
  have e2 : IntKind.u64.wrap (b : Int) = (b : Int) := by rw [IntKind.wrap_u64]; omega
  rw [e1, e2, u64_or_nat _ _ (by omega) (by omega), nat_join 8 (v * 256) b (by omega) (by omega)]

set_option maxHeartbeats 400000 in
theorem uint_ok {w : World} {g : Nat} {k : Option Nat} {c : UInt8} {r : List UInt8} (hlim : (c :: r).length ≤ 140737488355328) (h8 : ¬ 8 < c.toNat) (hs1 : ¬ r.length < c.toNat) (hnum : numErr (c :: r) = 0) (h : IsReader w g k 0 (c :: r)) :
    Calls Try.prog 31 #[.pointer (some ⟨g, 0, none⟩)] w fun e w' => e = .returned (.int .u64 (valOf (r.take c.toNat))) ∧ IsReader w' g k 0 (r.drop c.toNat) ∧ Mods (· = g) w w' := by
  have H := Lib.hid h
  obtain ⟨hne, A, cp, hb, hs, ha⟩ := h
  have hle := hs.le
  have hmx := hs.max
  unfold maxLen at hmx
  obtain ⟨b, off, rfl, _, hcell⟩ := hs.at_ (by simp)
  have h0 : w.cell? ⟨b, off, none⟩ = some (.int .u8 (c.toNat : Int)) := hcell 0 _ (by simp [bts])
  have HC : ∀ j (hj : j < r.length), w.cell? ⟨b, off + 1 + j, none⟩ = some (.int .u8 (r[j].toNat : Int)) := fun j hj => by
    rw [show off + 1 + j = off + (j + 1) from by omega]
    exact hcell (j + 1) _ (by simp [bts, hj])
  have HC' := Lib.hid HC
  clear HC hcell
  have hc := hb.cell 0
  have hf := hb.frozen 0
  simp at hle hc hlim
  have HS := Lib.hid hs
  have HB := Lib.hid hb
  have HA := Lib.hid ha
  clear hs hb ha
  obtain ⟨L, hL⟩ : ∃ L, L = r.length + 1 := ⟨_, rfl⟩
  have hcL : w.cell? ⟨g, 0, none⟩ = some (.slice (some ⟨b, off, none⟩) L cp) := by rw [hL]; exact hc
  have hpos : 0 < L := by omega
  have hposI : (0 : Int) < (L : Int) := by omega
  have hL2 : L ≤ cp := by omega
  have hL3 : r.length < L := by omega
  have HL := Lib.hid hL
  clear hc hL
  have hx8 : (c.toNat : Int) ≤ 8 := by omega
  have hnL : (c.toNat : Int) + 1 ≤ (L : Int) := by omega
  have hnL2 : c.toNat + 1 ≤ L := by omega
  have HN := Lib.hid hnum
  clear hnum
  have hnerr : (numErr (c :: r)) = 0 := HN.out
  have HNC : Hid (Calls Try.prog 48 #[.slice (some ⟨b, off, none⟩) L cp] w fun e w' => e = .returned (.int .i64 0) ∧ w = w') := by
    have := numberError_any (n := L) (by simp; exact HL.out.symm) HS.out
    rw [HN.out] at this
    exact this
  clear hnerr
  by_cases hz : c.toNat = 0
  · rw [hz] at h0
    have e1 : L - 1 = r.length + 1 - 1 := by rw [HL.out]
    have FIN : ∀ A2 c2, A2 = (if cp = 1 then (some ⟨b, off, none⟩ : Option Addr) else (some ⟨b, off, none⟩ : Option Addr).map (·.add 1)) → c2 = cp - 1 →
        IsReader (w.setCell ⟨g, 0, none⟩ (.slice A2 (L - 1) c2)) g k 0 r := by
      intro A2 c2 h1 h2
      have := IsReader.cut (n := 1) hne HB.out HS.out HA.out (by simp) A2 c2 h1 h2
      have e2 : (c :: r).drop 1 = r := rfl
      rw [e2] at this
      rw [e1]
      exact this
    have HM : ∀ v, Mods (· = g) w (w.setCell ⟨g, 0, none⟩ v) := fun v => Mods.setCell (S := (· = g)) (Mods.refl _ _) (fun _ => rfl) v
    replace HM := Lib.hid HM
    have e3 : r.take 0 = [] := rfl
    have e4 : r.drop 0 = r := rfl
    rw [hz, e3, e4]
    clear e1 e3 e4 hz h8 hs1 hx8 hnL hnL2 hlim hle hL3
    by_cases hce : cp = 1
    · have F1 := FIN (some ⟨b, off, none⟩) 0 (by rw [if_pos hce]) (by omega)
      have e5 : L - 1 = 0 := by omega
      rw [e5] at F1
      replace F1 := Lib.hid F1
      clear FIN e5
      subst hce
      obtain rfl : L = 1 := by omega
      go_enter Try.func31, Try.ntmps31
      go_wp2_with (first | (go_at_call 47; refine (err_any H.out).mono ?_; rintro e w' ⟨rfl, rfl⟩) | (go_at_call 48; refine (HNC.out).mono ?_; rintro e w' ⟨rfl, rfl⟩))
      refine wp_loop_rounds 1 ?_
      rw [rounds_succ]
      go_wp2
      go_ret
      exact ⟨rfl, F1.out, HM.out _⟩
    · have F1 := FIN ((some ⟨b, off, none⟩ : Option Addr).map (·.add 1)) (cp - 1) (by rw [if_neg hce]) rfl
      simp [Addr.add_lit] at F1
      replace F1 := Lib.hid F1
      clear FIN
      go_enter Try.func31, Try.ntmps31
      go_wp2_with (first | (go_at_call 47; refine (err_any H.out).mono ?_; rintro e w' ⟨rfl, rfl⟩) | (go_at_call 48; refine (HNC.out).mono ?_; rintro e w' ⟨rfl, rfl⟩))
      refine wp_loop_rounds 1 ?_
      rw [rounds_succ]
      go_wp2
      go_ret
      exact ⟨rfl, F1.out, HM.out _⟩
  · have hcp : ¬ cp = 1 := by omega
    go_enter Try.func31, Try.ntmps31
    go_wp2_with (first | (go_at_call 47; refine (err_any H.out).mono ?_; rintro e w' ⟨rfl, rfl⟩) | (go_at_call 48; refine (HNC.out).mono ?_; rintro e w' ⟨rfl, rfl⟩))
    go_loop [5, 36] (fun x i => ∃ j : Nat, j ≤ c.toNat ∧ i = .int .i64 j ∧ x = .int .u64 (valOf (r.take j))) (fun _ i => c.toNat - (intOf i).toNat)
    case atStart => exact ⟨0, Nat.zero_le _, rfl, rfl⟩
    case round =>
      obtain ⟨j, hj, rfl, rfl⟩ := hrel
      by_cases hlt : j < c.toNat
      · have hb1 := HC'.out j (by omega)
        go_wp2
        have hv : valOf (r.take j) < 72057594037927936 := by
          have h1 := valOf_lt (r.take j).length (r.take j) rfl
          have h2 : 256 ^ (r.take j).length ≤ 256 ^ 7 := Nat.pow_le_pow_right (by omega) (by simp; omega)
          have h3 : (256 : Nat) ^ 7 = 72057594037927936 := rfl
          omega
        refine ⟨⟨j + 1, by omega, by go_num, ?_⟩, by simp [intOf]; omega⟩
        rw [or_step _ _ hv (r[j].toNat_lt), take_snoc' r j (by omega), valOf_snoc]
      · obtain rfl : j = c.toNat := by omega
        have e1 : L - (1 + c.toNat) = r.length + 1 - (1 + c.toNat) := by rw [HL.out]
        have FIN : ∀ A2 c2, A2 = (if cp = 1 + c.toNat then (some ⟨b, off, none⟩ : Option Addr) else (some ⟨b, off, none⟩ : Option Addr).map (·.add (1 + c.toNat))) → c2 = cp - (1 + c.toNat) →
            IsReader (w.setCell ⟨g, 0, none⟩ (.slice A2 (L - (1 + c.toNat)) c2)) g k 0 (r.drop c.toNat) := by
          intro A2 c2 h1 h2
          have := IsReader.cut (n := 1 + c.toNat) hne HB.out HS.out HA.out (by simp; omega) A2 c2 h1 h2
          have e2 : (c :: r).drop (1 + c.toNat) = r.drop c.toNat := by rw [Nat.add_comm, List.drop_succ_cons]
          rw [e2] at this
          rw [e1]
          exact this
        have HM : ∀ v, Mods (· = g) w (w.setCell ⟨g, 0, none⟩ v) := fun v => Mods.setCell (S := (· = g)) (Mods.refl _ _) (fun _ => rfl) v
        replace HM := Lib.hid HM
        clear e1
        by_cases hce : cp = 1 + c.toNat
        · have F1 := FIN (some ⟨b, off, none⟩) 0 (by rw [if_pos hce]) (by omega)
          replace F1 := Lib.hid F1
          clear FIN
          go_wp2
          go_ret
          exact ⟨rfl, F1.out, HM.out _⟩
        · have F1 := FIN ((some ⟨b, off, none⟩ : Option Addr).map (·.add (1 + c.toNat))) (cp - (1 + c.toNat)) (by rw [if_neg hce]) rfl
          simp [Addr.add_lit] at F1
          replace F1 := Lib.hid F1
          clear FIN
          go_wp2
          go_ret
          exact ⟨rfl, F1.out, HM.out _⟩

def readUint (err : Int) (xs : List UInt8) : Int × List UInt8 × Nat :=
  if err ≠ 0 then (err, xs, 0) else if numErr xs ≠ 0 then (numErr xs, [], 0) else (0, xs.drop (1 + (xs.headD 0).toNat), valOf ((xs.drop 1).take (xs.headD 0).toNat))

theorem numErr_zero_inv {xs : List UInt8} (h : numErr xs = 0) : ∃ c r, xs = c :: r ∧ ¬ 8 < c.toNat ∧ ¬ r.length < c.toNat := by
  cases xs with
  | nil => simp [numErr] at h
  | cons c r =>
    refine ⟨c, r, rfl, ?_, ?_⟩
    · intro h8; rw [numErr_big h8] at h; simp at h
    · intro hs
      by_cases h8 : 8 < c.toNat
      · rw [numErr_big h8] at h; simp at h
      · rw [numErr_short h8 hs] at h; simp at h

theorem uint_any {w : World} {g : Nat} {k : Option Nat} {err : Int} {xs : List UInt8} (hlim : xs.length ≤ 140737488355328) (h : IsReader w g k err xs) :
    Calls Try.prog 31 #[.pointer (some ⟨g, 0, none⟩)] w fun e w' => e = .returned (.int .u64 ((readUint err xs).2.2 : Nat)) ∧ IsReader w' g k (readUint err xs).1 (readUint err xs).2.1 ∧ Mods (· = g) w w' := by
  have H := Lib.hid h
  by_cases he : err = 0
  · subst he
    by_cases hn : numErr xs = 0
    · obtain ⟨c, r, rfl, h8, hs⟩ := numErr_zero_inv hn
      have e : readUint 0 (c :: r) = (0, r.drop c.toNat, valOf (r.take c.toNat)) := by
        unfold readUint
        rw [if_neg (by simp), if_neg (by simp [hn])]
        simp only [List.headD_cons, List.drop_succ_cons, List.drop_zero]
        rw [Nat.add_comm, List.drop_succ_cons]
      rw [e]
      exact uint_ok hlim h8 hs hn h
    · have e : readUint 0 xs = (numErr xs, [], 0) := by unfold readUint; rw [if_neg (by simp), if_pos hn]
      rw [e]
      obtain ⟨hne, A, c, hb, hs, ha⟩ := h
      have hc := hb.cell 0
      have hf := hb.frozen 0
      simp at hc
      have HS := Lib.hid hs
      clear hs hb
      have hnb : ((numErr xs) != 0) = true := by simp [hn]
      have hnb2 : ((numErr xs) == 0) = false := by simp [hn]
      clear hn
      go_enter Try.func31, Try.ntmps31
      go_wp2_with (first | (go_at_call 47; refine (err_any H.out).mono ?_; rintro e w' ⟨rfl, rfl⟩) | (go_at_call 48; refine (numberError_any rfl HS.out).mono ?_; rintro e w' ⟨rfl, rfl⟩) | (go_at_call 49; refine (fail_any (numErr xs) 0 H.out).mono ?_; rintro e w' ⟨rfl, hr, hm⟩; have HR := Lib.hid hr; clear hr))
      go_ret
      exact ⟨rfl, HR.out, hm⟩
  · have hb2 : (err != 0) = true := by simp [he]
    have hb3 : (err == 0) = false := by simp [he]
    have e : readUint err xs = (err, xs, 0) := by unfold readUint; rw [if_pos he]
    rw [e]
    go_enter Try.func31, Try.ntmps31
    go_wp2_with (first | (go_at_call 47; refine (err_any H.out).mono ?_; rintro e w' ⟨rfl, rfl⟩))
    go_ret
    exact ⟨rfl, H.out, Mods.refl _ _⟩

theorem uint_nil (w : World) : Calls Try.prog 31 #[.pointer none] w fun e w' => e = .returned (.int .u64 0) ∧ w = w' := by
  go_enter Try.func31, Try.ntmps31
  go_wp2_with (first | (go_at_call 47; refine (err_nil _).mono ?_; rintro e w' ⟨rfl, rfl⟩))
  go_ret
  exact ⟨rfl, rfl⟩
theorem raw_nil (w : World) (n : Int) : Calls Try.prog 58 #[.pointer none, .int .i64 n] w fun e w' => e = .returned (.slice none 0 0) ∧ w = w' := by
  go_enter Try.func58, Try.ntmps58
  go_wp2_with (first | (go_at_call 47; refine (err_nil _).mono ?_; rintro e w' ⟨rfl, rfl⟩))
  go_ret
  exact ⟨rfl, rfl⟩

def readBytes (err : Int) (xs : List UInt8) (most : Int) : Int × List UInt8 × List UInt8 :=
  if (readUint err xs).1 ≠ 0 then ((readUint err xs).1, (readUint err xs).2.1, [])
  else if most < 0 ∨ most < ((readUint err xs).2.2 : Int) then (13, [], [])
  else readRaw 0 (readUint err xs).2.1 ((readUint err xs).2.2 : Int)
end Go.Proofs.Ythkejoabppocoaa
end

section
/- Package nums: the reader's rows of bytes, and a new reader. -/
namespace Go.Proofs.Ythkejoabppocoaa
set_option maxRecDepth 100000
open Go.RowKit

theorem IsReader.lt {w : World} {g : Nat} {k : Option Nat} {err : Int} {xs : List UInt8} (h : IsReader w g k err xs) : g < w.heap.size := by
  obtain ⟨_, _, _, hb, _, _⟩ := h
  exact hb.lt
theorem IsReader.alloc' {w : World} {g : Nat} {k : Option Nat} {err : Int} {xs : List UInt8} (h : IsReader w g k err xs) (o : Obj) : IsReader (w.alloc o) g k err xs :=
  h.mods (S := Nil) ((Mods.refl _ _).alloc o) (fun h => h) (fun _ _ h => h)
theorem valOf_lt64 (xs : List UInt8) (err : Int) : (readUint err xs).2.2 < 18446744073709551616 := by
  unfold readUint
  split
  · show (0 : Nat) < 18446744073709551616; omega
  · split
    · show (0 : Nat) < 18446744073709551616; omega
    · rename_i h1 h2
      obtain ⟨c, r, rfl, h8, hs⟩ := numErr_zero_inv (Classical.not_not.1 h2)
      simp only [List.headD_cons, List.drop_succ_cons, List.drop_zero]
      have h3 := valOf_lt (r.take c.toNat).length (r.take c.toNat) rfl
      have h2 : 256 ^ (r.take c.toNat).length ≤ 256 ^ 8 := Nat.pow_le_pow_right (by omega) (by simp; omega)
      have h4 : (256 : Nat) ^ 8 = 18446744073709551616 := rfl
      omega
theorem readUint_le (xs : List UInt8) (err : Int) : (readUint err xs).2.1.length ≤ xs.length := by
  unfold readUint
  split
  · exact Nat.le_refl _
  · split <;> simp

theorem bytes_any {w : World} {g : Nat} {k : Option Nat} {err : Int} {xs : List UInt8} (most : Int) (hmost : most ≤ 9223372036854775807) (hlim : xs.length ≤ 140737488355328) (h : IsReader w g k err xs) :
    Calls Try.prog 50 #[.pointer (some ⟨g, 0, none⟩), .int .i64 most] w (Told w g k (readBytes err xs most)) := by
  have hq := valOf_lt64 xs err
  have hql := readUint_le xs err
  have hU := uint_any hlim h
  unfold readBytes
  generalize readUint err xs = R at hq hql hU
  obtain ⟨e1, ys, q⟩ := R
  simp only at hq hql hU ⊢
  have HU := Lib.hid hU
  clear hU h
  by_cases he : e1 = 0
  · subst he
    rw [if_neg (by simp)]
    by_cases hm : most < 0
    · rw [if_pos (.inl hm)]
      have hm' : decide (most < 0) = true := by simpa using hm
      go_enter Try.func50, Try.ntmps50
      go_wp2_with (first | (go_at_call 31; refine (HU.out).mono ?_; rintro e w' ⟨rfl, hr, hmo⟩; have HR := Lib.hid hr; have HM := Lib.hid hmo; clear hr hmo) | (go_at_call 47; refine (err_any HR.out).mono ?_; rintro e w' ⟨rfl, rfl⟩) | (go_at_call 49; refine (fail_any 13 0 HR.out).mono ?_; rintro e w' ⟨rfl, hr2, hm2⟩; have HR2 := Lib.hid hr2; have HM2 := Lib.hid hm2; clear hr2 hm2))
      go_ret
      exact ⟨none, 0, rfl, Sl.none_ _, .inl rfl, HR2.out, HM.out.trans HM2.out⟩
    · have hm' : decide (most < 0) = false := by simpa using hm
      have hw : IntKind.u64.wrap most = most := by rw [IntKind.wrap_u64]; omega
      by_cases hb : most < (q : Int)
      · rw [if_pos (.inr hb)]
        go_enter Try.func50, Try.ntmps50
        go_wp2_with (first | (go_at_call 31; refine (HU.out).mono ?_; rintro e w' ⟨rfl, hr, hmo⟩; have HR := Lib.hid hr; have HM := Lib.hid hmo; clear hr hmo) | (go_at_call 47; refine (err_any HR.out).mono ?_; rintro e w' ⟨rfl, rfl⟩) | (go_at_call 49; refine (fail_any 13 0 HR.out).mono ?_; rintro e w' ⟨rfl, hr2, hm2⟩; have HR2 := Lib.hid hr2; have HM2 := Lib.hid hm2; clear hr2 hm2))
        go_ret
        exact ⟨none, 0, rfl, Sl.none_ _, .inl rfl, HR2.out, HM.out.trans HM2.out⟩
      · rw [if_neg (fun h => h.elim hm hb)]
        have hq2 : (q : Int) ≤ 9223372036854775807 := by omega
        go_enter Try.func50, Try.ntmps50
        go_wp2_with (first | (go_at_call 31; refine (HU.out).mono ?_; rintro e w' ⟨rfl, hr, hmo⟩; have HR := Lib.hid hr; have HM := Lib.hid hmo; clear hr hmo) | (go_at_call 47; refine (err_any HR.out).mono ?_; rintro e w' ⟨rfl, rfl⟩) | (go_at_call 58; refine (raw_any (q : Int) (by omega) HR.out).mono ?_; rintro e w' ⟨A2, c2, rfl, h1, h2, h3, h4⟩; have H1 := Lib.hid h1; have H2 := Lib.hid h2; have H3 := Lib.hid h3; have H4 := Lib.hid h4; clear h1 h2 h3 h4))
        go_ret
        exact ⟨A2, c2, rfl, H1.out, (H2.out.elim .inl (fun h => .inr fun a ha => Nat.le_trans HM.out.size (h a ha))), H3.out, HM.out.trans H4.out⟩
  · rw [if_pos he]
    have hb2 : (e1 != 0) = true := by simp [he]
    have hb3 : (e1 == 0) = false := by simp [he]
    go_enter Try.func50, Try.ntmps50
    go_wp2_with (first | (go_at_call 31; refine (HU.out).mono ?_; rintro e w' ⟨rfl, hr, hmo⟩; have HR := Lib.hid hr; have HM := Lib.hid hmo; clear hr hmo) | (go_at_call 47; refine (err_any HR.out).mono ?_; rintro e w' ⟨rfl, rfl⟩))
    go_ret
    exact ⟨none, 0, rfl, Sl.none_ _, .inl rfl, HR.out, HM.out⟩

theorem bytes_nil (w : World) (n : Int) : Calls Try.prog 50 #[.pointer none, .int .i64 n] w fun e w' => e = .returned (.slice none 0 0) ∧ w = w' := by
  go_enter Try.func50, Try.ntmps50
  go_wp2_with (first | (go_at_call 31; refine (uint_nil _).mono ?_; rintro e w' ⟨rfl, rfl⟩) | (go_at_call 47; refine (err_nil _).mono ?_; rintro e w' ⟨rfl, rfl⟩))
  go_ret
  exact ⟨rfl, rfl⟩

theorem newReader_any {w : World} {A : Option Addr} {c n : Nat} {xs : List UInt8} (hn : xs.length = n) (hlim : xs.length ≤ 140737488355328) (h : Sl w A c (bts xs)) :
    Calls Try.prog 30 #[.slice A n c] w fun e w' => ∃ g k, e = .returned (.pointer (some ⟨g, 0, none⟩)) ∧ IsReader w' g k 0 xs ∧ w.heap.size ≤ g ∧ (∀ q, k = some q → w.heap.size ≤ q ∧ q < w'.heap.size) ∧ Mods Nil w w' := by
  subst hn
  obtain ⟨i0, hi, hz0, hz1, hz2⟩ := info_parts infoByte
  have HS := Lib.hid h
  clear h
  go_enter Try.func30, Try.ntmps30
  go_wp2_with (first | (at_builtin; refine wpList_append_sl _ rfl _ _ 30 rfl w.heap.size 5 i0 (.int .u8 0) 1 Try.underlying30 hi hz0 hz1 hz2 rfl (.slice none 0 0) 0 [] rfl (World.ownsRow_nil w _ _ _) A xs.length c (bts xs) rfl (by simp) HS.out (bts_one _) (by omega) (by unfold maxLen; omega) (Nat.le_refl _) ?_; intro v' w1 hown hgrow hblk; obtain ⟨A1, c1, rfl, e1, hs1, ha1⟩ := own_slice hown; have HLT : Hid (∀ a, A1 = some a → a.block < w1.heap.size) := fun a ha => (hown.lt _ (ha1 a ha).1).2; have HS1 := Lib.hid hs1; have HA1 := Lib.hid ha1; have HG := Lib.hid hgrow; clear hown hs1 ha1 hgrow hblk))
  go_ret
  simp only [List.nil_append, Nat.zero_add] at HS1 HA1
  have hs1 := HS1.out
  have hg := HG.out
  have hblk : ∀ a, A1 = some a → w.heap.size ≤ a.block ∧ a.block < w1.heap.size := fun a ha => by
    have := (HA1.out a ha).2
    exact ⟨this, HLT.out a ha⟩
  refine ⟨w1.heap.size, A1.map (·.block), rfl, ⟨?_, A1, c1, Blk.new _ _ _, hs1.alloc _, fun a ha => by subst ha; rfl⟩, hg.size, ?_, ?_⟩
  · intro h
    cases A1 with
    | none => simp at h
    | some a => simp at h; have := (hblk a rfl).2; omega
  · intro q hq
    cases A1 with
    | none => simp at hq
    | some a => simp at hq; subst hq; have := hblk a rfl; simp; omega
  · exact ((Mods.refl Nil w).grown hg (fun k hk => by simp [Value.ownBlock] at hk)).alloc _
end Go.Proofs.Ythkejoabppocoaa
end

section
/- Package nums: the writer's width. -/
namespace Go.Proofs.Ythkejoabppocoaa
set_option maxRecDepth 100000
open Go.RowKit

def digs (x : Nat) : List UInt8 := if x = 0 then [] else digs (x / 256) ++ [UInt8.ofNat (x % 256)]
termination_by x
decreasing_by omega
theorem digs_zero : digs 0 = [] := by rw [digs, if_pos rfl]
theorem digs_pos {x : Nat} (h : x ≠ 0) : digs x = digs (x / 256) ++ [UInt8.ofNat (x % 256)] := by rw [digs, if_neg h]
theorem digs_len : ∀ (k x : Nat), x < 256 ^ k → (k ≠ 0 → 256 ^ (k - 1) ≤ x) → (digs x).length = k := by
  intro k
  induction k with
  | zero => intro x h _; obtain rfl : x = 0 := by simpa using h
            rw [digs_zero]; rfl
  | succ k ih =>
    intro x h h2
    have h3 := h2 (by omega)
    simp only [Nat.add_sub_cancel] at h3
    have hp : 0 < 256 ^ k := Nat.pow_pos (by omega)
    rw [digs_pos (by omega), List.length_append, ih (x / 256)]
    · rfl
    · rw [Nat.pow_succ] at h; omega
    · intro hk
      obtain ⟨m, rfl⟩ : ∃ m, k = m + 1 := ⟨k - 1, by omega⟩
      rw [Nat.pow_succ] at h3
      simp only [Nat.add_sub_cancel]
      omega
/-- The first j digits. -/
theorem digs_get : ∀ (k x : Nat), x < 256 ^ k → (k ≠ 0 → 256 ^ (k - 1) ≤ x) → ∀ j (hj : j < (digs x).length), (digs x)[j] = UInt8.ofNat (x / 256 ^ (k - 1 - j) % 256) := by
  intro k
  induction k with
  | zero => intro x h _ j hj; obtain rfl : x = 0 := by simpa using h
            rw [digs_zero] at hj; simp at hj
  | succ k ih =>
    intro x h h2 j hj
    have h3 := h2 (by omega)
    have hlen := digs_len (k + 1) x h h2
    simp only [Nat.add_sub_cancel] at h3 ⊢
    have hp : 0 < 256 ^ k := Nat.pow_pos (by omega)
    have hx : x ≠ 0 := by omega
    have e := digs_pos hx
    have g1 : x / 256 < 256 ^ k := by rw [Nat.pow_succ] at h; omega
    have g2 : k ≠ 0 → 256 ^ (k - 1) ≤ x / 256 := by
      intro hk
      obtain ⟨m, rfl⟩ : ∃ m, k = m + 1 := ⟨k - 1, by omega⟩
      rw [Nat.pow_succ] at h3
      simp only [Nat.add_sub_cancel]
      omega
    have hl2 := digs_len k (x / 256) g1 g2
    simp only [e]
    by_cases hjk : j < k
    · rw [List.getElem_append_left (by omega), ih (x / 256) g1 g2 j (by omega)]
      congr 2
      rw [Nat.div_div_eq_div_mul]
      congr 1
      rw [← Nat.pow_succ']
      congr 1
      omega
    · have : j = k := by omega
      subst this
      rw [List.getElem_append_right (by omega)]
      simp [hl2]

theorem width_any (x : Nat) (hx : x < 18446744073709551616) (w : World) :
    Calls Try.prog 52 #[.int .u64 x] w fun e w' => e = .returned (.int .i64 ((digs x).length : Nat)) ∧ w = w' := by
  go_enter Try.func52, Try.ntmps52
  go_wp2
  go_step3
  go_wp2
  go_step3
  go_wp2
  go_loop [3, 4] (fun n s => ∃ (k : Nat) (q : Int), k ≤ 8 ∧ x < 256 ^ k ∧ q = 8 * (k : Int) - 8 ∧ n = .int .i64 k ∧ s = .int .i64 q) (fun n _ => (intOf n).toNat)
  case atStart => exact ⟨8, 56, by omega, by have : (256 : Nat) ^ 8 = 18446744073709551616 := rfl; omega, by omega, rfl, rfl⟩
  case round =>
    obtain ⟨k, q, hk, hxk, hq, rfl, rfl⟩ := hrel
    by_cases h0 : k = 0
    · subst h0
      obtain rfl : q = -8 := by omega
      have hx0 : x = 0 := by simpa using hxk
      have hfin : (digs x).length = 0 := by rw [hx0, digs_zero]; rfl
      have HF := Lib.hid hfin
      clear hx hxk hx0 hfin hq
      go_wp2
      go_ret
      exact ⟨by rw [HF.out]; rfl, rfl⟩
    · obtain ⟨m, rfl⟩ : ∃ m, k = m + 1 := ⟨k - 1, by omega⟩
      obtain rfl : q = ((8 * m : Nat) : Int) := by omega
      clear hq h0
      have hs0 : (0 : Int) ≤ ((8 * m : Nat) : Int) := by omega
      have hs1 : ((8 * m : Nat) : Int) < 64 := by omega
      have key : ((x : Int) / 2 ^ (8 * m) % 256) = ((x / 256 ^ m : Nat) : Int) := by
        have e1 : (2 : Int) ^ (8 * m) = ((256 ^ m : Nat) : Int) := by rw [Int.pow_mul]; simp
        have e2 : x / 256 ^ m < 256 := by rw [Nat.pow_succ] at hxk; exact Nat.div_lt_of_lt_mul hxk
        rw [e1, ← Int.natCast_ediv]
        generalize x / 256 ^ m = z at e2
        omega
      have hp : 0 < 256 ^ m := Nat.pow_pos (by omega)
      by_cases hb : x < 256 ^ m
      · have h1 : ((x : Int) / 2 ^ (8 * m) % 256 == 0) = true := by rw [key, Nat.div_eq_of_lt hb]; rfl
        clear key hx hp
        go_wp2
        exact ⟨⟨m, 8 * (m : Int) - 8, by omega, hb, rfl, rfl, rfl⟩, by simp [intOf]⟩
      · have h1 : ((x : Int) / 2 ^ (8 * m) % 256 == 0) = false := by
          rw [key, beq_eq_false_iff_ne]
          have := Nat.div_pos (Nat.le_of_not_lt hb) hp
          omega
        have hfin := digs_len (m + 1) x hxk (fun _ => by simpa using Nat.le_of_not_lt hb)
        have HF := Lib.hid hfin
        clear key hx hp hfin
        go_wp2
        go_ret
        exact ⟨by rw [HF.out]; rfl, rfl⟩
end Go.Proofs.Ythkejoabppocoaa
end

section
/- Package nums: the writer. -/
namespace Go.Proofs.Ythkejoabppocoaa
set_option maxRecDepth 100000
open Go.RowKit

/-- A writer in block g, what it has put in the row v of the call's own. -/
structure IsWriter (w : World) (base g : Nat) (v : Value) (out : List UInt8) : Prop where
  blk : Blk w g 106 #[v]
  own : w.ownsRow base 5 1 v out.length (bts out)
  le : base ≤ g

/-- What a writer's call may change: its own block, and its row, which may move to a new block. -/
structure Wrote (w w' : World) (g : Nat) (v v' : Value) : Prop where
  mods : Mods (fun k => k = g ∨ v.ownBlock = some k) w w'
  moved : ∀ k, v'.ownBlock = some k → v.ownBlock = some k ∨ w.heap.size ≤ k

theorem Wrote.refl (w : World) (g : Nat) (v : Value) : Wrote w w g v v := ⟨Mods.refl _ _, fun _ h => .inl h⟩
theorem Wrote.trans {w w1 w2 : World} {g : Nat} {v v1 v2 : Value} (h : Wrote w w1 g v v1) (k : Wrote w1 w2 g v1 v2) : Wrote w w2 g v v2 := by
  refine ⟨h.mods.trans2 k.mods (fun i hi hs => ?_), fun q hq => ?_⟩
  · rcases hs with hs | hs
    · exact .inl hs
    · rcases h.moved i hs with h1 | h1
      · exact .inr h1
      · omega
  · rcases k.moved q hq with h1 | h1
    · exact h.moved q h1
    · exact .inr (Nat.le_trans h.mods.size h1)
theorem Wrote.below {w w' : World} {g B base : Nat} {v v' : Value} {out : List UInt8} (h : Wrote w w' g v v') (hw : IsWriter w base g v out) (hB : B ≤ base) : Below B w w' :=
  h.mods.below (fun k hk => by
    rcases hk with rfl | hk
    · exact Nat.le_trans hB hw.le
    · exact Nat.le_trans hB (hw.own.lt k hk).1) (by have := hw.blk.lt; have := hw.le; omega)
theorem IsWriter.mods {S : Nat → Prop} {w w' : World} {base g : Nat} {v : Value} {out : List UInt8} (h : IsWriter w base g v out) (hm : Mods S w w') (hg : ¬ S g) (hv : ∀ k, v.ownBlock = some k → ¬ S k) : IsWriter w' base g v out :=
  ⟨h.blk.mods hm hg, own_mods h.own hm hv, h.le⟩

theorem IsWriter.apart {w w' : World} {base g : Nat} {v : Value} {out : List UInt8} {A : Option Addr} {c : Nat} {xs : List Value} (hw : IsWriter w' base g v out) (hb : w.heap.size ≤ base) (h : Sl w A c xs) : xs ≠ [] → ∀ a, A = some a → a.block ≠ g ∧ v.ownBlock ≠ some a.block := by
  intro hx a ha
  have h1 := h.old hx a ha
  have h2 := hw.le
  exact ⟨by omega, fun h3 => by have := (hw.own.lt _ h3).1; omega⟩
theorem writer_store {w w1 : World} {base g : Nat} {v v' : Value} {out ys : List UInt8} (h : IsWriter w base g v out) {n : Nat} (hn : n = (out ++ ys).length)
    (hown : w1.ownsRow base 5 1 v' n (bts out ++ bts ys)) (hg : w.grownBy w1 v.ownBlock) (hmv : ∀ k, v'.ownBlock = some k → v.ownBlock = some k ∨ w.heap.size ≤ k) :
    IsWriter (w1.setCell ⟨g, 0, none⟩ v') base g v' (out ++ ys) ∧ Wrote w (w1.setCell ⟨g, 0, none⟩ v') g v v' := by
  subst hn
  have hne := own_blk_ne h.own h.blk (by decide)
  have hb1 : Blk w1 g _ _ := h.blk.grown hg (fun e => hne e.symm)
  have hne1 := own_blk_ne hown hb1 (by decide)
  have hb2 := hb1.set_ 0 v'
  refine ⟨⟨by simpa using hb2, ?_, h.le⟩, ?_, hmv⟩
  · rw [bts_append]
    exact own_mods hown ((Mods.refl (· = g) _).setCell (fun _ => rfl) _) (fun k hk e => hne1 (by rw [hk, e]))
  · exact Mods.setCell (S := fun k => k = g ∨ v.ownBlock = some k) ((Mods.refl _ _).grown hg (fun k hk _ => .inr hk)) (fun _ => .inl rfl) _

theorem newWriter_any (w : World) :
    Calls Try.prog 37 #[] w fun e w' => e = .returned (.pointer (some ⟨w.heap.size, 0, none⟩)) ∧ IsWriter w' w.heap.size w.heap.size (.slice none 0 0) [] ∧ Mods Nil w w' := by
  go_enter Try.func37, Try.ntmps37
  go_wp2
  go_ret
  exact ⟨rfl, ⟨Blk.new _ _ _, World.ownsRow_nil _ _ _ _, Nat.le_refl _⟩, (Mods.refl _ _).alloc _⟩

theorem wraw_any {w : World} {base g : Nat} {v : Value} {out ys : List UInt8} {A : Option Addr} {c n : Nat} (hn : ys.length = n) (hlim : out.length + ys.length ≤ 140737488355328) (h : IsWriter w base g v out) (hs : Sl w A c (bts ys)) :
    Calls Try.prog 53 #[.pointer (some ⟨g, 0, none⟩), .slice A n c] w fun e w' => e = .returned (.tuple #[]) ∧ ∃ v', IsWriter w' base g v' (out ++ ys) ∧ Wrote w w' g v v' := by
  subst hn
  obtain ⟨i0, hi, hz0, hz1, hz2⟩ := info_parts infoByte
  have hc := h.blk.cell 0
  have hf := h.blk.frozen 0
  simp at hc
  have hbase : base ≤ w.heap.size := by have := h.blk.lt; have := h.le; omega
  have hne := own_blk_ne h.own h.blk (by decide)
  have hnb : ∀ w1, w.grownBy w1 v.ownBlock → w1.cell? ⟨g, 0, none⟩ = some v ∧ w1.frozen? ⟨g, 0, none⟩ = false := fun w1 hg => by
    have hb1 : Blk w1 g _ _ := h.blk.grown hg (fun e => hne e.symm)
    exact ⟨by simpa using hb1.cell 0, hb1.frozen 0⟩
  have HN := Lib.hid hnb
  have HO := Lib.hid h.own
  have HS := Lib.hid hs
  have H := Lib.hid h
  clear hs h hnb hne
  go_enter Try.func53, Try.ntmps53
  go_wp2_with (first | (at_builtin; refine wpList_append_sl _ rfl _ _ 30 rfl base 5 i0 (.int .u8 0) 1 Try.underlying30 hi hz0 hz1 hz2 rfl v out.length (bts out) rfl HO.out A ys.length c (bts ys) rfl (by simp) HS.out (bts_one _) (by omega) (by unfold maxLen; omega) hbase ?_; intro v' w1 hown hgrow hblk; have hx := HN.out w1 hgrow; obtain ⟨hx1, hx2⟩ := hx; obtain ⟨A1, c1, rfl, e1, hs1, ha1⟩ := own_slice hown; have HST := Lib.hid (writer_store H.out (by simp) hown hgrow hblk); clear hown hgrow hblk hs1 ha1 e1))
  go_end0
  exact ⟨rfl, _, HST.out⟩

theorem wraw_nil (w : World) (A : Option Addr) (n c : Nat) : Calls Try.prog 53 #[.pointer none, .slice A n c] w fun e w' => e = .returned (.tuple #[]) ∧ w = w' := by
  go_enter Try.func53, Try.ntmps53
  go_wp2
  refine bodyPost_ret (results_none rfl _ _ _) rfl ?_
  exact ⟨rfl, rfl⟩

theorem out_any {w : World} {base g : Nat} {v : Value} {out : List UInt8} {n : Nat} (hn : out.length = n) (hlim : out.length ≤ 140737488355328) (h : IsWriter w base g v out) :
    Calls Try.prog 40 #[.pointer (some ⟨g, 0, none⟩)] w fun e w' => ∃ A c, e = .returned (.slice A n c) ∧ Sl w' A c (bts out) ∧ (∀ a, A = some a → w.heap.size ≤ a.block ∧ a.block < w'.heap.size) ∧ Mods Nil w w' := by
  subst hn
  obtain ⟨i0, hi, hz0, hz1, hz2⟩ := info_parts infoByte
  have hc := h.blk.cell 0
  have hf := h.blk.frozen 0
  simp at hc
  obtain ⟨A0, c0, rfl, e1, hs, ha⟩ := own_slice h.own
  have HS := Lib.hid hs
  clear hs h ha e1
  go_enter Try.func40, Try.ntmps40
  go_wp2_with (first | (at_builtin; refine wpList_append_sl _ rfl _ _ 30 rfl w.heap.size 5 i0 (.int .u8 0) 1 Try.underlying30 hi hz0 hz1 hz2 rfl (.slice none 0 0) 0 [] rfl (World.ownsRow_nil w _ _ _) A0 out.length c0 (bts out) rfl (by simp) HS.out (bts_one _) (by omega) (by unfold maxLen; omega) (Nat.le_refl _) ?_; intro v' w1 hown hgrow hblk; simp only [Nat.zero_add, List.nil_append] at hown; obtain ⟨A1, c1, rfl, e1, hs1, ha1⟩ := own_slice hown; have HLT : Hid (∀ a, A1 = some a → w.heap.size ≤ a.block ∧ a.block < w1.heap.size) := fun a ha => ⟨(ha1 a ha).2, (hown.lt _ (ha1 a ha).1).2⟩; have HS1 := Lib.hid hs1; have HG := Lib.hid hgrow; clear hown hs1 ha1 hgrow hblk e1))
  go_ret
  exact ⟨A1, c1, by simp, HS1.out, HLT.out, (Mods.refl _ _).grown HG.out (fun k hk => by simp [Value.ownBlock] at hk)⟩

theorem out_nil (w : World) : Calls Try.prog 40 #[.pointer none] w fun e w' => e = .returned (.slice none 0 0) ∧ w = w' := by
  go_enter Try.func40, Try.ntmps40
  go_wp2
  go_ret
  exact ⟨rfl, rfl⟩

def putU (x : Nat) : List UInt8 := UInt8.ofNat (digs x).length :: digs x

theorem wuint_nil (w : World) (x : Int) : Calls Try.prog 38 #[.pointer none, .int .u64 x] w fun e w' => e = .returned (.tuple #[]) ∧ w = w' := by
  go_enter Try.func38, Try.ntmps38
  go_wp2
  refine bodyPost_ret (results_none rfl _ _ _) rfl ?_
  exact ⟨rfl, rfl⟩

theorem IsWriter.alloc {w : World} {base g : Nat} {v : Value} {out : List UInt8} (h : IsWriter w base g v out) (o : Obj) : IsWriter (w.alloc o) base g v out :=
  h.mods (S := Nil) ((Mods.refl _ _).alloc o) (fun h => h) (fun _ _ h => h)

theorem writer_one {w w1 : World} {base g : Nat} {v v' : Value} {out : List UInt8} (o : Obj) (y : UInt8) (z : Int) (hz : z = (y.toNat : Int)) (h : IsWriter w base g v out) {n : Nat} (hn : n = out.length + 1)
    (hown : w1.ownsRow base 5 1 v' n (bts out ++ [.int .u8 z])) (hg : (w.alloc o).grownBy w1 v.ownBlock) (hmv : ∀ k, v'.ownBlock = some k → v.ownBlock = some k ∨ (w.alloc o).heap.size ≤ k) :
    IsWriter (w1.setCell ⟨g, 0, none⟩ v') base g v' (out ++ [y]) ∧ Wrote w (w1.setCell ⟨g, 0, none⟩ v') g v v' := by
  subst hz
  obtain ⟨h1, h2⟩ := writer_store (ys := [y]) (h.alloc o) (n := n) (by simp [hn]) hown hg hmv
  refine ⟨h1, Wrote.trans (v1 := v) ⟨(Mods.refl _ _).alloc o, fun _ hk => .inl hk⟩ h2⟩

theorem pow_place : ∀ (k x : Nat), x < 256 ^ k → ∃ j, j ≤ k ∧ x < 256 ^ j ∧ (j ≠ 0 → 256 ^ (j - 1) ≤ x) := by
  intro k
  induction k with
  | zero => intro x h; exact ⟨0, Nat.le_refl _, h, fun h => absurd rfl h⟩
  | succ k ih =>
    intro x h
    by_cases hx : x < 256 ^ k
    · obtain ⟨j, h1, h2, h3⟩ := ih x hx
      exact ⟨j, by omega, h2, h3⟩
    · exact ⟨k + 1, Nat.le_refl _, h, fun _ => by simpa using Nat.le_of_not_lt hx⟩
theorem own_cell {w : World} {g : Nat} {t : TypeId} {v : Value} (h : Blk w g t #[v]) : w.cell? ⟨g, 0, none⟩ = some v := by simpa using h.cell 0
theorem one_oneCell (z : Int) (k : IntKind) : ∀ u ∈ [Value.int k z], u.oneCell' = true := by
  intro u hu
  simp at hu
  subst hu
  rfl

set_option maxHeartbeats 400000 in
theorem wuint_any {w : World} {base g : Nat} {v : Value} {out : List UInt8} (x : Nat) (hx : x < 18446744073709551616) (hlim : out.length + 9 ≤ 140737488355328) (h : IsWriter w base g v out) :
    Calls Try.prog 38 #[.pointer (some ⟨g, 0, none⟩), .int .u64 x] w fun e w' => e = .returned (.tuple #[]) ∧ ∃ v', IsWriter w' base g v' (out ++ putU x) ∧ Wrote w w' g v v' := by
  obtain ⟨i0, hi, hz0, hz1, hz2⟩ := info_parts infoByte
  have hlen := pow_place 8 x (by have : (256 : Nat) ^ 8 = 18446744073709551616 := rfl; omega)
  obtain ⟨n, hn8, hn1, hn2⟩ := hlen
  have hln := digs_len n x hn1 hn2
  have hW := fun w => width_any x hx w
  rw [hln] at hW
  have HW := Lib.hid hW
  have HD := Lib.hid (digs_get n x hn1 hn2)
  have HL := Lib.hid hln
  have hbase : base ≤ w.heap.size := by have := h.blk.lt; have := h.le; omega
  have hgs : g < w.heap.size := h.blk.lt
  have hc := h.blk.cell 0
  have hf := h.blk.frozen 0
  simp at hc
  obtain ⟨A0, c0, hv0, e0, hs0, ha0⟩ := own_slice h.own
  subst hv0
  have hca : ∀ o, (w.alloc o).cell? ⟨g, 0, none⟩ = some (.slice A0 out.length c0) := fun o => by simpa using (h.alloc o).blk.cell 0
  have hne := own_blk_ne h.own h.blk (by decide)
  have hnb : ∀ o w1, (w.alloc o).grownBy w1 (Value.slice A0 out.length c0).ownBlock → w1.cell? ⟨g, 0, none⟩ = some (.slice A0 out.length c0) ∧ w1.frozen? ⟨g, 0, none⟩ = false := fun o w1 hg => by
    have hb1 : Blk w1 g _ _ := (h.alloc o).blk.grown hg (fun e => hne e.symm)
    exact ⟨by simpa using hb1.cell 0, hb1.frozen 0⟩
  have HN := Lib.hid hnb
  have HO := Lib.hid h.own
  have H := Lib.hid h
  clear h hnb hne hW hs0 ha0 e0 hca hln hn1 hn2 hx
  have hnI : (n : Int) ≤ 8 := by omega
  have hn0 : (0 : Int) ≤ (n : Int) := by omega
  go_enter Try.func38, Try.ntmps38
  go_wp2_with (first | (go_at_call 52; refine (HW.out _).mono ?_; rintro e w' ⟨rfl, rfl⟩) | (at_builtin; refine wpList_append_sl _ rfl (.tmp 14) (.tmp 17) 30 rfl base 5 i0 (.int .u8 0) 1 Try.underlying30 hi hz0 hz1 hz2 rfl (.slice A0 out.length c0) out.length (bts out) rfl (HO.out.alloc _) (some ⟨w.heap.size, 0, none⟩) 1 1 [.int .u8 (n : Int)] rfl rfl (one_sl _ _ _) (one_oneCell _ _) (by omega) (by unfold maxLen; omega) (by simp; omega) ?_; intro v' w1 hown hgrow hblk; obtain ⟨A1, c1, rfl, e1, hs1, ha1⟩ := own_slice hown; obtain ⟨hx1, hx2⟩ := HN.out _ w1 hgrow; have HST := Lib.hid (writer_one _ (UInt8.ofNat n) (n : Int) (ofNat_toNat n (by omega)).symm H.out rfl hown hgrow hblk); clear hown hgrow hblk hs1 ha1 e1))
  go_loopw [5] (fun s wr => ∃ (m : Nat) (q : Int) (v1 : Value), m ≤ n ∧ q = 8 * (m : Int) - 8 ∧ s = .int .i64 q ∧ IsWriter wr base g v1 (out ++ (UInt8.ofNat n :: (digs x).take (n - m))) ∧ Wrote w wr g (.slice A0 out.length c0) v1) (fun s _ => (intOf s + 8).toNat)
  case atStart => exact ⟨n, _, _, Nat.le_refl _, by omega, rfl, by simpa using HST.out.1, HST.out.2⟩
  case round =>
    obtain ⟨m, q, v1, hm, hq, rfl, hw1, hwr⟩ := hrel
    clear hc hf hx1 hx2 hgs
    by_cases h0 : m = 0
    · subst h0
      obtain rfl : q = -8 := by omega
      have hfin : UInt8.ofNat n :: (digs x).take (n - 0) = putU x := by
        unfold putU
        rw [HL.out, List.take_of_length_le (by rw [HL.out]; omega)]
      rw [hfin] at hw1
      have HW1 := Lib.hid hw1
      have HWR := Lib.hid hwr
      clear hw1 hwr hfin hq
      go_wp2
      refine bodyPost_end (results_none rfl _ _ _) rfl ?_
      exact ⟨rfl, _, HW1.out, HWR.out⟩
    · obtain ⟨p, rfl⟩ : ∃ p, m = p + 1 := ⟨m - 1, by omega⟩
      obtain rfl : q = ((8 * p : Nat) : Int) := by omega
      clear hq h0
      have hs0 : (0 : Int) ≤ ((8 * p : Nat) : Int) := by omega
      have hs1 : ((8 * p : Nat) : Int) < 64 := by omega
      obtain ⟨Y, hY⟩ : ∃ Y, Y = out ++ UInt8.ofNat n :: (digs x).take (n - (p + 1)) := ⟨_, rfl⟩
      have hYl : Y.length ≤ out.length + 8 := by rw [hY]; simp; have := HL.out; omega
      rw [← hY] at hw1
      have HY := Lib.hid hY
      clear hY
      have hgs : g < wr.heap.size := hw1.blk.lt
      have hc := own_cell hw1.blk
      have hf := hw1.blk.frozen 0
      obtain ⟨A3, c3, hv0, e0, hs3, ha3⟩ := own_slice hw1.own
      subst hv0
      have hne := own_blk_ne hw1.own hw1.blk (by decide)
      have hnb : ∀ o w1, (wr.alloc o).grownBy w1 (Value.slice A3 Y.length c3).ownBlock → w1.cell? ⟨g, 0, none⟩ = some (.slice A3 Y.length c3) ∧ w1.frozen? ⟨g, 0, none⟩ = false := fun o w1 hg => by
        have hb1 : Blk w1 g _ _ := (hw1.alloc o).blk.grown hg (fun e => hne e.symm)
        exact ⟨by simpa using hb1.cell 0, hb1.frozen 0⟩
      have HN1 := Lib.hid hnb
      have HO1 := Lib.hid hw1.own
      have HW1 := Lib.hid hw1
      have HWR := Lib.hid hwr
      have hbase1 : base ≤ wr.heap.size := by have := hw1.le; omega
      clear hw1 hwr hnb hne hs3 ha3 e0
      have hYY : Y ++ [UInt8.ofNat (x / 256 ^ p % 256)] = out ++ UInt8.ofNat n :: (digs x).take (n - p) := by
        have hl := HL.out
        have e1 : n - p = n - (p + 1) + 1 := by omega
        have e2 : n - 1 - (n - (p + 1)) = p := by omega
        have hd := HD.out (n - (p + 1)) (by omega)
        rw [e2] at hd
        rw [HY.out, e1, take_snoc' (digs x) (n - (p + 1)) (by omega), hd]
        simp
      have HYY := Lib.hid hYY
      clear hYY
      have HZ := Lib.hid (byte_at x p)
      go_wp2
      go_region_law (refine step_append_sl _ rfl _ _ 30 rfl base 5 i0 (.int .u8 0) 1 Try.underlying30 hi hz0 hz1 hz2 rfl (.slice A3 Y.length c3) Y.length (bts Y) rfl (by exact (HO1.out.alloc _).drew) (some ⟨wr.heap.size, 0, none⟩) 1 1 [.int .u8 (IntKind.u8.wrap ((x : Int) / 2 ^ (8 * (p : Int)).toNat))] rfl rfl (by exact (one_sl wr _ _).drew) (one_oneCell _ _) (by omega) (by unfold maxLen; omega) (by simp; omega) ?_; intro v' w2 hown hgrow hblk; obtain ⟨A4, c4, rfl, e1, hs1, ha1⟩ := own_slice hown; obtain ⟨hx1, hx2⟩ := HN1.out _ w2 (grown_of_drew hgrow); have HST := Lib.hid (writer_one _ _ _ HZ.out HW1.out rfl hown (grown_of_drew hgrow) hblk); clear hown hgrow hblk hs1 ha1 e1)
      all_goals
        go_wp2
        exact ⟨⟨p, 8 * (p : Int) - 8, _, by omega, rfl, rfl, by rw [← HYY.out]; exact HST.out.1, HWR.out.trans HST.out.2⟩, by simp [intOf]; omega⟩

theorem putU_length (x : Nat) (hx : x < 18446744073709551616) : (putU x).length ≤ 9 := by
  obtain ⟨k, h1, h2, h3⟩ := pow_place 8 x (by have : (256 : Nat) ^ 8 = 18446744073709551616 := rfl; omega)
  have := digs_len k x h2 h3
  simp [putU]; omega

def putB (b : List UInt8) : List UInt8 := putU b.length ++ b

theorem wbytes_any {w : World} {base g : Nat} {v : Value} {out ys : List UInt8} {A : Option Addr} {c n : Nat} (hn : ys.length = n) (hlim : out.length + ys.length + 9 ≤ 140737488355328) (h : IsWriter w base g v out) (hs : Sl w A c (bts ys)) (hA : bts ys ≠ [] → ∀ a, A = some a → a.block ≠ g ∧ v.ownBlock ≠ some a.block) :
    Calls Try.prog 39 #[.pointer (some ⟨g, 0, none⟩), .slice A n c] w fun e w' => e = .returned (.tuple #[]) ∧ ∃ v', IsWriter w' base g v' (out ++ putB ys) ∧ Wrote w w' g v v' := by
  subst hn
  have hl9 := putU_length ys.length (by omega)
  have hw := wuint_any ys.length (by omega) (by omega) h
  have HW := Lib.hid hw
  have HS := Lib.hid hs
  have HA := Lib.hid hA
  have e1 : (out ++ putU ys.length).length + ys.length ≤ 140737488355328 := by simp; omega
  have HE := Lib.hid e1
  have e2 : out ++ putB ys = out ++ putU ys.length ++ ys := by simp [putB]
  rw [e2]
  clear hw hs hA h e1 e2 hl9
  have hl0 : (0 : Int) ≤ (ys.length : Int) := by omega
  have hwr : IntKind.u64.wrap (ys.length : Int) = (ys.length : Int) := by rw [IntKind.wrap_u64]; omega
  go_enter Try.func39, Try.ntmps39
  go_wp2_with (first | (go_at_call 38; refine (HW.out).mono ?_; rintro e w1 ⟨rfl, v1, h1, h2⟩; have H1 := Lib.hid h1; have H2 := Lib.hid h2; clear h1 h2) | (go_at_call 53; refine (wraw_any rfl HE.out H1.out (HS.out.mods' H2.out.mods (fun hx a ha hk => hk.elim (HA.out hx a ha).1 (HA.out hx a ha).2))).mono ?_; rintro e w2 ⟨rfl, v2, h3, h4⟩; have H3 := Lib.hid h3; have H4 := Lib.hid h4; clear h3 h4))
  refine bodyPost_end (results_none rfl _ _ _) rfl ?_
  exact ⟨rfl, v2, H3.out, H2.out.trans H4.out⟩
end Go.Proofs.Ythkejoabppocoaa
end
