/- The reference of layer 6: Read, Write. -/
import Derived.Test.YtahahnapnfalcaaRef06b
import Derived.Test.YtahahnapnfalcaaDisk3
import Derived.Test.YtahahnapnfalcaaMemX
namespace Go.Proofs.Ytahahnapnfalcaa
set_option maxRecDepth 100000
open Go.RowKit
set_option linter.unusedVariables false

theorem Sl2.at_ {w : World} {B : Option Addr} {k : Nat} {W : List (Nat × List UInt8)} (h : Sl2 w B k W) {p q : Nat} {b : List UInt8} (hp : W[p]? = some (q, b)) : ∃ bk off, B = some ⟨bk, off, none⟩ ∧ w.cell? ⟨bk, off + p * 2, none⟩ = some (.int .i64 (q : Int)) ∧ w.cell? ⟨bk, off + p * 2 + 1, none⟩ = some (.string (strOf b)) := by
  rcases h.has with rfl | ⟨bk, off, rfl, hc⟩
  · simp at hp
  · obtain ⟨h1, h2⟩ := vCs_at W p q b hp
    exact ⟨bk, off, rfl, hc _ _ h1, by have := hc _ _ h2; rwa [← Nat.add_assoc] at this⟩

set_option maxHeartbeats 3200000 in
theorem r6read_any (w : World) {A B : Option Addr} {n c m k : Nat} {left : Int} {down : Bool} {d : PD} (h : RdAt w A c B k d) (hn : d.L.length = n) (hm : d.W.length = m) (hd : d.down = down) (i : Int) :
    Calls Try.prog 34 #[.agg #[.slice A n c, .slice B m k, .int .i64 left, .bool down], .int .i64 i] w fun e w' => e = .returned (.tuple #[.string (strOf (d.read i).1), .int .i64 (d.read i).2]) ∧ Mods Nil w w' := by
  have M1 := Lib.hid ((Mods.refl Nil w).alloc (.cells #[.slice A n c, .slice B m k, .int .i64 left, .bool down] 31))
  have hb := Blk.new w 31 #[.slice A n c, .slice B m k, .int .i64 left, .bool down]
  have HA := Lib.hid (rat_any (w.alloc (.cells #[.slice A n c, .slice B m k, .int .i64 left, .bool down] 31)) (A := A) (B := B) (c := c) (m := m) (k := k) (left := left) hn hd i)
  have HB := Lib.hid hb
  clear hb
  by_cases ha : d.at_ i = 0
  · obtain ⟨-, h0, h1⟩ := PD.at_zero ha
    obtain ⟨q, rfl⟩ : ∃ q : Nat, i = (q : Int) := ⟨i.toNat, by omega⟩
    have hq : q < n := by omega
    have hqI : (q : Int) < (n : Int) := by omega
    have e : d.read (q : Int) = (d.lat q, 0) := by unfold PD.read PD.lat; rw [if_neg (by simp [ha])]; rfl
    rw [ha] at HA
    rw [e]
    have H := Lib.hid h
    have HN := Lib.hid hn
    have HMM := Lib.hid hm
    have hm63 : (m : Int) ≤ 9223372036854775807 := (by have h1 := h.waits.le; have h2 := h.waits.max; unfold maxLen at h2; omega)
    clear h hn hm hd ha e h0 h1
    go_enter Try.func34, Try.ntmps34
    go_wp2_with (go_at_call 29; refine (HA.out).mono ?_; rintro e w2 ⟨rfl, m2⟩; have M2 := Lib.hid (M1.out.trans m2); have B2 := Lib.hid (HB.out.mods m2 (fun h => h)); obtain ⟨⟨x0, x1, x2, x3⟩, -⟩ := (HB.out.mods m2 (fun h => h)).four6; clear m2)
    have H2 := Lib.hid (H.out.mods M2.out)
    go_loopw [7] (fun x wr => ∃ (j : Nat), j ≤ m ∧ x = .int .i64 ((j : Int) - 1) ∧ lastW q (d.W.drop j) = none ∧ wr = w2) (fun x _ => (intOf x + 1).toNat)
    case atStart => exact ⟨m, Nat.le_refl _, rfl, by rw [List.drop_eq_nil_of_le (by rw [HMM.out]; omega)]; rfl, rfl⟩
    case round =>
      obtain ⟨j, hj, hx, hl, rfl⟩ := hrel
      have HL := Lib.hid hl
      clear hl
      rcases Nat.eq_zero_or_pos j with rfl | hj0
      · subst hx
        have hqL : q < d.L.length := by rw [HN.out]; exact hq
        obtain ⟨bA, offA, rfl, -, hc⟩ := H2.out.sure.at_ (by rw [strs_length]; omega)
        have c1 := hc q _ (strs_at (List.getElem?_eq_getElem hqL))
        have HLAT := Lib.hid (show d.lat q = d.L[q] from by
          unfold PD.lat
          have := HL.out
          rw [List.drop_zero] at this
          rw [this, Option.getD_none]
          simp [hqL])
        clear hc
        go_wp2_with fail
        go_ret2
        exact ⟨by rw [HLAT.out]; rfl, M2.out⟩
      · obtain ⟨p, rfl⟩ : ∃ p, j = p + 1 := ⟨j - 1, by omega⟩
        have hx2 : _ = Value.int .i64 (p : Int) := hx.trans (by congr 1; omega)
        subst hx2
        have hpW : p < d.W.length := by rw [HMM.out]; omega
        obtain ⟨⟨r, b⟩, hqb⟩ : ∃ x, d.W[p] = x := ⟨_, rfl⟩
        have HQB := Lib.hid (show d.W[p]? = some (r, b) by rw [List.getElem?_eq_getElem hpW, hqb])
        obtain ⟨bB, offB, rfl, e1, e2⟩ := H2.out.waits.at_ HQB.out
        have hpm : (p : Int) < (m : Int) := by omega
        have hp0 : (0 : Int) ≤ (p : Int) := by omega
        have hp1 : p < m := by omega
        clear hqb hx hj0
        clear hpW
        by_cases hri : r = q
        · subst hri
          have HLAT := Lib.hid (show d.lat r = b from by
            unfold PD.lat
            rw [lastW_found2 HQB.out HL.out, Option.getD_some])
          go_wp2_with fail
          go_ret2
          exact ⟨by rw [HLAT.out]; rfl, M2.out⟩
        · have hri' : decide ((r : Int) = (q : Int)) = false := by simpa using (show ¬ ((r : Int) = (q : Int)) by omega)
          have hri2 : decide (r = q) = false := by simpa using hri
          have HL2 := Lib.hid (lastW_less2 (i := q) HQB.out HL.out hri)
          go_wp2_with fail
          exact ⟨⟨p, by omega, rfl, HL2.out, trivial⟩, by simp [intOf]⟩
  · have e : d.read i = ([], d.at_ i) := by unfold PD.read; rw [if_pos ha]
    rw [e]
    have ha' : (d.at_ i != 0) = true := by simpa using ha
    generalize d.at_ i = x at *
    clear h e hn hm hd HB
    go_enter Try.func34, Try.ntmps34
    go_wp2_with (go_at_call 29; refine (HA.out).mono ?_; rintro e w2 ⟨rfl, m2⟩; have M2 := Lib.hid (M1.out.trans m2); clear m2)
    go_ret2
    exact ⟨rfl, M2.out⟩

theorem infoV : (Try.prog.info? 70).map (fun i => (i.zero, i.size, i.bytes)) = some (some (.agg #[.int .i64 0, .string ⟨#[]⟩]), 2, 24) := by kernel_rfl
theorem own2_at {w : World} {base n : Nat} {e : TypeId} {v : Value} {W : List (Nat × List UInt8)} (h : w.ownsRow base e 2 v n (vCs W)) : ∃ A c, v = .slice A n c ∧ Sl2 w A c W := by
  have hl := h.1
  rw [vCs_length] at hl
  have hcells := fun g hg j u hu => h.cells (g := g) hg j u hu
  rcases h.2 with ⟨rfl, rfl⟩ | ⟨g, cap, cur, rfl, hb, hgg, h1, h2, h3, h4⟩
  · have : W = [] := List.eq_nil_of_length_eq_zero (by omega)
    subst this
    exact ⟨none, 0, rfl, Sl2.none_ _⟩
  · refine ⟨_, cap, rfl, by omega, h2, (fun h => by cases h), .inr ⟨g, 0, rfl, fun j u hu => ?_⟩⟩
    have := hcells g rfl j u hu
    rwa [Addr.add_lit] at this
end Go.Proofs.Ytahahnapnfalcaa
