/- AcceptorKeeps' walk; printed by wip/tools/gen13/keeps.py. -/
import Derived.Test.YthkejoabppocoaaHelp13
import Derived.Deep.QuietTactic
import Derived.BigQuiet
namespace Go.Proofs.Ythkejoabppocoaa
set_option maxRecDepth 1000000
open Go.RowKit
set_option linter.unusedVariables false
set_option linter.unusedSimpArgs false

/-- What 'ballot' and 'value' have at a slot. -/
def balV (l : List PVt) (k : Nat) : Value := match lookV l k with | some v => .int .u64 (v.bal : Int) | none => .int .u64 0
def strV (l : List PVt) (k : Nat) : Value := match lookV l k with | some v => .string (strOf v.val) | none => .string ⟨#[]⟩
theorem balV_ins (v : PVt) {l : List PVt} (h : riseV l) (k : Nat) : balV (insV v l) k = if k = v.slot then .int .u64 (v.bal : Int) else balV l k := by
  unfold balV
  rw [lookV_ins v h k]
  by_cases hk : k = v.slot
  · rw [if_pos hk, if_pos hk]
  · rw [if_neg hk, if_neg hk]
theorem strV_ins (v : PVt) {l : List PVt} (h : riseV l) (k : Nat) : strV (insV v l) k = if k = v.slot then .string (strOf v.val) else strV l k := by
  unfold strV
  rw [lookV_ins v h k]
  by_cases hk : k = v.slot
  · rw [if_pos hk, if_pos hk]
  · rw [if_neg hk, if_neg hk]
/-- What the votes of this law look like. -/
structure KeepP (a : PAc) (top : Nat) : Prop where
  prom : a.prom = top
  low : a.low = 0
  vs : ∀ v ∈ a.L, v.slot < 8
  top64 : top < 18446744073709551616
/-- The three rows in memory. -/
structure KR (w : World) (g1 g2 g3 : Nat) (l : List PVt) : Prop where
  b : Blk w g1 26 (rowF (balV l) 8)
  s : Blk w g2 9 (rowF (strV l) 8)
  h : Blk w g3 4 (rowF (hasV l) 8)
theorem KR.mods {S : Nat → Prop} {w w' : World} {g1 g2 g3 : Nat} {l : List PVt} (h : KR w g1 g2 g3 l) (hm : Mods S w w') (h1 : ¬ S g1) (h2 : ¬ S g2) (h3 : ¬ S g3) : KR w' g1 g2 g3 l := ⟨h.b.mods hm h1, h.s.mods hm h2, h.h.mods hm h3⟩
theorem KR.nil {w w' : World} {g1 g2 g3 : Nat} {l : List PVt} (h : KR w g1 g2 g3 l) (hm : Mods Nil w w') : KR w' g1 g2 g3 l := h.mods hm (fun h => h) (fun h => h) (fun h => h)
theorem KR.set {w : World} {g1 g2 g3 : Nat} {l : List PVt} (h : KR w g1 g2 g3 l) (hr : riseV l) (v : PVt) (h12 : g1 ≠ g2) (h13 : g1 ≠ g3) (h23 : g2 ≠ g3) :
    KR (((w.setCell ⟨g1, v.slot, none⟩ (.int .u64 (v.bal : Int))).setCell ⟨g2, v.slot, none⟩ (.string (strOf v.val))).setCell ⟨g3, v.slot, none⟩ (.bool true)) g1 g2 g3 (insV v l) := by
  refine ⟨?_, ?_, ?_⟩
  · rw [show rowF (balV (insV v l)) 8 = rowF (fun j => if j = v.slot then .int .u64 (v.bal : Int) else balV l j) 8 from rowF_congr (fun j _ => balV_ins v hr j)]
    exact ((h.b.rowset _ _).far (p := ⟨g2, v.slot, none⟩) h12 _).far (p := ⟨g3, v.slot, none⟩) h13 _
  · rw [show rowF (strV (insV v l)) 8 = rowF (fun j => if j = v.slot then .string (strOf v.val) else strV l j) 8 from rowF_congr (fun j _ => strV_ins v hr j)]
    exact ((h.s.far (p := ⟨g1, v.slot, none⟩) (fun e => h12 e.symm) _).rowset _ _).far (p := ⟨g3, v.slot, none⟩) h23 _
  · rw [show rowF (hasV (insV v l)) 8 = rowF (fun j => if j = v.slot then .bool true else hasV l j) 8 from rowF_congr (fun j _ => hasV_ins v hr j)]
    exact ((h.h.far (p := ⟨g1, v.slot, none⟩) (fun e => h13 e.symm) _).far (p := ⟨g2, v.slot, none⟩) (fun e => h23 e.symm) _).rowset _ _
/-- What the walk's stores ask. -/
theorem KR.facts {w : World} {g1 g2 g3 : Nat} {l : List PVt} (h : KR w g1 g2 g3 l) {k : Nat} (hk : k < 8) (h12 : g1 ≠ g2) (h13 : g1 ≠ g3) (h23 : g2 ≠ g3) :
    (w.cell? ⟨g1, k, none⟩ = some (balV l k) ∧ w.frozen? ⟨g1, k, none⟩ = false) ∧ (∀ x, (w.setCell ⟨g1, k, none⟩ x).cell? ⟨g2, k, none⟩ = some (strV l k) ∧ (w.setCell ⟨g1, k, none⟩ x).frozen? ⟨g2, k, none⟩ = false) ∧
    (∀ x y, ((w.setCell ⟨g1, k, none⟩ x).setCell ⟨g2, k, none⟩ y).cell? ⟨g3, k, none⟩ = some (hasV l k) ∧ ((w.setCell ⟨g1, k, none⟩ x).setCell ⟨g2, k, none⟩ y).frozen? ⟨g3, k, none⟩ = false) := by
  have e2 := fun x => h.s.far (p := ⟨g1, k, none⟩) (fun e => h12 e.symm) x
  have e3 := fun x y => (h.h.far (p := ⟨g1, k, none⟩) (fun e => h13 e.symm) x).far (p := ⟨g2, k, none⟩) (fun e => h23 e.symm) y
  exact ⟨⟨h.b.rowcell hk, h.b.frozen k⟩, fun x => ⟨(e2 x).rowcell hk, (e2 x).frozen k⟩, fun x y => ⟨(e3 x y).rowcell hk, (e3 x y).frozen k⟩⟩

set_option maxHeartbeats 12800000 in
theorem acceptorKeeps_walk (w : World) {A : Option Addr} {n c : Nat} {ls : List (List Fv)} (h : Acts w A n c [.int .i64, .int .u64, .int .u64, .bytes] ls) :
    Calls Try.prog 5 #[.slice A n c] w fun e w' => e = .returned (.bool true) ∧ Mods Nil w w' := by
  obtain ⟨i1, hi1, hz11, hz12, hz13⟩ := info_parts infoU13
  obtain ⟨i2, hi2, hz21, hz22, hz23⟩ := info_parts infoStr13
  obtain ⟨i3, hi3, hz31, hz32, hz33⟩ := info_parts infoBool13
  have HS := Lib.hid h
  clear h
  go_enter Try.func5, Try.ntmps5
  go_wp2_with (first
    | (go_at_call 9; refine (awake13_any _).mono ?_; rintro e w1 ⟨rfl, m1⟩; have M1 := Lib.hid m1; clear m1)
    | (go_at_call 10; refine (acc_new _).mono ?_; rintro e w2 ⟨b, rfl, s2⟩; have S2 := Lib.hid s2; clear s2; obtain ⟨g1, hg1⟩ : ∃ g1, w2.heap.size = g1 := ⟨_, rfl⟩)
    | (at_make; refine wpList_make_row _ rfl _ _ 60 rfl 26 i1 (.int .u64 0) Try.underlying60 hi1 hz11 hz12 rfl .i64 .i64 8 rfl rfl (by rw [hz13]; omega) (by omega) ?_; rw [made_rowF _ rfl 8]; obtain ⟨w3, hw3⟩ : ∃ w3, w2.alloc (.cells (rowF (fun _ => .int .u64 0) 8) 26) = w3 := ⟨_, rfl⟩; have HW3 := Lib.hid hw3; rw [hw3]; clear hw3)
    | (at_make; refine wpList_make_row _ rfl _ _ 61 rfl 9 i2 (.string ⟨#[]⟩) Try.underlying61 hi2 hz21 hz22 rfl .i64 .i64 8 rfl rfl (by rw [hz23]; omega) (by omega) ?_; rw [made_rowF _ rfl 8]; obtain ⟨w4, hw4⟩ : ∃ w4, w3.alloc (.cells (rowF (fun _ => .string ⟨#[]⟩) 8) 9) = w4 := ⟨_, rfl⟩; have HW4 := Lib.hid hw4; rw [hw4]; clear hw4)
    | (at_make; refine wpList_make_row _ rfl _ _ 62 rfl 4 i3 (.bool false) Try.underlying62 hi3 hz31 hz32 rfl .i64 .i64 8 rfl rfl (by rw [hz33]; omega) (by omega) ?_; rw [made_rowF _ rfl 8]; obtain ⟨w5, hw5⟩ : ∃ w5, w4.alloc (.cells (rowF (fun _ => .bool false) 8) 4) = w5 := ⟨_, rfl⟩; have HW5 := Lib.hid hw5; rw [hw5]; clear hw5))
  have s3 : w3.heap.size = g1 + 1 := by rw [← HW3.out, World.size_alloc, hg1]
  have s4 : w4.heap.size = g1 + 2 := by rw [← HW4.out, World.size_alloc, s3]
  have s5 : w5.heap.size = g1 + 3 := by rw [← HW5.out, World.size_alloc, s4]
  rw [s3, s4]
  have m35 : Mods Nil w2 w5 := by rw [← HW5.out, ← HW4.out, ← HW3.out]; exact (((Mods.refl Nil w2).alloc _).alloc _).alloc _
  have K5 : Hid (KR w5 g1 (g1 + 1) (g1 + 2) []) := Lib.hid (by
    refine ⟨?_, ?_, ?_⟩
    · rw [← HW5.out, ← HW4.out, ← HW3.out, ← hg1]; exact ((Blk.new w2 _ _).alloc _).alloc _
    · rw [← HW5.out, ← HW4.out, ← s3]; exact (Blk.new w3 _ _).alloc _
    · rw [← HW5.out, ← s4]; exact Blk.new w4 _ _)
  obtain ⟨W0, hW0⟩ : ∃ W0, w1 = W0 := ⟨_, rfl⟩
  rw [hW0] at M1 S2
  have HGW : Hid (W0.heap.size ≤ g1) := Lib.hid (by rw [← hg1]; exact S2.out.m.size)
  obtain ⟨X, hX⟩ : ∃ X : Nat → Prop, (fun k => k = g1 ∨ k = g1 + 1 ∨ k = g1 + 2) = X := ⟨_, rfl⟩
  have HX : Hid (∀ k, X k ↔ (k = g1 ∨ k = g1 + 1 ∨ k = g1 + 2)) := Lib.hid (fun k => by rw [← hX])
  have S5 := Lib.hid (S2.out.more m35 (Y := X) (fun k hk => .inr (by have := (HX.out k).1 hk; omega)))
  clear HW3 HW4 HW5 s3 s4 m35 hX
  go_loopw [8, 9] (fun t x wr => ∃ (i top : Nat) (a : PAc), i ≤ n ∧ i ≤ 40 ∧ t = .int .u64 (top : Int) ∧ x = .int .i64 (i : Int) ∧ KeepP a top ∧ AccS W0 wr X b a i ∧ KR wr g1 (g1 + 1) (g1 + 2) a.L ∧ g1 + 3 ≤ wr.heap.size) (fun _ x _ => 40 - (intOf x).toNat)
  case atStart => exact ⟨0, 0, {}, Nat.zero_le _, Nat.zero_le _, rfl, rfl, ⟨rfl, rfl, (fun v hv => by cases hv), by omega⟩, S5.out, K5.out, by omega⟩
  case round =>
    clear S2 S5 K5 hg1 s5
    obtain ⟨i, top, a, hi, hi40, rfl, rfl, hp, hsa, hkr, hgs⟩ := hrel
    have HP := Lib.hid hp
    have HSA := Lib.hid hsa
    have HKR := Lib.hid hkr
    clear hp hsa hkr
    by_cases hgo : i < n ∧ i < 40
    · obtain ⟨hlt, hlt40⟩ := hgo
      have hltI : decide ((i : Int) < (n : Int)) = true := by simp; omega
      have hltN : decide (i < n) = true := by simp; omega
      have hltL : (i : Int) < (n : Int) := by omega
      have hlt4 : decide ((i : Int) < 40) = true := by simp; omega
      have hlt4N : decide (i < 40) = true := by simp; omega
      obtain ⟨b1, o1, kd, s, bal, B, cb, xs, q, rfl, hb1, ⟨x0, x1, x2, x3⟩, hq, hby, hs64, hbal⟩ := act13_on HS.out (M1.out.trans HSA.out.m) hlt
      obtain ⟨gx, hgx⟩ : ∃ gx, wr.heap.size = gx := ⟨_, rfl⟩
      obtain ⟨W1, hW1⟩ : ∃ W, wr.alloc (.cells #[.int .i64 kd, .int .u64 (s : Int), .int .u64 (bal : Int), .slice B q cb] 32) = W := ⟨_, rfl⟩
      have m1w : Mods Nil wr W1 := by rw [← hW1]; exact (Mods.refl Nil wr).alloc _
      have BX : Hid (Blk W1 gx 32 #[.int .i64 kd, .int .u64 (s : Int), .int .u64 (bal : Int), .slice B q cb]) := Lib.hid (by rw [← hW1, ← hgx]; exact Blk.new wr _ _)
      have K1 := Lib.hid (HKR.out.nil m1w)
      have HWV : Hid (∀ V, Mods Nil W0 V → Sl V B cb (bts xs)) := Lib.hid (fun V hV => hby.mods (M1.out.trans hV) (fun _ _ h => h))
      have BY := Lib.hid (HWV.out W1 (HSA.out.m.trans m1w))
      have hsz1 : W1.heap.size = gx + 1 := by rw [← hW1, World.size_alloc, hgx]
      obtain ⟨X1, hX1⟩ : ∃ X1 : Nat → Prop, (fun k => X k ∨ k = gx) = X1 := ⟨_, rfl⟩
      have HX1 : Hid (∀ k, X1 k ↔ (X k ∨ k = gx)) := Lib.hid (fun k => by rw [← hX1])
      have S1 := Lib.hid (HSA.out.more m1w (Y := X1) (fun k hk => by
        rcases (HX1.out k).1 hk with h | h
        · exact .inl h
        · exact .inr ⟨by omega, by omega⟩))
      obtain ⟨y0, y1, y2, y3⟩ : (W1.cell? ⟨gx, 0, none⟩ = some (.int .i64 kd)) ∧ (W1.cell? ⟨gx, 1, none⟩ = some (.int .u64 (s : Int))) ∧ (W1.cell? ⟨gx, 2, none⟩ = some (.int .u64 (bal : Int))) ∧ (W1.cell? ⟨gx, 3, none⟩ = some (.slice B q cb)) := ⟨BX.out.cell 0, BX.out.cell 1, BX.out.cell 2, BX.out.cell 3⟩
      have HQ := Lib.hid hq
      have HGS := Lib.hid hgs
      have HGX := Lib.hid hgx
      have HSZ1 := Lib.hid hsz1
      clear hq hby hb1 m1w hX1 hsz1 hgs
      by_cases h60 : 60 < q
      · have h60I : decide ((60 : Int) < (q : Int)) = true := by simp; omega
        have h60N : decide (60 < q) = true := by simp; omega
        go_wp2
        go_ret
        exact ⟨rfl, M1.out.trans S1.out.m⟩
      have h60I : decide ((60 : Int) < (q : Int)) = false := by simp; omega
      have h60N : decide (60 < q) = false := by simp; omega
      obtain ⟨k, hk⟩ : ∃ k, s % 8 = k := ⟨_, rfl⟩
      have hand : bits .and .u64 (s : Int) 7 = (k : Int) := by rw [u64_and7 hs64, hk]
      have hk8 : k < 8 := by omega
      have hk8I : (k : Int) < 8 := by omega
      obtain ⟨u, hu⟩ : ∃ u, bits .and .i64 kd 1 = u := ⟨_, rfl⟩
      have HBAL := Lib.hid hbal
      have hprom := HP.out.prom
      have hlow := HP.out.low
      have HPROM := Lib.hid hprom
      have HLOW := Lib.hid hlow
      have HKEEP : Hid (∀ V (a' : PAc), Mods (AM W0 X1) W1 V → AccS W0 V X1 b a' (i + 1) → AccS W0 V X b a' (i + 1) ∧ g1 + 3 ≤ V.heap.size) := Lib.hid (fun V a' hm hs => ⟨hs.more (Mods.refl _ _) (fun k hk => .inl ((HX1.out k).2 (.inl hk))), by have := hm.size; have := HGS.out; have := HGX.out; have := HSZ1.out; omega⟩)
      clear hk hprom hlow
      by_cases hu0 : u = 0
      · subst hu0
        by_cases h1 : bal < top
        · obtain ⟨a9, ha9⟩ : ∃ a9, a.prepare bal = a9 := ⟨_, rfl⟩
          have hpe : a.prepE bal = 32 := by unfold PAc.prepE; rw [HPROM.out, if_pos (by omega)]
          have ha9' : a9 = a := by rw [← ha9]; unfold PAc.prepare; rw [HPROM.out, if_pos (by omega)]
          have h9p : a9.prom = top := by rw [ha9']; exact HPROM.out
          have hKP : KeepP a9 top := by rw [ha9']; exact HP.out
          have h9L : a9.L = a.L := by rw [ha9']
          have HKP := Lib.hid hKP
          have H9L := Lib.hid h9L
          have hSp : ∀ V, AccS W0 V X1 b a9 i → Calls Try.prog 20 #[.pointer (some ⟨b, 0, none⟩)] V fun e W' => e = .returned (.int .u64 (top : Int)) ∧ Mods Nil V W' := fun V hV => by have h := hV.promised; rw [h9p] at h; exact h
          have HSP := Lib.hid hSp
          have g1I : decide ((top : Int) ≤ (bal : Int)) = false := by simp; omega
          have g1N : decide (top ≤ bal) = false := by simp; omega
          have g2I : decide ((top : Int) < (bal : Int)) = false := by simp; omega
          have g2N : decide (top < bal) = false := by simp; omega
          have HC : Hid (Calls Try.prog 11 #[.pointer (some ⟨b, 0, none⟩), .int .u64 (bal : Int), .int .u64 0] W1 fun e W' => ∃ A c n, e = .returned (.tuple #[.slice A n c, .int .i64 32]) ∧ AccS W0 W' X1 b a9 i ∧ Mods (AM W0 X1) W1 W') := Lib.hid ((S1.out.prep (bal := bal) (f := 0) (by omega) HBAL.out (by omega)).mono fun e W' ⟨A, c, n, L, h1, h2, h3, h4, h5⟩ => by
            rw [hpe] at h1
            rw [ha9] at h4
            exact ⟨A, c, n, h1, h4.more (Mods.refl _ _) (fun k hk => .inl (.inl hk)), h5⟩)
          clear hpe ha9 ha9' h9p hKP h9L hSp
          go_wp2_with (first
            | (go_at_call 20; refine (HSP.out _ S8.out).mono ?_; rintro e w9 ⟨rfl, m9⟩; have SS := Lib.hid (S8.out.nil m9); have MM := Lib.hid (M8.out.trans (m9.mono (T := AM W0 X1) (fun _ _ h => h.elim))); have K9 := Lib.hid (K8.out.nil m9); clear m9)
            | (go_at_call 11; refine (HC.out).mono ?_; rintro e w8 ⟨A8, c8, n8, rfl, s8, m8⟩; have S8 := Lib.hid s8; have M8 := Lib.hid m8; have y2 : w8.cell? ⟨gx, 2, none⟩ = some (.int .u64 (bal : Int)) := (BX.out.mods m8 (fun hk => hk.2 ((HX1.out _).2 (.inr rfl)))).cell 2; have K8 := Lib.hid (K1.out.mods m8 (fun hk => hk.2 ((HX1.out _).2 (.inl ((HX.out _).2 (.inl rfl))))) (fun hk => hk.2 ((HX1.out _).2 (.inl ((HX.out _).2 (.inr (.inl rfl)))))) (fun hk => hk.2 ((HX1.out _).2 (.inl ((HX.out _).2 (.inr (.inr rfl))))))); clear s8 m8))
          have S9 := Lib.hid (SS.out.mono_T (T' := i + 1) (by omega))
          refine ⟨⟨i + 1, top, a9, by omega, by omega, rfl, by go_num, HKP.out, (HKEEP.out _ _ MM.out S9).1, by rw [H9L.out]; exact K9.out, (HKEEP.out _ _ MM.out S9).2⟩, by simp [intOf]; omega⟩
        by_cases h2 : bal = top
        · subst h2
          obtain ⟨a9, ha9⟩ : ∃ a9, a.prepare bal = a9 := ⟨_, rfl⟩
          have hpe : a.prepE bal = 0 := by unfold PAc.prepE; rw [HPROM.out, if_neg (by omega)]
          have ha9' : a9 = { a with prom := bal } := by rw [← ha9]; unfold PAc.prepare; rw [HPROM.out, if_neg (by omega)]
          have h9p : a9.prom = bal := by rw [ha9']
          have hKP : KeepP a9 bal := by rw [ha9']; exact ⟨rfl, HLOW.out, HP.out.vs, HBAL.out⟩
          have h9L : a9.L = a.L := by rw [ha9']
          have HKP := Lib.hid hKP
          have H9L := Lib.hid h9L
          have hSp : ∀ V, AccS W0 V X1 b a9 i → Calls Try.prog 20 #[.pointer (some ⟨b, 0, none⟩)] V fun e W' => e = .returned (.int .u64 (bal : Int)) ∧ Mods Nil V W' := fun V hV => by have h := hV.promised; rw [h9p] at h; exact h
          have HSP := Lib.hid hSp
          have g2I : decide ((bal : Int) < (bal : Int)) = false := by simp
          have g2N : decide (bal < bal) = false := by simp
          have HC : Hid (Calls Try.prog 11 #[.pointer (some ⟨b, 0, none⟩), .int .u64 (bal : Int), .int .u64 0] W1 fun e W' => ∃ A c n, e = .returned (.tuple #[.slice A n c, .int .i64 0]) ∧ AccS W0 W' X1 b a9 i ∧ Mods (AM W0 X1) W1 W') := Lib.hid ((S1.out.prep (bal := bal) (f := 0) (by omega) HBAL.out (by omega)).mono fun e W' ⟨A, c, n, L, h1, h2, h3, h4, h5⟩ => by
            rw [hpe] at h1
            rw [ha9] at h4
            exact ⟨A, c, n, h1, h4.more (Mods.refl _ _) (fun k hk => .inl (.inl hk)), h5⟩)
          clear hpe ha9 ha9' h9p hKP h9L hSp
          go_wp2_with (first
            | (go_at_call 20; refine (HSP.out _ S8.out).mono ?_; rintro e w9 ⟨rfl, m9⟩; have SS := Lib.hid (S8.out.nil m9); have MM := Lib.hid (M8.out.trans (m9.mono (T := AM W0 X1) (fun _ _ h => h.elim))); have K9 := Lib.hid (K8.out.nil m9); clear m9)
            | (go_at_call 11; refine (HC.out).mono ?_; rintro e w8 ⟨A8, c8, n8, rfl, s8, m8⟩; have S8 := Lib.hid s8; have M8 := Lib.hid m8; have y2 : w8.cell? ⟨gx, 2, none⟩ = some (.int .u64 (bal : Int)) := (BX.out.mods m8 (fun hk => hk.2 ((HX1.out _).2 (.inr rfl)))).cell 2; have K8 := Lib.hid (K1.out.mods m8 (fun hk => hk.2 ((HX1.out _).2 (.inl ((HX.out _).2 (.inl rfl))))) (fun hk => hk.2 ((HX1.out _).2 (.inl ((HX.out _).2 (.inr (.inl rfl)))))) (fun hk => hk.2 ((HX1.out _).2 (.inl ((HX.out _).2 (.inr (.inr rfl))))))); clear s8 m8))
          have S9 := Lib.hid (SS.out.mono_T (T' := i + 1) (by omega))
          refine ⟨⟨i + 1, bal, a9, by omega, by omega, rfl, by go_num, HKP.out, (HKEEP.out _ _ MM.out S9).1, by rw [H9L.out]; exact K9.out, (HKEEP.out _ _ MM.out S9).2⟩, by simp [intOf]; omega⟩
        have h3 : top < bal := by omega
        obtain ⟨a9, ha9⟩ : ∃ a9, a.prepare bal = a9 := ⟨_, rfl⟩
        have hpe : a.prepE bal = 0 := by unfold PAc.prepE; rw [HPROM.out, if_neg (by omega)]
        have ha9' : a9 = { a with prom := bal } := by rw [← ha9]; unfold PAc.prepare; rw [HPROM.out, if_neg (by omega)]
        have h9p : a9.prom = bal := by rw [ha9']
        have hKP : KeepP a9 bal := by rw [ha9']; exact ⟨rfl, HLOW.out, HP.out.vs, HBAL.out⟩
        have h9L : a9.L = a.L := by rw [ha9']
        have HKP := Lib.hid hKP
        have H9L := Lib.hid h9L
        have hSp : ∀ V, AccS W0 V X1 b a9 i → Calls Try.prog 20 #[.pointer (some ⟨b, 0, none⟩)] V fun e W' => e = .returned (.int .u64 (bal : Int)) ∧ Mods Nil V W' := fun V hV => by have h := hV.promised; rw [h9p] at h; exact h
        have HSP := Lib.hid hSp
        have g1I : decide ((top : Int) ≤ (bal : Int)) = true := by simp; omega
        have g1N : decide (top ≤ bal) = true := by simp; omega
        have g2I : decide ((top : Int) < (bal : Int)) = true := by simp; omega
        have g2N : decide (top < bal) = true := by simp; omega
        have HC : Hid (Calls Try.prog 11 #[.pointer (some ⟨b, 0, none⟩), .int .u64 (bal : Int), .int .u64 0] W1 fun e W' => ∃ A c n, e = .returned (.tuple #[.slice A n c, .int .i64 0]) ∧ AccS W0 W' X1 b a9 i ∧ Mods (AM W0 X1) W1 W') := Lib.hid ((S1.out.prep (bal := bal) (f := 0) (by omega) HBAL.out (by omega)).mono fun e W' ⟨A, c, n, L, h1, h2, h3, h4, h5⟩ => by
          rw [hpe] at h1
          rw [ha9] at h4
          exact ⟨A, c, n, h1, h4.more (Mods.refl _ _) (fun k hk => .inl (.inl hk)), h5⟩)
        clear hpe ha9 ha9' h9p hKP h9L hSp
        go_wp2_with (first
          | (go_at_call 20; refine (HSP.out _ S8.out).mono ?_; rintro e w9 ⟨rfl, m9⟩; have SS := Lib.hid (S8.out.nil m9); have MM := Lib.hid (M8.out.trans (m9.mono (T := AM W0 X1) (fun _ _ h => h.elim))); have K9 := Lib.hid (K8.out.nil m9); clear m9)
          | (go_at_call 11; refine (HC.out).mono ?_; rintro e w8 ⟨A8, c8, n8, rfl, s8, m8⟩; have S8 := Lib.hid s8; have M8 := Lib.hid m8; have y2 : w8.cell? ⟨gx, 2, none⟩ = some (.int .u64 (bal : Int)) := (BX.out.mods m8 (fun hk => hk.2 ((HX1.out _).2 (.inr rfl)))).cell 2; have K8 := Lib.hid (K1.out.mods m8 (fun hk => hk.2 ((HX1.out _).2 (.inl ((HX.out _).2 (.inl rfl))))) (fun hk => hk.2 ((HX1.out _).2 (.inl ((HX.out _).2 (.inr (.inl rfl)))))) (fun hk => hk.2 ((HX1.out _).2 (.inl ((HX.out _).2 (.inr (.inr rfl))))))); clear s8 m8))
        have S9 := Lib.hid (SS.out.mono_T (T' := i + 1) (by omega))
        refine ⟨⟨i + 1, bal, a9, by omega, by omega, rfl, by go_num, HKP.out, (HKEEP.out _ _ MM.out S9).1, by rw [H9L.out]; exact K9.out, (HKEEP.out _ _ MM.out S9).2⟩, by simp [intOf]; omega⟩
      · have huI : (u == 0) = false := by rw [beq_eq_false_iff_ne]; exact hu0
        by_cases h1 : bal < top
        · obtain ⟨a9, ha9⟩ : ∃ a9, a.accept ⟨k, bal, xs⟩ = a9 := ⟨_, rfl⟩
          have hpe : a.accE ⟨k, bal, xs⟩ = 32 := by unfold PAc.accE; rw [HPROM.out, if_pos (by show bal < top; omega)]
          have ha9' : a9 = a := by rw [← ha9]; unfold PAc.accept; rw [HPROM.out, if_pos (by show bal < top; omega)]
          have h9p : a9.prom = top := by rw [ha9']; exact HPROM.out
          have hKP : KeepP a9 top := by rw [ha9']; exact HP.out
          have h9L : a9.L = a.L := by rw [ha9']
          have HKP := Lib.hid hKP
          have H9L := Lib.hid h9L
          have hSp : ∀ V, AccS W0 V X1 b a9 (i + 1) → Calls Try.prog 20 #[.pointer (some ⟨b, 0, none⟩)] V fun e W' => e = .returned (.int .u64 (top : Int)) ∧ Mods Nil V W' := fun V hV => by have h := hV.promised; rw [h9p] at h; exact h
          have HSP := Lib.hid hSp
          have HC : Hid (Calls Try.prog 15 #[.pointer (some ⟨b, 0, none⟩), .agg #[.int .u64 (k : Int), .int .u64 (bal : Int), .slice B q cb]] W1 fun e W' => e = .returned (.int .i64 32) ∧ AccS W0 W' X1 b a9 (i + 1) ∧ Mods (AM W0 X1) W1 W') := Lib.hid (by
            have h := S1.out.acc (v := ⟨k, bal, xs⟩) (n := q) (c := cb) (A := B) (by omega) (by show k < _; omega) HBAL.out HQ.out (by omega) BY.out
            rw [hpe, ha9] at h
            exact h)
          have g1I : decide ((top : Int) ≤ (bal : Int)) = false := by simp; omega
          have g1N : decide (top ≤ bal) = false := by simp; omega
          have g2I : decide ((top : Int) < (bal : Int)) = false := by simp; omega
          have g2N : decide (top < bal) = false := by simp; omega
          clear hpe ha9 ha9' h9p hKP h9L hSp
          go_wp2_with (first
            | (go_at_call 20; refine (HSP.out _ S8.out).mono ?_; rintro e w9 ⟨rfl, m9⟩; have SS := Lib.hid (S8.out.nil m9); have MM := Lib.hid (M8.out.trans (m9.mono (T := AM W0 X1) (fun _ _ h => h.elim))); have K9 := Lib.hid (K8.out.nil m9); clear m9)
            | (go_at_call 15; refine (HC.out).mono ?_; rintro e w8 ⟨rfl, s8, m8⟩; have S8 := Lib.hid s8; have M8 := Lib.hid m8; have y2 : w8.cell? ⟨gx, 2, none⟩ = some (.int .u64 (bal : Int)) := (BX.out.mods m8 (fun hk => hk.2 ((HX1.out _).2 (.inr rfl)))).cell 2; have K8 := Lib.hid (K1.out.mods m8 (fun hk => hk.2 ((HX1.out _).2 (.inl ((HX.out _).2 (.inl rfl))))) (fun hk => hk.2 ((HX1.out _).2 (.inl ((HX.out _).2 (.inr (.inl rfl)))))) (fun hk => hk.2 ((HX1.out _).2 (.inl ((HX.out _).2 (.inr (.inr rfl))))))); clear s8 m8))
          refine ⟨⟨i + 1, top, a9, by omega, by omega, rfl, by go_num, HKP.out, (HKEEP.out _ _ MM.out SS.out).1, by rw [H9L.out]; exact K9.out, (HKEEP.out _ _ MM.out SS.out).2⟩, by simp [intOf]; omega⟩
        by_cases h2 : bal = top
        · subst h2
          obtain ⟨a9, ha9⟩ : ∃ a9, a.accept ⟨k, bal, xs⟩ = a9 := ⟨_, rfl⟩
          obtain ⟨hacc, hpe⟩ := accept_ok (a := a) (v := ⟨k, bal, xs⟩) (by rw [HPROM.out]; show ¬ bal < bal; omega) (by rw [HLOW.out]; simp)
          have ha9' : a9 = { prom := bal, low := a.low, L := insV ⟨k, bal, xs⟩ a.L } := by rw [← ha9]; exact hacc
          have h9p : a9.prom = bal := by rw [ha9']
          have hKP : KeepP a9 bal := by
            rw [ha9']
            refine ⟨rfl, HLOW.out, fun v hv => ?_, HBAL.out⟩
            rcases insV_mem hv with rfl | hv
            · exact hk8
            · exact HP.out.vs v hv
          have h9L : a9.L = insV ⟨k, bal, xs⟩ a.L := by rw [ha9']
          have HKP := Lib.hid hKP
          have H9L := Lib.hid h9L
          have hSp : ∀ V, AccS W0 V X1 b a9 (i + 1) → Calls Try.prog 20 #[.pointer (some ⟨b, 0, none⟩)] V fun e W' => e = .returned (.int .u64 (bal : Int)) ∧ Mods Nil V W' := fun V hV => by have h := hV.promised; rw [h9p] at h; exact h
          have HSP := Lib.hid hSp
          have HC : Hid (Calls Try.prog 15 #[.pointer (some ⟨b, 0, none⟩), .agg #[.int .u64 (k : Int), .int .u64 (bal : Int), .slice B q cb]] W1 fun e W' => e = .returned (.int .i64 0) ∧ AccS W0 W' X1 b a9 (i + 1) ∧ Mods (AM W0 X1) W1 W') := Lib.hid (by
            have h := S1.out.acc (v := ⟨k, bal, xs⟩) (n := q) (c := cb) (A := B) (by omega) (by show k < _; omega) HBAL.out HQ.out (by omega) BY.out
            rw [hpe, ha9] at h
            exact h)
          have g2I : decide ((bal : Int) < (bal : Int)) = false := by simp
          have g2N : decide (bal < bal) = false := by simp
          clear hpe ha9 ha9' h9p hKP h9L hSp hacc
          go_wp2_with (first
            | (go_at_call 20; refine (HSP.out _ S8.out).mono ?_; rintro e w9 ⟨rfl, m9⟩; have SS := Lib.hid (S8.out.nil m9); have HSZ9 := Lib.hid m9.size; have K9 := Lib.hid (K8.out.nil m9); clear m9)
            | (go_at_call 15; refine (HC.out).mono ?_; rintro e w7 ⟨rfl, s7, m7⟩; have hk7 := K1.out.mods m7 (fun hk => hk.2 ((HX1.out _).2 (.inl ((HX.out _).2 (.inl rfl))))) (fun hk => hk.2 ((HX1.out _).2 (.inl ((HX.out _).2 (.inr (.inl rfl)))))) (fun hk => hk.2 ((HX1.out _).2 (.inl ((HX.out _).2 (.inr (.inr rfl)))))); obtain ⟨⟨f1, f2⟩, f3, f4⟩ := hk7.facts hk8 (by omega) (by omega) (by omega); have f5 := (fun x => (f3 x).1); have f6 := (fun x => (f3 x).2); have f7 := (fun x y => (f4 x y).1); have f8 := (fun x y => (f4 x y).2); clear f3 f4; have hbx7 := BX.out.mods m7 (fun hk => hk.2 ((HX1.out _).2 (.inr rfl))); have y2 : w7.cell? ⟨gx, 2, none⟩ = some (.int .u64 (bal : Int)) := hbx7.cell 2; have y3 : ∀ x, (w7.setCell ⟨g1, k, none⟩ x).cell? ⟨gx, 3, none⟩ = some (.slice B q cb) := (fun x => (hbx7.far (p := ⟨g1, k, none⟩) (by have := HGX.out; have := HGS.out; show gx ≠ g1; omega) x).cell 3); have hcv : ∀ x, (convert 30 9 (.slice B q cb)).run Try.prog (w7.setCell ⟨g1, k, none⟩ x) = .ok (.string (strOf xs)) (w7.setCell ⟨g1, k, none⟩ x) := (fun x => conv13 HQ.out (HWV.out _ ((S1.out.m.nil_trans m7 (fun k hk => hk.1)).nil_trans (Mods.setCell (S := fun q => q = g1) (p := ⟨g1, k, none⟩) (Mods.refl _ _) (fun _ => rfl) x) (fun q hq => by subst hq; exact HGW.out)))); obtain ⟨W8, hW8⟩ : ∃ W, ((w7.setCell ⟨g1, k, none⟩ (.int .u64 (bal : Int))).setCell ⟨g1 + 1, k, none⟩ (.string (strOf xs))).setCell ⟨g1 + 2, k, none⟩ (.bool true) = W := ⟨_, rfl⟩; have hm8 : Mods X w7 W8 := (by rw [← hW8]; exact Mods.setCell (S := X) (p := ⟨g1 + 2, k, none⟩) (Mods.setCell (S := X) (p := ⟨g1 + 1, k, none⟩) (Mods.setCell (S := X) (p := ⟨g1, k, none⟩) (Mods.refl _ _) (fun _ => (HX.out _).2 (.inl rfl)) _) (fun _ => (HX.out _).2 (.inr (.inl rfl))) _) (fun _ => (HX.out _).2 (.inr (.inr rfl))) _); have S8 := Lib.hid (s7.keep hm8 (fun q hq => ⟨(HX1.out _).2 (.inl hq), by have := HGW.out; rcases (HX.out _).1 hq with h | h | h <;> omega⟩)); have K8 : Hid (KR W8 g1 (g1 + 1) (g1 + 2) a9.L) := Lib.hid (by rw [← hW8, H9L.out]; exact hk7.set HSA.out.rise ⟨k, bal, xs⟩ (by omega) (by omega) (by omega)); have HSZ : Hid (w7.heap.size ≤ W8.heap.size ∧ W1.heap.size ≤ w7.heap.size) := Lib.hid ⟨hm8.size, m7.size⟩; have y2' : W8.cell? ⟨gx, 2, none⟩ = some (.int .u64 (bal : Int)) := (hbx7.mods hm8 (fun hq => by have := HGX.out; have := HGS.out; rcases (HX.out _).1 hq with h | h | h <;> omega)).cell 2; clear s7 m7 hk7 hbx7 hm8))
          refine ⟨⟨i + 1, bal, a9, by omega, by omega, rfl, by go_num, HKP.out, SS.out.more (Mods.refl _ _) (fun k hk => .inl ((HX1.out k).2 (.inl hk))), K9.out, ?_⟩, by simp [intOf]; omega⟩
          have h1 := HSZ.out
          have h2 := HSZ9.out
          have h3 := HGS.out
          have h4 := HGX.out
          have h5 := HSZ1.out
          omega
        have h3 : top < bal := by omega
        obtain ⟨a9, ha9⟩ : ∃ a9, a.accept ⟨k, bal, xs⟩ = a9 := ⟨_, rfl⟩
        obtain ⟨hacc, hpe⟩ := accept_ok (a := a) (v := ⟨k, bal, xs⟩) (by rw [HPROM.out]; show ¬ bal < top; omega) (by rw [HLOW.out]; simp)
        have ha9' : a9 = { prom := bal, low := a.low, L := insV ⟨k, bal, xs⟩ a.L } := by rw [← ha9]; exact hacc
        have h9p : a9.prom = bal := by rw [ha9']
        have hKP : KeepP a9 bal := by
          rw [ha9']
          refine ⟨rfl, HLOW.out, fun v hv => ?_, HBAL.out⟩
          rcases insV_mem hv with rfl | hv
          · exact hk8
          · exact HP.out.vs v hv
        have h9L : a9.L = insV ⟨k, bal, xs⟩ a.L := by rw [ha9']
        have HKP := Lib.hid hKP
        have H9L := Lib.hid h9L
        have hSp : ∀ V, AccS W0 V X1 b a9 (i + 1) → Calls Try.prog 20 #[.pointer (some ⟨b, 0, none⟩)] V fun e W' => e = .returned (.int .u64 (bal : Int)) ∧ Mods Nil V W' := fun V hV => by have h := hV.promised; rw [h9p] at h; exact h
        have HSP := Lib.hid hSp
        have HC : Hid (Calls Try.prog 15 #[.pointer (some ⟨b, 0, none⟩), .agg #[.int .u64 (k : Int), .int .u64 (bal : Int), .slice B q cb]] W1 fun e W' => e = .returned (.int .i64 0) ∧ AccS W0 W' X1 b a9 (i + 1) ∧ Mods (AM W0 X1) W1 W') := Lib.hid (by
          have h := S1.out.acc (v := ⟨k, bal, xs⟩) (n := q) (c := cb) (A := B) (by omega) (by show k < _; omega) HBAL.out HQ.out (by omega) BY.out
          rw [hpe, ha9] at h
          exact h)
        have g1I : decide ((top : Int) ≤ (bal : Int)) = true := by simp; omega
        have g1N : decide (top ≤ bal) = true := by simp; omega
        have g2I : decide ((top : Int) < (bal : Int)) = true := by simp; omega
        have g2N : decide (top < bal) = true := by simp; omega
        clear hpe ha9 ha9' h9p hKP h9L hSp hacc
        go_wp2_with (first
          | (go_at_call 20; refine (HSP.out _ S8.out).mono ?_; rintro e w9 ⟨rfl, m9⟩; have SS := Lib.hid (S8.out.nil m9); have HSZ9 := Lib.hid m9.size; have K9 := Lib.hid (K8.out.nil m9); clear m9)
          | (go_at_call 15; refine (HC.out).mono ?_; rintro e w7 ⟨rfl, s7, m7⟩; have hk7 := K1.out.mods m7 (fun hk => hk.2 ((HX1.out _).2 (.inl ((HX.out _).2 (.inl rfl))))) (fun hk => hk.2 ((HX1.out _).2 (.inl ((HX.out _).2 (.inr (.inl rfl)))))) (fun hk => hk.2 ((HX1.out _).2 (.inl ((HX.out _).2 (.inr (.inr rfl)))))); obtain ⟨⟨f1, f2⟩, f3, f4⟩ := hk7.facts hk8 (by omega) (by omega) (by omega); have f5 := (fun x => (f3 x).1); have f6 := (fun x => (f3 x).2); have f7 := (fun x y => (f4 x y).1); have f8 := (fun x y => (f4 x y).2); clear f3 f4; have hbx7 := BX.out.mods m7 (fun hk => hk.2 ((HX1.out _).2 (.inr rfl))); have y2 : w7.cell? ⟨gx, 2, none⟩ = some (.int .u64 (bal : Int)) := hbx7.cell 2; have y3 : ∀ x, (w7.setCell ⟨g1, k, none⟩ x).cell? ⟨gx, 3, none⟩ = some (.slice B q cb) := (fun x => (hbx7.far (p := ⟨g1, k, none⟩) (by have := HGX.out; have := HGS.out; show gx ≠ g1; omega) x).cell 3); have hcv : ∀ x, (convert 30 9 (.slice B q cb)).run Try.prog (w7.setCell ⟨g1, k, none⟩ x) = .ok (.string (strOf xs)) (w7.setCell ⟨g1, k, none⟩ x) := (fun x => conv13 HQ.out (HWV.out _ ((S1.out.m.nil_trans m7 (fun k hk => hk.1)).nil_trans (Mods.setCell (S := fun q => q = g1) (p := ⟨g1, k, none⟩) (Mods.refl _ _) (fun _ => rfl) x) (fun q hq => by subst hq; exact HGW.out)))); obtain ⟨W8, hW8⟩ : ∃ W, ((w7.setCell ⟨g1, k, none⟩ (.int .u64 (bal : Int))).setCell ⟨g1 + 1, k, none⟩ (.string (strOf xs))).setCell ⟨g1 + 2, k, none⟩ (.bool true) = W := ⟨_, rfl⟩; have hm8 : Mods X w7 W8 := (by rw [← hW8]; exact Mods.setCell (S := X) (p := ⟨g1 + 2, k, none⟩) (Mods.setCell (S := X) (p := ⟨g1 + 1, k, none⟩) (Mods.setCell (S := X) (p := ⟨g1, k, none⟩) (Mods.refl _ _) (fun _ => (HX.out _).2 (.inl rfl)) _) (fun _ => (HX.out _).2 (.inr (.inl rfl))) _) (fun _ => (HX.out _).2 (.inr (.inr rfl))) _); have S8 := Lib.hid (s7.keep hm8 (fun q hq => ⟨(HX1.out _).2 (.inl hq), by have := HGW.out; rcases (HX.out _).1 hq with h | h | h <;> omega⟩)); have K8 : Hid (KR W8 g1 (g1 + 1) (g1 + 2) a9.L) := Lib.hid (by rw [← hW8, H9L.out]; exact hk7.set HSA.out.rise ⟨k, bal, xs⟩ (by omega) (by omega) (by omega)); have HSZ : Hid (w7.heap.size ≤ W8.heap.size ∧ W1.heap.size ≤ w7.heap.size) := Lib.hid ⟨hm8.size, m7.size⟩; have y2' : W8.cell? ⟨gx, 2, none⟩ = some (.int .u64 (bal : Int)) := (hbx7.mods hm8 (fun hq => by have := HGX.out; have := HGS.out; rcases (HX.out _).1 hq with h | h | h <;> omega)).cell 2; clear s7 m7 hk7 hbx7 hm8))
        refine ⟨⟨i + 1, bal, a9, by omega, by omega, rfl, by go_num, HKP.out, SS.out.more (Mods.refl _ _) (fun k hk => .inl ((HX1.out k).2 (.inl hk))), K9.out, ?_⟩, by simp [intOf]; omega⟩
        have h1 := HSZ.out
        have h2 := HSZ9.out
        have h3 := HGS.out
        have h4 := HGX.out
        have h5 := HSZ1.out
        omega
    · by_cases hlt : i < n
      · have hi4 : decide ((i : Int) < 40) = false := by simp; omega
        have hi4N : decide (i < 40) = false := by simp; omega
        have hltI : decide ((i : Int) < (n : Int)) = true := by simp; omega
        have hltN : decide (i < n) = true := by simp; omega
        clear hgo hlt
        have hpr : a.prepE top = 0 ∧ a.told top 0 = a.L ∧ a.prepare top = a := by
          unfold PAc.prepE PAc.told PAc.prepare
          have h := HP.out.prom
          rw [if_neg (by omega), if_neg (by omega), if_neg (by omega), fromV_zero]
          refine ⟨rfl, rfl, ?_⟩
          cases a
          simp at h ⊢
          exact h.symm
        obtain ⟨E1, hE1⟩ : ∃ E1, a.L = E1 := ⟨_, rfl⟩
        obtain ⟨m, hm⟩ : ∃ m, E1.length = m := ⟨_, rfl⟩
        have HM := Lib.hid hm
        have HRISE := Lib.hid HSA.out.rise
        have HVS := Lib.hid HP.out.vs
        have hm40 : m ≤ 40 := by have h2 := HSA.out.len; rw [hE1, hm] at h2; omega
        have hT := HP.out.top64
        have HPREP : Hid (Calls Try.prog 11 #[.pointer (some ⟨b, 0, none⟩), .int .u64 (top : Int), .int .u64 0] wr fun e W' => ∃ A c L, e = .returned (.tuple #[.slice A m c, .int .i64 0]) ∧ L.map VtP.plain = E1 ∧ PVs W' (XN (fun _ => False) wr W') A c m L ∧ KR W' g1 (g1 + 1) (g1 + 2) E1 ∧ Mods Nil W0 W') := Lib.hid ((HSA.out.prep (bal := top) (f := 0) (by omega) hT (by omega)).mono fun e W' ⟨A, c, n, L, h1, h2, h3, h4, h5⟩ => by
          rw [hpr.1] at h1
          rw [hpr.2.1, hE1] at h2
          obtain rfl : n = m := by rw [← h3.len, ← hm, ← h2]; simp
          rw [← hE1]
          exact ⟨A, c, L, h1, by rw [h2, hE1], h3.sub (fun k hk => .inr hk), HKR.out.mods h5 (fun hk => hk.2 ((HX.out _).2 (.inl rfl))) (fun hk => hk.2 ((HX.out _).2 (.inr (.inl rfl)))) (fun hk => hk.2 ((HX.out _).2 (.inr (.inr rfl)))), HSA.out.am h5⟩)
        rw [hE1] at HRISE HVS
        clear hpr hE1 hm hT
        go_wp2_with (go_at_call 11; refine (HPREP.out).mono ?_; rintro e w6 ⟨A6, c6, L6, rfl, l6, v6, k6, m6⟩; have L6' := Lib.hid l6; have V6 := Lib.hid v6; have K6 := Lib.hid k6; have M6 := Lib.hid m6; clear l6 v6 k6 m6)
        have HLL := Lib.hid (show L6.length = m by have := congrArg List.length L6'.out; rw [List.length_map, HM.out] at this; exact this)
        go_loopw [17, 18] (fun x y wr' => ∃ (k p : Nat), k ≤ 8 ∧ cntV E1 k = p ∧ x = .int .i64 (p : Int) ∧ y = .int .i64 (k : Int) ∧ Mods Nil w6 wr') (fun _ y _ => 8 - (intOf y).toNat)
        case atStart => exact ⟨0, 0, by omega, cntV_zero _, rfl, rfl, Mods.refl _ _⟩
        case round =>
          obtain ⟨k, p, hk2, hcp, rfl, rfl, hm7⟩ := hrel
          have HCP := Lib.hid hcp
          have M7 := Lib.hid hm7
          clear hcp hm7
          by_cases h8 : k < 8
          · have h8I : (k : Int) < 8 := by omega
            have k7 := K6.out.nil M7.out
            have hr1 := k7.b.rowcell h8
            have hr2 := k7.s.rowcell h8
            have hr3 := k7.h.rowcell h8
            clear k7
            cases hl : lookV E1 k with
            | none =>
              have hz : hasV E1 k = .bool false := by unfold hasV; rw [hl]; rfl
              rw [hz] at hr3
              have HC2 := Lib.hid (show cntV E1 (k + 1) = p by rw [← HCP.out]; exact cntV_none hl)
              clear hl hz
              go_wp2
              exact ⟨⟨k + 1, p, by omega, HC2.out, rfl, by go_num, M7.out⟩, by simp [intOf]; omega⟩
            | some v =>
              have hz3 : hasV E1 k = .bool true := by unfold hasV; rw [hl]; rfl
              have hz1 : balV E1 k = .int .u64 (v.bal : Int) := by unfold balV; rw [hl]
              have hz2 : strV E1 k = .string (strOf v.val) := by unfold strV; rw [hl]
              rw [hz1] at hr1
              rw [hz2] at hr2
              rw [hz3] at hr3
              obtain ⟨hv1, hv2⟩ := cntV_some HRISE.out hl
              obtain ⟨hva, hvs⟩ := lookV_some hl
              obtain ⟨s, d, vv⟩ := v
              simp only at hvs hr1 hr2 hv1
              subst hvs
              rw [HCP.out] at hv1 hv2
              have hpm : p < m := by rw [← HM.out]; exact (List.getElem?_eq_some_iff.1 hv1).1
              obtain ⟨q, hq⟩ : ∃ q, L6[p]? = some q := ⟨_, List.getElem?_eq_getElem (by rw [HLL.out]; exact hpm)⟩
              have hqp : q.plain = ⟨s, d, vv⟩ := by
                rw [← L6'.out, List.getElem?_map, hq] at hv1
                simpa using hv1
              obtain ⟨b2, o2, hA6, hb2, e0, e1, e2⟩ := (V6.out.nil M7.out).cells hq
              have hby := ((V6.out.nil M7.out).bys q (List.mem_of_getElem? hq)).1
              obtain ⟨qs, qb, B, cb, qv⟩ := q
              simp only [VtP.plain, PVt.mk.injEq] at hqp
              obtain ⟨rfl, rfl, rfl⟩ := hqp
              simp only at e0 e1 e2 hby
              subst hA6
              obtain ⟨ql, hql⟩ : ∃ ql, qv.length = ql := ⟨_, rfl⟩
              rw [hql] at e2
              have hcv : ∀ j, (convert 30 9 (.slice B ql cb)).run Try.prog (wr.drewN j) = .ok (.string (strOf qv)) (wr.drewN j) := fun j => conv13 hql (hby.drewN j)
              have hpmI : decide ((m : Int) ≤ (p : Int)) = false := by simp; omega
              have hpmN : decide (m ≤ p) = false := by simp; omega
              have hpmL : (p : Int) < (m : Int) := by omega
              have k5 : IntKind.u64.wrap (qs : Int) = (qs : Int) := by rw [IntKind.wrap_u64]; omega
              have hst := strOf_toList qv
              have HV2 := Lib.hid hv2
              clear hl hz1 hz2 hz3 hv1 hv2 hva hq hby hpm hql
              go_wp2
              go_quiet (fail)
              go_wp2
              exact ⟨⟨qs + 1, p + 1, by omega, HV2.out, by go_num, by go_num, M7.out.drewN _⟩, by simp [intOf]; omega⟩
          · obtain rfl : k = 8 := by omega
            have hpm : p = m := by rw [← HCP.out, ← HM.out]; exact cntV_all HVS.out
            subst hpm
            go_wp2
            go_ret
            exact ⟨rfl, M1.out.trans (M6.out.trans M7.out)⟩
      · have hltI : decide ((i : Int) < (n : Int)) = false := by simp; omega
        have hltN : decide (i < n) = false := by simp; omega
        clear hgo hlt
        have hpr : a.prepE top = 0 ∧ a.told top 0 = a.L ∧ a.prepare top = a := by
          unfold PAc.prepE PAc.told PAc.prepare
          have h := HP.out.prom
          rw [if_neg (by omega), if_neg (by omega), if_neg (by omega), fromV_zero]
          refine ⟨rfl, rfl, ?_⟩
          cases a
          simp at h ⊢
          exact h.symm
        obtain ⟨E1, hE1⟩ : ∃ E1, a.L = E1 := ⟨_, rfl⟩
        obtain ⟨m, hm⟩ : ∃ m, E1.length = m := ⟨_, rfl⟩
        have HM := Lib.hid hm
        have HRISE := Lib.hid HSA.out.rise
        have HVS := Lib.hid HP.out.vs
        have hm40 : m ≤ 40 := by have h2 := HSA.out.len; rw [hE1, hm] at h2; omega
        have hT := HP.out.top64
        have HPREP : Hid (Calls Try.prog 11 #[.pointer (some ⟨b, 0, none⟩), .int .u64 (top : Int), .int .u64 0] wr fun e W' => ∃ A c L, e = .returned (.tuple #[.slice A m c, .int .i64 0]) ∧ L.map VtP.plain = E1 ∧ PVs W' (XN (fun _ => False) wr W') A c m L ∧ KR W' g1 (g1 + 1) (g1 + 2) E1 ∧ Mods Nil W0 W') := Lib.hid ((HSA.out.prep (bal := top) (f := 0) (by omega) hT (by omega)).mono fun e W' ⟨A, c, n, L, h1, h2, h3, h4, h5⟩ => by
          rw [hpr.1] at h1
          rw [hpr.2.1, hE1] at h2
          obtain rfl : n = m := by rw [← h3.len, ← hm, ← h2]; simp
          rw [← hE1]
          exact ⟨A, c, L, h1, by rw [h2, hE1], h3.sub (fun k hk => .inr hk), HKR.out.mods h5 (fun hk => hk.2 ((HX.out _).2 (.inl rfl))) (fun hk => hk.2 ((HX.out _).2 (.inr (.inl rfl)))) (fun hk => hk.2 ((HX.out _).2 (.inr (.inr rfl)))), HSA.out.am h5⟩)
        rw [hE1] at HRISE HVS
        clear hpr hE1 hm hT
        go_wp2_with (go_at_call 11; refine (HPREP.out).mono ?_; rintro e w6 ⟨A6, c6, L6, rfl, l6, v6, k6, m6⟩; have L6' := Lib.hid l6; have V6 := Lib.hid v6; have K6 := Lib.hid k6; have M6 := Lib.hid m6; clear l6 v6 k6 m6)
        have HLL := Lib.hid (show L6.length = m by have := congrArg List.length L6'.out; rw [List.length_map, HM.out] at this; exact this)
        go_loopw [17, 18] (fun x y wr' => ∃ (k p : Nat), k ≤ 8 ∧ cntV E1 k = p ∧ x = .int .i64 (p : Int) ∧ y = .int .i64 (k : Int) ∧ Mods Nil w6 wr') (fun _ y _ => 8 - (intOf y).toNat)
        case atStart => exact ⟨0, 0, by omega, cntV_zero _, rfl, rfl, Mods.refl _ _⟩
        case round =>
          obtain ⟨k, p, hk2, hcp, rfl, rfl, hm7⟩ := hrel
          have HCP := Lib.hid hcp
          have M7 := Lib.hid hm7
          clear hcp hm7
          by_cases h8 : k < 8
          · have h8I : (k : Int) < 8 := by omega
            have k7 := K6.out.nil M7.out
            have hr1 := k7.b.rowcell h8
            have hr2 := k7.s.rowcell h8
            have hr3 := k7.h.rowcell h8
            clear k7
            cases hl : lookV E1 k with
            | none =>
              have hz : hasV E1 k = .bool false := by unfold hasV; rw [hl]; rfl
              rw [hz] at hr3
              have HC2 := Lib.hid (show cntV E1 (k + 1) = p by rw [← HCP.out]; exact cntV_none hl)
              clear hl hz
              go_wp2
              exact ⟨⟨k + 1, p, by omega, HC2.out, rfl, by go_num, M7.out⟩, by simp [intOf]; omega⟩
            | some v =>
              have hz3 : hasV E1 k = .bool true := by unfold hasV; rw [hl]; rfl
              have hz1 : balV E1 k = .int .u64 (v.bal : Int) := by unfold balV; rw [hl]
              have hz2 : strV E1 k = .string (strOf v.val) := by unfold strV; rw [hl]
              rw [hz1] at hr1
              rw [hz2] at hr2
              rw [hz3] at hr3
              obtain ⟨hv1, hv2⟩ := cntV_some HRISE.out hl
              obtain ⟨hva, hvs⟩ := lookV_some hl
              obtain ⟨s, d, vv⟩ := v
              simp only at hvs hr1 hr2 hv1
              subst hvs
              rw [HCP.out] at hv1 hv2
              have hpm : p < m := by rw [← HM.out]; exact (List.getElem?_eq_some_iff.1 hv1).1
              obtain ⟨q, hq⟩ : ∃ q, L6[p]? = some q := ⟨_, List.getElem?_eq_getElem (by rw [HLL.out]; exact hpm)⟩
              have hqp : q.plain = ⟨s, d, vv⟩ := by
                rw [← L6'.out, List.getElem?_map, hq] at hv1
                simpa using hv1
              obtain ⟨b2, o2, hA6, hb2, e0, e1, e2⟩ := (V6.out.nil M7.out).cells hq
              have hby := ((V6.out.nil M7.out).bys q (List.mem_of_getElem? hq)).1
              obtain ⟨qs, qb, B, cb, qv⟩ := q
              simp only [VtP.plain, PVt.mk.injEq] at hqp
              obtain ⟨rfl, rfl, rfl⟩ := hqp
              simp only at e0 e1 e2 hby
              subst hA6
              obtain ⟨ql, hql⟩ : ∃ ql, qv.length = ql := ⟨_, rfl⟩
              rw [hql] at e2
              have hcv : ∀ j, (convert 30 9 (.slice B ql cb)).run Try.prog (wr.drewN j) = .ok (.string (strOf qv)) (wr.drewN j) := fun j => conv13 hql (hby.drewN j)
              have hpmI : decide ((m : Int) ≤ (p : Int)) = false := by simp; omega
              have hpmN : decide (m ≤ p) = false := by simp; omega
              have hpmL : (p : Int) < (m : Int) := by omega
              have k5 : IntKind.u64.wrap (qs : Int) = (qs : Int) := by rw [IntKind.wrap_u64]; omega
              have hst := strOf_toList qv
              have HV2 := Lib.hid hv2
              clear hl hz1 hz2 hz3 hv1 hv2 hva hq hby hpm hql
              go_wp2
              go_quiet (fail)
              go_wp2
              exact ⟨⟨qs + 1, p + 1, by omega, HV2.out, by go_num, by go_num, M7.out.drewN _⟩, by simp [intOf]; omega⟩
          · obtain rfl : k = 8 := by omega
            have hpm : p = m := by rw [← HCP.out, ← HM.out]; exact cntV_all HVS.out
            subst hpm
            go_wp2
            go_ret
            exact ⟨rfl, M1.out.trans (M6.out.trans M7.out)⟩
end Go.Proofs.Ythkejoabppocoaa
