/- Package nums: the writer. -/
import Derived.Test.YtncmmiecfkfcgaaNums5
namespace Go.Proofs.Ytncmmiecfkfcgaa
open Go.RowKit

/-- A writer in block g, what it has put in the row v of the call's own. -/
structure IsWriter (w : World) (base g : Nat) (v : Value) (out : List UInt8) : Prop where
  blk : Blk w g 83 #[v]
  own : w.ownsRow base 5 1 v out.length (bts out)
  le : base ≤ g

/-- What a writer's call may change: its own block, and its row, which may move to a new block. -/
structure Wrote (w w' : World) (g : Nat) (v v' : Value) : Prop where
  mods : Mods (fun k => k = g ∨ v.ownBlock = some k) w w'
  moved : ∀ k, v'.ownBlock = some k → v.ownBlock = some k ∨ w.heap.size ≤ k

theorem Wrote.refl (w : World) (g : Nat) (v : Value) : Wrote w w g v v := ⟨Mods.refl _ _, fun _ h => .inl h⟩
theorem Wrote.trans {w w1 w2 : World} {g : Nat} {v v1 v2 : Value} (h : Wrote w w1 g v v1) (k : Wrote w1 w2 g v1 v2) : Wrote w w2 g v v2 := by
  refine ⟨h.mods.trans2 k.mods (fun i hi hs => ?_), fun q hq => ?_⟩
  · rcases hs with hs | hs
    · exact .inl hs
    · rcases h.moved i hs with h1 | h1
      · exact .inr h1
      · omega
  · rcases k.moved q hq with h1 | h1
    · exact h.moved q h1
    · exact .inr (Nat.le_trans h.mods.size h1)
theorem Wrote.below {w w' : World} {g B base : Nat} {v v' : Value} {out : List UInt8} (h : Wrote w w' g v v') (hw : IsWriter w base g v out) (hB : B ≤ base) : Below B w w' :=
  h.mods.below (fun k hk => by
    rcases hk with rfl | hk
    · exact Nat.le_trans hB hw.le
    · exact Nat.le_trans hB (hw.own.lt k hk).1) (by have := hw.blk.lt; have := hw.le; omega)
theorem IsWriter.mods {S : Nat → Prop} {w w' : World} {base g : Nat} {v : Value} {out : List UInt8} (h : IsWriter w base g v out) (hm : Mods S w w') (hg : ¬ S g) (hv : ∀ k, v.ownBlock = some k → ¬ S k) : IsWriter w' base g v out :=
  ⟨h.blk.mods hm hg, own_mods h.own hm hv, h.le⟩

theorem IsWriter.apart {w w' : World} {base g : Nat} {v : Value} {out : List UInt8} {A : Option Addr} {c : Nat} {xs : List Value} (hw : IsWriter w' base g v out) (hb : w.heap.size ≤ base) (h : Sl w A c xs) : xs ≠ [] → ∀ a, A = some a → a.block ≠ g ∧ v.ownBlock ≠ some a.block := by
  intro hx a ha
  have h1 := h.old hx a ha
  have h2 := hw.le
  exact ⟨by omega, fun h3 => by have := (hw.own.lt _ h3).1; omega⟩
theorem writer_store {w w1 : World} {base g : Nat} {v v' : Value} {out ys : List UInt8} (h : IsWriter w base g v out) {n : Nat} (hn : n = (out ++ ys).length)
    (hown : w1.ownsRow base 5 1 v' n (bts out ++ bts ys)) (hg : w.grownBy w1 v.ownBlock) (hmv : ∀ k, v'.ownBlock = some k → v.ownBlock = some k ∨ w.heap.size ≤ k) :
    IsWriter (w1.setCell ⟨g, 0, none⟩ v') base g v' (out ++ ys) ∧ Wrote w (w1.setCell ⟨g, 0, none⟩ v') g v v' := by
  subst hn
  have hne := own_blk_ne h.own h.blk (by decide)
  have hb1 : Blk w1 g _ _ := h.blk.grown hg (fun e => hne e.symm)
  have hne1 := own_blk_ne hown hb1 (by decide)
  have hb2 := hb1.set_ 0 v'
  refine ⟨⟨by simpa using hb2, ?_, h.le⟩, ?_, hmv⟩
  · rw [bts_append]
    exact own_mods hown ((Mods.refl (· = g) _).setCell (fun _ => rfl) _) (fun k hk e => hne1 (by rw [hk, e]))
  · exact Mods.setCell (S := fun k => k = g ∨ v.ownBlock = some k) ((Mods.refl _ _).grown hg (fun k hk _ => .inr hk)) (fun _ => .inl rfl) _

theorem newWriter_any (w : World) :
    Calls Try.prog 21 #[] w fun e w' => e = .returned (.pointer (some ⟨w.heap.size, 0, none⟩)) ∧ IsWriter w' w.heap.size w.heap.size (.slice none 0 0) [] ∧ Mods Nil w w' := by
  go_enter Try.func21, Try.ntmps21
  go_wp2
  go_ret
  exact ⟨rfl, ⟨Blk.new _ _ _, World.ownsRow_nil _ _ _ _, Nat.le_refl _⟩, (Mods.refl _ _).alloc _⟩

theorem wraw_any {w : World} {base g : Nat} {v : Value} {out ys : List UInt8} {A : Option Addr} {c n : Nat} (hn : ys.length = n) (hlim : out.length + ys.length ≤ 140737488355328) (h : IsWriter w base g v out) (hs : Sl w A c (bts ys)) :
    Calls Try.prog 23 #[.pointer (some ⟨g, 0, none⟩), .slice A n c] w fun e w' => e = .returned (.tuple #[]) ∧ ∃ v', IsWriter w' base g v' (out ++ ys) ∧ Wrote w w' g v v' := by
  subst hn
  obtain ⟨i0, hi, hz0, hz1, hz2⟩ := info_parts infoByte
  have hc := h.blk.cell 0
  have hf := h.blk.frozen 0
  simp at hc
  have hbase : base ≤ w.heap.size := by have := h.blk.lt; have := h.le; omega
  have hne := own_blk_ne h.own h.blk (by decide)
  have hnb : ∀ w1, w.grownBy w1 v.ownBlock → w1.cell? ⟨g, 0, none⟩ = some v ∧ w1.frozen? ⟨g, 0, none⟩ = false := fun w1 hg => by
    have hb1 : Blk w1 g _ _ := h.blk.grown hg (fun e => hne e.symm)
    exact ⟨by simpa using hb1.cell 0, hb1.frozen 0⟩
  have HN := Lib.hid hnb
  have HO := Lib.hid h.own
  have HS := Lib.hid hs
  have H := Lib.hid h
  clear hs h hnb hne
  go_enter Try.func23, Try.ntmps23
  go_wp2_with (first | (at_builtin; refine wpList_append_sl _ rfl _ _ 22 rfl base 5 i0 (.int .u8 0) 1 Try.underlying22 hi hz0 hz1 hz2 rfl v out.length (bts out) rfl HO.out A ys.length c (bts ys) rfl (by simp) HS.out (bts_one _) (by omega) (by unfold maxLen; omega) hbase ?_; intro v' w1 hown hgrow hblk; have hx := HN.out w1 hgrow; obtain ⟨hx1, hx2⟩ := hx; obtain ⟨A1, c1, rfl, e1, hs1, ha1⟩ := own_slice hown; have HST := Lib.hid (writer_store H.out (by simp) hown hgrow hblk); clear hown hgrow hblk hs1 ha1 e1))
  go_end0
  exact ⟨rfl, _, HST.out⟩

theorem wraw_nil (w : World) (A : Option Addr) (n c : Nat) : Calls Try.prog 23 #[.pointer none, .slice A n c] w fun e w' => e = .returned (.tuple #[]) ∧ w = w' := by
  go_enter Try.func23, Try.ntmps23
  go_wp2
  refine bodyPost_ret (results_none rfl _ _ _) rfl ?_
  exact ⟨rfl, rfl⟩

theorem out_any {w : World} {base g : Nat} {v : Value} {out : List UInt8} {n : Nat} (hn : out.length = n) (hlim : out.length ≤ 140737488355328) (h : IsWriter w base g v out) :
    Calls Try.prog 25 #[.pointer (some ⟨g, 0, none⟩)] w fun e w' => ∃ A c, e = .returned (.slice A n c) ∧ Sl w' A c (bts out) ∧ (∀ a, A = some a → w.heap.size ≤ a.block ∧ a.block < w'.heap.size) ∧ Mods Nil w w' := by
  subst hn
  obtain ⟨i0, hi, hz0, hz1, hz2⟩ := info_parts infoByte
  have hc := h.blk.cell 0
  have hf := h.blk.frozen 0
  simp at hc
  obtain ⟨A0, c0, rfl, e1, hs, ha⟩ := own_slice h.own
  have HS := Lib.hid hs
  clear hs h ha e1
  go_enter Try.func25, Try.ntmps25
  go_wp2_with (first | (at_builtin; refine wpList_append_sl _ rfl _ _ 22 rfl w.heap.size 5 i0 (.int .u8 0) 1 Try.underlying22 hi hz0 hz1 hz2 rfl (.slice none 0 0) 0 [] rfl (World.ownsRow_nil w _ _ _) A0 out.length c0 (bts out) rfl (by simp) HS.out (bts_one _) (by omega) (by unfold maxLen; omega) (Nat.le_refl _) ?_; intro v' w1 hown hgrow hblk; simp only [Nat.zero_add, List.nil_append] at hown; obtain ⟨A1, c1, rfl, e1, hs1, ha1⟩ := own_slice hown; have HLT : Hid (∀ a, A1 = some a → w.heap.size ≤ a.block ∧ a.block < w1.heap.size) := fun a ha => ⟨(ha1 a ha).2, (hown.lt _ (ha1 a ha).1).2⟩; have HS1 := Lib.hid hs1; have HG := Lib.hid hgrow; clear hown hs1 ha1 hgrow hblk e1))
  go_ret
  exact ⟨A1, c1, by simp, HS1.out, HLT.out, (Mods.refl _ _).grown HG.out (fun k hk => by simp [Value.ownBlock] at hk)⟩

theorem out_nil (w : World) : Calls Try.prog 25 #[.pointer none] w fun e w' => e = .returned (.slice none 0 0) ∧ w = w' := by
  go_enter Try.func25, Try.ntmps25
  go_wp2
  go_ret
  exact ⟨rfl, rfl⟩

def putU (x : Nat) : List UInt8 := UInt8.ofNat (digs x).length :: digs x

theorem wuint_nil (w : World) (x : Int) : Calls Try.prog 22 #[.pointer none, .int .u64 x] w fun e w' => e = .returned (.tuple #[]) ∧ w = w' := by
  go_enter Try.func22, Try.ntmps22
  go_wp2
  refine bodyPost_ret (results_none rfl _ _ _) rfl ?_
  exact ⟨rfl, rfl⟩

theorem IsWriter.alloc {w : World} {base g : Nat} {v : Value} {out : List UInt8} (h : IsWriter w base g v out) (o : Obj) : IsWriter (w.alloc o) base g v out :=
  h.mods (S := Nil) ((Mods.refl _ _).alloc o) (fun h => h) (fun _ _ h => h)

theorem writer_one {w w1 : World} {base g : Nat} {v v' : Value} {out : List UInt8} (o : Obj) (y : UInt8) (z : Int) (hz : z = (y.toNat : Int)) (h : IsWriter w base g v out) {n : Nat} (hn : n = out.length + 1)
    (hown : w1.ownsRow base 5 1 v' n (bts out ++ [.int .u8 z])) (hg : (w.alloc o).grownBy w1 v.ownBlock) (hmv : ∀ k, v'.ownBlock = some k → v.ownBlock = some k ∨ (w.alloc o).heap.size ≤ k) :
    IsWriter (w1.setCell ⟨g, 0, none⟩ v') base g v' (out ++ [y]) ∧ Wrote w (w1.setCell ⟨g, 0, none⟩ v') g v v' := by
  subst hz
  obtain ⟨h1, h2⟩ := writer_store (ys := [y]) (h.alloc o) (n := n) (by simp [hn]) hown hg hmv
  refine ⟨h1, Wrote.trans (v1 := v) ⟨(Mods.refl _ _).alloc o, fun _ hk => .inl hk⟩ h2⟩

theorem pow_place : ∀ (k x : Nat), x < 256 ^ k → ∃ j, j ≤ k ∧ x < 256 ^ j ∧ (j ≠ 0 → 256 ^ (j - 1) ≤ x) := by
  intro k
  induction k with
  | zero => intro x h; exact ⟨0, Nat.le_refl _, h, fun h => absurd rfl h⟩
  | succ k ih =>
    intro x h
    by_cases hx : x < 256 ^ k
    · obtain ⟨j, h1, h2, h3⟩ := ih x hx
      exact ⟨j, by omega, h2, h3⟩
    · exact ⟨k + 1, Nat.le_refl _, h, fun _ => by simpa using Nat.le_of_not_lt hx⟩
theorem own_cell {w : World} {g : Nat} {t : TypeId} {v : Value} (h : Blk w g t #[v]) : w.cell? ⟨g, 0, none⟩ = some v := by simpa using h.cell 0
theorem one_oneCell (z : Int) (k : IntKind) : ∀ u ∈ [Value.int k z], u.oneCell' = true := by
  intro u hu
  simp at hu
  subst hu
  rfl

set_option maxHeartbeats 400000 in
theorem wuint_any {w : World} {base g : Nat} {v : Value} {out : List UInt8} (x : Nat) (hx : x < 18446744073709551616) (hlim : out.length + 9 ≤ 140737488355328) (h : IsWriter w base g v out) :
    Calls Try.prog 22 #[.pointer (some ⟨g, 0, none⟩), .int .u64 x] w fun e w' => e = .returned (.tuple #[]) ∧ ∃ v', IsWriter w' base g v' (out ++ putU x) ∧ Wrote w w' g v v' := by
  obtain ⟨i0, hi, hz0, hz1, hz2⟩ := info_parts infoByte
  have hlen := pow_place 8 x (by have : (256 : Nat) ^ 8 = 18446744073709551616 := rfl; omega)
  obtain ⟨n, hn8, hn1, hn2⟩ := hlen
  have hln := digs_len n x hn1 hn2
  have hW := fun w => width_any x hx w
  rw [hln] at hW
  have HW := Lib.hid hW
  have HD := Lib.hid (digs_get n x hn1 hn2)
  have HL := Lib.hid hln
  have hbase : base ≤ w.heap.size := by have := h.blk.lt; have := h.le; omega
  have hgs : g < w.heap.size := h.blk.lt
  have hc := h.blk.cell 0
  have hf := h.blk.frozen 0
  simp at hc
  obtain ⟨A0, c0, hv0, e0, hs0, ha0⟩ := own_slice h.own
  subst hv0
  have hca : ∀ o, (w.alloc o).cell? ⟨g, 0, none⟩ = some (.slice A0 out.length c0) := fun o => by simpa using (h.alloc o).blk.cell 0
  have hne := own_blk_ne h.own h.blk (by decide)
  have hnb : ∀ o w1, (w.alloc o).grownBy w1 (Value.slice A0 out.length c0).ownBlock → w1.cell? ⟨g, 0, none⟩ = some (.slice A0 out.length c0) ∧ w1.frozen? ⟨g, 0, none⟩ = false := fun o w1 hg => by
    have hb1 : Blk w1 g _ _ := (h.alloc o).blk.grown hg (fun e => hne e.symm)
    exact ⟨by simpa using hb1.cell 0, hb1.frozen 0⟩
  have HN := Lib.hid hnb
  have HO := Lib.hid h.own
  have H := Lib.hid h
  clear h hnb hne hW hs0 ha0 e0 hca hln hn1 hn2 hx
  have hnI : (n : Int) ≤ 8 := by omega
  have hn0 : (0 : Int) ≤ (n : Int) := by omega
  go_enter Try.func22, Try.ntmps22
  go_wp2_with (first | (go_at_call 36; refine (HW.out _).mono ?_; rintro e w' ⟨rfl, rfl⟩) | (at_builtin; refine wpList_append_sl _ rfl (.tmp 14) (.tmp 17) 22 rfl base 5 i0 (.int .u8 0) 1 Try.underlying22 hi hz0 hz1 hz2 rfl (.slice A0 out.length c0) out.length (bts out) rfl (HO.out.alloc _) (some ⟨w.heap.size, 0, none⟩) 1 1 [.int .u8 (n : Int)] rfl rfl (one_sl _ _ _) (one_oneCell _ _) (by omega) (by unfold maxLen; omega) (by simp; omega) ?_; intro v' w1 hown hgrow hblk; obtain ⟨A1, c1, rfl, e1, hs1, ha1⟩ := own_slice hown; obtain ⟨hx1, hx2⟩ := HN.out _ w1 hgrow; have HST := Lib.hid (writer_one _ (UInt8.ofNat n) (n : Int) (ofNat_toNat n (by omega)).symm H.out rfl hown hgrow hblk); clear hown hgrow hblk hs1 ha1 e1))
  go_loopw [5] (fun s wr => ∃ (m : Nat) (q : Int) (v1 : Value), m ≤ n ∧ q = 8 * (m : Int) - 8 ∧ s = .int .i64 q ∧ IsWriter wr base g v1 (out ++ (UInt8.ofNat n :: (digs x).take (n - m))) ∧ Wrote w wr g (.slice A0 out.length c0) v1) (fun s _ => (intOf s + 8).toNat)
  case atStart => exact ⟨n, _, _, Nat.le_refl _, by omega, rfl, by simpa using HST.out.1, HST.out.2⟩
  case round =>
    obtain ⟨m, q, v1, hm, hq, rfl, hw1, hwr⟩ := hrel
    clear hc hf hx1 hx2 hgs
    by_cases h0 : m = 0
    · subst h0
      obtain rfl : q = -8 := by omega
      have hfin : UInt8.ofNat n :: (digs x).take (n - 0) = putU x := by
        unfold putU
        rw [HL.out, List.take_of_length_le (by rw [HL.out]; omega)]
      rw [hfin] at hw1
      have HW1 := Lib.hid hw1
      have HWR := Lib.hid hwr
      clear hw1 hwr hfin hq
      go_wp2
      refine bodyPost_end (results_none rfl _ _ _) rfl ?_
      exact ⟨rfl, _, HW1.out, HWR.out⟩
    · obtain ⟨p, rfl⟩ : ∃ p, m = p + 1 := ⟨m - 1, by omega⟩
      obtain rfl : q = ((8 * p : Nat) : Int) := by omega
      clear hq h0
      have hs0 : (0 : Int) ≤ ((8 * p : Nat) : Int) := by omega
      have hs1 : ((8 * p : Nat) : Int) < 64 := by omega
      obtain ⟨Y, hY⟩ : ∃ Y, Y = out ++ UInt8.ofNat n :: (digs x).take (n - (p + 1)) := ⟨_, rfl⟩
      have hYl : Y.length ≤ out.length + 8 := by rw [hY]; simp; have := HL.out; omega
      rw [← hY] at hw1
      have HY := Lib.hid hY
      clear hY
      have hgs : g < wr.heap.size := hw1.blk.lt
      have hc := own_cell hw1.blk
      have hf := hw1.blk.frozen 0
      obtain ⟨A3, c3, hv0, e0, hs3, ha3⟩ := own_slice hw1.own
      subst hv0
      have hne := own_blk_ne hw1.own hw1.blk (by decide)
      have hnb : ∀ o w1, (wr.alloc o).grownBy w1 (Value.slice A3 Y.length c3).ownBlock → w1.cell? ⟨g, 0, none⟩ = some (.slice A3 Y.length c3) ∧ w1.frozen? ⟨g, 0, none⟩ = false := fun o w1 hg => by
        have hb1 : Blk w1 g _ _ := (hw1.alloc o).blk.grown hg (fun e => hne e.symm)
        exact ⟨by simpa using hb1.cell 0, hb1.frozen 0⟩
      have HN1 := Lib.hid hnb
      have HO1 := Lib.hid hw1.own
      have HW1 := Lib.hid hw1
      have HWR := Lib.hid hwr
      have hbase1 : base ≤ wr.heap.size := by have := hw1.le; omega
      clear hw1 hwr hnb hne hs3 ha3 e0
      have hYY : Y ++ [UInt8.ofNat (x / 256 ^ p % 256)] = out ++ UInt8.ofNat n :: (digs x).take (n - p) := by
        have hl := HL.out
        have e1 : n - p = n - (p + 1) + 1 := by omega
        have e2 : n - 1 - (n - (p + 1)) = p := by omega
        have hd := HD.out (n - (p + 1)) (by omega)
        rw [e2] at hd
        rw [HY.out, e1, take_snoc' (digs x) (n - (p + 1)) (by omega), hd]
        simp
      have HYY := Lib.hid hYY
      clear hYY
      have HZ := Lib.hid (byte_at x p)
      go_wp2
      go_region_law (refine step_append_sl _ rfl _ _ 22 rfl base 5 i0 (.int .u8 0) 1 Try.underlying22 hi hz0 hz1 hz2 rfl (.slice A3 Y.length c3) Y.length (bts Y) rfl (by exact (HO1.out.alloc _).drew) (some ⟨wr.heap.size, 0, none⟩) 1 1 [.int .u8 (IntKind.u8.wrap ((x : Int) / 2 ^ (8 * (p : Int)).toNat))] rfl rfl (by exact (one_sl wr _ _).drew) (one_oneCell _ _) (by omega) (by unfold maxLen; omega) (by simp; omega) ?_; intro v' w2 hown hgrow hblk; obtain ⟨A4, c4, rfl, e1, hs1, ha1⟩ := own_slice hown; obtain ⟨hx1, hx2⟩ := HN1.out _ w2 (grown_of_drew hgrow); have HST := Lib.hid (writer_one _ _ _ HZ.out HW1.out rfl hown (grown_of_drew hgrow) hblk); clear hown hgrow hblk hs1 ha1 e1)
      all_goals
        go_wp2
        exact ⟨⟨p, 8 * (p : Int) - 8, _, by omega, rfl, rfl, by rw [← HYY.out]; exact HST.out.1, HWR.out.trans HST.out.2⟩, by simp [intOf]; omega⟩

theorem putU_length (x : Nat) (hx : x < 18446744073709551616) : (putU x).length ≤ 9 := by
  obtain ⟨k, h1, h2, h3⟩ := pow_place 8 x (by have : (256 : Nat) ^ 8 = 18446744073709551616 := rfl; omega)
  have := digs_len k x h2 h3
  simp [putU]; omega

def putB (b : List UInt8) : List UInt8 := putU b.length ++ b

end Go.Proofs.Ytncmmiecfkfcgaa
