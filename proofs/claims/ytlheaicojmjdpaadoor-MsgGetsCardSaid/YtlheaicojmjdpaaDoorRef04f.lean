/- The reference of layer 4: Put; keep; Same. -/
import Derived.Test.YtlheaicojmjdpaaDoorRef04A
import Derived.Test.YtlheaicojmjdpaaDoorRefM3
import Derived.Test.YtlheaicojmjdpaaDoorRefM1
namespace Go.Proofs.YtlheaicojmjdpaaDoor
set_option maxRecDepth 100000
open Go.RowKit
set_option linter.unusedVariables false

/-- What the reference puts: a text and an error. -/
theorem rput_bad {w : World} {m : PM} {A : Option Addr} {c : Nat} (ho : m.ok) (hb : chk m = 1) :
    Calls Tryd.prog 16 #[.agg (RC m A c)] w fun e w' => e = .returned (.tuple #[.string (strOf []), .int .i64 1]) ∧ Mods Nil w w' := by
  obtain ⟨c0, c1, c2, c3, c4, c5, c6, c7, c8, c9, c10⟩ := (Blk.new w 36 (RC m A c)).rc
  have HO := Lib.hid ho
  have HC := Lib.hid hb
  clear ho hb
  go_enter Tryd.func16, Tryd.ntmps16
  go_wp2_with (go_at_call 18; refine (rcheck_any (A := A) (c := c) HO.out).mono ?_; rintro e w2 ⟨rfl, m2⟩; rw [HC.out]; have M2 := Lib.hid (((Mods.refl Nil w).alloc _).trans m2); clear m2)
  exact bodyPost_ret (results_tmp2 rfl _ _ _) rfl ⟨rfl, M2.out⟩

set_option maxHeartbeats 8000000 in
theorem rput_any {w : World} {m : PM} {A : Option Addr} {c : Nat} (ho : m.ok) (hg : Good m) (hs : Sl w A c (nums m.vec)) :
    Calls Tryd.prog 16 #[.agg (RC m A c)] w fun e w' => e = .returned (.tuple #[.string (strOf (putOf m)), .int .i64 0]) ∧ Mods Nil w w' := by
  have hB := Blk.new w 36 (RC m A c)
  obtain ⟨c0, c1, c2, c3, c4, c5, c6, c7, c8, c9, c10⟩ := hB.rc
  have HB := Lib.hid hB
  have HO := Lib.hid ho
  have HG := Lib.hid hg
  have HC := Lib.hid (chk_zero.2 hg)
  have HS := Lib.hid (hs.alloc (.cells (RC m A c) 36))
  have hwk : IntKind.u8.wrap m.kind = ((kb m.kind).toNat : Int) := by
    have hk : 1 ≤ m.kind ∧ m.kind ≤ 18 := by simpa [isK] using hg.kind
    rw [kb_kind hg.kind, IntKind.wrap_u8']; omega
  have HPUT : Hid (∀ W', Calls Tryd.prog 10 #[.agg #[.int .u8 (IntKind.u8.wrap m.kind), .string (strOf (bodyOf m))]] W' fun e w' => e = .returned (.tuple #[.string (strOf (putOf m)), .int .i64 0]) ∧ Mods Nil W' w') := fun W' => by
    rw [hwk]
    exact r3put_any W' (kb m.kind) (bodyOf m) (by have := bodyOf_length ho hg; omega)
  clear hB ho hg hs hwk
  go_enter Tryd.func16, Tryd.ntmps16
  go_wp2_with (go_at_call 18; refine (rcheck_any (A := A) (c := c) HO.out).mono ?_; rintro e w2 ⟨rfl, m2⟩; rw [HC.out]; have M2 := Lib.hid (((Mods.refl Nil w).alloc _).trans m2); have B2 := Lib.hid (HB.out.mods m2 (fun h => h)); have S2 := Lib.hid (HS.out.mods m2 (fun _ _ h => h)); clear m2)
  have hcell : ∀ W, Mods Nil w2 W → (W.cell? ⟨w.heap.size, 0, none⟩ = some (.int .i64 m.kind) ∧ W.cell? ⟨w.heap.size, 1, none⟩ = some (.int .u64 m.ballot) ∧ W.cell? ⟨w.heap.size, 2, none⟩ = some (.int .u64 m.slot) ∧
    W.cell? ⟨w.heap.size, 3, none⟩ = some (.int .i64 m.shard) ∧ W.cell? ⟨w.heap.size, 4, none⟩ = some (.int .i64 m.seg) ∧ W.cell? ⟨w.heap.size, 5, none⟩ = some (.int .u64 m.client) ∧
    W.cell? ⟨w.heap.size, 6, none⟩ = some (.int .u64 m.seq) ∧ W.cell? ⟨w.heap.size, 7, none⟩ = some (.int .u64 m.pos) ∧ W.cell? ⟨w.heap.size, 8, none⟩ = some (.int .i64 m.code) ∧
    W.cell? ⟨w.heap.size, 9, none⟩ = some (.slice A m.vec.length c) ∧ W.cell? ⟨w.heap.size, 10, none⟩ = some (.string (strOf m.body))) := fun W h => (B2.out.mods h (fun h => h)).rc
  have k0 := fun W h => (hcell W h).1
  have k1 := fun W h => (hcell W h).2.1
  have k2 := fun W h => (hcell W h).2.2.1
  have k3 := fun W h => (hcell W h).2.2.2.1
  have k4 := fun W h => (hcell W h).2.2.2.2.1
  have k5 := fun W h => (hcell W h).2.2.2.2.2.1
  have k6 := fun W h => (hcell W h).2.2.2.2.2.2.1
  have k7 := fun W h => (hcell W h).2.2.2.2.2.2.2.1
  have k8 := fun W h => (hcell W h).2.2.2.2.2.2.2.2.1
  have k9 := fun W h => (hcell W h).2.2.2.2.2.2.2.2.2.1
  have k10 := fun W h => (hcell W h).2.2.2.2.2.2.2.2.2.2
  clear hcell c0 c1 c2 c3 c4 c5 c6 c7 c8 c9 c10
  go_region_held (fun W => Mods Nil w2 W) (first | exact (Mods.refl Nil w2).drew | assumption) (first
    | (go_at_call 33; refine (rbody_any (m := m) (A := A) (c := c) HO.out HG.out (S2.out.mods (by first | exact (Mods.refl Nil w2).drew | assumption) (fun _ _ h => h))).mono ?_; rintro e w4 ⟨rfl, m4⟩; have hq4 : Mods Nil w2 w4 := Mods.trans (by first | exact (Mods.refl Nil w2).drew | assumption) m4; clear m4)
    | (go_at_call 10; refine (HPUT.out _).mono ?_; rintro e w5 ⟨rfl, m5⟩; have hq5 : Mods Nil w2 w5 := Mods.trans (by first | assumption) m5; clear m5))
  all_goals
    go_wp2
    exact bodyPost_ret (results_tmp2 rfl _ _ _) rfl ⟨rfl, M2.out.trans (by assumption)⟩

theorem rkeep_any (w : World) (B : List UInt8) (E : Int) (s : ByteArray) : Calls Tryd.prog 51 #[refOf B E, .string s] w fun e w' => e = .returned (.tuple #[refOf B E, .string s]) ∧ Mods Nil w w' := by
  unfold refOf
  go_enter Tryd.func51, Tryd.ntmps51
  go_wp2
  exact bodyPost_ret (v := .tuple #[.agg #[.string (strOf B), .int .i64 E], .string s]) (by simp [results, Tryd.results51, go_sem]) rfl ⟨rfl, (((Mods.refl _ _).alloc _).alloc _)⟩
end Go.Proofs.YtlheaicojmjdpaaDoor
