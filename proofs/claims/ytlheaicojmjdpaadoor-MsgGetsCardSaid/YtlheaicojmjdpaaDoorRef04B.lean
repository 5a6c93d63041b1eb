/- Texts laid as one: Ref04g, Ref04h, Ref04i. -/
import Derived.Test.YtlheaicojmjdpaaDoorRef04f
import Derived.Test.YtlheaicojmjdpaaDoorMemX
import Derived.Test.YtlheaicojmjdpaaDoorMsgD
import Derived.Test.YtlheaicojmjdpaaDoorRefM3

section
/- The reference of layer 4: a field is read. -/
namespace Go.Proofs.YtlheaicojmjdpaaDoor
set_option maxRecDepth 100000
open Go.RowKit
set_option linter.unusedVariables false

theorem refOf_info : (Tryd.prog.info? 66).map (·.size) = some 2 := by kernel_rfl

/-- What a field's reading leaves, in the reference. -/
def RTook (w : World) (B : List UInt8) (A : Option Addr) (j : Nat) (t : Int × PM × List UInt8) (e : Ending) (w' : World) : Prop :=
  ∃ m' A' c' B', e = .returned (.tuple #[.agg (RC m' A' c'), refOf B' t.1]) ∧ B'.length ≤ B.length ∧ Mods Nil w w' ∧ (t.1 = 0 → m' = t.2.1 ∧ B' = t.2.2 ∧ Sl w' A' c' (nums m'.vec) ∧ (j ≠ 8 → A' = A) ∧ (∀ a, A' = some a → A' = A ∨ w.heap.size ≤ a.block))

/-- The four boxes of a call. -/
def Four4 (w W : World) (m : PM) (A : Option Addr) (c : Nat) (B : List UInt8) (E : Int) : Prop :=
  Blk W w.heap.size 36 (RC m A c) ∧ Blk W (w.heap.size + 1) 66 #[.string (strOf B), .int .i64 E] ∧ Blk W (w.heap.size + 1 + 1) 36 (RC {} none 0) ∧ Blk W (w.heap.size + 1 + 1 + 1) 66 #[.string ⟨#[]⟩, .int .i64 0] ∧ Mods Nil w W

theorem four_boxes {w W : World} {m : PM} {A : Option Addr} {c : Nat} {B : List UInt8} {E : Int}
    (h : Mods Nil ((((w.alloc (.cells (RC m A c) 36)).alloc (.cells #[.string (strOf B), .int .i64 E] 66)).alloc (.cells (RC {} none 0) 36)).alloc (.cells #[.string ⟨#[]⟩, .int .i64 0] 66)) W) : Four4 w W m A c B E := by
  have h0 := ((((Blk.new w 36 (RC m A c)).alloc (.cells #[.string (strOf B), .int .i64 E] 66)).alloc (.cells (RC {} none 0) 36)).alloc (.cells #[.string ⟨#[]⟩, .int .i64 0] 66)).mods h (fun h => h)
  have h1 := (((Blk.new (w.alloc (.cells (RC m A c) 36)) 66 #[.string (strOf B), .int .i64 E]).alloc (.cells (RC {} none 0) 36)).alloc (.cells #[.string ⟨#[]⟩, .int .i64 0] 66)).mods h (fun h => h)
  have h2 := ((Blk.new ((w.alloc (.cells (RC m A c) 36)).alloc (.cells #[.string (strOf B), .int .i64 E] 66)) 36 (RC {} none 0)).alloc (.cells #[.string ⟨#[]⟩, .int .i64 0] 66)).mods h (fun h => h)
  have h3 := (Blk.new (((w.alloc (.cells (RC m A c) 36)).alloc (.cells #[.string (strOf B), .int .i64 E] 66)).alloc (.cells (RC {} none 0) 36)) 66 #[.string ⟨#[]⟩, .int .i64 0]).mods h (fun h => h)
  simp only [World.size_alloc] at h1 h2 h3
  exact ⟨h0, h1, h2, h3, ((((((Mods.refl Nil w).alloc _).alloc _).alloc _).alloc _).trans h)⟩
theorem Four4.mods {S : Nat → Prop} {w W W' : World} {m : PM} {A : Option Addr} {c : Nat} {B : List UInt8} {E : Int} (h : Four4 w W m A c B E) (hm : Mods S W W') (hS : ∀ k, S k → w.heap.size + 4 ≤ k) : Four4 w W' m A c B E := by
  obtain ⟨h0, h1, h2, h3, h4⟩ := h
  exact ⟨h0.mods hm (fun h => by have := hS _ h; omega), h1.mods hm (fun h => by have := hS _ h; omega), h2.mods hm (fun h => by have := hS _ h; omega), h3.mods hm (fun h => by have := hS _ h; omega), h4.nil_trans hm (fun k h => by have := hS k h; omega)⟩
/-- The reader's box is written. -/
theorem Four4.set_ {w W : World} {m : PM} {A : Option Addr} {c : Nat} {B : List UInt8} {E : Int} (h : Four4 w W m A c B E) (B' : List UInt8) (E' : Int) :
    Four4 w ((W.setCell ⟨w.heap.size + 1, 0, none⟩ (.string (strOf B'))).setCell ⟨w.heap.size + 1, 1, none⟩ (.int .i64 E')) m A c B' E' := by
  obtain ⟨h0, h1, h2, h3, h4⟩ := h
  refine ⟨(h0.far (by dsimp only; omega) _).far (by dsimp only; omega) _, set_one h1 _ _, (h2.far (by dsimp only; omega) _).far (by dsimp only; omega) _, (h3.far (by dsimp only; omega) _).far (by dsimp only; omega) _, (h4.setNew (by simp) _).setNew (by simp) _⟩
theorem Four4.err {w W : World} {m : PM} {A : Option Addr} {c : Nat} {B : List UInt8} {E : Int} (h : Four4 w W m A c B E) (E' : Int) :
    Four4 w (W.setCell ⟨w.heap.size + 1, 1, none⟩ (.int .i64 E')) m A c B E' := by
  obtain ⟨h0, h1, h2, h3, h4⟩ := h
  refine ⟨h0.far (by dsimp only; omega) _, ?_, h2.far (by dsimp only; omega) _, h3.far (by dsimp only; omega) _, h4.setNew (by simp) _⟩
  have := h1.set_ 1 (.int .i64 E')
  simpa using this

theorem Four4.field {w W : World} {m m' : PM} {A A' : Option Addr} {c c' : Nat} {B : List UInt8} {E : Int} (h : Four4 w W m A c B E) (i : Nat) (v : Value) (hm : (RC m A c).setIfInBounds i v = RC m' A' c') :
    Four4 w (W.setCell ⟨w.heap.size, i, none⟩ v) m' A' c' B E := by
  obtain ⟨h0, h1, h2, h3, h4⟩ := h
  refine ⟨?_, h1.far (by dsimp only; omega) _, h2.far (by dsimp only; omega) _, h3.far (by dsimp only; omega) _, h4.setNew (by simp) _⟩
  have := h0.set_ i v
  rwa [hm] at this
theorem took_ret {w W : World} {a' : Act} {g1 g2 j : Nat} {m' : PM} {A A' : Option Addr} {c' : Nat} {B B' : List UInt8} {E' : Int} {t : Int × PM × List UInt8}
    (ea : a'.eval (.tmp 6) = .pointer (some ⟨g1, 0, none⟩)) (eb : a'.eval (.tmp 7) = .pointer (some ⟨g2, 0, none⟩)) (ed : a'.defers = [])
    (bA : Blk W g1 36 (RC m' A' c')) (bB : Blk W g2 66 #[.string (strOf B'), .int .i64 E'])
    (h : RTook w B A j t (.returned (.tuple #[.agg (RC m' A' c'), refOf B' E'])) W) : bodyPost Tryd.prog Tryd.f27 (RTook w B A j t) .ret a' W :=
  bodyPost_ret (results_rows2 rfl a' W ea eb bA bB Tryd.underlying36 rfl Tryd.underlying66 rfl RC_info refOf_info) ed h

set_option maxHeartbeats 4000000 in
theorem rtake_err {w : World} {m : PM} {A : Option Addr} {c : Nat} {B : List UInt8} {j : Nat} {E : Int} (hj : j < 10) (h9 : j ≠ 9) (hB : B.length ≤ 140737488355328) (hE : E ≠ 0) (hr : readUint 0 B = (E, [], 0)) :
    Calls Tryd.prog 27 #[.agg (RC m A c), refOf B 0, .int .u8 ((lt j).toNat : Int)] w (RTook w B A j (E, m, [])) := by
  have hread := fun W => rread_any W B 0 hB
  rw [hr] at hread
  have HRD := Lib.hid hread
  have hx := lt_x j hj h9
  have hb2 : (E != 0) = true := by simp [hE]
  have HE := Lib.hid hE
  unfold refOf
  clear hread hr hE
  go_enter Tryd.func27, Tryd.ntmps27
  go_wp2_with fail
  refine (HRD.out _).mono ?_
  rintro e w2 ⟨B2, rfl, hb2', hl2, m2⟩
  unfold refOf
  have F2 := four_boxes m2
  have F3 := F2.set_ B2 E
  obtain ⟨a0, a1, a2, a3⟩ := F2.2.1.two
  obtain ⟨c0, c1, c2, c3⟩ := F3.2.1.two
  have F := Lib.hid F3
  clear m2 F2 F3 hb2'
  go_wp2_with fail
  refine wp_ret_two (g1 := w.heap.size) (g2 := w.heap.size + 1) (g3 := w.heap.size + 1 + 1) (g4 := w.heap.size + 1 + 1 + 1) rfl (by decide) (by decide) (by decide) (by decide) (by decide) (by decide) (by decide) (by simp) (by simp) rfl rfl rfl rfl F.out.1 F.out.2.1 F.out.2.2.1 F.out.2.2.2.1 (by omega) (by omega) Tryd.underlying36 rfl Tryd.underlying66 rfl RC_info refOf_info (RC_one _ _ _) (by simp [Value.oneCell']) (RC_cells _ _ _) (by simp [Value.cells]) rfl rfl ?_
  intro a' W ea eb ed bA bB mW
  go_wp2_with fail
  exact took_ret (t := (E, m, [])) ea eb ed bA bB ⟨_, _, _, _, rfl, hl2, F.out.2.2.2.2.nil_trans mW (fun k h => by omega), fun h => absurd h HE.out⟩

set_option maxHeartbeats 4000000 in
theorem rtake_body {w : World} {m : PM} {A : Option Addr} {c : Nat} {B : List UInt8} (hB : B.length ≤ 140737488355328) (hs : Sl w A c (nums m.vec)) :
    Calls Tryd.prog 27 #[.agg (RC m A c), refOf B 0, .int .u8 120] w (RTook w B A 9 (takeF 9 m B)) := by
  have hread := fun W => rbytesr_any W B 0 32768 (by omega) hB
  rw [takeF_nine]
  obtain ⟨R, hR⟩ : ∃ R, readBytes 0 B 32768 = R := ⟨_, rfl⟩
  rw [hR] at hread ⊢
  obtain ⟨e1, B1, y1⟩ := R
  have HRD := Lib.hid hread
  have HS := Lib.hid hs
  unfold refOf
  clear hread hR hs
  go_enter Tryd.func27, Tryd.ntmps27
  go_wp2_with fail
  refine (HRD.out _).mono ?_
  rintro e w2 ⟨B2, rfl, hb2, hl2, m2⟩
  have F2 := four_boxes m2
  have HB2 := Lib.hid hb2
  have FF2 := Lib.hid F2
  unfold refOf
  clear m2 hb2 F2
  go_wp2_with fail
  refine (rkeep_any _ B2 e1 (strOf y1)).mono ?_
  rintro e w3 ⟨rfl, m3⟩
  have F3 := FF2.out.mods m3 (fun _ h => h.elim)
  unfold refOf
  have F4 := F3.set_ B2 e1
  have F5 := F4.field 10 (.string (strOf y1)) (show _ = RC { m with body := y1 } A c from rfl)
  obtain ⟨a0, a1, a2, a3⟩ := F3.2.1.two
  obtain ⟨c0, c1, c2, c3⟩ := F4.2.1.two
  have fr := F4.1.frozen 10
  obtain ⟨-, -, -, -, -, -, -, -, -, -, x10⟩ := F4.1.rc
  have F := Lib.hid F5
  clear m3 F3 F4 F5
  go_wp2_with fail
  refine wp_ret_two (g1 := w.heap.size) (g2 := w.heap.size + 1) (g3 := w.heap.size + 1 + 1) (g4 := w.heap.size + 1 + 1 + 1) rfl (by decide) (by decide) (by decide) (by decide) (by decide) (by decide) (by decide) (by simp) (by simp) rfl rfl rfl rfl F.out.1 F.out.2.1 F.out.2.2.1 F.out.2.2.2.1 (by omega) (by omega) Tryd.underlying36 rfl Tryd.underlying66 rfl RC_info refOf_info (RC_one _ _ _) (by simp [Value.oneCell']) (RC_cells _ _ _) (by simp [Value.cells]) rfl rfl ?_
  intro a' W ea eb ed bA bB mW
  go_wp2_with fail
  exact took_ret (t := (e1, { m with body := y1 }, B1)) ea eb ed bA bB ⟨_, _, _, _, rfl, hl2, F.out.2.2.2.2.nil_trans mW (fun k h => by omega), fun h => ⟨rfl, HB2.out h, HS.out.mods (F.out.2.2.2.2.nil_trans mW (fun k h => by omega)) (fun _ _ h => h), fun _ => rfl, fun _ _ => .inl rfl⟩⟩

set_option maxHeartbeats 16000000 in
theorem rtake_num {w : World} {m : PM} {A : Option Addr} {c : Nat} {B B1 : List UInt8} {x : Nat} (hB : B.length ≤ 140737488355328) (hr : readUint 0 B = (0, B1, x)) (hs : Sl w A c (nums m.vec)) :
    ∀ j, j < 8 → x ≤ most j → Calls Tryd.prog 27 #[.agg (RC m A c), refOf B 0, .int .u8 ((lt j).toNat : Int)] w (RTook w B A j (0, setF m j x, B1)) := by
  have hx : ∀ j v, Calls Tryd.prog 27 #[.agg (RC m A c), refOf B 0, .int .u8 v] w (RTook w B A j (0, setF m j x, B1)) → ((lt j).toNat : Int) = v → Calls Tryd.prog 27 #[.agg (RC m A c), refOf B 0, .int .u8 ((lt j).toNat : Int)] w (RTook w B A j (0, setF m j x, B1)) := fun j v h e => by rw [e]; exact h
  have hread := fun W => rread_any W B 0 hB
  have hxl := valOf_lt64 B 0
  rw [hr] at hread hxl
  have HRD := Lib.hid hread
  have HS := Lib.hid hs
  unfold refOf at hx ⊢
  clear hread hs hr
  intro j hj hle
  match j, hj with
  | 0, _ =>
    refine hx _ 98 ?_ rfl
    clear hx hle
    go_enter Tryd.func27, Tryd.ntmps27
    go_wp2_with fail
    refine (HRD.out _).mono ?_
    rintro e w2 ⟨B2, rfl, hb2, hl2, m2⟩
    obtain rfl : B2 = B1 := hb2 rfl
    have F2 := four_boxes m2
    unfold refOf
    have F4 := F2.set_ B2 0
    have F5 := F4.field 1 (.int .u64 (x : Int)) (show _ = RC (setF m 0 x) A c from rfl)
    obtain ⟨a0, a1, a2, a3⟩ := F2.2.1.two
    obtain ⟨c0, c1, c2, c3⟩ := F4.2.1.two
    have fr := F4.1.frozen 1
    obtain ⟨x0, x1, x2, x3, x4, x5, x6, x7, x8, x9, x10⟩ := F4.1.rc
    have F := Lib.hid F5
    clear m2 hb2 F2 F4 F5
    go_wp2_with fail
    refine wp_ret_two (g1 := w.heap.size) (g2 := w.heap.size + 1) (g3 := w.heap.size + 1 + 1) (g4 := w.heap.size + 1 + 1 + 1) rfl (by decide) (by decide) (by decide) (by decide) (by decide) (by decide) (by decide) (by simp) (by simp) rfl rfl rfl rfl F.out.1 F.out.2.1 F.out.2.2.1 F.out.2.2.2.1 (by omega) (by omega) Tryd.underlying36 rfl Tryd.underlying66 rfl RC_info refOf_info (RC_one _ _ _) (by simp [Value.oneCell']) (RC_cells _ _ _) (by simp [Value.cells]) rfl rfl ?_
    intro a' W ea eb ed bA bB mW
    go_wp2_with fail
    exact took_ret (t := (0, setF m 0 x, B2)) ea eb ed bA bB ⟨_, _, _, _, rfl, hl2, F.out.2.2.2.2.nil_trans mW (fun k h => by omega), fun h => ⟨rfl, rfl, HS.out.mods (F.out.2.2.2.2.nil_trans mW (fun k h => by omega)) (fun _ _ h => h), fun _ => rfl, fun _ _ => .inl rfl⟩⟩
  | 1, _ =>
    refine hx _ 115 ?_ rfl
    clear hx hle
    go_enter Tryd.func27, Tryd.ntmps27
    go_wp2_with fail
    refine (HRD.out _).mono ?_
    rintro e w2 ⟨B2, rfl, hb2, hl2, m2⟩
    obtain rfl : B2 = B1 := hb2 rfl
    have F2 := four_boxes m2
    unfold refOf
    have F4 := F2.set_ B2 0
    have F5 := F4.field 2 (.int .u64 (x : Int)) (show _ = RC (setF m 1 x) A c from rfl)
    obtain ⟨a0, a1, a2, a3⟩ := F2.2.1.two
    obtain ⟨c0, c1, c2, c3⟩ := F4.2.1.two
    have fr := F4.1.frozen 2
    obtain ⟨x0, x1, x2, x3, x4, x5, x6, x7, x8, x9, x10⟩ := F4.1.rc
    have F := Lib.hid F5
    clear m2 hb2 F2 F4 F5
    go_wp2_with fail
    refine wp_ret_two (g1 := w.heap.size) (g2 := w.heap.size + 1) (g3 := w.heap.size + 1 + 1) (g4 := w.heap.size + 1 + 1 + 1) rfl (by decide) (by decide) (by decide) (by decide) (by decide) (by decide) (by decide) (by simp) (by simp) rfl rfl rfl rfl F.out.1 F.out.2.1 F.out.2.2.1 F.out.2.2.2.1 (by omega) (by omega) Tryd.underlying36 rfl Tryd.underlying66 rfl RC_info refOf_info (RC_one _ _ _) (by simp [Value.oneCell']) (RC_cells _ _ _) (by simp [Value.cells]) rfl rfl ?_
    intro a' W ea eb ed bA bB mW
    go_wp2_with fail
    exact took_ret (t := (0, setF m 1 x, B2)) ea eb ed bA bB ⟨_, _, _, _, rfl, hl2, F.out.2.2.2.2.nil_trans mW (fun k h => by omega), fun h => ⟨rfl, rfl, HS.out.mods (F.out.2.2.2.2.nil_trans mW (fun k h => by omega)) (fun _ _ h => h), fun _ => rfl, fun _ _ => .inl rfl⟩⟩
  | 2, _ =>
    refine hx _ 104 ?_ rfl
    have h7 : (x : Int) ≤ 7 := by have h : x ≤ 7 := hle; omega
    clear hx hle
    go_enter Tryd.func27, Tryd.ntmps27
    go_wp2_with fail
    refine (HRD.out _).mono ?_
    rintro e w2 ⟨B2, rfl, hb2, hl2, m2⟩
    obtain rfl : B2 = B1 := hb2 rfl
    have F2 := four_boxes m2
    unfold refOf
    have F4 := F2.set_ B2 0
    have F5 := F4.field 3 (.int .i64 (x : Int)) (show _ = RC (setF m 2 x) A c from rfl)
    obtain ⟨a0, a1, a2, a3⟩ := F2.2.1.two
    obtain ⟨c0, c1, c2, c3⟩ := F4.2.1.two
    have fr := F4.1.frozen 3
    obtain ⟨x0, x1, x2, x3, x4, x5, x6, x7, x8, x9, x10⟩ := F4.1.rc
    have F := Lib.hid F5
    clear m2 hb2 F2 F4 F5
    go_wp2_with fail
    refine wp_ret_two (g1 := w.heap.size) (g2 := w.heap.size + 1) (g3 := w.heap.size + 1 + 1) (g4 := w.heap.size + 1 + 1 + 1) rfl (by decide) (by decide) (by decide) (by decide) (by decide) (by decide) (by decide) (by simp) (by simp) rfl rfl rfl rfl F.out.1 F.out.2.1 F.out.2.2.1 F.out.2.2.2.1 (by omega) (by omega) Tryd.underlying36 rfl Tryd.underlying66 rfl RC_info refOf_info (RC_one _ _ _) (by simp [Value.oneCell']) (RC_cells _ _ _) (by simp [Value.cells]) rfl rfl ?_
    intro a' W ea eb ed bA bB mW
    go_wp2_with fail
    exact took_ret (t := (0, setF m 2 x, B2)) ea eb ed bA bB ⟨_, _, _, _, rfl, hl2, F.out.2.2.2.2.nil_trans mW (fun k h => by omega), fun h => ⟨rfl, rfl, HS.out.mods (F.out.2.2.2.2.nil_trans mW (fun k h => by omega)) (fun _ _ h => h), fun _ => rfl, fun _ _ => .inl rfl⟩⟩
  | 3, _ =>
    refine hx _ 103 ?_ rfl
    have h7 : (x : Int) ≤ 3 := by have h : x ≤ 3 := hle; omega
    clear hx hle
    go_enter Tryd.func27, Tryd.ntmps27
    go_wp2_with fail
    refine (HRD.out _).mono ?_
    rintro e w2 ⟨B2, rfl, hb2, hl2, m2⟩
    obtain rfl : B2 = B1 := hb2 rfl
    have F2 := four_boxes m2
    unfold refOf
    have F4 := F2.set_ B2 0
    have F5 := F4.field 4 (.int .i64 (x : Int)) (show _ = RC (setF m 3 x) A c from rfl)
    obtain ⟨a0, a1, a2, a3⟩ := F2.2.1.two
    obtain ⟨c0, c1, c2, c3⟩ := F4.2.1.two
    have fr := F4.1.frozen 4
    obtain ⟨x0, x1, x2, x3, x4, x5, x6, x7, x8, x9, x10⟩ := F4.1.rc
    have F := Lib.hid F5
    clear m2 hb2 F2 F4 F5
    go_wp2_with fail
    refine wp_ret_two (g1 := w.heap.size) (g2 := w.heap.size + 1) (g3 := w.heap.size + 1 + 1) (g4 := w.heap.size + 1 + 1 + 1) rfl (by decide) (by decide) (by decide) (by decide) (by decide) (by decide) (by decide) (by simp) (by simp) rfl rfl rfl rfl F.out.1 F.out.2.1 F.out.2.2.1 F.out.2.2.2.1 (by omega) (by omega) Tryd.underlying36 rfl Tryd.underlying66 rfl RC_info refOf_info (RC_one _ _ _) (by simp [Value.oneCell']) (RC_cells _ _ _) (by simp [Value.cells]) rfl rfl ?_
    intro a' W ea eb ed bA bB mW
    go_wp2_with fail
    exact took_ret (t := (0, setF m 3 x, B2)) ea eb ed bA bB ⟨_, _, _, _, rfl, hl2, F.out.2.2.2.2.nil_trans mW (fun k h => by omega), fun h => ⟨rfl, rfl, HS.out.mods (F.out.2.2.2.2.nil_trans mW (fun k h => by omega)) (fun _ _ h => h), fun _ => rfl, fun _ _ => .inl rfl⟩⟩
  | 4, _ =>
    refine hx _ 99 ?_ rfl
    clear hx hle
    go_enter Tryd.func27, Tryd.ntmps27
    go_wp2_with fail
    refine (HRD.out _).mono ?_
    rintro e w2 ⟨B2, rfl, hb2, hl2, m2⟩
    obtain rfl : B2 = B1 := hb2 rfl
    have F2 := four_boxes m2
    unfold refOf
    have F4 := F2.set_ B2 0
    have F5 := F4.field 5 (.int .u64 (x : Int)) (show _ = RC (setF m 4 x) A c from rfl)
    obtain ⟨a0, a1, a2, a3⟩ := F2.2.1.two
    obtain ⟨c0, c1, c2, c3⟩ := F4.2.1.two
    have fr := F4.1.frozen 5
    obtain ⟨x0, x1, x2, x3, x4, x5, x6, x7, x8, x9, x10⟩ := F4.1.rc
    have F := Lib.hid F5
    clear m2 hb2 F2 F4 F5
    go_wp2_with fail
    refine wp_ret_two (g1 := w.heap.size) (g2 := w.heap.size + 1) (g3 := w.heap.size + 1 + 1) (g4 := w.heap.size + 1 + 1 + 1) rfl (by decide) (by decide) (by decide) (by decide) (by decide) (by decide) (by decide) (by simp) (by simp) rfl rfl rfl rfl F.out.1 F.out.2.1 F.out.2.2.1 F.out.2.2.2.1 (by omega) (by omega) Tryd.underlying36 rfl Tryd.underlying66 rfl RC_info refOf_info (RC_one _ _ _) (by simp [Value.oneCell']) (RC_cells _ _ _) (by simp [Value.cells]) rfl rfl ?_
    intro a' W ea eb ed bA bB mW
    go_wp2_with fail
    exact took_ret (t := (0, setF m 4 x, B2)) ea eb ed bA bB ⟨_, _, _, _, rfl, hl2, F.out.2.2.2.2.nil_trans mW (fun k h => by omega), fun h => ⟨rfl, rfl, HS.out.mods (F.out.2.2.2.2.nil_trans mW (fun k h => by omega)) (fun _ _ h => h), fun _ => rfl, fun _ _ => .inl rfl⟩⟩
  | 5, _ =>
    refine hx _ 113 ?_ rfl
    clear hx hle
    go_enter Tryd.func27, Tryd.ntmps27
    go_wp2_with fail
    refine (HRD.out _).mono ?_
    rintro e w2 ⟨B2, rfl, hb2, hl2, m2⟩
    obtain rfl : B2 = B1 := hb2 rfl
    have F2 := four_boxes m2
    unfold refOf
    have F4 := F2.set_ B2 0
    have F5 := F4.field 6 (.int .u64 (x : Int)) (show _ = RC (setF m 5 x) A c from rfl)
    obtain ⟨a0, a1, a2, a3⟩ := F2.2.1.two
    obtain ⟨c0, c1, c2, c3⟩ := F4.2.1.two
    have fr := F4.1.frozen 6
    obtain ⟨x0, x1, x2, x3, x4, x5, x6, x7, x8, x9, x10⟩ := F4.1.rc
    have F := Lib.hid F5
    clear m2 hb2 F2 F4 F5
    go_wp2_with fail
    refine wp_ret_two (g1 := w.heap.size) (g2 := w.heap.size + 1) (g3 := w.heap.size + 1 + 1) (g4 := w.heap.size + 1 + 1 + 1) rfl (by decide) (by decide) (by decide) (by decide) (by decide) (by decide) (by decide) (by simp) (by simp) rfl rfl rfl rfl F.out.1 F.out.2.1 F.out.2.2.1 F.out.2.2.2.1 (by omega) (by omega) Tryd.underlying36 rfl Tryd.underlying66 rfl RC_info refOf_info (RC_one _ _ _) (by simp [Value.oneCell']) (RC_cells _ _ _) (by simp [Value.cells]) rfl rfl ?_
    intro a' W ea eb ed bA bB mW
    go_wp2_with fail
    exact took_ret (t := (0, setF m 5 x, B2)) ea eb ed bA bB ⟨_, _, _, _, rfl, hl2, F.out.2.2.2.2.nil_trans mW (fun k h => by omega), fun h => ⟨rfl, rfl, HS.out.mods (F.out.2.2.2.2.nil_trans mW (fun k h => by omega)) (fun _ _ h => h), fun _ => rfl, fun _ _ => .inl rfl⟩⟩
  | 6, _ =>
    refine hx _ 112 ?_ rfl
    clear hx hle
    go_enter Tryd.func27, Tryd.ntmps27
    go_wp2_with fail
    refine (HRD.out _).mono ?_
    rintro e w2 ⟨B2, rfl, hb2, hl2, m2⟩
    obtain rfl : B2 = B1 := hb2 rfl
    have F2 := four_boxes m2
    unfold refOf
    have F4 := F2.set_ B2 0
    have F5 := F4.field 7 (.int .u64 (x : Int)) (show _ = RC (setF m 6 x) A c from rfl)
    obtain ⟨a0, a1, a2, a3⟩ := F2.2.1.two
    obtain ⟨c0, c1, c2, c3⟩ := F4.2.1.two
    have fr := F4.1.frozen 7
    obtain ⟨x0, x1, x2, x3, x4, x5, x6, x7, x8, x9, x10⟩ := F4.1.rc
    have F := Lib.hid F5
    clear m2 hb2 F2 F4 F5
    go_wp2_with fail
    refine wp_ret_two (g1 := w.heap.size) (g2 := w.heap.size + 1) (g3 := w.heap.size + 1 + 1) (g4 := w.heap.size + 1 + 1 + 1) rfl (by decide) (by decide) (by decide) (by decide) (by decide) (by decide) (by decide) (by simp) (by simp) rfl rfl rfl rfl F.out.1 F.out.2.1 F.out.2.2.1 F.out.2.2.2.1 (by omega) (by omega) Tryd.underlying36 rfl Tryd.underlying66 rfl RC_info refOf_info (RC_one _ _ _) (by simp [Value.oneCell']) (RC_cells _ _ _) (by simp [Value.cells]) rfl rfl ?_
    intro a' W ea eb ed bA bB mW
    go_wp2_with fail
    exact took_ret (t := (0, setF m 6 x, B2)) ea eb ed bA bB ⟨_, _, _, _, rfl, hl2, F.out.2.2.2.2.nil_trans mW (fun k h => by omega), fun h => ⟨rfl, rfl, HS.out.mods (F.out.2.2.2.2.nil_trans mW (fun k h => by omega)) (fun _ _ h => h), fun _ => rfl, fun _ _ => .inl rfl⟩⟩
  | 7, _ =>
    refine hx _ 100 ?_ rfl
    have h7 : (x : Int) ≤ 255 := by have h : x ≤ 255 := hle; omega
    clear hx hle
    go_enter Tryd.func27, Tryd.ntmps27
    go_wp2_with fail
    refine (HRD.out _).mono ?_
    rintro e w2 ⟨B2, rfl, hb2, hl2, m2⟩
    obtain rfl : B2 = B1 := hb2 rfl
    have F2 := four_boxes m2
    unfold refOf
    have F4 := F2.set_ B2 0
    have F5 := F4.field 8 (.int .i64 (x : Int)) (show _ = RC (setF m 7 x) A c from rfl)
    obtain ⟨a0, a1, a2, a3⟩ := F2.2.1.two
    obtain ⟨c0, c1, c2, c3⟩ := F4.2.1.two
    have fr := F4.1.frozen 8
    obtain ⟨x0, x1, x2, x3, x4, x5, x6, x7, x8, x9, x10⟩ := F4.1.rc
    have F := Lib.hid F5
    clear m2 hb2 F2 F4 F5
    go_wp2_with fail
    refine wp_ret_two (g1 := w.heap.size) (g2 := w.heap.size + 1) (g3 := w.heap.size + 1 + 1) (g4 := w.heap.size + 1 + 1 + 1) rfl (by decide) (by decide) (by decide) (by decide) (by decide) (by decide) (by decide) (by simp) (by simp) rfl rfl rfl rfl F.out.1 F.out.2.1 F.out.2.2.1 F.out.2.2.2.1 (by omega) (by omega) Tryd.underlying36 rfl Tryd.underlying66 rfl RC_info refOf_info (RC_one _ _ _) (by simp [Value.oneCell']) (RC_cells _ _ _) (by simp [Value.cells]) rfl rfl ?_
    intro a' W ea eb ed bA bB mW
    go_wp2_with fail
    exact took_ret (t := (0, setF m 7 x, B2)) ea eb ed bA bB ⟨_, _, _, _, rfl, hl2, F.out.2.2.2.2.nil_trans mW (fun k h => by omega), fun h => ⟨rfl, rfl, HS.out.mods (F.out.2.2.2.2.nil_trans mW (fun k h => by omega)) (fun _ _ h => h), fun _ => rfl, fun _ _ => .inl rfl⟩⟩
end Go.Proofs.YtlheaicojmjdpaaDoor
end

section
/- The reference of layer 4: a number that is too much; rows of numbers. -/
namespace Go.Proofs.YtlheaicojmjdpaaDoor
set_option maxRecDepth 100000
open Go.RowKit
set_option linter.unusedVariables false

set_option maxHeartbeats 16000000 in
theorem rtake_much {w : World} {m : PM} {A : Option Addr} {c : Nat} {B B1 : List UInt8} {x : Nat} (hB : B.length ≤ 140737488355328) (hr : readUint 0 B = (0, B1, x)) :
    ∀ j, j < 9 → most j < x → Calls Tryd.prog 27 #[.agg (RC m A c), refOf B 0, .int .u8 ((lt j).toNat : Int)] w (RTook w B A j (if j = 8 then 13 else 11, m, [])) := by
  have hx : ∀ j v, Calls Tryd.prog 27 #[.agg (RC m A c), refOf B 0, .int .u8 v] w (RTook w B A j (if j = 8 then 13 else 11, m, [])) → ((lt j).toNat : Int) = v → Calls Tryd.prog 27 #[.agg (RC m A c), refOf B 0, .int .u8 ((lt j).toNat : Int)] w (RTook w B A j (if j = 8 then 13 else 11, m, [])) := fun j v h e => by rw [e]; exact h
  have hread := fun W => rread_any W B 0 hB
  have hxl := valOf_lt64 B 0
  rw [hr] at hread hxl
  dsimp only at hxl
  have HRD := Lib.hid hread
  unfold refOf at hx ⊢
  clear hread hr
  intro j hj hle
  have none_ : ∀ j, most j = 18446744073709551615 → most j < x → False := fun j h1 h2 => by omega
  match j, hj with
  | 0, _ => exact (none_ 0 rfl hle).elim
  | 1, _ => exact (none_ 1 rfl hle).elim
  | 4, _ => exact (none_ 4 rfl hle).elim
  | 5, _ => exact (none_ 5 rfl hle).elim
  | 6, _ => exact (none_ 6 rfl hle).elim
  | 2, _ =>
    refine hx _ 104 ?_ rfl
    have h7 : (8 : Int) ≤ (x : Int) := by have h : 7 < x := hle; omega
    clear hx hle none_
    go_enter Tryd.func27, Tryd.ntmps27
    go_wp2_with fail
    refine (HRD.out _).mono ?_
    rintro e w2 ⟨B2, rfl, hb2, hl2, m2⟩
    obtain rfl : B2 = B1 := hb2 rfl
    have F2 := four_boxes m2
    unfold refOf
    have F4 := F2.set_ B2 0
    have F5 := F4.err 11
    obtain ⟨a0, a1, a2, a3⟩ := F2.2.1.two
    obtain ⟨c0, c1, c2, c3⟩ := F4.2.1.two
    obtain ⟨d0, d1, d2, d3⟩ := F5.2.1.two
    have F := Lib.hid F5
    clear m2 hb2 F2 F4 F5
    go_wp2_with fail
    refine wp_ret_two (g1 := w.heap.size) (g2 := w.heap.size + 1) (g3 := w.heap.size + 1 + 1) (g4 := w.heap.size + 1 + 1 + 1) rfl (by decide) (by decide) (by decide) (by decide) (by decide) (by decide) (by decide) (by simp) (by simp) rfl rfl rfl rfl F.out.1 F.out.2.1 F.out.2.2.1 F.out.2.2.2.1 (by omega) (by omega) Tryd.underlying36 rfl Tryd.underlying66 rfl RC_info refOf_info (RC_one _ _ _) (by simp [Value.oneCell']) (RC_cells _ _ _) (by simp [Value.cells]) rfl rfl ?_
    intro a' W ea eb ed bA bB mW
    go_wp2_with fail
    exact took_ret (t := (11, m, [])) ea eb ed bA bB ⟨_, _, _, _, rfl, hl2, F.out.2.2.2.2.nil_trans mW (fun k h => by omega), fun h => absurd h (by simp)⟩
  | 3, _ =>
    refine hx _ 103 ?_ rfl
    have h7 : (4 : Int) ≤ (x : Int) := by have h : 3 < x := hle; omega
    clear hx hle none_
    go_enter Tryd.func27, Tryd.ntmps27
    go_wp2_with fail
    refine (HRD.out _).mono ?_
    rintro e w2 ⟨B2, rfl, hb2, hl2, m2⟩
    obtain rfl : B2 = B1 := hb2 rfl
    have F2 := four_boxes m2
    unfold refOf
    have F4 := F2.set_ B2 0
    have F5 := F4.err 11
    obtain ⟨a0, a1, a2, a3⟩ := F2.2.1.two
    obtain ⟨c0, c1, c2, c3⟩ := F4.2.1.two
    obtain ⟨d0, d1, d2, d3⟩ := F5.2.1.two
    have F := Lib.hid F5
    clear m2 hb2 F2 F4 F5
    go_wp2_with fail
    refine wp_ret_two (g1 := w.heap.size) (g2 := w.heap.size + 1) (g3 := w.heap.size + 1 + 1) (g4 := w.heap.size + 1 + 1 + 1) rfl (by decide) (by decide) (by decide) (by decide) (by decide) (by decide) (by decide) (by simp) (by simp) rfl rfl rfl rfl F.out.1 F.out.2.1 F.out.2.2.1 F.out.2.2.2.1 (by omega) (by omega) Tryd.underlying36 rfl Tryd.underlying66 rfl RC_info refOf_info (RC_one _ _ _) (by simp [Value.oneCell']) (RC_cells _ _ _) (by simp [Value.cells]) rfl rfl ?_
    intro a' W ea eb ed bA bB mW
    go_wp2_with fail
    exact took_ret (t := (11, m, [])) ea eb ed bA bB ⟨_, _, _, _, rfl, hl2, F.out.2.2.2.2.nil_trans mW (fun k h => by omega), fun h => absurd h (by simp)⟩
  | 7, _ =>
    refine hx _ 100 ?_ rfl
    have h7 : (256 : Int) ≤ (x : Int) := by have h : 255 < x := hle; omega
    clear hx hle none_
    go_enter Tryd.func27, Tryd.ntmps27
    go_wp2_with fail
    refine (HRD.out _).mono ?_
    rintro e w2 ⟨B2, rfl, hb2, hl2, m2⟩
    obtain rfl : B2 = B1 := hb2 rfl
    have F2 := four_boxes m2
    unfold refOf
    have F4 := F2.set_ B2 0
    have F5 := F4.err 11
    obtain ⟨a0, a1, a2, a3⟩ := F2.2.1.two
    obtain ⟨c0, c1, c2, c3⟩ := F4.2.1.two
    obtain ⟨d0, d1, d2, d3⟩ := F5.2.1.two
    have F := Lib.hid F5
    clear m2 hb2 F2 F4 F5
    go_wp2_with fail
    refine wp_ret_two (g1 := w.heap.size) (g2 := w.heap.size + 1) (g3 := w.heap.size + 1 + 1) (g4 := w.heap.size + 1 + 1 + 1) rfl (by decide) (by decide) (by decide) (by decide) (by decide) (by decide) (by decide) (by simp) (by simp) rfl rfl rfl rfl F.out.1 F.out.2.1 F.out.2.2.1 F.out.2.2.2.1 (by omega) (by omega) Tryd.underlying36 rfl Tryd.underlying66 rfl RC_info refOf_info (RC_one _ _ _) (by simp [Value.oneCell']) (RC_cells _ _ _) (by simp [Value.cells]) rfl rfl ?_
    intro a' W ea eb ed bA bB mW
    go_wp2_with fail
    exact took_ret (t := (11, m, [])) ea eb ed bA bB ⟨_, _, _, _, rfl, hl2, F.out.2.2.2.2.nil_trans mW (fun k h => by omega), fun h => absurd h (by simp)⟩
  | 8, _ =>
    refine hx _ 118 ?_ rfl
    have h7 : (256 : Int) < (x : Int) := by have h : 256 < x := hle; omega
    clear hx hle none_
    go_enter Tryd.func27, Tryd.ntmps27
    go_wp2_with fail
    refine (HRD.out _).mono ?_
    rintro e w2 ⟨B2, rfl, hb2, hl2, m2⟩
    obtain rfl : B2 = B1 := hb2 rfl
    have F2 := four_boxes m2
    unfold refOf
    have F4 := F2.set_ B2 0
    have F5 := F4.err 13
    obtain ⟨a0, a1, a2, a3⟩ := F2.2.1.two
    obtain ⟨c0, c1, c2, c3⟩ := F4.2.1.two
    obtain ⟨d0, d1, d2, d3⟩ := F5.2.1.two
    have F := Lib.hid F5
    clear m2 hb2 F2 F4 F5
    go_wp2_with fail
    refine wp_ret_two (g1 := w.heap.size) (g2 := w.heap.size + 1) (g3 := w.heap.size + 1 + 1) (g4 := w.heap.size + 1 + 1 + 1) rfl (by decide) (by decide) (by decide) (by decide) (by decide) (by decide) (by decide) (by simp) (by simp) rfl rfl rfl rfl F.out.1 F.out.2.1 F.out.2.2.1 F.out.2.2.2.1 (by omega) (by omega) Tryd.underlying36 rfl Tryd.underlying66 rfl RC_info refOf_info (RC_one _ _ _) (by simp [Value.oneCell']) (RC_cells _ _ _) (by simp [Value.cells]) rfl rfl ?_
    intro a' W ea eb ed bA bB mW
    go_wp2_with fail
    exact took_ret (t := (13, m, [])) ea eb ed bA bB ⟨_, _, _, _, rfl, hl2, F.out.2.2.2.2.nil_trans mW (fun k h => by omega), fun h => absurd h (by simp)⟩

/-- Behind an error it plays no part what is left. -/
theorem rread_on {B ys : List UInt8} {e : Int} (hl : B.length ≤ 140737488355328) (he : e = 0 → B = ys) (W : World) :
    Calls Tryd.prog 49 #[refOf B e] W fun e' w' => ∃ B2, e' = .returned (.tuple #[refOf B2 (readUint e ys).1, .int .u64 ((readUint e ys).2.2 : Nat)]) ∧ ((readUint e ys).1 = 0 → B2 = (readUint e ys).2.1) ∧ B2.length ≤ B.length ∧ Mods Nil W w' := by
  by_cases h0 : e = 0
  · subst h0
    obtain rfl := he rfl
    exact rread_any W B 0 hl
  · have h := rread_any W B e hl
    rw [readUint_errs h0] at h ⊢
    refine h.mono ?_
    rintro e' w' ⟨B2, h1, h2, h3, h4⟩
    exact ⟨B2, h1, fun h => absurd h h0, h3, h4⟩

set_option maxHeartbeats 16000000 in
theorem rtake_vec {w : World} {m : PM} {B B1 : List UInt8} {x : Nat} (hB : B.length ≤ 140737488355328) (hr : readUint 0 B = (0, B1, x)) (hv : m.vec = []) (hx : x ≤ 256) :
    Calls Tryd.prog 27 #[.agg (RC m none 0), refOf B 0, .int .u8 118] w (RTook w B none 8 ((numsSt 0 B1 x).1, { m with vec := (numsSt 0 B1 x).2.2 }, (numsSt 0 B1 x).2.1)) := by
  have hread := fun W => rread_any W B 0 hB
  rw [hr] at hread
  have HRD := Lib.hid hread
  have HV := Lib.hid hv
  have h7 : (x : Int) ≤ 256 := by omega
  obtain ⟨i0, hi, hz0, hz1, hz2⟩ := info_parts infoU64
  unfold refOf
  clear hread hr hv
  go_enter Tryd.func27, Tryd.ntmps27
  go_wp2_with fail
  refine (HRD.out _).mono ?_
  rintro e w2 ⟨B2, rfl, hb2, hl2, m2⟩
  obtain rfl : B2 = B1 := hb2 rfl
  have F2 := four_boxes m2
  unfold refOf
  have F4 := F2.set_ B2 0
  obtain ⟨a0, a1, a2, a3⟩ := F2.2.1.two
  obtain ⟨c0, c1, c2, c3⟩ := F4.2.1.two
  have F := Lib.hid F4
  clear m2 hb2 F2 F4
  go_wp2_with fail
  have hm0 : RC m none 0 = RC { m with vec := (numsSt 0 B2 0).2.2 } none 0 := by simp only [RC, numsSt, HV.out]
  obtain ⟨w0, hw0⟩ : ∃ w0, (w2.setCell ⟨w.heap.size + 1, 0, none⟩ (.string (strOf B2))).setCell ⟨w.heap.size + 1, 1, none⟩ (.int .i64 0) = w0 := ⟨_, rfl⟩
  rw [hw0] at F ⊢
  have hf0 : Four4 w w0 { m with vec := (numsSt 0 B2 0).2.2 } none 0 B2 0 := by
    have := F.out
    unfold Four4 at this ⊢
    rw [hm0] at this
    exact this
  have HF0 := Lib.hid hf0
  clear hw0 c0 c1 c2 c3 a0 a1 a2 a3 hm0 F hf0
  go_loopw [9] (fun i wr => ∃ j : Nat, ∃ A' c' B', j ≤ x ∧ i = .int .u64 (j : Int) ∧ Four4 w wr { m with vec := (numsSt 0 B2 j).2.2 } A' c' B' (numsSt 0 B2 j).1 ∧ ((numsSt 0 B2 j).1 = 0 → B' = (numsSt 0 B2 j).2.1) ∧ B'.length ≤ B.length ∧ wr.ownsRow (w.heap.size + 4) 29 1 (.slice A' j c') j (nums (numsSt 0 B2 j).2.2)) (fun i _ => x - (intOf i).toNat)
  case atStart => exact ⟨0, none, 0, B2, by omega, rfl, HF0.out, fun _ => rfl, hl2, World.ownsRow_nil _ _ _ _⟩
  case round =>
    obtain ⟨j, A', c', B', hj, rfl, hF, hb, hbl, ho⟩ := hrel
    by_cases hlt : j < x
    · have hltI : (j : Int) < (x : Int) := by omega
      have HS : Hid (numsSt 0 B2 (j + 1) = ((readUint (numsSt 0 B2 j).1 (numsSt 0 B2 j).2.1).1, (readUint (numsSt 0 B2 j).1 (numsSt 0 B2 j).2.1).2.1, (numsSt 0 B2 j).2.2 ++ [(readUint (numsSt 0 B2 j).1 (numsSt 0 B2 j).2.1).2.2])) := rfl
      have hll := numsSt_length 0 B2 j
      generalize numsSt 0 B2 j = t at hF hb ho HS hll
      obtain ⟨e1, ys, l1⟩ := t
      dsimp only at hF hb ho HS hll
      have hread := fun W => rread_on (show B'.length ≤ 140737488355328 by omega) hb W
      have HRD1 := Lib.hid hread
      obtain ⟨q, hq⟩ : ∃ q, (readUint e1 ys).2.2 = q := ⟨_, rfl⟩
      obtain ⟨e2, he2⟩ : ∃ e2, (readUint e1 ys).1 = e2 := ⟨_, rfl⟩
      obtain ⟨zs, hzs⟩ : ∃ zs, (readUint e1 ys).2.1 = zs := ⟨_, rfl⟩
      rw [hq, he2, hzs] at HRD1 HS
      obtain ⟨a0, a1, a2, a3⟩ := hF.2.1.two
      have HF := Lib.hid hF
      have HO := Lib.hid ho
      have HL := Lib.hid hll
      clear hread hq he2 hzs hF ho hb hll
      go_wp2_with fail
      refine (HRD1.out _).mono ?_
      rintro e w3 ⟨B3, rfl, hb3, hl3, m3⟩
      have F3 := HF.out.mods m3 (fun _ h => h.elim)
      have O3 := own_mods HO.out m3 (fun _ _ h => h)
      unfold refOf
      have F4 := F3.set_ B3 e2
      obtain ⟨b0, b1, b2, b3⟩ := F3.2.1.two
      have mS : Mods (fun k => k = w.heap.size + 1) w3 ((w3.setCell ⟨w.heap.size + 1, 0, none⟩ (.string (strOf B3))).setCell ⟨w.heap.size + 1, 1, none⟩ (.int .i64 e2)) := Mods.setCell (S := fun k => k = w.heap.size + 1) (Mods.setCell (S := fun k => k = w.heap.size + 1) (Mods.refl _ _) (fun _ => rfl) _) (fun _ => rfl) _
      have O4 := own_mods O3 mS (fun k hk h => by have := (O3.lt k hk).1; omega)
      obtain ⟨x0, x1, x2, x3, x4, x5, x6, x7, x8, x9, x10⟩ := F4.1.rc
      rw [HL.out] at x9
      have FF4 := Lib.hid F4
      have OO4 := Lib.hid O4
      clear m3 F3 O3 F4 O4 mS x0 x1 x2 x3 x4 x5 x6 x7 x8 x10
      go_wp2_with (first
        | (at_builtin; go_loud (refine wpList_append_sl _ rfl _ _ 30 rfl (w.heap.size + 4) 29 i0 (.int .u64 0) 8 Tryd.underlying30 hi hz0 hz1 hz2 rfl (.slice A' j c') j (nums l1) rfl (OO4.out.alloc _) (some ⟨w3.heap.size, 0, none⟩) 1 1 [.int .u64 (q : Int)] rfl rfl (by simpa using one_sl ((w3.setCell ⟨w.heap.size + 1, 0, none⟩ (.string (strOf B3))).setCell ⟨w.heap.size + 1, 1, none⟩ (.int .i64 e2)) (.int .u64 (q : Int)) 29) (one_oneCell _ _) (by omega) (by unfold maxLen; omega) (by have := FF4.out.1.lt; simp only [World.size_alloc, World.size_setCell] at this ⊢; have := FF4.out.2.2.2.1.lt; simp only [World.size_setCell] at this; omega) ?_; intro v5 w5 hown hgrow hblk; rw [← nums_snoc] at hown; obtain ⟨A5, c5, rfl, hl5, s5, b5⟩ := own_slice hown; have mg : Mods (fun k => (Value.slice A' j c').ownBlock = some k) _ w5 := (Mods.refl _ _).grown hgrow (fun q hq _ => hq); have F5 := (FF4.out.mods ((Mods.refl Nil _).alloc _) (fun _ h => h.elim)).mods mg (fun k hk => (HO.out.lt k hk).1); have F6 := F5.field 9 (.slice A5 (j + 1) c5) (show _ = RC { m with vec := l1 ++ [q] } A5 c5 from by simp only [RC, List.length_append, List.length_cons, List.length_nil, HL.out]; rfl); have fr5 := F5.1.frozen 9; obtain ⟨x0, x1, x2, x3, x4, x5, x6, x7, x8, y9, x10⟩ := F5.1.rc; rw [HL.out] at y9; have O6 := Lib.hid (own_mods hown (Mods.setCell (S := fun k => k = w.heap.size) (Mods.refl _ w5) (p := ⟨w.heap.size, 9, none⟩) (fun _ => rfl) (.slice A5 (j + 1) c5)) (fun k hk h => by have := (hown.lt k hk).1; omega)); have FF6 := Lib.hid F6; clear hown hgrow hblk mg F5 F6 hl5 s5 b5 x0 x1 x2 x3 x4 x5 x6 x7 x8 x10)))
      exact ⟨⟨j + 1, A5, c5, B3, by omega, by go_num, by rw [HS.out]; exact FF6.out, by rw [HS.out]; exact hb3, by omega, by rw [HS.out]; exact O6.out⟩, by simp [intOf]; omega⟩
    · obtain rfl : j = x := by omega
      have hll := numsSt_length 0 B2 j
      obtain ⟨t, ht⟩ : ∃ t, numsSt 0 B2 j = t := ⟨_, rfl⟩
      rw [ht] at hF hb ho hll ⊢
      obtain ⟨e1, ys, l1⟩ := t
      have HT := Lib.hid ht
      dsimp only at hF hb ho hll ⊢
      have F := Lib.hid hF
      have HO := Lib.hid ho
      have HBB := Lib.hid hb
      clear ht hF ho hb
      go_wp2_with fail
      refine wp_ret_two (g1 := w.heap.size) (g2 := w.heap.size + 1) (g3 := w.heap.size + 1 + 1) (g4 := w.heap.size + 1 + 1 + 1) rfl (by decide) (by decide) (by decide) (by decide) (by decide) (by decide) (by decide) (by simp) (by simp) rfl rfl rfl rfl F.out.1 F.out.2.1 F.out.2.2.1 F.out.2.2.2.1 (by omega) (by omega) Tryd.underlying36 rfl Tryd.underlying66 rfl RC_info refOf_info (RC_one _ _ _) (by simp [Value.oneCell']) (RC_cells _ _ _) (by simp [Value.cells]) rfl rfl ?_
      intro a' W ea eb ed bA bB mW
      go_wp2_with fail
      rw [HT.out]
      refine took_ret (t := (e1, { m with vec := l1 }, ys)) ea eb ed bA bB ⟨_, _, _, _, rfl, hbl, F.out.2.2.2.2.nil_trans mW (fun k h => by omega), fun h => ⟨rfl, HBB.out h, ?_, fun h => absurd rfl h, fun a ha => .inr ?_⟩⟩
      all_goals
        obtain ⟨A9, c9, hv9, -, s9, b9⟩ := own_slice HO.out
        injection hv9 with q1 q2 q3
        subst q1; subst q3
      · exact s9.mods mW (fun a ha hk => by have := (b9 a ha).2; omega)
      · have := (b9 a ha).2; omega

theorem rtake_any {w : World} {m : PM} {A : Option Addr} {c : Nat} {B : List UInt8} {j : Nat} (hj : j < 10) (hB : B.length ≤ 140737488355328) (hs : Sl w A c (nums m.vec)) (h8 : j = 8 → m.vec = [] ∧ A = none) :
    Calls Tryd.prog 27 #[.agg (RC m A c), refOf B 0, .int .u8 ((lt j).toNat : Int)] w (RTook w B A j (takeF j m B)) := by
  by_cases h9 : j = 9
  · subst h9
    exact rtake_body hB hs
  · obtain ⟨R, hR⟩ : ∃ R, readUint 0 B = R := ⟨_, rfl⟩
    obtain ⟨e, B1, x⟩ := R
    by_cases he : e = 0
    · subst he
      by_cases hm : most j < x
      · rw [takeF_much h9 (by rw [hR]) (by rw [hR]; exact hm)]
        exact rtake_much hB hR j (by omega) hm
      · by_cases hj8 : j = 8
        · subst hj8
          obtain ⟨hv, rfl⟩ := h8 rfl
          obtain rfl : c = 0 := hs.of_nil.1
          have := rtake_vec hB hR hv (w := w) (by have h : ¬ 256 < x := hm; omega)
          have e1 : takeF 8 m B = ((numsSt 0 B1 x).1, { m with vec := (numsSt 0 B1 x).2.2 }, (numsSt 0 B1 x).2.1) := by
            unfold takeF
            rw [hR, if_neg (by omega), if_neg (by simp), if_neg hm, if_pos rfl]
          rw [e1]
          exact this
        · have e1 : takeF j m B = (0, setF m j x, B1) := by
            unfold takeF
            rw [hR, if_neg h9, if_neg (by simp), if_neg hm, if_neg hj8]
          rw [e1]
          exact rtake_num hB hR hs j (by omega) (by omega)
    · have hr0 := readUint_fail (xs := B) (by rw [hR]; exact he)
      rw [hR] at hr0
      obtain ⟨rfl, rfl⟩ := hr0
      have e1 : takeF j m B = (e, m, []) := by
        unfold takeF
        rw [hR, if_neg h9, if_pos he]
      rw [e1]
      exact rtake_err hj h9 hB he hR
end Go.Proofs.YtlheaicojmjdpaaDoor
end

section
/- The reference of layer 4: the message of a text. -/
namespace Go.Proofs.YtlheaicojmjdpaaDoor
set_option maxRecDepth 100000
open Go.RowKit
set_option linter.unusedVariables false

/-- What a call of the reference's Get leaves. -/
def RGotM (w : World) (xs : List UInt8) (e : Ending) (w' : World) : Prop :=
  ∃ A c, e = .returned (.tuple #[.agg (RC (mM xs) A c), .int .i64 (mE xs)]) ∧ Sl w' A c (nums (mM xs).vec) ∧ Mods Nil w w'

theorem RGotM.bad {w w' : World} {xs : List UInt8} {E : Int} (hE : mE xs = E) (h0 : E ≠ 0) (hm : Mods Nil w w') : RGotM w xs (.returned (.tuple #[.agg (RC {} none 0), .int .i64 E])) w' := by
  subst hE
  refine ⟨none, 0, by rw [mM_bad h0], ?_, hm⟩
  rw [mM_bad h0]
  exact Sl.none_ _

/-- The box of the result is written at the end. -/
theorem rgot_ret {w W : World} {a : Act} {xs : List UInt8} {m : PM} {A : Option Addr} {c : Nat} {E : Int} {g : Nat}
    (ea : a.tmps.getD 2 undef = .pointer (some ⟨g, 0, none⟩)) (eb : a.tmps.getD 3 undef = .int .i64 E) (ed : a.defers = [])
    (bA : Blk W g 36 (RC m A c)) (h : RGotM w xs (.returned (.tuple #[.agg (RC m A c), .int .i64 E])) W) : bodyPost Tryd.prog Tryd.f12 (RGotM w xs) .ret a W :=
  bodyPost_ret (results_row_tmp rfl a.tmps W ea eb bA Tryd.underlying36 rfl RC_info) ed h

/-- What the loop keeps. -/
def RRel (w3 w4 : World) (bb : List UInt8) (K : Int) (n : Nat) (i : Value) (wr : World) : Prop :=
  ∃ j : Nat, ∃ m A c B E, j ≤ n ∧ i = .int .i64 (j : Int) ∧ Blk wr w3.heap.size 36 (RC m A c) ∧ Blk wr (w3.heap.size + 1) 66 #[.string (strOf B), .int .i64 E] ∧
    Mods (fun k => w3.heap.size ≤ k) w4 wr ∧ B.length ≤ 65535 ∧ (E = 0 → getFs (fl K) { kind := K } bb = getFs ((fl K).drop j) m B ∧ Sl wr A c (nums m.vec) ∧ (8 ∉ (fl K).take j → m.vec = [] ∧ A = none) ∧ (∀ a, A = some a → w4.heap.size ≤ a.block)) ∧ (E ≠ 0 → (getFs (fl K) { kind := K } bb).1 = E)

theorem takeF_vec_keep {j : Nat} (h8 : j ≠ 8) (hj : j < 10) (m : PM) (xs : List UInt8) : (takeF j m xs).2.1.vec = m.vec := by
  unfold takeF
  split
  · rfl
  · split
    · rfl
    · split
      · rfl
      · exact (setF_vec m j (by omega) _).1

theorem rget_next {w3 w4 wr w5 w6 : World} {bb : List UInt8} {K : Int} {n j x : Nat} {m m5 : PM} {A A5 : Option Addr} {c5 : Nat} {B B5 : List UInt8} {E5 : Int} {i : Value} (hi : i = .int .i64 ((j + 1 : Nat) : Int))
    (hn : (fl K).length = n) (hlt : j < n) (hx : ∀ h : j < (fl K).length, (fl K)[j] = x) (hx10 : x < 10) (hz1 : getFs (fl K) { kind := K } bb = getFs ((fl K).drop j) m B) (hz3 : 8 ∉ (fl K).take j → m.vec = [] ∧ A = none)
    (ht : E5 = 0 → m5 = (takeF x m B).2.1 ∧ B5 = (takeF x m B).2.2 ∧ Sl w5 A5 c5 (nums m5.vec) ∧ (x ≠ 8 → A5 = A) ∧ (∀ a, A5 = some a → A5 = A ∨ wr.heap.size ≤ a.block)) (hz4 : ∀ a, A = some a → w4.heap.size ≤ a.block) (h43 : w3.heap.size + 2 ≤ w4.heap.size) (hE : (takeF x m B).1 = E5) (hb : B5.length ≤ B.length) (hb6 : B.length ≤ 65535)
    (bM : Blk w6 w3.heap.size 36 (RC m5 A5 c5)) (bR : Blk w6 (w3.heap.size + 1) 66 #[.string (strOf B5), .int .i64 E5])
    (m6 : Mods (fun k => k = w3.heap.size ∨ k = w3.heap.size + 1) w5 w6) (m5' : Mods Nil wr w5) (m4 : Mods (fun k => w3.heap.size ≤ k) w4 wr) : RRel w3 w4 bb K n i w6 := by
  have hjl : j < (fl K).length := by omega
  have hd : (fl K).drop j = x :: (fl K).drop (j + 1) := by rw [List.drop_eq_getElem_cons hjl, hx]
  refine ⟨j + 1, m5, A5, c5, B5, E5, by omega, hi, bM, bR, (m4.trans2 m5' (fun _ _ h => h.elim)).trans2 m6 (fun _ _ h => by omega), by omega, fun h0 => ?_, fun h0 => ?_⟩
  · obtain ⟨h1, h2, h3, h4, h5⟩ := ht h0
    have hoff : ∀ a, A5 = some a → w4.heap.size ≤ a.block := fun a ha => by
      rcases h5 a ha with h | h
      · exact hz4 a (by rw [← h]; exact ha)
      · have := m4.size
        omega
    refine ⟨?_, h3.mods m6 (fun a ha hk => by have := hoff a ha; omega), fun h8 => ?_, hoff⟩
    · rw [hz1, hd, getFs_good (by rw [hE]; exact h0), h1, h2]
    · rw [List.take_succ_eq_append_getElem hjl, hx] at h8
      have hx8 : x ≠ 8 := fun e => h8 (List.mem_append.2 (.inr (by rw [e]; exact List.mem_singleton.2 rfl)))
      obtain ⟨q1, q2⟩ := hz3 (fun h => h8 (List.mem_append.2 (.inl h)))
      refine ⟨?_, (h4 hx8).trans q2⟩
      rw [h1, takeF_vec_keep hx8 hx10, q1]
  · rw [hz1, hd, getFs_bad (by rw [hE]; exact h0), hE]

set_option maxHeartbeats 8000000 in
theorem rget_any {w : World} {xs : List UInt8} (hl : xs.length ≤ 140737488355328) :
    Calls Tryd.prog 12 #[.string (strOf xs)] w (RGotM w xs) := by
  have hget := fun W => r3get_any W xs hl
  have HGET := Lib.hid hget
  have hB := Blk.new w 36 (RC {} none 0)
  have HB := Lib.hid hB
  have M1 := Lib.hid ((Mods.refl Nil w).alloc (.cells (RC {} none 0) 36))
  have hsz : (strOf xs).size = xs.length := by simp
  clear hget hB
  by_cases hE : getE xs = 0
  · have gN : gotN xs = getN xs := by unfold gotN; rw [if_pos hE]
    have gK : gotK xs = getK xs := by unfold gotK; rw [if_pos hE]
    have gB : gotB xs = getB xs := by unfold gotB; rw [if_pos hE]
    have hk256 := (getK xs).toNat_lt
    have HE := Lib.hid hE
    have GN := Lib.hid gN
    have GK := Lib.hid gK
    have GB := Lib.hid gB
    by_cases hL : getN xs < xs.length ∨ isK (getK xs).toNat = false
    · have HM := Lib.hid (mE_left hE hL)
      by_cases hl : getN xs < xs.length
      · have hlI : ((getN xs : Nat) : Int) < (xs.length : Int) := by omega
        clear hE hL gN gK gB hl
        go_enter Tryd.func12, Tryd.ntmps12
        go_wp2_with (first
          | (go_at_call 25; refine (HGET.out _).mono ?_; rintro e w2 ⟨rfl, m2⟩; rw [HE.out, GN.out, GK.out, GB.out]; obtain ⟨f0, f1, f2, f3⟩ := (Blk.new w2 28 #[.int .u8 ((getK xs).toNat : Int), .string (strOf (getB xs))]).two; have M2 := Lib.hid ((M1.out.trans m2).alloc (.cells #[.int .u8 ((getK xs).toNat : Int), .string (strOf (getB xs))] 28)); have BR2 := Lib.hid ((HB.out.mods m2 (fun h => h)).alloc (.cells #[.int .u8 ((getK xs).toNat : Int), .string (strOf (getB xs))] 28)); clear m2)
          | (go_at_call 26; refine (rfields_any _ _).mono ?_; rintro e w3 ⟨rfl, m3⟩; have M3 := Lib.hid (M2.out.trans m3); have BR3 := Lib.hid (BR2.out.mods m3 (fun h => h)); clear m3)
          | (refine wpList_store_row rfl _ _ _ rfl rfl w.heap.size rfl _ (RC {} none 0) (RC {} none 0) rfl BR3.out rfl (RC_one _ _ _) RC_info (RC_cells _ _ _) ?_))
        exact rgot_ret (by rfl) (by rfl) rfl (BR3.out.setRow _) (RGotM.bad HM.out (by decide) (Mods.setRow M3.out (fun h => by omega) _))
      · have hlI : (xs.length : Int) ≤ ((getN xs : Nat) : Int) := by omega
        have hK : isK (getK xs).toNat = false := by
          rcases hL with h | h
          · omega
          · exact h
        have hf := fstr_none hK
        have hst := strOf_toList []
        have HF := Lib.hid hf
        clear hE hL gN gK gB hl hK hf
        go_enter Tryd.func12, Tryd.ntmps12
        go_wp2_with (first
          | (go_at_call 25; refine (HGET.out _).mono ?_; rintro e w2 ⟨rfl, m2⟩; rw [HE.out, GN.out, GK.out, GB.out]; obtain ⟨f0, f1, f2, f3⟩ := (Blk.new w2 28 #[.int .u8 ((getK xs).toNat : Int), .string (strOf (getB xs))]).two; have M2 := Lib.hid ((M1.out.trans m2).alloc (.cells #[.int .u8 ((getK xs).toNat : Int), .string (strOf (getB xs))] 28)); have BR2 := Lib.hid ((HB.out.mods m2 (fun h => h)).alloc (.cells #[.int .u8 ((getK xs).toNat : Int), .string (strOf (getB xs))] 28)); clear m2)
          | (go_at_call 26; refine (rfields_any _ _).mono ?_; rintro e w3 ⟨rfl, m3⟩; rw [HF.out]; have M3 := Lib.hid (M2.out.trans m3); have BR3 := Lib.hid (BR2.out.mods m3 (fun h => h)); clear m3)
          | (refine wpList_store_row rfl _ _ _ rfl rfl w.heap.size rfl _ (RC {} none 0) (RC {} none 0) rfl BR3.out rfl (RC_one _ _ _) RC_info (RC_cells _ _ _) ?_))
        exact rgot_ret (by rfl) (by rfl) rfl (BR3.out.setRow _) (RGotM.bad HM.out (by decide) (Mods.setRow M3.out (fun h => by omega) _))
    · obtain ⟨h1, h2⟩ := mE_fields hE hL
      have hle := (getE_zero hE).2.2.1
      have hbl := getB_length hle
      have hsz' := (getE_zero hE).2.1
      have hlI : (xs.length : Int) ≤ ((getN xs : Nat) : Int) := by omega
      have hK : isK (getK xs).toNat = true := by
        cases h : isK (getK xs).toNat with
        | true => rfl
        | false => exact absurd (.inr h) hL
      have hie : (fstr (getK xs).toNat).isEmpty = false := by
        have := fstr_ne hK
        cases h : fstr (getK xs).toNat with
        | nil => exact absurd h this
        | cons a l => rfl
      have hnd : decide (getN xs < xs.length) = false := by rw [decide_eq_false_iff_not]; omega
      have hst := strOf_toList (fstr (getK xs).toNat)
      obtain ⟨n, hn⟩ : ∃ n, (fl (getK xs).toNat).length = n := ⟨_, rfl⟩
      have hszf : (strOf (fstr (getK xs).toNat)).size = n := by simp [fstr, hn]
      have hn10 : n ≤ 10 := by rw [← hn]; exact fl_len _
      have HN := Lib.hid hn
      have HME := Lib.hid h1
      have HMM := Lib.hid h2
      have HBL := Lib.hid (show (getB xs).length ≤ 65535 by omega)
      clear hE hL gN gK gB hK h1 h2 hle hbl hsz' hn
      go_enter Tryd.func12, Tryd.ntmps12
      go_wp2_with (first
        | (go_at_call 25; refine (HGET.out _).mono ?_; rintro e w2 ⟨rfl, m2⟩; rw [HE.out, GN.out, GK.out, GB.out]; have BF2 := Lib.hid (Blk.new w2 28 #[.int .u8 ((getK xs).toNat : Int), .string (strOf (getB xs))]); have M2 := Lib.hid ((M1.out.trans m2).alloc (.cells #[.int .u8 ((getK xs).toNat : Int), .string (strOf (getB xs))] 28)); have BR2 := Lib.hid ((HB.out.mods m2 (fun h => h)).alloc (.cells #[.int .u8 ((getK xs).toNat : Int), .string (strOf (getB xs))] 28)); clear m2)
        | (go_at_call 26; refine (rfields_any _ _).mono ?_; rintro e w3 ⟨rfl, m3⟩; have M3 := Lib.hid (M2.out.trans m3); have BR3 := Lib.hid (BR2.out.mods m3 (fun h => h)); obtain ⟨f0, f1, f2, f3⟩ := (BF2.out.mods m3 (fun h => h)).two; obtain ⟨g0, g1, g2, g3⟩ := ((BF2.out.mods m3 (fun h => h)).alloc (.cells #[.int .i64 ((getK xs).toNat : Int), .int .u64 0, .int .u64 0, .int .i64 0, .int .i64 0, .int .u64 0, .int .u64 0, .int .u64 0, .int .i64 0, .slice none 0 0, .string ⟨#[]⟩] 36)).two; clear m3))
      have bM0 : Blk (w3.alloc (.cells (RC { kind := ((getK xs).toNat : Int) } none 0) 36)) w3.heap.size 36 (RC { kind := ((getK xs).toNat : Int) } none 0) := Blk.new _ _ _
      have bM := bM0.alloc (.cells #[.string (strOf (getB xs)), .int .i64 0] 66)
      have bR := Blk.new (w3.alloc (.cells (RC { kind := ((getK xs).toNat : Int) } none 0) 36)) 66 #[.string (strOf (getB xs)), .int .i64 0]
      simp only [World.size_alloc] at bR
      have bO := (BR3.out.alloc (.cells (RC { kind := ((getK xs).toNat : Int) } none 0) 36)).alloc (.cells #[.string (strOf (getB xs)), .int .i64 0] 66)
      have m4 := (M3.out.alloc (.cells (RC { kind := ((getK xs).toNat : Int) } none 0) 36)).alloc (.cells #[.string (strOf (getB xs)), .int .i64 0] 66)
      obtain ⟨w4, hw4⟩ : ∃ w4, (w3.alloc (.cells (RC { kind := ((getK xs).toNat : Int) } none 0) 36)).alloc (.cells #[.string (strOf (getB xs)), .int .i64 0] 66) = w4 := ⟨_, rfl⟩
      have hw4' := hw4
      rw [hw4'] at bM bR bO m4
      have h43 : w3.heap.size + 2 ≤ w4.heap.size := by rw [← hw4]; simp
      have h03 : w.heap.size < w3.heap.size := BR3.out.lt
      change Code.wp _ _ _ _ ((w3.alloc (.cells (RC { kind := ((getK xs).toNat : Int) } none 0) 36)).alloc (.cells #[.string (strOf (getB xs)), .int .i64 0] 66))
      rw [hw4]
      clear hw4 hw4' bM0 f0 f1 f2 f3 g0 g1 g2 g3
      have HBM := Lib.hid bM
      have HBR := Lib.hid bR
      have HBO := Lib.hid bO
      have M4 := Lib.hid m4
      obtain ⟨K, hK⟩ : ∃ K : Int, ((getK xs).toNat : Int) = K := ⟨_, rfl⟩
      have HKK := Lib.hid hK
      clear bM bR bO m4
      rw [hK] at hszf hst hie HN HBM ⊢
      go_loopw [10] (fun i wr => RRel w3 w4 (getB xs) K n i wr) (fun i _ => n - (intOf i).toNat)
      case atStart => exact ⟨0, { kind := K }, none, 0, getB xs, 0, by omega, rfl, HBM.out, HBR.out, Mods.refl _ _, HBL.out, fun _ => ⟨rfl, Sl.none_ _, fun _ => ⟨rfl, rfl⟩, fun a h => by cases h⟩, fun h => absurd rfl h⟩
      case round =>
        obtain ⟨j, m, A, c, B, E, hj, rfl, hbM, hbR, hm, hBl, hz, hnz⟩ := hrel
        by_cases hlt : j < n
        · have hltI : (j : Int) < (n : Int) := by omega
          obtain ⟨a0, a1, a2, a3⟩ := hbR.two
          have HM9 := Lib.hid hm
          have HBM1 := Lib.hid hbM
          have HBR1 := Lib.hid hbR
          by_cases hE : E = 0
          · subst hE
            obtain ⟨hz1, hz2, hz3, hz4⟩ := hz rfl
            have HZ1 := Lib.hid hz1
            have HZ2 := Lib.hid hz2
            have HZ3 := Lib.hid hz3
            have HZ4 := Lib.hid hz4
            have hjl : j < (fl K).length := by rw [HN.out]; exact hlt
            have hidx := fstr_at hjl
            obtain ⟨x, hx⟩ : ∃ x, (fl K)[j] = x := ⟨_, rfl⟩
            rw [hx] at hidx
            have hx10 : x < 10 := by rw [← hx]; exact (fl_mem.1 (List.getElem_mem hjl)).1
            have hnd8 : x = 8 → 8 ∉ (fl K).take j := by
              rintro rfl h8
              have hnd := fl_nodup K
              rw [← List.take_append_drop j (fl K), List.nodup_append] at hnd
              exact hnd.2.2 8 h8 8 (by rw [List.drop_eq_getElem_cons hjl, hx]; exact List.mem_cons_self) rfl
            have HCALL : Hid (∀ W, Mods Nil wr W → Calls Tryd.prog 27 #[.agg (RC m A c), .agg #[.string (strOf B), .int .i64 0], .int .u8 ((lt x).toNat : Int)] W (RTook W B A x (takeF x m B))) := fun W hW =>
              rtake_any hx10 (by omega) (HZ2.out.mods hW (fun _ _ h => h)) (fun h8 => HZ3.out (hnd8 h8))
            have HX := Lib.hid hx
            clear hm hbM hbR hz hnz hz1 hz2 hz3 hz4 hnd8 hx
            go_wp2_with fail
            refine wp_region_any rfl ?_
            show wpAny _ _ _ _ 11 _ _ wr.drew
            refine wpAny_take (i := 2) (oi := ⟨_, _, _, _, _, _⟩) (v := .string (strOf (fstr K))) rfl (by kernel_rfl) (by kernel_rfl) (by kernel_rfl) (fun _ _ _ h => h) (Or.inl ⟨by rfl, fun W => rfl⟩) ?_
            refine wpAny_take (i := 3) (oi := ⟨_, _, _, _, _, _⟩) (v := .int .i64 (j : Int)) rfl (by kernel_rfl) (by kernel_rfl) (by kernel_rfl) (fun _ _ _ h => h) (Or.inl ⟨by rfl, fun W => rfl⟩) ?_
            refine wpAny_take (i := 4) (oi := ⟨_, _, _, _, _, _⟩) (v := .int .u8 ((lt x).toNat : Int)) rfl (by kernel_rfl) (by kernel_rfl) (by kernel_rfl) (fun _ _ _ h => h) (Or.inl ⟨by rfl, fun W => by have := hidx W; simp [execOp, Act.eval, Act.put, this]⟩) ?_
            refine wpAny_ready (rs := [0, 1]) (by kernel_rfl) (by simp) (AllReady.cons (o := ⟨_, _, _, _, _, _⟩) rfl (fun K' hK => ?_) (AllReady.cons (o := ⟨_, _, _, _, _, _⟩) rfl (fun K' hK => ?_) AllReady.nil))
            · rw [if_pos (by rfl)]
              refine wp_load_row 36 (.tmp 8) rfl w3.heap.size rfl 36 (RC m A c) (0, 0) _ HBM1.out.drew Tryd.underlying36 rfl RC_info (hK _ _ ?_)
              refine wpAny_ready (rs := [1]) (by kernel_rfl) (by simp) (AllReady.cons (o := ⟨_, _, _, _, _, _⟩) rfl (fun K' hK => ?_) AllReady.nil)
              rw [if_pos (by rfl)]
              refine wp_load_row 66 (.tmp 9) rfl (w3.heap.size + 1) rfl 66 #[.string (strOf B), .int .i64 0] (0, 0) _ HBR1.out.drew Tryd.underlying66 rfl refOf_info (hK _ _ ?_)
              refine wpAny_ready (rs := [5]) (by kernel_rfl) (by simp) (AllReady.cons (o := ⟨_, _, _, _, _, _⟩) rfl (fun K' hK => ?_) AllReady.nil)
              rw [if_pos (by rfl)]
              simp only [Act.put, List.setIfInBounds_toArray, List.set_cons_zero, List.set_cons_succ]
              go_simp
              refine (HCALL.out _ (Mods.refl Nil wr).drew).mono ?_
              rintro e w5 ⟨m5, A5, c5, B5, rfl, hb5, mm5, ht5⟩
              obtain ⟨E5, hE5⟩ : ∃ E5, (takeF x m B).1 = E5 := ⟨_, rfl⟩
              unfold refOf
              rw [hE5] at ht5 ⊢
              have bM5 := HBM1.out.drew.mods mm5 (fun h => h)
              have bR5 := HBR1.out.drew.mods mm5 (fun h => h)
              have bM6 := (bM5.setRow (RC m5 A5 c5)).setRow_far (k := w3.heap.size + 1) (by omega) #[.string (strOf B5), .int .i64 E5]
              have bR6 := bR5.setRow_far (k := w3.heap.size) (by omega) (RC m5 A5 c5)
              have bR7 := bR6.setRow #[.string (strOf B5), .int .i64 E5]
              have m6 : Mods (fun k => k = w3.heap.size ∨ k = w3.heap.size + 1) w5 ((w5.setRow w3.heap.size (RC m5 A5 c5)).setRow (w3.heap.size + 1) #[.string (strOf B5), .int .i64 E5]) := Mods.setRow (Mods.setRow (Mods.refl _ _) (fun _ => .inl rfl) _) (fun _ => .inr rfl) _
              refine hK _ _ ?_
              refine wpAny_take (i := 6) (oi := ⟨_, _, _, _, _, _⟩) (v := .tuple #[.agg (RC m5 A5 c5), .agg #[.string (strOf B5), .int .i64 E5]]) rfl (by kernel_rfl) (by kernel_rfl) (by kernel_rfl) (fun _ _ _ h => h) (Or.inl ⟨by rfl, fun W => rfl⟩) ?_
              refine wpAny_take (i := 7) (oi := ⟨_, _, _, _, _, _⟩) (v := .agg (RC m5 A5 c5)) rfl (by kernel_rfl) (by kernel_rfl) (by kernel_rfl) (fun _ _ _ h => h) (Or.inl ⟨by rfl, fun W => rfl⟩) ?_
              refine wpAny_take (i := 8) (oi := ⟨_, _, _, _, _, _⟩) (v := .agg #[.string (strOf B5), .int .i64 E5]) rfl (by kernel_rfl) (by kernel_rfl) (by kernel_rfl) (fun _ _ _ h => h) (Or.inl ⟨by rfl, fun W => rfl⟩) ?_
              refine wpAny_ready (rs := [9]) (by kernel_rfl) (by simp) (AllReady.cons (o := ⟨_, _, _, _, _, _⟩) rfl (fun K' hK => ?_) AllReady.nil)
              rw [if_pos (by rfl)]
              refine wp_store_row 36 (.tmp 8) (.tmp 59) rfl rfl w3.heap.size rfl 36 (RC m A c) (RC m5 A5 c5) rfl bM5 rfl (RC_one _ _ _) RC_info (RC_cells _ _ _) (hK _ _ ?_)
              refine wpAny_ready (rs := [10]) (by kernel_rfl) (by simp) (AllReady.cons (o := ⟨_, _, _, _, _, _⟩) rfl (fun K' hK => ?_) AllReady.nil)
              rw [if_pos (by rfl)]
              refine wp_store_row 66 (.tmp 9) (.tmp 60) rfl rfl (w3.heap.size + 1) rfl 66 #[.string (strOf B), .int .i64 0] #[.string (strOf B5), .int .i64 E5] rfl bR6 rfl (by simp [Value.oneCell']) refOf_info (by simp [Value.cells]) (hK _ _ ?_)
              refine wpAny_done (by kernel_rfl) ?_ _
              obtain ⟨w6, hw6⟩ : ∃ w6, (w5.setRow w3.heap.size (RC m5 A5 c5)).setRow (w3.heap.size + 1) #[.string (strOf B5), .int .i64 E5] = w6 := ⟨_, rfl⟩
              rw [hw6] at bM6 bR7 m6 ⊢
              have HT5 := Lib.hid ht5
              have HBM6 := Lib.hid bM6
              have HBR6 := Lib.hid bR7
              have HM6 := Lib.hid m6
              have HM5 := Lib.hid (Mods.of_drew mm5)
              have HE5 := Lib.hid hE5
              clear hw6 ht5 bM5 bR5 bM6 bR6 bR7 m6 mm5 hK hE5
              simp only [Act.put, List.setIfInBounds_toArray, List.set_cons_zero, List.set_cons_succ]
              go_wp2_with fail
              refine ⟨rget_next (wr := wr) (j := j) (by go_num) HN.out hlt (fun _ => HX.out) hx10 HZ1.out HZ3.out HT5.out HZ4.out h43 HE5.out hb5 hBl HBM6.out HBR6.out HM6.out HM5.out HM9.out, by simp [intOf]; omega⟩
            · rw [if_pos (by rfl)]
              refine wp_load_row 66 (.tmp 9) rfl (w3.heap.size + 1) rfl 66 #[.string (strOf B), .int .i64 0] (0, 0) _ HBR1.out.drew Tryd.underlying66 rfl refOf_info (hK _ _ ?_)
              refine wpAny_ready (rs := [0]) (by kernel_rfl) (by simp) (AllReady.cons (o := ⟨_, _, _, _, _, _⟩) rfl (fun K' hK => ?_) AllReady.nil)
              rw [if_pos (by rfl)]
              refine wp_load_row 36 (.tmp 8) rfl w3.heap.size rfl 36 (RC m A c) (0, 0) _ HBM1.out.drew Tryd.underlying36 rfl RC_info (hK _ _ ?_)
              refine wpAny_ready (rs := [5]) (by kernel_rfl) (by simp) (AllReady.cons (o := ⟨_, _, _, _, _, _⟩) rfl (fun K' hK => ?_) AllReady.nil)
              rw [if_pos (by rfl)]
              simp only [Act.put, List.setIfInBounds_toArray, List.set_cons_zero, List.set_cons_succ]
              go_simp
              refine (HCALL.out _ (Mods.refl Nil wr).drew).mono ?_
              rintro e w5 ⟨m5, A5, c5, B5, rfl, hb5, mm5, ht5⟩
              obtain ⟨E5, hE5⟩ : ∃ E5, (takeF x m B).1 = E5 := ⟨_, rfl⟩
              unfold refOf
              rw [hE5] at ht5 ⊢
              have bM5 := HBM1.out.drew.mods mm5 (fun h => h)
              have bR5 := HBR1.out.drew.mods mm5 (fun h => h)
              have bM6 := (bM5.setRow (RC m5 A5 c5)).setRow_far (k := w3.heap.size + 1) (by omega) #[.string (strOf B5), .int .i64 E5]
              have bR6 := bR5.setRow_far (k := w3.heap.size) (by omega) (RC m5 A5 c5)
              have bR7 := bR6.setRow #[.string (strOf B5), .int .i64 E5]
              have m6 : Mods (fun k => k = w3.heap.size ∨ k = w3.heap.size + 1) w5 ((w5.setRow w3.heap.size (RC m5 A5 c5)).setRow (w3.heap.size + 1) #[.string (strOf B5), .int .i64 E5]) := Mods.setRow (Mods.setRow (Mods.refl _ _) (fun _ => .inl rfl) _) (fun _ => .inr rfl) _
              refine hK _ _ ?_
              refine wpAny_take (i := 6) (oi := ⟨_, _, _, _, _, _⟩) (v := .tuple #[.agg (RC m5 A5 c5), .agg #[.string (strOf B5), .int .i64 E5]]) rfl (by kernel_rfl) (by kernel_rfl) (by kernel_rfl) (fun _ _ _ h => h) (Or.inl ⟨by rfl, fun W => rfl⟩) ?_
              refine wpAny_take (i := 7) (oi := ⟨_, _, _, _, _, _⟩) (v := .agg (RC m5 A5 c5)) rfl (by kernel_rfl) (by kernel_rfl) (by kernel_rfl) (fun _ _ _ h => h) (Or.inl ⟨by rfl, fun W => rfl⟩) ?_
              refine wpAny_take (i := 8) (oi := ⟨_, _, _, _, _, _⟩) (v := .agg #[.string (strOf B5), .int .i64 E5]) rfl (by kernel_rfl) (by kernel_rfl) (by kernel_rfl) (fun _ _ _ h => h) (Or.inl ⟨by rfl, fun W => rfl⟩) ?_
              refine wpAny_ready (rs := [9]) (by kernel_rfl) (by simp) (AllReady.cons (o := ⟨_, _, _, _, _, _⟩) rfl (fun K' hK => ?_) AllReady.nil)
              rw [if_pos (by rfl)]
              refine wp_store_row 36 (.tmp 8) (.tmp 59) rfl rfl w3.heap.size rfl 36 (RC m A c) (RC m5 A5 c5) rfl bM5 rfl (RC_one _ _ _) RC_info (RC_cells _ _ _) (hK _ _ ?_)
              refine wpAny_ready (rs := [10]) (by kernel_rfl) (by simp) (AllReady.cons (o := ⟨_, _, _, _, _, _⟩) rfl (fun K' hK => ?_) AllReady.nil)
              rw [if_pos (by rfl)]
              refine wp_store_row 66 (.tmp 9) (.tmp 60) rfl rfl (w3.heap.size + 1) rfl 66 #[.string (strOf B), .int .i64 0] #[.string (strOf B5), .int .i64 E5] rfl bR6 rfl (by simp [Value.oneCell']) refOf_info (by simp [Value.cells]) (hK _ _ ?_)
              refine wpAny_done (by kernel_rfl) ?_ _
              obtain ⟨w6, hw6⟩ : ∃ w6, (w5.setRow w3.heap.size (RC m5 A5 c5)).setRow (w3.heap.size + 1) #[.string (strOf B5), .int .i64 E5] = w6 := ⟨_, rfl⟩
              rw [hw6] at bM6 bR7 m6 ⊢
              have HT5 := Lib.hid ht5
              have HBM6 := Lib.hid bM6
              have HBR6 := Lib.hid bR7
              have HM6 := Lib.hid m6
              have HM5 := Lib.hid (Mods.of_drew mm5)
              have HE5 := Lib.hid hE5
              clear hw6 ht5 bM5 bR5 bM6 bR6 bR7 m6 mm5 hK hE5
              simp only [Act.put, List.setIfInBounds_toArray, List.set_cons_zero, List.set_cons_succ]
              go_wp2_with fail
              refine ⟨rget_next (wr := wr) (j := j) (by go_num) HN.out hlt (fun _ => HX.out) hx10 HZ1.out HZ3.out HT5.out HZ4.out h43 HE5.out hb5 hBl HBM6.out HBR6.out HM6.out HM5.out HM9.out, by simp [intOf]; omega⟩
          · have hb2 : (E == 0) = false := by simp [hE]
            have hmE : mE xs = E := by
              rw [HME.out]
              unfold fE mF
              rw [HKK.out, if_pos (by rw [hnz hE]; exact hE), hnz hE]
            have HMEE := Lib.hid hmE
            have HE0 := Lib.hid hE
            have hend := fun W => rend_any W B E
            rw [if_neg hE] at hend
            have HEND := Lib.hid hend
            have bO := HBO.out.mods hm (fun h => by omega)
            have HBOW := Lib.hid bO
            have M9 := Lib.hid (M4.out.nil_trans hm (fun k h => by omega))
            have hb3 : (E != 0) = true := by simp [hE]
            clear hm hbM hbR hz hnz hE hmE hend bO
            unfold refOf at HEND
            go_wp2_with (first
              | (go_at_call 28; refine (HEND.out _).mono ?_; rintro e w7 ⟨rfl, m7⟩; have BO7 := Lib.hid (HBOW.out.mods m7 (fun h => h)); have M7 := Lib.hid (M9.out.trans m7); clear m7)
              | (refine wpList_store_row rfl _ _ _ rfl rfl w.heap.size rfl _ (RC {} none 0) (RC {} none 0) rfl BO7.out rfl (RC_one _ _ _) RC_info (RC_cells _ _ _) ?_))
            exact rgot_ret (by rfl) (by rfl) rfl (BO7.out.setRow _) (RGotM.bad HMEE.out HE0.out (Mods.setRow M7.out (fun h => by omega) _))
        · obtain rfl : j = n := by omega
          by_cases hE : E = 0
          · subst hE
            obtain ⟨hz1, hz2, -, hz4⟩ := hz rfl
            have hdn : (fl K).drop j = [] := List.drop_eq_nil_of_le (by rw [HN.out]; exact Nat.le_refl _)
            rw [hdn] at hz1
            clear hdn
            by_cases hB : B = []
            · subst hB
              have hmE : mE xs = 0 ∧ mM xs = m := by
                rw [HME.out, HMM.out]
                have h0 : mF xs = (0, m, []) := by unfold mF; rw [HKK.out, hz1]; rfl
                unfold fM fE
                rw [h0]
                exact ⟨rfl, rfl⟩
              have hend := fun W => rend_any W [] 0
              rw [if_pos rfl, if_pos rfl] at hend
              have HEND := Lib.hid hend
              have HMEE := Lib.hid hmE
              have bO := HBO.out.mods hm (fun h => by omega)
              have HBOW := Lib.hid bO
              have HBMW := Lib.hid hbM
              have HZ2 := Lib.hid hz2
              have M9 := Lib.hid (M4.out.nil_trans hm (fun k h => by omega))
              obtain ⟨a0, a1, a2, a3⟩ := hbR.two
              clear hm hbM hbR hz hnz hz1 hz2 hmE hend bO
              unfold refOf at HEND
              go_wp2_with (first
                | (go_at_call 28; refine (HEND.out _).mono ?_; rintro e w7 ⟨rfl, m7⟩; have BO7 := Lib.hid (HBOW.out.mods m7 (fun h => h)); have M7 := Lib.hid (M9.out.trans m7); have S7 := Lib.hid (HZ2.out.mods m7 (fun _ _ h => h)); obtain ⟨y0, y1, y2, y3, y4, y5, y6, y7, y8, y9, y10⟩ := (HBMW.out.mods m7 (fun h => h)).rc; clear m7)
                | (refine wpList_store_row rfl _ _ _ rfl rfl w.heap.size rfl _ (RC {} none 0) (RC m A c) rfl BO7.out rfl (RC_one _ _ _) RC_info (RC_cells _ _ _) ?_))
              have mS : Mods (fun k => k = w.heap.size) w7 (w7.setRow w.heap.size (RC m A c)) := Mods.setRow (S := fun k => k = w.heap.size) (Mods.refl _ _) (fun _ => rfl) _
              exact rgot_ret (by rfl) (by rfl) rfl (BO7.out.setRow _) ⟨A, c, by rw [HMEE.out.1, HMEE.out.2], by rw [HMEE.out.2]; exact S7.out.mods mS (fun a ha hk => by have := hz4 a ha; omega), M7.out.nil_trans mS (fun k h => by omega)⟩
            · have hmE : mE xs = 12 := by
                rw [HME.out]
                unfold fE mF
                rw [HKK.out, hz1, if_neg (by simp [getFs])]
                exact if_neg hB
              have hend := fun W => rend_any W B 0
              rw [if_pos rfl, if_neg hB] at hend
              have HEND := Lib.hid hend
              have HMEE := Lib.hid hmE
              have bO := HBO.out.mods hm (fun h => by omega)
              have HBOW := Lib.hid bO
              have M9 := Lib.hid (M4.out.nil_trans hm (fun k h => by omega))
              obtain ⟨a0, a1, a2, a3⟩ := hbR.two
              clear hm hbM hbR hz hnz hz1 hz2 hB hmE hend bO
              unfold refOf at HEND
              go_wp2_with (first
                | (go_at_call 28; refine (HEND.out _).mono ?_; rintro e w7 ⟨rfl, m7⟩; have BO7 := Lib.hid (HBOW.out.mods m7 (fun h => h)); have M7 := Lib.hid (M9.out.trans m7); clear m7)
                | (refine wpList_store_row rfl _ _ _ rfl rfl w.heap.size rfl _ (RC {} none 0) (RC {} none 0) rfl BO7.out rfl (RC_one _ _ _) RC_info (RC_cells _ _ _) ?_))
              exact rgot_ret (by rfl) (by rfl) rfl (BO7.out.setRow _) (RGotM.bad HMEE.out (by decide) (Mods.setRow M7.out (fun h => by omega) _))
          · have hmE : mE xs = E := by
              rw [HME.out]
              unfold fE mF
              rw [HKK.out, if_pos (by rw [hnz hE]; exact hE), hnz hE]
            have HE1 := Lib.hid hE
            have hend := fun W => rend_any W B E
            rw [if_neg hE] at hend
            have HEND := Lib.hid hend
            have hb3 : (E != 0) = true := by simp [hE]
            have HMEE := Lib.hid hmE
            have bO := HBO.out.mods hm (fun h => by omega)
            have HBOW := Lib.hid bO
            have M9 := Lib.hid (M4.out.nil_trans hm (fun k h => by omega))
            obtain ⟨a0, a1, a2, a3⟩ := hbR.two
            clear hm hbM hbR hz hnz hE hmE hend bO
            unfold refOf at HEND
            go_wp2_with (first
              | (go_at_call 28; refine (HEND.out _).mono ?_; rintro e w7 ⟨rfl, m7⟩; have BO7 := Lib.hid (HBOW.out.mods m7 (fun h => h)); have M7 := Lib.hid (M9.out.trans m7); clear m7)
              | (refine wpList_store_row rfl _ _ _ rfl rfl w.heap.size rfl _ (RC {} none 0) (RC {} none 0) rfl BO7.out rfl (RC_one _ _ _) RC_info (RC_cells _ _ _) ?_))
            exact rgot_ret (by rfl) (by rfl) rfl (BO7.out.setRow _) (RGotM.bad HMEE.out HE1.out (Mods.setRow M7.out (fun h => by omega) _))
  · have hm := mE_form hE
    obtain ⟨E, hEE⟩ : ∃ E, getE xs = E := ⟨_, rfl⟩
    rw [hEE] at hE hm
    have HE := Lib.hid hEE
    have HM := Lib.hid hm
    have HN0 := Lib.hid hE
    have hb2 : (E != 0) = true := by simp [hE]
    clear hE hm hEE
    go_enter Tryd.func12, Tryd.ntmps12
    go_wp2_with (first
      | (go_at_call 25; refine (HGET.out _).mono ?_; rintro e w2 ⟨rfl, m2⟩; rw [HE.out]; have M2 := Lib.hid (M1.out.trans m2); have BR2 := Lib.hid ((HB.out.mods m2 (fun h => h)).alloc (.cells #[.int .u8 ((gotK xs).toNat : Int), .string (strOf (gotB xs))] 28)); clear m2)
      | (refine wpList_store_row rfl _ _ _ rfl rfl w.heap.size rfl _ (RC {} none 0) (RC {} none 0) rfl BR2.out rfl (RC_one _ _ _) RC_info (RC_cells _ _ _) ?_))
    exact rgot_ret (by rfl) (by rfl) rfl (BR2.out.setRow _) (RGotM.bad HM.out HN0.out (Mods.setRow (M2.out.alloc _) (fun h => by omega) _))
end Go.Proofs.YtlheaicojmjdpaaDoor
end
