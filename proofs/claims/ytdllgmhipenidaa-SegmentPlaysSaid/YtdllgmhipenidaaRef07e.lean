/- The reference of layer 7: Sync. -/
import Derived.Test.YtdllgmhipenidaaRef07d
import Derived.Test.YtdllgmhipenidaaRef06B
namespace Go.Proofs.Ytdllgmhipenidaa
set_option maxRecDepth 100000
open Go.RowKit
set_option linter.unusedVariables false

structure RsAt (w : World) (A : Option Addr) (c : Nat) (s : PSeg) : Prop where
  sl : Sl w A c (strs s.L)
  ty : Ty6 w A 9
theorem RsAt.mods {w w' : World} {A : Option Addr} {c : Nat} {s : PSeg} (h : RsAt w A c s) (hm : Mods Nil w w') : RsAt w' A c s := ⟨h.sl.mods hm (fun _ _ h => h), h.ty.mods hm (fun _ _ h => h)⟩
theorem RsAt.of {w : World} {A : Option Addr} {c : Nat} {s t : PSeg} (h : RsAt w A c s) (e : t.L = s.L) : RsAt w A c t := ⟨by rw [e]; exact h.sl, h.ty⟩
/-- A disk by value. -/
def rdW (A : Option Addr) (c : Nat) (B : Option Addr) (k : Nat) (d : PD) : Value := .agg #[.slice A d.L.length c, .slice B d.W.length k, .int .i64 d.left, .bool d.down]
theorem Blk.eight {w : World} {g : Nat} {t : TypeId} {a b c d e f x y : Value} (h : Blk w g t #[a, b, c, d, e, f, x, y]) :
    (w.cell? ⟨g, 0, none⟩ = some a ∧ w.cell? ⟨g, 1, none⟩ = some b ∧ w.cell? ⟨g, 2, none⟩ = some c ∧ w.cell? ⟨g, 3, none⟩ = some d ∧ w.cell? ⟨g, 4, none⟩ = some e ∧ w.cell? ⟨g, 5, none⟩ = some f ∧ w.cell? ⟨g, 6, none⟩ = some x ∧ w.cell? ⟨g, 7, none⟩ = some y) ∧
    (w.frozen? ⟨g, 0, none⟩ = false ∧ w.frozen? ⟨g, 1, none⟩ = false ∧ w.frozen? ⟨g, 2, none⟩ = false ∧ w.frozen? ⟨g, 3, none⟩ = false ∧ w.frozen? ⟨g, 4, none⟩ = false ∧ w.frozen? ⟨g, 5, none⟩ = false ∧ w.frozen? ⟨g, 6, none⟩ = false ∧ w.frozen? ⟨g, 7, none⟩ = false) :=
  ⟨⟨by simpa using h.cell 0, by simpa using h.cell 1, by simpa using h.cell 2, by simpa using h.cell 3, by simpa using h.cell 4, by simpa using h.cell 5, by simpa using h.cell 6, by simpa using h.cell 7⟩, ⟨h.frozen 0, h.frozen 1, h.frozen 2, h.frozen 3, h.frozen 4, h.frozen 5, h.frozen 6, h.frozen 7⟩⟩
/-- Disk, segment and error, told. -/
def RTold7 (w : World) (d : PD) (s : PSeg) (err : Int) (e : Ending) (w' : World) : Prop :=
  ∃ A c B k A2 c2, e = .returned (.tuple #[rdW A c B k d, rsV A2 c2 s, .int .i64 err]) ∧ RdAt w' A c B k d ∧ RsAt w' A2 c2 s ∧ Mods Nil w w'
theorem Sl2.off {S : Nat → Prop} {w w' : World} {A : Option Addr} {c : Nat} {W : List (Nat × List UInt8)} (h : Sl2 w A c W) (hm : Mods S w w') (hA : ∀ a, A = some a → ¬ S a.block) : Sl2 w' A c W := by
  refine ⟨h.le, h.max, h.nil, ?_⟩
  rcases h.has with h0 | ⟨b, off, rfl, hc⟩
  · exact .inl h0
  · refine .inr ⟨b, off, rfl, fun j u hu => ?_⟩
    have := hc j u hu
    rw [World.cell?_of_block (hm.block b (World.block_lt_of_cell? w _ this) (hA _ rfl))]
    exact this
/-- Boxes of other types than rows' are written. -/
theorem RdAt.box {w w' : World} {A B : Option Addr} {c k : Nat} {d : PD} (h : RdAt w A c B k d) {g : Nat} {t : TypeId} {cs : Array Value} (hb : Blk w g t cs) (h1 : 9 ≠ t) (h2 : 138 ≠ t) (hm : Mods (fun i => i = g) w w') : RdAt w' A c B k d :=
  ⟨h.sure.mods hm (h.tyA.of_ne hb h1), h.waits.off hm (h.tyB.of_ne hb h2), h.tyA.mods hm (h.tyA.of_ne hb h1), h.tyB.mods hm (h.tyB.of_ne hb h2)⟩
theorem RsAt.box {w w' : World} {A : Option Addr} {c : Nat} {s : PSeg} (h : RsAt w A c s) {g : Nat} {t : TypeId} {cs : Array Value} (hb : Blk w g t cs) (h1 : 9 ≠ t) (hm : Mods (fun i => i = g) w w') : RsAt w' A c s :=
  ⟨h.sl.mods hm (h.ty.of_ne hb h1), h.ty.mods hm (h.ty.of_ne hb h1)⟩
theorem set_mods (w : World) (g i : Nat) (v : Value) : Mods (fun k => k = g) w (w.setCell ⟨g, i, none⟩ v) := Mods.setCell (S := fun k => k = g) (p := ⟨g, i, none⟩) (Mods.refl _ _) (fun _ => rfl) v
theorem four_blk {w w' : World} {t1 t2 t3 t4 : TypeId} {a b c d : Array Value} (hm : Mods Nil ((((w.alloc (.cells a t1)).alloc (.cells b t2)).alloc (.cells c t3)).alloc (.cells d t4)) w') :
    Blk w' w.heap.size t1 a ∧ Blk w' (w.heap.size + 1) t2 b ∧ Blk w' (w.heap.size + 1 + 1) t3 c ∧ Blk w' (w.heap.size + 1 + 1 + 1) t4 d := by
  have h1 := ((((Blk.new w t1 a).alloc (.cells b t2)).alloc (.cells c t3)).alloc (.cells d t4)).mods hm (fun h => h)
  have h2 := (((Blk.new (w.alloc (.cells a t1)) t2 b).alloc (.cells c t3)).alloc (.cells d t4)).mods hm (fun h => h)
  have h3 := ((Blk.new ((w.alloc (.cells a t1)).alloc (.cells b t2)) t3 c).alloc (.cells d t4)).mods hm (fun h => h)
  have h4 := (Blk.new (((w.alloc (.cells a t1)).alloc (.cells b t2)).alloc (.cells c t3)) t4 d).mods hm (fun h => h)
  exact ⟨h1, by simpa using h2, by simpa using h3, by simpa using h4⟩
theorem Blk.setOther {w : World} {g g2 : Nat} {t : TypeId} {cs : Array Value} (h : Blk w g t cs) (hg : g ≠ g2) (i : Nat) (v : Value) : Blk (w.setCell ⟨g2, i, none⟩ v) g t cs :=
  h.mods (S := fun k => k = g2) (Mods.setCell (S := fun k => k = g2) (p := ⟨g2, i, none⟩) (Mods.refl _ _) (fun _ => rfl) v) hg
/-- Disk and segment are laid into the boxes of what is given. -/
theorem with_ret {Q : World → Prop} {W : World} {g h : Nat} {t1 t2 : TypeId} {o1 o2 o3 o4 a b c e p1 p2 p3 p4 p5 p6 p7 p8 q1 q2 q3 q4 q5 q6 q7 q8 : Value} (hne : g ≠ h) (h1 : Blk W g t1 #[o1, o2, o3, o4]) (h2 : Blk W h t2 #[p1, p2, p3, p4, p5, p6, p7, p8])
    (hk : ∀ W6, Blk W6 g t1 #[a, b, c, e] → Blk W6 h t2 #[q1, q2, q3, q4, q5, q6, q7, q8] → Mods (fun k => k = g ∨ k = h) W W6 → Q W6) :
    Q ((((((((((((W.setCell ⟨g, 0, none⟩ a).setCell ⟨g, 1, none⟩ b).setCell ⟨g, 2, none⟩ c).setCell ⟨g, 3, none⟩ e).setCell ⟨h, 0, none⟩ q1).setCell ⟨h, 1, none⟩ q2).setCell ⟨h, 2, none⟩ q3).setCell ⟨h, 3, none⟩ q4).setCell ⟨h, 4, none⟩ q5).setCell ⟨h, 5, none⟩ q6).setCell ⟨h, 6, none⟩ q7).setCell ⟨h, 7, none⟩ q8) := by
  have f1 := (((h1.set_ 0 a).set_ 1 b).set_ 2 c).set_ 3 e
  simp only [List.setIfInBounds_toArray, List.set_cons_zero, List.set_cons_succ] at f1
  have m1 : Mods (fun k => k = g ∨ k = h) W _ := (((set_mods W g 0 a).setCell (p := ⟨g, 1, none⟩) (fun _ => rfl) b).setCell (p := ⟨g, 2, none⟩) (fun _ => rfl) c).setCell (p := ⟨g, 3, none⟩) (fun _ => rfl) e |>.mono (fun i _ hi => .inl hi)
  have f2 := (((h2.setOther hne.symm 0 a).setOther hne.symm 1 b).setOther hne.symm 2 c).setOther hne.symm 3 e
  generalize (((W.setCell ⟨g, 0, none⟩ a).setCell ⟨g, 1, none⟩ b).setCell ⟨g, 2, none⟩ c).setCell ⟨g, 3, none⟩ e = W1 at f1 f2 m1 ⊢
  have f3 := (((((((f2.set_ 0 q1).set_ 1 q2).set_ 2 q3).set_ 3 q4).set_ 4 q5).set_ 5 q6).set_ 6 q7).set_ 7 q8
  simp only [List.setIfInBounds_toArray, List.set_cons_zero, List.set_cons_succ] at f3
  have f4 := (((((((f1.setOther hne 0 q1).setOther hne 1 q2).setOther hne 2 q3).setOther hne 3 q4).setOther hne 4 q5).setOther hne 5 q6).setOther hne 6 q7).setOther hne 7 q8
  have m2 : Mods (fun k => k = g ∨ k = h) W1 _ := ((((((((set_mods W1 h 0 q1).setCell (p := ⟨h, 1, none⟩) (fun _ => rfl) q2).setCell (p := ⟨h, 2, none⟩) (fun _ => rfl) q3).setCell (p := ⟨h, 3, none⟩) (fun _ => rfl) q4).setCell (p := ⟨h, 4, none⟩) (fun _ => rfl) q5).setCell (p := ⟨h, 5, none⟩) (fun _ => rfl) q6).setCell (p := ⟨h, 6, none⟩) (fun _ => rfl) q7).setCell (p := ⟨h, 7, none⟩) (fun _ => rfl) q8).mono (fun i _ hi => .inr hi)
  exact hk _ f4 f3 (m1.trans m2)
/-- The four boxes of a call that takes and gives disk and segment. -/
def Bx (H : Nat) : Nat → Prop := fun k => k = H ∨ k = H + 1 ∨ k = H + 1 + 1 ∨ k = H + 1 + 1 + 1
structure Boxes (w : World) (H : Nat) : Prop where
  b1 : ∃ cs, Blk w H 31 cs
  b2 : ∃ cs, Blk w (H + 1) 39 cs
  b3 : ∃ cs, Blk w (H + 1 + 1) 31 cs
  b4 : ∃ cs, Blk w (H + 1 + 1 + 1) 39 cs
theorem Ty6.boxes {w : World} {A : Option Addr} {t : TypeId} {H : Nat} (h : Ty6 w A t) (hb : Boxes w H) (h1 : t ≠ 31) (h2 : t ≠ 39) : ∀ a, A = some a → ¬ Bx H a.block := fun a ha hx => by
  obtain ⟨⟨c1, b1⟩, ⟨c2, b2⟩, ⟨c3, b3⟩, ⟨c4, b4⟩⟩ := hb
  rcases hx with hx | hx | hx | hx
  · exact h.of_ne b1 h1 a ha hx
  · exact h.of_ne b2 h2 a ha hx
  · exact h.of_ne b3 h1 a ha hx
  · exact h.of_ne b4 h2 a ha hx
theorem RdAt.boxes {w w' : World} {A B : Option Addr} {c k H : Nat} {d : PD} (h : RdAt w A c B k d) (hb : Boxes w H) (hm : Mods (Bx H) w w') : RdAt w' A c B k d :=
  ⟨h.sure.mods hm (h.tyA.boxes hb (by decide) (by decide)), h.waits.off hm (h.tyB.boxes hb (by decide) (by decide)), h.tyA.mods hm (h.tyA.boxes hb (by decide) (by decide)), h.tyB.mods hm (h.tyB.boxes hb (by decide) (by decide))⟩
theorem RsAt.boxes {w w' : World} {A : Option Addr} {c H : Nat} {s : PSeg} (h : RsAt w A c s) (hb : Boxes w H) (hm : Mods (Bx H) w w') : RsAt w' A c s :=
  ⟨h.sl.mods hm (h.ty.boxes hb (by decide) (by decide)), h.ty.mods hm (h.ty.boxes hb (by decide) (by decide))⟩
theorem Mods.ofBx {w w1 w2 : World} (h : Mods Nil w w1) (hm : Mods (Bx w.heap.size) w1 w2) : Mods Nil w w2 := h.nil_trans hm (fun i hi => by rcases hi with h | h | h | h <;> omega)
set_option maxHeartbeats 6400000 in
theorem r7sync_any (w : World) {A B : Option Addr} {c k : Nat} {d : PD} {A2 : Option Addr} {c2 : Nat} {s : PSeg} (h : RdAt w A c B k d) (hok : d.Ok) (hlim : d.W.length ≤ 1000) (hlin : d.L.length ≤ 1000) (h0 : -1 ≤ d.left) (h1 : d.left ≤ 9223372036854775807) (hs : RsAt w A2 c2 s) :
    Calls Try.prog 21 #[rdW A c B k d, rsV A2 c2 s] w (RTold7 w (s.sync d).1 (s.sync d).2.1 (s.sync d).2.2) := by
  obtain ⟨st, n, ep, L, us, su, gone, er⟩ := s
  unfold PSeg.sync
  dsimp only
  obtain ⟨len, hl⟩ : ∃ len, L.length = len := ⟨_, rfl⟩
  by_cases he : er = 0
  · subst he
    rw [if_neg (by simp)]
    have HSY := Lib.hid (fun W (m : Mods Nil w W) => r6sync_any W (h.mods m) hok rfl rfl rfl rfl hlim hlin h0 h1)
    have HS := Lib.hid hs
    have HLL := Lib.hid hl
    obtain ⟨err, herr⟩ : ∃ err, d.sync.2 = err := ⟨_, rfl⟩
    rw [herr] at HSY ⊢
    unfold rdW rsV
    dsimp only
    rw [hl]
    clear h hs h0 h1 hlim hlin hok herr hl
    obtain ⟨d', hd'⟩ : ∃ d', d.sync.1 = d' := ⟨_, rfl⟩
    rw [hd'] at HSY ⊢
    clear hd'
    generalize d.L.length = n1 at HSY ⊢
    generalize d.W.length = n2 at HSY ⊢
    generalize d.left = left at HSY ⊢
    generalize d.down = down at HSY ⊢
    obtain ⟨m1, hm1⟩ : ∃ m1, d'.L.length = m1 := ⟨_, rfl⟩
    obtain ⟨m2, hm2⟩ : ∃ m2, d'.W.length = m2 := ⟨_, rfl⟩
    obtain ⟨m3, hm3⟩ : ∃ m3, d'.left = m3 := ⟨_, rfl⟩
    obtain ⟨m4, hm4⟩ : ∃ m4, d'.down = m4 := ⟨_, rfl⟩
    have HSY2 : Hid (∀ W, Mods Nil w W → Calls Try.prog 76 #[.agg #[.slice A n1 c, .slice B n2 k, .int .i64 left, .bool down]] W fun e w' => ∃ A' c' B' k', e = .returned (.tuple #[.agg #[.slice A' m1 c', .slice B' m2 k', .int .i64 m3, .bool m4], .int .i64 err]) ∧ RdAt w' A' c' B' k' d' ∧ Mods Nil W w') := Lib.hid (fun W m => by
      subst hm1; subst hm2; subst hm3; subst hm4
      exact HSY.out W m)
    have HRET : Hid (∀ (S : PSeg) w3 w' A' c' B' k', S.L = L → Mods Nil w w3 → RdAt w3 A' c' B' k' d' → Boxes w3 w.heap.size → Mods (Bx w.heap.size) w3 w' → RTold7 w d' S err (.returned (.tuple #[.agg #[.slice A' m1 c', .slice B' m2 k', .int .i64 m3, .bool m4], .agg #[.int .i64 (S.start : Int), .int .i64 (S.n : Int), .int .u64 (S.epoch : Int), .slice A2 len c2, .int .i64 (S.used : Int), .int .i64 (S.sure : Int), .int .i64 (S.gone : Int), .int .i64 S.err], .int .i64 err])) w') := Lib.hid (fun S w3 w' A' c' B' k' hSL m3 hr hb hm => ⟨A', c', B', k', A2, c2, by subst hm1; subst hm2; subst hm3; subst hm4; have e := HLL.out; rw [← hSL] at e; subst e; rfl, hr.boxes hb hm, ((HS.out.mods m3).of hSL).boxes hb hm, m3.ofBx hm⟩)
    clear HSY hm1 hm2 hm3 hm4
    by_cases he : err = 0
    · subst he
      rw [if_neg (by simp)]
      have HRET2 := Lib.hid (HRET.out ⟨st, n, ep, L, us, len, gone, 0⟩)
      dsimp only at HRET2 ⊢
      clear HRET HLL
      go_enter Try.func21, Try.ntmps21
      go_wp2_with (first
        | (go_at_call 76; refine (HSY2.out _ (by exact (((((Mods.refl Nil w).alloc _).alloc _).alloc _).alloc _))).mono ?_; rintro e w3 ⟨A', c', B', k', rfl, r3, m3⟩; have R3 := Lib.hid r3; obtain ⟨b1, b2, b3, b4⟩ := four_blk m3; have BX := Lib.hid (Boxes.mk ⟨_, b1⟩ ⟨_, b2⟩ ⟨_, b3⟩ ⟨_, b4⟩); have B1 := Lib.hid b1; have B2 := Lib.hid b2; have B3 := Lib.hid b3; have B4 := Lib.hid b4; have M3 := Lib.hid ((((((Mods.refl Nil w).alloc _).alloc _).alloc _).alloc _).trans m3); clear r3 m3 b1 b2 b3 b4)
        | (refine wpList_store_mk rfl 31 (.tmp 2) (.tmp 18) rfl rfl w.heap.size rfl 31 #[.slice A n1 c, .slice B n2 k, .int .i64 left, .bool down] #[.slice A' m1 c', .slice B' m2 k', .int .i64 m3, .bool m4] rfl B1.out rfl (by simp [Value.oneCell']) rd_info (by simp [Value.cells]) ?_; intro w4 b4 m4; have C1 := Lib.hid b4; have C2 := Lib.hid (B2.out.mods m4 (by omega)); have C3 := Lib.hid (B3.out.mods m4 (by omega)); have C4 := Lib.hid (B4.out.mods m4 (by omega)); have M4 : Hid (Mods (Bx w.heap.size) w3 w4) := Lib.hid (m4.mono (fun i _ hi => .inl hi)); obtain ⟨⟨s0, s1, s2, s3, s4, s5, s6, s7⟩, f0, f1, f2, f3, f4, f5, f6, f7⟩ := C2.out.eight; clear b4 m4))
      have E2 : Blk _ (w.heap.size + 1) 39 #[.int .i64 (st : Int), .int .i64 (n : Int), .int .u64 (ep : Int), .slice A2 len c2, .int .i64 (us : Int), .int .i64 (len : Int), .int .i64 (gone : Int), .int .i64 0] := (C2.out.set_ 7 (.int .i64 0)).set_ 5 (.int .i64 (len : Int))
      have E1 := (C1.out.setOther (show w.heap.size ≠ w.heap.size + 1 by omega) 7 (.int .i64 0)).setOther (show w.heap.size ≠ w.heap.size + 1 by omega) 5 (.int .i64 (len : Int))
      have E3 := (C3.out.setOther (show w.heap.size + 1 + 1 ≠ w.heap.size + 1 by omega) 7 (.int .i64 0)).setOther (show w.heap.size + 1 + 1 ≠ w.heap.size + 1 by omega) 5 (.int .i64 (len : Int))
      have E4 := (C4.out.setOther (show w.heap.size + 1 + 1 + 1 ≠ w.heap.size + 1 by omega) 7 (.int .i64 0)).setOther (show w.heap.size + 1 + 1 + 1 ≠ w.heap.size + 1 by omega) 5 (.int .i64 (len : Int))
      have M5 := Lib.hid ((M4.out.trans (S := Bx w.heap.size) ((set_mods _ (w.heap.size + 1) 7 (.int .i64 0)).mono (fun i _ hi => .inr (.inl hi)))).trans (S := Bx w.heap.size) ((set_mods _ (w.heap.size + 1) 5 (.int .i64 (len : Int))).mono (fun i _ hi => .inr (.inl hi))))
      generalize (w4.setCell ⟨w.heap.size + 1, 7, none⟩ (.int .i64 0)).setCell ⟨w.heap.size + 1, 5, none⟩ (.int .i64 (len : Int)) = w5 at E1 E2 E3 E4 M5 ⊢
      clear C1 C2 C3 C4 M4 s0 s1 s2 s3 s4 s5 s6 s7 f0 f1 f2 f3 f4 f5 f6 f7
      obtain ⟨⟨x0, x1, x2, x3⟩, -⟩ := E1.four6
      obtain ⟨⟨s0, s1, s2, s3, s4, s5, s6, s7⟩, -⟩ := E2.eight
      obtain ⟨⟨y0, y1, y2, y3⟩, g0, g1, g2, g3⟩ := E3.four6
      obtain ⟨⟨z0, z1, z2, z3, z4, z5, z6, z7⟩, h0, h1, h2, h3, h4, h5, h6, h7⟩ := E4.eight
      have HE3 := Lib.hid E3
      have HE4 := Lib.hid E4
      clear E1 E2 E3 E4
      go_region
      go_wp2
      refine with_ret (Q := fun W => bodyPost _ _ _ Exit.ret _ W.drew) (by omega) HE3.out HE4.out ?_
      intro w6 F3 F4 FM
      clear x0 x1 x2 x3 s0 s1 s2 s3 s4 s5 s6 s7 y0 y1 y2 y3 z0 z1 z2 z3 z4 z5 z6 z7 g0 g1 g2 g3 h0 h1 h2 h3 h4 h5 h6 h7
      obtain ⟨⟨y0, y1, y2, y3⟩, -⟩ := F3.four6
      obtain ⟨⟨z0, z1, z2, z3, z4, z5, z6, z7⟩, -⟩ := F4.eight
      refine bodyPost_ret (v := .tuple #[.agg #[.slice A' m1 c', .slice B' m2 k', .int .i64 m3, .bool m4], .agg #[.int .i64 (st : Int), .int .i64 (n : Int), .int .u64 (ep : Int), .slice A2 len c2, .int .i64 (us : Int), .int .i64 (len : Int), .int .i64 (gone : Int), .int .i64 0], .int .i64 0]) (by simp [results, Try.results21, go_sem, y0, y1, y2, y3, z0, z1, z2, z3, z4, z5, z6, z7]) rfl (HRET2.out w3 _ A' c' B' k' trivial M3.out R3.out BX.out ?_)
      exact (M5.out.trans (S := Bx w.heap.size) (FM.mono (fun i _ hi => by rcases hi with h | h; exact .inr (.inr (.inl h)); exact .inr (.inr (.inr h))))).drew
    · rw [if_pos he]
      have HRET2 := Lib.hid (HRET.out ⟨st, n, ep, L, us, su, gone, err⟩)
      dsimp only at HRET2 ⊢
      clear HRET HLL
      have heB : (err == 0) = false := by simpa using he
      go_enter Try.func21, Try.ntmps21
      go_wp2_with (first
        | (go_at_call 76; refine (HSY2.out _ (by exact (((((Mods.refl Nil w).alloc _).alloc _).alloc _).alloc _))).mono ?_; rintro e w3 ⟨A', c', B', k', rfl, r3, m3⟩; have R3 := Lib.hid r3; obtain ⟨b1, b2, b3, b4⟩ := four_blk m3; have BX := Lib.hid (Boxes.mk ⟨_, b1⟩ ⟨_, b2⟩ ⟨_, b3⟩ ⟨_, b4⟩); have B1 := Lib.hid b1; have B2 := Lib.hid b2; have B3 := Lib.hid b3; have B4 := Lib.hid b4; have M3 := Lib.hid ((((((Mods.refl Nil w).alloc _).alloc _).alloc _).alloc _).trans m3); clear r3 m3 b1 b2 b3 b4)
        | (refine wpList_store_mk rfl 31 (.tmp 2) (.tmp 18) rfl rfl w.heap.size rfl 31 #[.slice A n1 c, .slice B n2 k, .int .i64 left, .bool down] #[.slice A' m1 c', .slice B' m2 k', .int .i64 m3, .bool m4] rfl B1.out rfl (by simp [Value.oneCell']) rd_info (by simp [Value.cells]) ?_; intro w4 b4 m4; have C1 := Lib.hid b4; have C2 := Lib.hid (B2.out.mods m4 (by omega)); have C3 := Lib.hid (B3.out.mods m4 (by omega)); have C4 := Lib.hid (B4.out.mods m4 (by omega)); have M4 : Hid (Mods (Bx w.heap.size) w3 w4) := Lib.hid (m4.mono (fun i _ hi => .inl hi)); obtain ⟨⟨s0, s1, s2, s3, s4, s5, s6, s7⟩, f0, f1, f2, f3, f4, f5, f6, f7⟩ := C2.out.eight; clear b4 m4))
      have E2 : Blk _ (w.heap.size + 1) 39 #[.int .i64 (st : Int), .int .i64 (n : Int), .int .u64 (ep : Int), .slice A2 len c2, .int .i64 (us : Int), .int .i64 (su : Int), .int .i64 (gone : Int), .int .i64 err] := C2.out.set_ 7 (.int .i64 err)
      have E1 := C1.out.setOther (show w.heap.size ≠ w.heap.size + 1 by omega) 7 (.int .i64 err)
      have E3 := C3.out.setOther (show w.heap.size + 1 + 1 ≠ w.heap.size + 1 by omega) 7 (.int .i64 err)
      have E4 := C4.out.setOther (show w.heap.size + 1 + 1 + 1 ≠ w.heap.size + 1 by omega) 7 (.int .i64 err)
      have M5 := Lib.hid (M4.out.trans (S := Bx w.heap.size) ((set_mods _ (w.heap.size + 1) 7 (.int .i64 err)).mono (fun i _ hi => .inr (.inl hi))))
      generalize w4.setCell ⟨w.heap.size + 1, 7, none⟩ (.int .i64 err) = w5 at E1 E2 E3 E4 M5 ⊢
      clear C1 C2 C3 C4 M4 s0 s1 s2 s3 s4 s5 s6 s7 f0 f1 f2 f3 f4 f5 f6 f7
      obtain ⟨⟨x0, x1, x2, x3⟩, -⟩ := E1.four6
      obtain ⟨⟨s0, s1, s2, s3, s4, s5, s6, s7⟩, -⟩ := E2.eight
      obtain ⟨⟨y0, y1, y2, y3⟩, g0, g1, g2, g3⟩ := E3.four6
      obtain ⟨⟨z0, z1, z2, z3, z4, z5, z6, z7⟩, h0, h1, h2, h3, h4, h5, h6, h7⟩ := E4.eight
      have HE3 := Lib.hid E3
      have HE4 := Lib.hid E4
      clear E1 E2 E3 E4
      go_region
      go_wp2
      refine with_ret (Q := fun W => bodyPost _ _ _ Exit.ret _ W.drew) (by omega) HE3.out HE4.out ?_
      intro w6 F3 F4 FM
      clear x0 x1 x2 x3 s0 s1 s2 s3 s4 s5 s6 s7 y0 y1 y2 y3 z0 z1 z2 z3 z4 z5 z6 z7 g0 g1 g2 g3 h0 h1 h2 h3 h4 h5 h6 h7
      obtain ⟨⟨y0, y1, y2, y3⟩, -⟩ := F3.four6
      obtain ⟨⟨z0, z1, z2, z3, z4, z5, z6, z7⟩, -⟩ := F4.eight
      refine bodyPost_ret (v := .tuple #[.agg #[.slice A' m1 c', .slice B' m2 k', .int .i64 m3, .bool m4], .agg #[.int .i64 (st : Int), .int .i64 (n : Int), .int .u64 (ep : Int), .slice A2 len c2, .int .i64 (us : Int), .int .i64 (su : Int), .int .i64 (gone : Int), .int .i64 err], .int .i64 err]) (by simp [results, Try.results21, go_sem, y0, y1, y2, y3, z0, z1, z2, z3, z4, z5, z6, z7]) rfl (HRET2.out w3 _ A' c' B' k' trivial M3.out R3.out BX.out ?_)
      exact (M5.out.trans (S := Bx w.heap.size) (FM.mono (fun i _ hi => by rcases hi with h | h; exact .inr (.inr (.inl h)); exact .inr (.inr (.inr h))))).drew
  · rw [if_pos he]
    have he1 : ¬ er = 0 := he
    have he2 : (er == 0) = false := by simpa using he
    unfold rdW rsV
    dsimp only
    rw [hl]
    have HD := Lib.hid h
    have HS := Lib.hid hs
    have HRET : Hid (∀ w', Mods Nil w w' → RTold7 w d ⟨st, n, ep, L, us, su, gone, er⟩ er (.returned (.tuple #[.agg #[.slice A d.L.length c, .slice B d.W.length k, .int .i64 d.left, .bool d.down], .agg #[.int .i64 (st : Int), .int .i64 (n : Int), .int .u64 (ep : Int), .slice A2 len c2, .int .i64 (us : Int), .int .i64 (su : Int), .int .i64 (gone : Int), .int .i64 er], .int .i64 er])) w') := Lib.hid (fun w' m => ⟨A, c, B, k, A2, c2, by subst hl; rfl, h.mods m, hs.mods m, m⟩)
    clear h hs h0 h1 hlim hlin hok hl
    generalize d.L.length = n1 at HRET ⊢
    generalize d.W.length = n2 at HRET ⊢
    generalize d.left = left at HRET ⊢
    generalize d.down = down at HRET ⊢
    go_enter Try.func21, Try.ntmps21
    go_wp2
    go_region
    all_goals
      go_wp2
      exact bodyPost_ret (v := .tuple #[.agg #[.slice A n1 c, .slice B n2 k, .int .i64 left, .bool down], .agg #[.int .i64 (st : Int), .int .i64 (n : Int), .int .u64 (ep : Int), .slice A2 len c2, .int .i64 (us : Int), .int .i64 (su : Int), .int .i64 (gone : Int), .int .i64 er], .int .i64 er]) (by simp [results, Try.results21, go_sem]) rfl (HRET.out _ ((((((Mods.refl Nil w).alloc _).alloc _).drew).alloc _).alloc _))
end Go.Proofs.Ytdllgmhipenidaa
