/- SumsCuts' walk. -/
import Derived.Test.YtmmegninbopdlaaAwake02
import Derived.Test.YtmmegninbopdlaaOpen
import Derived.Deep.RegionHeld
namespace Go.Proofs.Ytmmegninbopdlaa
open Go.RowKit
set_option linter.unusedVariables false

theorem Sl.keep {w w' : World} {A : Option Addr} {c : Nat} {xs : List Value} (h : Sl w A c xs) (hm : Mods Nil w w') : Sl w' A c xs := h.mods hm (fun _ _ h => h)
/-- The sum of two rows that lie in a block. -/
theorem of_two_at {w : World} {g : Nat} {A B : Option Addr} {c d n m : Nat} {xs ys : List UInt8} (hn : xs.length = n) (hm : ys.length = m)
    (hg : Sl w (some ⟨g, 0, none⟩) 2 [.slice A n c, .slice B m d]) (hs : Sl w A c (bts xs)) (hy : Sl w B d (bts ys)) :
    Calls Try.prog 9 #[.slice (some ⟨g, 0, none⟩) 2 2] w fun e w' => e = .returned (.int .u32 (sumOf (xs ++ ys) : Nat)) ∧ Mods Nil w w' := by
  subst hn; subst hm
  refine (of_any (l := [⟨A, c, xs⟩, ⟨B, d, ys⟩]) rfl hg (by intro r hr; simp only [List.mem_cons, List.not_mem_nil, or_false] at hr; rcases hr with rfl | rfl; exact hs; exact hy)).mono ?_
  rintro e w' ⟨he, m⟩
  exact ⟨by rw [he]; simp [flat], m⟩
theorem of_one_at {w : World} {g : Nat} {A : Option Addr} {c n : Nat} {xs : List UInt8} (hn : xs.length = n) (hg : Sl w (some ⟨g, 0, none⟩) 1 [.slice A n c]) (hs : Sl w A c (bts xs)) :
    Calls Try.prog 9 #[.slice (some ⟨g, 0, none⟩) 1 1] w fun e w' => e = .returned (.int .u32 (sumOf xs : Nat)) ∧ Mods Nil w w' := by
  subst hn
  refine (of_any (l := [⟨A, c, xs⟩]) rfl hg (by intro r hr; simp only [List.mem_cons, List.not_mem_nil, or_false] at hr; subst hr; exact hs)).mono ?_
  rintro e w' ⟨he, m⟩
  exact ⟨by rw [he]; simp [flat], m⟩
theorem of_three_at {w : World} {g : Nat} {A : Option Addr} {c n : Nat} {xs : List UInt8} (hn : xs.length = n) (hg : Sl w (some ⟨g, 0, none⟩) 3 [.slice none 0 0, .slice A n c, .slice none 0 0]) (hs : Sl w A c (bts xs)) :
    Calls Try.prog 9 #[.slice (some ⟨g, 0, none⟩) 3 3] w fun e w' => e = .returned (.int .u32 (sumOf xs : Nat)) ∧ Mods Nil w w' := by
  subst hn
  refine (of_any (l := [⟨none, 0, []⟩, ⟨A, c, xs⟩, ⟨none, 0, []⟩]) rfl hg (by intro r hr; simp only [List.mem_cons, List.not_mem_nil, or_false] at hr; rcases hr with rfl | rfl | rfl; exact Sl.none_ _; exact hs; exact Sl.none_ _)).mono ?_
  rintro e w' ⟨he, m⟩
  exact ⟨by rw [he]; simp [flat], m⟩
theorem of_none (w : World) : Calls Try.prog 9 #[.slice none 0 0] w fun e w' => e = .returned (.int .u32 0) ∧ Mods Nil w w' := by
  refine (of_any (l := []) (n := 0) (c := 0) rfl (Sl.none_ _) (by intro r hr; cases hr)).mono ?_
  rintro e w' ⟨he, m⟩
  exact ⟨by rw [he]; rfl, m⟩

/-- The same, in a world that goes on from one in which the rows lie. -/
theorem of_two_m {w W : World} {g : Nat} {A B : Option Addr} {c d n m : Nat} {xs ys zs : List UInt8} (hW : Mods Nil w W) (hn : xs.length = n) (hm : ys.length = m) (hz : xs ++ ys = zs)
    (hs : Sl w A c (bts xs)) (hy : Sl w B d (bts ys)) (hg : Sl W (some ⟨g, 0, none⟩) 2 [.slice A n c, .slice B m d]) :
    Calls Try.prog 9 #[.slice (some ⟨g, 0, none⟩) 2 2] W fun e w' => e = .returned (.int .u32 (sumOf zs : Nat)) ∧ Mods Nil W w' ∧ Mods Nil w w' := by
  refine (of_two_at hn hm hg (hs.mods hW (fun _ _ h => h)) (hy.mods hW (fun _ _ h => h))).mono ?_
  rintro e w' ⟨he, m⟩
  exact ⟨by rw [he, hz], m, hW.trans m⟩
theorem of_one_m {w W : World} {g : Nat} {A : Option Addr} {c n : Nat} {xs : List UInt8} (hW : Mods Nil w W) (hn : xs.length = n) (hs : Sl w A c (bts xs)) (hg : Sl W (some ⟨g, 0, none⟩) 1 [.slice A n c]) :
    Calls Try.prog 9 #[.slice (some ⟨g, 0, none⟩) 1 1] W fun e w' => e = .returned (.int .u32 (sumOf xs : Nat)) ∧ Mods Nil W w' ∧ Mods Nil w w' := by
  refine (of_one_at hn hg (hs.mods hW (fun _ _ h => h))).mono ?_
  rintro e w' ⟨he, m⟩
  exact ⟨he, m, hW.trans m⟩
theorem of_three_m {w W : World} {g : Nat} {A : Option Addr} {c n : Nat} {xs : List UInt8} (hW : Mods Nil w W) (hn : xs.length = n) (hs : Sl w A c (bts xs)) (hg : Sl W (some ⟨g, 0, none⟩) 3 [.slice none 0 0, .slice A n c, .slice none 0 0]) :
    Calls Try.prog 9 #[.slice (some ⟨g, 0, none⟩) 3 3] W fun e w' => e = .returned (.int .u32 (sumOf xs : Nat)) ∧ Mods Nil W w' ∧ Mods Nil w w' := by
  refine (of_three_at hn hg (hs.mods hW (fun _ _ h => h))).mono ?_
  rintro e w' ⟨he, m⟩
  exact ⟨he, m, hW.trans m⟩

/-- The region of SumsCuts, its two pieces named. -/
theorem cut_pieces {w : World} {A : Option Addr} {c n k : Nat} {xs : List UInt8} (hn : xs.length = n) (hs : Sl w A c (bts xs)) (hk : k ≤ n) :
    Sl w A c (bts (xs.take k)) ∧ (xs.take k).length = k ∧ Sl w (if c = k then A else A.map (·.add k)) (c - k) (bts (xs.drop k)) ∧ (xs.drop k).length = n - k := by
  have h1 := hs.take k
  have h2 := hs.cut (k := k) (by simp; omega)
  rw [bts_take] at h1
  rw [bts_drop] at h2
  exact ⟨h1, by simp; omega, h2, by simp; omega⟩

set_option maxHeartbeats 3200000 in
theorem sumsCuts_walk (w : World) {A : Option Addr} {c n : Nat} {xs : List UInt8} (hn : xs.length = n) (hs : Sl w A c (bts xs)) {a1 : Int} (w1 : (Lit.int .u16 a1).wf = true) :
    Calls Try.prog 5 #[.slice A n c, .int .u16 a1] w fun e w' => e = .returned (.bool true) ∧ Mods Nil w w' := by
  have ha := u16_of_wf w1
  obtain ⟨at_, rfl⟩ := Int.eq_ofNat_of_zero_le ha.1
  have hat : at_ < 65536 := by omega
  clear ha w1
  have hmx := hs.max
  have hle := hs.le
  unfold maxLen at hmx
  simp at hle
  by_cases hbig : 500 < n
  · have hb : (500 : Int) < (n : Int) := by omega
    clear hs
    go_enter Try.func5, Try.ntmps5
    go_wp2_with (first | (go_at_call 8; refine (awake_any _).mono ?_; rintro e w1 ⟨rfl, m1⟩; have M1 := Lib.hid m1; clear m1))
    go_ret
    exact ⟨rfl, M1.out⟩
  · have hb : (n : Int) ≤ 500 := by omega
    have hb' : n ≤ 500 := by omega
    obtain ⟨k, hk⟩ : ∃ k, at_ % (n + 1) = k := ⟨_, rfl⟩
    have hkn : k ≤ n := by have := Nat.mod_lt at_ (show 0 < n + 1 by omega); omega
    have hkI : (at_ : Int) % ((n : Int) + 1) = (k : Int) := by rw [← hk]; simp
    have hkJ : (k : Int) ≤ (n : Int) := by omega
    have hkc : (k : Int) ≤ (c : Int) := by omega
    have hk0 : (0 : Int) ≤ (k : Int) := by omega
    have HN := Lib.hid hn
    have HS := Lib.hid hs
    obtain ⟨p1, p2, p3, p4⟩ := cut_pieces hn hs hkn
    have e1 : xs.take k ++ xs.drop k = xs := List.take_append_drop _ _
    obtain ⟨ys, hys⟩ : ∃ ys, xs.take k = ys := ⟨_, rfl⟩
    obtain ⟨zs, hzs⟩ : ∃ zs, xs.drop k = zs := ⟨_, rfl⟩
    rw [hys] at p1 p2 e1
    rw [hzs] at p3 p4 e1
    obtain ⟨A2, hA2⟩ : ∃ A2, (if c = k then A else A.map (·.add k)) = A2 := ⟨_, rfl⟩
    obtain ⟨c2, hc2⟩ : ∃ c2, c - k = c2 := ⟨_, rfl⟩
    obtain ⟨n2, hn2⟩ : ∃ n2, n - k = n2 := ⟨_, rfl⟩
    rw [hA2, hc2] at p3
    rw [hn2] at p4
    have P1 := Lib.hid p1
    have P2 := Lib.hid p2
    have P3 := Lib.hid p3
    have P4 := Lib.hid p4
    have E1 := Lib.hid e1
    have q2 : ∀ W : World, (Instr.slice 23 (.slice A n c) (some (.int .i64 (k : Int))) none none).run Try.prog W = .ok (.slice A2 n2 c2) W := by
      intro W
      rw [← hA2, ← hc2, ← hn2]
      rw [run_slice_l (P := Try.prog) W _ A n c (by exact Try.underlying23) .i64 (k : Int) hk0 hkJ]
      rw [show (sizeOf (Try.prog.elem 23)).run Try.prog W = .ok 1 W from rfl]
      simp [Result.andThen, sliced]
    clear hs hn p1 p2 p3 p4 e1 hys hzs hk hA2 hc2 hn2
    go_enter Try.func5, Try.ntmps5
    go_wp2_with (first | (go_at_call 8; refine (awake_any _).mono ?_; rintro e w1 ⟨rfl, m1⟩; have M1 := Lib.hid m1; have S1 := Lib.hid (P1.out.mods m1 (fun _ _ h => h)); have T1 := Lib.hid (P3.out.mods m1 (fun _ _ h => h)); have U1 := Lib.hid (HS.out.mods m1 (fun _ _ h => h)); clear m1))
    go_region_held (fun _ => True) (trivial) (first
      | (go_at_call_of 9 (Value.slice none 0 0); (refine (of_none _).mono ?_; rintro e w6 ⟨rfl, m6⟩; have M6 := Lib.hid (M5.out.trans m6); clear m6))
      | (go_at_call 9; first
        | (with_reducible show Calls _ _ #[Value.slice _ 2 2] _ _; (refine (of_two_m (w := w1) (by first | exact ((Mods.refl Nil w1).alloc _).drew | exact (((Mods.refl Nil w1).alloc _).alloc _).drew) P2.out P4.out E1.out S1.out T1.out (by first | exact (build_at (n := 2) (by simp) rfl rfl (by unfold maxLen; omega)).drew | exact ((build_at (n := 2) (by simp) rfl rfl (by unfold maxLen; omega)).alloc _).drew)).mono ?_; rintro e w2 ⟨rfl, n2, m2⟩; have M2 := Lib.hid m2; have N2 := Lib.hid (fun (g : Nat) (h : Sl _ (some ⟨g, 0, none⟩) 1 [Value.slice A n c]) => Sl.keep h n2); clear n2 m2))
        | (with_reducible show Calls _ _ #[Value.slice _ 3 3] _ _; (refine (of_three_m (w := w1) (by first | exact (M3.out.alloc _).alloc _ | exact M3.out.alloc _) HN.out U1.out (by first | exact (build_at (n := 3) (by simp) rfl rfl (by unfold maxLen; omega)) | exact (build_at (n := 3) (by simp) rfl rfl (by unfold maxLen; omega)).alloc _)).mono ?_; rintro e w4 ⟨rfl, n4, m4⟩; have M4 := Lib.hid m4; have N4 := Lib.hid (fun (g : Nat) (h : Sl _ (some ⟨g, 0, none⟩) 1 [Value.slice A n c]) => Sl.keep h n4); clear n4 m4))
        | (with_reducible show Calls _ _ #[Value.slice _ 1 1] _ _; (refine (of_one_m (w := w1) (by first | exact M4.out.alloc _ | exact M4.out) HN.out U1.out (by first | exact (build_at (n := 1) (by simp) rfl rfl (by unfold maxLen; omega)) | exact N4.out _ (by first | exact (build_at (n := 1) (by simp) rfl rfl (by unfold maxLen; omega)) | exact (build_at (n := 1) (by simp) rfl rfl (by unfold maxLen; omega)).alloc _))).mono ?_; rintro e w5 ⟨rfl, n5, m5⟩; have M5 := Lib.hid m5; clear n5 m5))
        | (with_reducible show Calls _ _ #[Value.slice _ 1 1] _ _; (refine (of_one_m (w := w1) (by first | exact M2.out.alloc _ | exact M2.out) HN.out U1.out (by first | exact (build_at (n := 1) (by simp) rfl rfl (by unfold maxLen; omega)) | exact N2.out _ (by first | exact (build_at (n := 1) (by simp) rfl rfl (by unfold maxLen; omega)).drew | exact ((build_at (n := 1) (by simp) rfl rfl (by unfold maxLen; omega)).alloc _).drew))).mono ?_; rintro e w3 ⟨rfl, n3, m3⟩; have M3 := Lib.hid m3; clear n3 m3))))
    all_goals
      go_wp2
      go_ret
      exact ⟨rfl, M1.out.trans M6.out⟩
end Go.Proofs.Ytmmegninbopdlaa
