/- Layer 15's statements: votes as the model has them (votes, one), and what is few. -/
import Derived.Test.YtpabbhhaagfoeaaAcc1
import Derived.Test.YtpabbhhaagfoeaaRef13M
import Derived.Test.YtpabbhhaagfoeaaLawM15
import Derived.Test.YtpabbhhaagfoeaaQT
import Derived.Test.YtpabbhhaagfoeaaRef15A
namespace Go.Proofs.Ytpabbhhaagfoeaa
set_option maxRecDepth 1000000
open Go.RowKit
set_option linter.unusedVariables false
set_option linter.unusedSimpArgs false

/-- The model's votes, in new memory. -/
def VTold15 (w : World) (n : Nat) (l : List PVt) (e : Ending) (w' : World) : Prop := ∃ A c, e = .returned (.slice A n c) ∧ RVs w' A c n l ∧ (∀ a, A = some a → w.heap.size ≤ a.block) ∧ Mods Nil w w'
set_option maxHeartbeats 3200000 in
theorem votes15_any (w : World) {D : Nat → Prop} {A : Option Addr} {c n : Nat} {L : List VtP} (h : PVs w D A c n L) (hn : n ≤ 100000) :
    Calls Try.prog 15 #[.slice A n c] w (VTold15 w n (L.map VtP.plain)) := by
  have H := Lib.hid h
  have HN := Lib.hid h.len
  clear h
  go_enter Try.func15, Try.ntmps15
  go_wp2
  go_loopw [3, 4] (fun v x wr => ∃ i : Nat, i ≤ n ∧ x = .int .i64 (i : Int) ∧ wr.ownsRow w.heap.size 53 3 v i (vtCs ((L.take i).map VtP.plain)) ∧ Mods Nil w wr) (fun _ x _ => n - (intOf x).toNat)
  case atStart => exact ⟨0, Nat.zero_le _, rfl, by simpa [vtCs] using World.ownsRow_nil _ _ _ _, Mods.refl _ _⟩
  case round =>
    obtain ⟨i, hi, rfl, ho, hm⟩ := hrel
    have HO := Lib.hid ho
    have HM := Lib.hid hm
    clear ho hm
    by_cases hlt : i < n
    · have hltI : (i : Int) < (n : Int) := by omega
      have hl1 : i < L.length := by rw [HN.out]; exact hlt
      obtain ⟨q, hq⟩ : ∃ q, L[i]? = some q := ⟨_, List.getElem?_eq_getElem hl1⟩
      obtain ⟨b1, o1, rfl, hbl, c0, c1, c2⟩ := (H.out.nil HM.out).cells hq
      have hsn : (L.take (i + 1)).map VtP.plain = (L.take i).map VtP.plain ++ [q.plain] := by
        rw [List.take_add_one, hq]
        simp
      have hby := ((H.out.nil HM.out).bys q (List.mem_of_getElem? hq)).1
      obtain ⟨s, bb, B, cb, vv⟩ := q
      simp only at c0 c1 c2 hby
      obtain ⟨lv, hlv⟩ : ∃ x, vv.length = x := ⟨_, rfl⟩
      have HCV : ∀ V, Mods Nil wr V → (convert 34 9 (.slice B lv cb)).run Try.prog V = .ok (.string (strOf vv)) V := fun V hV => conv15 hlv (hby.mods hV (fun _ _ h => h))
      rw [hlv] at c2
      have HSN := Lib.hid hsn
      clear hsn hq hby hlv hl1
      go_wp2_with fail
      refine qt_region 21 (by kernel_rfl) rfl ?_
      refine qt_take 0 20 rfl (by kernel_rfl) (by kernel_rfl) (by kernel_rfl) (fun _ _ _ h => h) (by rfl) (v := ?_) ?_ ?_
      rotate_left
      · intro V
        go_simp
        try with_reducible rfl
      simp only [List.getElem_toArray, List.getElem_cons_succ, List.getElem_cons_zero, Act.put, List.setIfInBounds_toArray, List.set_cons_zero, List.set_cons_succ]
      refine qt_quiet (fun V => Mods Nil wr V) 1 17 3 (by kernel_rfl) ((Mods.refl Nil wr).drew) ?_
      simp only [List.drop_succ_cons, List.drop_zero, List.take_succ_cons, List.take_zero]
      repeat (first
        | go_big_quiet_skip
        | (go_big_quiet_want; first
            | (refine gq_op (v := ?_) ?_ ?_; rotate_left; (focus (intro V hV; have k0 := (World.cell?_of_block (hV.block b1 hbl (fun h => h))).trans c0; have k1 := (World.cell?_of_block (hV.block b1 hbl (fun h => h))).trans c1; have k2 := (World.cell?_of_block (hV.block b1 hbl (fun h => h))).trans c2; have k3 := HCV V hV; go_simp; try with_reducible rfl)); go_big_quiet_on))
          simp only [Act.put, List.setIfInBounds_toArray, List.set_cons_zero, List.set_cons_succ])
      refine wpQuiet_nil ?_
      intro V hV
      refine qt_list 18 3 rfl (by kernel_rfl) ?_
      simp only [List.drop_succ_cons, List.drop_zero]
      have OV := Lib.hid (own_mods HO.out hV (fun _ _ h => h))
      have MV := Lib.hid (HM.out.trans hV)
      clear hV c0 c1 c2 HCV
      go_wp2_with (at_builtin; refine push_vt rfl _ _ rfl ⟨s, bb, vv⟩ rfl OV.out rfl (by omega) (by have := MV.out.size; omega) ?_; intro v' w4 o4 m4; have O4 := Lib.hid o4; have M4 := Lib.hid (own_nilm OV.out (Nat.le_refl _) MV.out m4); clear o4 m4)
      exact ⟨⟨i + 1, by omega, by go_num, by rw [HSN.out]; exact O4.out, M4.out⟩, by simp [intOf]; omega⟩
    · obtain rfl : i = n := by omega
      obtain ⟨A2, c2, rfl, r2, hb2⟩ := rvs_own HO.out (by simp [HN.out])
      have R2 := Lib.hid r2
      have HB2 := Lib.hid hb2
      clear r2 hb2
      go_wp2
      go_ret
      refine ⟨A2, c2, rfl, ?_, HB2.out, HM.out⟩
      have := R2.out
      rwa [List.take_of_length_le (by rw [HN.out]; exact Nat.le_refl _)] at this
/-- One vote. -/
theorem one15_any (w : World) (s b : Int) {A : Option Addr} {c n : Nat} {xs : List UInt8} (hn : xs.length = n) (hs : Sl w A c (bts xs)) :
    Calls Try.prog 19 #[.agg #[.int .u64 s, .int .u64 b, .slice A n c]] w fun e w' => e = .returned (.agg #[.int .u64 s, .int .u64 b, .string (strOf xs)]) ∧ Mods Nil w w' := by
  have HCV : ∀ V, Mods Nil w V → (convert 34 9 (.slice A n c)).run Try.prog V = .ok (.string (strOf xs)) V := fun V hV => conv15 hn (hs.mods hV (fun _ _ h => h))
  clear hs hn
  have k3 := HCV _ (((Mods.refl Nil w).alloc (.cells #[.int .u64 s, .int .u64 b, .slice A n c] 49)).alloc (.cells #[.int .u64 0, .int .u64 0, .string { data := #[] }] 53))
  clear HCV
  go_enter Try.func19, Try.ntmps19
  go_wp2
  refine bodyPost_ret (results_rowA (g1 := w.heap.size + 1) (cs1 := #[.int .u64 s, .int .u64 b, .string (strOf xs)]) rfl _ _ rfl (by have h := Blk.new (w.alloc (.cells #[.int .u64 s, .int .u64 b, .slice A n c] 49)) 53 #[.int .u64 s, .int .u64 b, .string (strOf xs)]; rw [World.size_alloc] at h; exact h) Try.underlying53 rfl v13_info) rfl ⟨rfl, ((Mods.refl Nil w).alloc _).alloc _⟩
set_option maxHeartbeats 6400000 in
/-- What is few: at most 8 votes, no value longer than 40 bytes. -/
theorem few15_any (w : World) (kd nd : Int) (bal sl lo : Nat) {B : Option Addr} {cb q : Nat} {A : Option Addr} {c n : Nat} {L : List VtP} (h : PVs w (fun _ => True) A c n L) :
    Calls Try.prog 10 #[.agg #[.int .i64 kd, .int .i64 nd, .int .u64 (bal : Int), .int .u64 (sl : Int), .int .u64 (lo : Int), .slice B q cb, .slice A n c]] w fun e w' => ∃ r, e = .returned (.bool r) ∧ (r = true → n ≤ 8 ∧ q ≤ 40 ∧ ∀ x ∈ L, x.val.length ≤ 40) ∧ Mods Nil w w' := by
  obtain ⟨W1, hW1⟩ : ∃ W, w.alloc (.cells #[.int .i64 kd, .int .i64 nd, .int .u64 (bal : Int), .int .u64 (sl : Int), .int .u64 (lo : Int), .slice B q cb, .slice A n c] 37) = W := ⟨_, rfl⟩
  have m1 : Mods Nil w W1 := by rw [← hW1]; exact (Mods.refl Nil w).alloc _
  have b1 : Blk W1 w.heap.size 37 #[.int .i64 kd, .int .i64 nd, .int .u64 (bal : Int), .int .u64 (sl : Int), .int .u64 (lo : Int), .slice B q cb, .slice A n c] := by rw [← hW1]; exact Blk.new w _ _
  have y3 := b1.cell 3
  have y4 := b1.cell 4
  have y5 := b1.cell 5
  have y6 := b1.cell 6
  simp at y3 y4 y5 y6
  have H := Lib.hid (h.nil m1)
  have HN := Lib.hid h.len
  have M1 := Lib.hid m1
  obtain ⟨g, hg⟩ : ∃ g, w.heap.size = g := ⟨_, rfl⟩
  rw [hg] at y3 y4 y5 y6
  clear h m1 b1
  by_cases hn8 : n ≤ 8
  · have hn8I : decide ((8 : Int) < (n : Int)) = false := by simp; omega
    have hn8N : decide (8 < n) = false := by simp; omega
    by_cases hq4 : q ≤ 40
    · have hq4I : decide ((40 : Int) < (q : Int)) = false := by simp; omega
      have hq4N : decide (40 < q) = false := by simp; omega
      obtain ⟨BIG, hBIG⟩ : ∃ x : Int, x = 18446744073709551000 := ⟨_, rfl⟩
      have hS : decide ((5000 : Int) < (sl : Int)) = false ∨ (decide ((5000 : Int) < (sl : Int)) = true ∧ decide ((sl : Int) < 18446744073709551000) = false) ∨ (decide ((5000 : Int) < (sl : Int)) = true ∧ decide ((sl : Int) < 18446744073709551000) = true) := by
        rw [← hBIG]
        simp only [decide_eq_false_iff_not, decide_eq_true_eq]; omega
      have hL : decide ((5000 : Int) < (lo : Int)) = false ∨ (decide ((5000 : Int) < (lo : Int)) = true ∧ decide ((lo : Int) < 18446744073709551000) = false) ∨ (decide ((5000 : Int) < (lo : Int)) = true ∧ decide ((lo : Int) < 18446744073709551000) = true) := by
        rw [← hBIG]
        simp only [decide_eq_false_iff_not, decide_eq_true_eq]; omega
      clear hBIG
      go_enter Try.func10, Try.ntmps10
      rcases hS with hS | ⟨hS, hS2⟩ | ⟨hS, hS2⟩ <;> rcases hL with hL | ⟨hL, hL2⟩ | ⟨hL, hL2⟩
      · go_wp2
        go_loopw [3] (fun x wr => ∃ i : Nat, i ≤ n ∧ x = .int .i64 (i : Int) ∧ wr = W1 ∧ ∀ y ∈ L.take i, y.val.length ≤ 40) (fun x _ => n - (intOf x).toNat)
        case atStart => exact ⟨0, Nat.zero_le _, rfl, rfl, fun y hy => by simp at hy⟩
        case round =>
          obtain ⟨i, hi, rfl, rfl, hall⟩ := hrel
          have HALL := Lib.hid hall
          clear hall
          by_cases hlt : i < n
          · have hltI : (i : Int) < (n : Int) := by omega
            have hl1 : i < L.length := by rw [HN.out]; exact hlt
            obtain ⟨x, hx⟩ : ∃ x, L[i]? = some x := ⟨_, List.getElem?_eq_getElem hl1⟩
            obtain ⟨b1, o1, rfl, hbl, c0, c1, c2⟩ := H.out.cells hx
            have HSN : Hid (L.take (i + 1) = L.take i ++ [x]) := Lib.hid (by rw [List.take_add_one, hx]; rfl)
            obtain ⟨sx, bx, B2, cb2, vv⟩ := x
            simp only at c0 c1 c2
            obtain ⟨lv, hlv⟩ : ∃ y, vv.length = y := ⟨_, rfl⟩
            rw [hlv] at c2
            have HLV := Lib.hid hlv
            clear hlv hx hl1 hbl
            by_cases hv4 : 40 < lv
            · have hv4I : decide ((40 : Int) < (lv : Int)) = true := by simp; omega
              have hv4N : decide (40 < lv) = true := by simp; omega
              go_wp2
              go_ret
              exact ⟨false, rfl, (fun h => by cases h), M1.out⟩
            have hv4I : decide ((40 : Int) < (lv : Int)) = false := by simp; omega
            have hv4N : decide (40 < lv) = false := by simp; omega
            have HNX : Hid (∀ y ∈ L.take (i + 1), y.val.length ≤ 40) := Lib.hid (fun y hy => by
              rw [HSN.out] at hy
              rcases List.mem_append.1 hy with hy | hy
              · exact HALL.out y hy
              · simp at hy; subst hy; show vv.length ≤ 40; rw [HLV.out]; omega)
            obtain ⟨BIG, hBIG⟩ : ∃ x : Int, x = 18446744073709551000 := ⟨_, rfl⟩
            have hX : decide ((300 : Int) < (sx : Int)) = false ∨ (decide ((300 : Int) < (sx : Int)) = true ∧ decide ((sx : Int) < 18446744073709551000) = false) ∨ (decide ((300 : Int) < (sx : Int)) = true ∧ decide ((sx : Int) < 18446744073709551000) = true) := by
              rw [← hBIG]
              simp only [decide_eq_false_iff_not, decide_eq_true_eq]; omega
            clear hBIG
            rcases hX with hX | ⟨hX, hX2⟩ | ⟨hX, hX2⟩
            · go_wp2
              exact ⟨⟨i + 1, by omega, by go_num, trivial, HNX.out⟩, by simp [intOf]; omega⟩
            · go_wp2
              exact ⟨⟨i + 1, by omega, by go_num, trivial, HNX.out⟩, by simp [intOf]; omega⟩
            · go_wp2
              go_ret
              exact ⟨false, rfl, (fun h => by cases h), M1.out⟩
          · obtain rfl : i = n := by omega
            go_wp2
            go_ret
            exact ⟨true, rfl, (fun _ => ⟨hn8, hq4, fun y hy => HALL.out y (by rwa [List.take_of_length_le (by rw [HN.out]; exact Nat.le_refl _)])⟩), M1.out⟩
      · go_wp2
        go_loopw [3] (fun x wr => ∃ i : Nat, i ≤ n ∧ x = .int .i64 (i : Int) ∧ wr = W1 ∧ ∀ y ∈ L.take i, y.val.length ≤ 40) (fun x _ => n - (intOf x).toNat)
        case atStart => exact ⟨0, Nat.zero_le _, rfl, rfl, fun y hy => by simp at hy⟩
        case round =>
          obtain ⟨i, hi, rfl, rfl, hall⟩ := hrel
          have HALL := Lib.hid hall
          clear hall
          by_cases hlt : i < n
          · have hltI : (i : Int) < (n : Int) := by omega
            have hl1 : i < L.length := by rw [HN.out]; exact hlt
            obtain ⟨x, hx⟩ : ∃ x, L[i]? = some x := ⟨_, List.getElem?_eq_getElem hl1⟩
            obtain ⟨b1, o1, rfl, hbl, c0, c1, c2⟩ := H.out.cells hx
            have HSN : Hid (L.take (i + 1) = L.take i ++ [x]) := Lib.hid (by rw [List.take_add_one, hx]; rfl)
            obtain ⟨sx, bx, B2, cb2, vv⟩ := x
            simp only at c0 c1 c2
            obtain ⟨lv, hlv⟩ : ∃ y, vv.length = y := ⟨_, rfl⟩
            rw [hlv] at c2
            have HLV := Lib.hid hlv
            clear hlv hx hl1 hbl
            by_cases hv4 : 40 < lv
            · have hv4I : decide ((40 : Int) < (lv : Int)) = true := by simp; omega
              have hv4N : decide (40 < lv) = true := by simp; omega
              go_wp2
              go_ret
              exact ⟨false, rfl, (fun h => by cases h), M1.out⟩
            have hv4I : decide ((40 : Int) < (lv : Int)) = false := by simp; omega
            have hv4N : decide (40 < lv) = false := by simp; omega
            have HNX : Hid (∀ y ∈ L.take (i + 1), y.val.length ≤ 40) := Lib.hid (fun y hy => by
              rw [HSN.out] at hy
              rcases List.mem_append.1 hy with hy | hy
              · exact HALL.out y hy
              · simp at hy; subst hy; show vv.length ≤ 40; rw [HLV.out]; omega)
            obtain ⟨BIG, hBIG⟩ : ∃ x : Int, x = 18446744073709551000 := ⟨_, rfl⟩
            have hX : decide ((300 : Int) < (sx : Int)) = false ∨ (decide ((300 : Int) < (sx : Int)) = true ∧ decide ((sx : Int) < 18446744073709551000) = false) ∨ (decide ((300 : Int) < (sx : Int)) = true ∧ decide ((sx : Int) < 18446744073709551000) = true) := by
              rw [← hBIG]
              simp only [decide_eq_false_iff_not, decide_eq_true_eq]; omega
            clear hBIG
            rcases hX with hX | ⟨hX, hX2⟩ | ⟨hX, hX2⟩
            · go_wp2
              exact ⟨⟨i + 1, by omega, by go_num, trivial, HNX.out⟩, by simp [intOf]; omega⟩
            · go_wp2
              exact ⟨⟨i + 1, by omega, by go_num, trivial, HNX.out⟩, by simp [intOf]; omega⟩
            · go_wp2
              go_ret
              exact ⟨false, rfl, (fun h => by cases h), M1.out⟩
          · obtain rfl : i = n := by omega
            go_wp2
            go_ret
            exact ⟨true, rfl, (fun _ => ⟨hn8, hq4, fun y hy => HALL.out y (by rwa [List.take_of_length_le (by rw [HN.out]; exact Nat.le_refl _)])⟩), M1.out⟩
      · go_wp2
        go_ret
        exact ⟨false, rfl, (fun h => by cases h), M1.out⟩
      · go_wp2
        go_loopw [3] (fun x wr => ∃ i : Nat, i ≤ n ∧ x = .int .i64 (i : Int) ∧ wr = W1 ∧ ∀ y ∈ L.take i, y.val.length ≤ 40) (fun x _ => n - (intOf x).toNat)
        case atStart => exact ⟨0, Nat.zero_le _, rfl, rfl, fun y hy => by simp at hy⟩
        case round =>
          obtain ⟨i, hi, rfl, rfl, hall⟩ := hrel
          have HALL := Lib.hid hall
          clear hall
          by_cases hlt : i < n
          · have hltI : (i : Int) < (n : Int) := by omega
            have hl1 : i < L.length := by rw [HN.out]; exact hlt
            obtain ⟨x, hx⟩ : ∃ x, L[i]? = some x := ⟨_, List.getElem?_eq_getElem hl1⟩
            obtain ⟨b1, o1, rfl, hbl, c0, c1, c2⟩ := H.out.cells hx
            have HSN : Hid (L.take (i + 1) = L.take i ++ [x]) := Lib.hid (by rw [List.take_add_one, hx]; rfl)
            obtain ⟨sx, bx, B2, cb2, vv⟩ := x
            simp only at c0 c1 c2
            obtain ⟨lv, hlv⟩ : ∃ y, vv.length = y := ⟨_, rfl⟩
            rw [hlv] at c2
            have HLV := Lib.hid hlv
            clear hlv hx hl1 hbl
            by_cases hv4 : 40 < lv
            · have hv4I : decide ((40 : Int) < (lv : Int)) = true := by simp; omega
              have hv4N : decide (40 < lv) = true := by simp; omega
              go_wp2
              go_ret
              exact ⟨false, rfl, (fun h => by cases h), M1.out⟩
            have hv4I : decide ((40 : Int) < (lv : Int)) = false := by simp; omega
            have hv4N : decide (40 < lv) = false := by simp; omega
            have HNX : Hid (∀ y ∈ L.take (i + 1), y.val.length ≤ 40) := Lib.hid (fun y hy => by
              rw [HSN.out] at hy
              rcases List.mem_append.1 hy with hy | hy
              · exact HALL.out y hy
              · simp at hy; subst hy; show vv.length ≤ 40; rw [HLV.out]; omega)
            obtain ⟨BIG, hBIG⟩ : ∃ x : Int, x = 18446744073709551000 := ⟨_, rfl⟩
            have hX : decide ((300 : Int) < (sx : Int)) = false ∨ (decide ((300 : Int) < (sx : Int)) = true ∧ decide ((sx : Int) < 18446744073709551000) = false) ∨ (decide ((300 : Int) < (sx : Int)) = true ∧ decide ((sx : Int) < 18446744073709551000) = true) := by
              rw [← hBIG]
              simp only [decide_eq_false_iff_not, decide_eq_true_eq]; omega
            clear hBIG
            rcases hX with hX | ⟨hX, hX2⟩ | ⟨hX, hX2⟩
            · go_wp2
              exact ⟨⟨i + 1, by omega, by go_num, trivial, HNX.out⟩, by simp [intOf]; omega⟩
            · go_wp2
              exact ⟨⟨i + 1, by omega, by go_num, trivial, HNX.out⟩, by simp [intOf]; omega⟩
            · go_wp2
              go_ret
              exact ⟨false, rfl, (fun h => by cases h), M1.out⟩
          · obtain rfl : i = n := by omega
            go_wp2
            go_ret
            exact ⟨true, rfl, (fun _ => ⟨hn8, hq4, fun y hy => HALL.out y (by rwa [List.take_of_length_le (by rw [HN.out]; exact Nat.le_refl _)])⟩), M1.out⟩
      · go_wp2
        go_loopw [3] (fun x wr => ∃ i : Nat, i ≤ n ∧ x = .int .i64 (i : Int) ∧ wr = W1 ∧ ∀ y ∈ L.take i, y.val.length ≤ 40) (fun x _ => n - (intOf x).toNat)
        case atStart => exact ⟨0, Nat.zero_le _, rfl, rfl, fun y hy => by simp at hy⟩
        case round =>
          obtain ⟨i, hi, rfl, rfl, hall⟩ := hrel
          have HALL := Lib.hid hall
          clear hall
          by_cases hlt : i < n
          · have hltI : (i : Int) < (n : Int) := by omega
            have hl1 : i < L.length := by rw [HN.out]; exact hlt
            obtain ⟨x, hx⟩ : ∃ x, L[i]? = some x := ⟨_, List.getElem?_eq_getElem hl1⟩
            obtain ⟨b1, o1, rfl, hbl, c0, c1, c2⟩ := H.out.cells hx
            have HSN : Hid (L.take (i + 1) = L.take i ++ [x]) := Lib.hid (by rw [List.take_add_one, hx]; rfl)
            obtain ⟨sx, bx, B2, cb2, vv⟩ := x
            simp only at c0 c1 c2
            obtain ⟨lv, hlv⟩ : ∃ y, vv.length = y := ⟨_, rfl⟩
            rw [hlv] at c2
            have HLV := Lib.hid hlv
            clear hlv hx hl1 hbl
            by_cases hv4 : 40 < lv
            · have hv4I : decide ((40 : Int) < (lv : Int)) = true := by simp; omega
              have hv4N : decide (40 < lv) = true := by simp; omega
              go_wp2
              go_ret
              exact ⟨false, rfl, (fun h => by cases h), M1.out⟩
            have hv4I : decide ((40 : Int) < (lv : Int)) = false := by simp; omega
            have hv4N : decide (40 < lv) = false := by simp; omega
            have HNX : Hid (∀ y ∈ L.take (i + 1), y.val.length ≤ 40) := Lib.hid (fun y hy => by
              rw [HSN.out] at hy
              rcases List.mem_append.1 hy with hy | hy
              · exact HALL.out y hy
              · simp at hy; subst hy; show vv.length ≤ 40; rw [HLV.out]; omega)
            obtain ⟨BIG, hBIG⟩ : ∃ x : Int, x = 18446744073709551000 := ⟨_, rfl⟩
            have hX : decide ((300 : Int) < (sx : Int)) = false ∨ (decide ((300 : Int) < (sx : Int)) = true ∧ decide ((sx : Int) < 18446744073709551000) = false) ∨ (decide ((300 : Int) < (sx : Int)) = true ∧ decide ((sx : Int) < 18446744073709551000) = true) := by
              rw [← hBIG]
              simp only [decide_eq_false_iff_not, decide_eq_true_eq]; omega
            clear hBIG
            rcases hX with hX | ⟨hX, hX2⟩ | ⟨hX, hX2⟩
            · go_wp2
              exact ⟨⟨i + 1, by omega, by go_num, trivial, HNX.out⟩, by simp [intOf]; omega⟩
            · go_wp2
              exact ⟨⟨i + 1, by omega, by go_num, trivial, HNX.out⟩, by simp [intOf]; omega⟩
            · go_wp2
              go_ret
              exact ⟨false, rfl, (fun h => by cases h), M1.out⟩
          · obtain rfl : i = n := by omega
            go_wp2
            go_ret
            exact ⟨true, rfl, (fun _ => ⟨hn8, hq4, fun y hy => HALL.out y (by rwa [List.take_of_length_le (by rw [HN.out]; exact Nat.le_refl _)])⟩), M1.out⟩
      · go_wp2
        go_ret
        exact ⟨false, rfl, (fun h => by cases h), M1.out⟩
      · go_wp2
        go_ret
        exact ⟨false, rfl, (fun h => by cases h), M1.out⟩
      · go_wp2
        go_ret
        exact ⟨false, rfl, (fun h => by cases h), M1.out⟩
      · go_wp2
        go_ret
        exact ⟨false, rfl, (fun h => by cases h), M1.out⟩
    · have hq4I : decide ((40 : Int) < (q : Int)) = true := by simp; omega
      have hq4N : decide (40 < q) = true := by simp; omega
      go_enter Try.func10, Try.ntmps10
      go_wp2
      go_ret
      exact ⟨false, rfl, (fun h => by cases h), M1.out⟩
  · have hn8I : decide ((8 : Int) < (n : Int)) = true := by simp; omega
    have hn8N : decide (8 < n) = true := by simp; omega
    go_enter Try.func10, Try.ntmps10
    go_wp2
    go_ret
    exact ⟨false, rfl, (fun h => by cases h), M1.out⟩
end Go.Proofs.Ytpabbhhaagfoeaa
