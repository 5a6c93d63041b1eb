/- DiskReads' walk. -/
import Derived.Test.YtahahnapnfalcaaHelp6
namespace Go.Proofs.Ytahahnapnfalcaa
set_option maxRecDepth 1000000
open Go.RowKit
set_option linter.unusedVariables false

def slc (g : Nat) : Value := .slice (some ⟨g, 0, none⟩) 64 64
/-- The four last ones, each in a block of its own. -/
structure Last6 (W : World) (gl : Nat) (G : List Nat) (V : List (List UInt8)) : Prop where
  blk : Blk W gl 34 (G.map slc).toArray
  lenG : G.length = 4
  lenV : V.length = 4
  byte : ∀ (i g : Nat) v, G[i]? = some g → V[i]? = some v → Blk W g 5 (bts v).toArray ∧ v.length = 64
theorem Last6.mods {W W' : World} {gl : Nat} {G : List Nat} {V : List (List UInt8)} (h : Last6 W gl G V) (hm : Mods Nil W W') : Last6 W' gl G V :=
  ⟨h.blk.mods hm (fun h => h), h.lenG, h.lenV, fun i g v h1 h2 => ⟨(h.byte i g v h1 h2).1.mods hm (fun h => h), (h.byte i g v h1 h2).2⟩⟩
theorem Last6.dm {W W' : World} {base gl : Nat} {G : List Nat} {V : List (List UInt8)} (h : Last6 W gl G V) (hm : DM base W W') : Last6 W' gl G V :=
  ⟨h.blk.dm hm (by decide), h.lenG, h.lenV, fun i g v h1 h2 => ⟨(h.byte i g v h1 h2).1.dm hm (by decide), (h.byte i g v h1 h2).2⟩⟩
theorem Last6.at_ {W : World} {gl q : Nat} {G : List Nat} {V : List (List UInt8)} (h : Last6 W gl G V) (hq : q < 4) :
    ∃ g v, W.cell? ⟨gl, q, none⟩ = some (.slice (some ⟨g, 0, none⟩) 64 64) ∧ Blk W g 5 (bts v).toArray ∧ V[q]? = some v ∧ v.length = 64 := by
  have h1 : q < G.length := by rw [h.lenG]; exact hq
  have h2 : q < V.length := by rw [h.lenV]; exact hq
  refine ⟨G[q], V[q], ?_, (h.byte q _ _ (List.getElem?_eq_getElem h1) (List.getElem?_eq_getElem h2)).1, List.getElem?_eq_getElem h2, (h.byte q _ _ (List.getElem?_eq_getElem h1) (List.getElem?_eq_getElem h2)).2⟩
  rw [h.blk.cell]
  simp [h1, slc]
theorem Last6.put {W : World} {gl r g : Nat} {G : List Nat} {V : List (List UInt8)} {F : List UInt8} (h : Last6 W gl G V) (hB : Blk W g 5 (bts F).toArray) (hF : F.length = 64) (hr : r < 4) : Last6 (W.setCell ⟨gl, r, none⟩ (.slice (some ⟨g, 0, none⟩) 64 64)) gl (G.set r g) (V.set r F) := by
  have far : ∀ {k : Nat} {cs : Array Value}, Blk W k 5 cs → Blk (W.setCell ⟨gl, r, none⟩ (.slice (some ⟨g, 0, none⟩) 64 64)) k 5 cs := fun hb => hb.far (p := ⟨gl, r, none⟩) (hb.ne_ h.blk (by decide)) _
  refine ⟨?_, by simp [h.lenG], by simp [h.lenV], fun i k v h1 h2 => ?_⟩
  · have := h.blk.set_ r (.slice (some ⟨g, 0, none⟩) 64 64)
    have e : (G.map slc).toArray.setIfInBounds r (.slice (some ⟨g, 0, none⟩) 64 64) = ((G.set r g).map slc).toArray := by simp [List.map_set, slc]
    rw [e] at this
    exact this
  · by_cases hi : r = i
    · subst hi
      rw [List.getElem?_set_self (by rw [h.lenG]; exact hr)] at h1
      rw [List.getElem?_set_self (by rw [h.lenV]; exact hr)] at h2
      injection h1 with h1
      injection h2 with h2
      subst h1; subst h2
      exact ⟨far hB, hF⟩
    · rw [List.getElem?_set_ne hi] at h1 h2
      exact ⟨far (h.byte i k v h1 h2).1, (h.byte i k v h1 h2).2⟩
/-- What is read of each block. -/
def Same6 (L : List (List UInt8)) (W : List (Nat × List UInt8)) (V : List (List UInt8)) : Prop := ∀ (i : Nat) v, i < 4 → V[i]? = some v → (lastW i W).getD (L.getD i []) = v
theorem Same6.write {L : List (List UInt8)} {W : List (Nat × List UInt8)} {V : List (List UInt8)} (h : Same6 L W V) {r : Nat} {F : List UInt8} : Same6 L (W ++ [(r, F)]) (V.set r F) := fun i v hi hv => by
  rw [lastW_snoc]
  by_cases e : r = i
  · subst e
    have hl : r < V.length := by have := (List.getElem?_eq_some_iff.1 hv).1; simpa using this
    rw [List.getElem?_set_self hl] at hv
    injection hv with hv
    simp [hv]
  · rw [List.getElem?_set_ne e] at hv
    rw [if_neg e]
    exact h i v hi hv
theorem Same6.sync {L : List (List UInt8)} {W : List (Nat × List UInt8)} {V : List (List UInt8)} (h : Same6 L W V) (hL : L.length = 4) : Same6 (layAll L W) [] V := fun i v hi hv => by
  have := layAll_get i L W (by omega)
  show ((none : Option (List UInt8)).getD ((layAll L W).getD i [])) = v
  rw [Option.getD_none, List.getD_eq_getElem?_getD, this]
  exact h i v hi hv
/-- The block of the four slices, so many of them laid. -/
def rowG (G : List Nat) : List Value := G.map slc ++ List.replicate (4 - G.length) (.slice none 0 0)
theorem rowG_next {G : List Nat} (h : G.length < 4) (g : Nat) : (rowG G).toArray.setIfInBounds G.length (.slice (some ⟨g, 0, none⟩) 64 64) = (rowG (G ++ [g])).toArray := by
  unfold rowG
  rw [show 4 - G.length = (4 - (G ++ [g]).length) + 1 by simp; omega, List.replicate_succ]
  simp [slc]
theorem infoBytes : (Try.prog.info? 34).map (fun i => (i.zero, i.size, i.bytes)) = some (some (.slice none 0 0), 1, 24) := by kernel_rfl

set_option maxHeartbeats 12800000 in
theorem diskReads_walk (w : World) {A : Option Addr} {c n : Nat} {xs : List UInt8} (hn : xs.length = n) (hs : Sl w A c (bts xs)) {A1 : Option Addr} {c1 m : Nat} {ys : List UInt8} (hm : ys.length = m) (hs1 : Sl w A1 c1 (bts ys)) :
    Calls Try.prog 6 #[.slice A n c, .slice A1 m c1] w fun e w' => e = .returned (.bool true) ∧ Mods Nil w w' := by
  by_cases h1 : 40 < n
  · have h1I : decide ((40 : Int) < (n : Int)) = true := by simp; omega
    clear hn hs hm hs1
    go_enter Try.func6, Try.ntmps6
    go_wp2_with (go_at_call 9; refine (awake6_any _).mono ?_; rintro e w1 ⟨rfl, m1⟩; have M1 := Lib.hid m1; clear m1)
    go_ret
    exact ⟨rfl, M1.out⟩
  have h1I : decide ((40 : Int) < (n : Int)) = false := by simp; omega
  by_cases h2 : m < n
  · have h2I : decide ((m : Int) < (n : Int)) = true := by simp; omega
    clear hn hs hm hs1
    go_enter Try.func6, Try.ntmps6
    go_wp2_with (go_at_call 9; refine (awake6_any _).mono ?_; rintro e w1 ⟨rfl, m1⟩; have M1 := Lib.hid m1; clear m1)
    go_ret
    exact ⟨rfl, M1.out⟩
  have h2I : decide ((m : Int) < (n : Int)) = false := by simp; omega
  have hn40 : n ≤ 40 := by omega
  have hnm : n ≤ m := by omega
  obtain ⟨i0, hi, hz0, hz1, hz2⟩ := info_parts infoByte
  obtain ⟨i1, hi1, hy0, hy1, hy2⟩ := info_parts infoBytes
  have HN := Lib.hid hn
  have HM := Lib.hid hm
  have HS := Lib.hid hs
  have HP := Lib.hid hs1
  clear hn hm hs hs1 h1 h2
  go_enter Try.func6, Try.ntmps6
  go_wp2_with (first
    | (go_at_call 9; refine (awake6_any _).mono ?_; rintro e w1 ⟨rfl, m1⟩; have M1 := Lib.hid m1; clear m1)
    | (go_at_call 10; refine (lnew w1 (base := w.heap.size) (n := 4) M1.out.size (by omega) (by omega) (by omega)).mono ?_; rintro e w2 ⟨db, rfl, d2, m2⟩; have D2 := Lib.hid d2; have M2 := Lib.hid (M1.out.trans m2); clear d2 m2)
    | (at_make; refine wpList_make_row _ rfl _ _ 54 rfl 34 i1 (.slice none 0 0) Try.underlying54 hi1 hy0 hy1 rfl .i64 .i64 4 rfl rfl (by rw [hy2]; omega) (by omega) ?_; have B3 := Lib.hid (Blk.new w2 34 (madeCells #[.slice none 0 0] 4)); have M3 := Lib.hid ((Mods.refl Nil w2).alloc (.cells (madeCells #[.slice none 0 0] 4) 34)); generalize w2.alloc (.cells (madeCells #[.slice none 0 0] 4) 34) = w3 at B3 M3 ⊢))
  have e0 : madeCells #[.slice none 0 0] 4 = (rowG []).toArray := by
    apply Array.ext'
    rw [toList_madeCells_one]
    rfl
  rw [e0] at B3
  have D3 := Lib.hid (D2.out.nil M3.out)
  have M33 := Lib.hid (M2.out.trans M3.out)
  obtain ⟨gl, hgle⟩ : ∃ gl, w2.heap.size = gl := ⟨_, rfl⟩
  have hgl : w.heap.size ≤ gl := by rw [← hgle]; exact M2.out.size
  rw [hgle] at B3 ⊢
  clear e0 hgle
  go_loopw [9] (fun x wr => ∃ (G : List Nat), G.length ≤ 4 ∧ x = .int .i64 (G.length : Int) ∧ DiskAt wr w.heap.size db (live (List.replicate 4 zeros64) []) ∧ Blk wr gl 34 (rowG G).toArray ∧ (∀ g ∈ G, Blk wr g 5 (bts zeros64).toArray) ∧ Mods Nil w wr) (fun x _ => 4 - (intOf x).toNat)
  case atStart => exact ⟨[], Nat.zero_le _, rfl, D3.out, B3.out, (fun g hg => by cases hg), M33.out⟩
  case round =>
    obtain ⟨G, hG, rfl, hd, hb, hz, hmo⟩ := hrel
    have HD := Lib.hid hd
    have HB := Lib.hid hb
    have HZ := Lib.hid hz
    have HMO := Lib.hid hmo
    clear hd hb hz hmo
    obtain ⟨j, hj⟩ : ∃ j, G.length = j := ⟨_, rfl⟩
    rw [hj] at hG ⊢
    have HJ := Lib.hid hj
    by_cases hlt : j < 4
    · have hltI : (j : Int) < 4 := by omega
      have hE : 4 - (j + 1) < 4 - j := by omega
      have e0 : madeCells #[.int .u8 0] 64 = (bts zeros64).toArray := by
        apply Array.ext'
        rw [toList_madeCells_one]
        simp [zeros64, bts]
      have HE0 := Lib.hid e0
      have hb2 := HB.out.alloc (.cells (madeCells #[.int .u8 0] 64) 5)
      have c2 := hb2.cell j
      rw [List.getElem?_toArray, List.getElem?_eq_getElem (by simp [rowG]; omega)] at c2
      replace c2 : ∃ v, (wr.alloc (.cells (madeCells #[.int .u8 0] 64) 5)).cell? ⟨gl, j, none⟩ = some v := ⟨_, c2⟩
      obtain ⟨v2, c2⟩ := c2
      have f2 := hb2.frozen j
      have hb3 := hb2.set_ j (.slice (some ⟨wr.heap.size, 0, none⟩) 64 64)
      have er := rowG_next (G := G) (by rw [HJ.out]; exact hlt) wr.heap.size
      rw [HJ.out] at er
      rw [er] at hb3
      have HB3 := Lib.hid hb3
      have bn := Blk.new wr 5 (madeCells #[.int .u8 0] 64)
      rw [HE0.out] at bn
      have HM3 := Lib.hid ((HMO.out.alloc (.cells (madeCells #[.int .u8 0] 64) 5)).setNew (p := ⟨gl, j, none⟩) hgl (.slice (some ⟨wr.heap.size, 0, none⟩) 64 64))
      have HD3 := Lib.hid ((HD.out.nil ((Mods.refl Nil wr).alloc (.cells (madeCells #[.int .u8 0] 64) 5))).typed (S := fun k => k = gl) (Mods.setCell (S := fun k => k = gl) (p := ⟨gl, j, none⟩) (Mods.refl _ _) (fun _ => rfl) (.slice (some ⟨wr.heap.size, 0, none⟩) 64 64)) (fun k hk _ => by subst hk; exact ⟨_, _, hb2, by decide, by decide, by decide⟩))
      have HZ3 : Hid (∀ g ∈ G ++ [wr.heap.size], Blk ((wr.alloc (.cells (madeCells #[.int .u8 0] 64) 5)).setCell ⟨gl, j, none⟩ (.slice (some ⟨wr.heap.size, 0, none⟩) 64 64)) g 5 (bts zeros64).toArray) := Lib.hid (fun g hg => by
        have hb4 : Blk (wr.alloc (.cells (madeCells #[.int .u8 0] 64) 5)) g 5 (bts zeros64).toArray := by
          rcases List.mem_append.1 hg with hg | hg
          · exact (HZ.out g hg).alloc _
          · obtain rfl : g = wr.heap.size := by simpa using hg
            rw [← HE0.out]
            exact Blk.new wr _ _
        exact hb4.far (p := ⟨gl, j, none⟩) (hb4.ne_ hb2 (by decide)) _)
      clear hb2 hb3 bn e0 er
      go_wp2_with (at_make; refine wpList_make_row _ rfl _ _ 34 rfl 5 i0 (.int .u8 0) Try.underlying34 hi hz0 hz1 rfl .i64 .i64 64 rfl rfl (by rw [hz2]; omega) (by omega) ?_)
      exact ⟨⟨G ++ [wr.heap.size], by simp [HJ.out]; omega, by simp [HJ.out], HD3.out, HB3.out, HZ3.out, HM3.out⟩, by simp [intOf]; omega⟩
    · obtain rfl : j = 4 := by omega
      rw [show ((4 : Nat) : Int) = 4 from rfl]
      have LS4 : Hid (Last6 wr gl G (List.replicate 4 zeros64)) := Lib.hid ⟨by have := HB.out; unfold rowG at this; rw [HJ.out] at this; simpa using this, HJ.out, by simp, fun i g v h1 h2 => by
        have hv : v = zeros64 := List.eq_of_mem_replicate (List.mem_of_getElem? h2)
        subst hv
        exact ⟨HZ.out g (List.mem_of_getElem? h1), by simp [zeros64]⟩⟩
      have SM4 : Hid (Same6 (List.replicate 4 zeros64) [] (List.replicate 4 zeros64)) := Lib.hid (fun i v hi hv => by
        have : v = zeros64 := List.eq_of_mem_replicate (List.mem_of_getElem? hv)
        subst this
        show (List.replicate 4 zeros64).getD i [] = zeros64
        rw [List.getD_eq_getElem?_getD, hv]
        rfl)
      have D4 := Lib.hid HD.out
      have M4 := Lib.hid HMO.out
      clear HB HZ HJ HD HMO hlt hG
      go_wp2_with fail
      go_loopw [10] (fun x W0 => ∃ (j : Nat) (L : List (List UInt8)) (W : List (Nat × List UInt8)) (G : List Nat) (V : List (List UInt8)), j ≤ n ∧ x = .int .i64 (j : Int) ∧ DiskAt W0 w.heap.size db (live L W) ∧ Last6 W0 gl G V ∧ L.length = 4 ∧ W.length ≤ j ∧ Same6 L W V ∧ Mods Nil w W0) (fun x _ => n - (intOf x).toNat)
      case atStart => exact ⟨0, _, _, _, _, Nat.zero_le _, rfl, D4.out, LS4.out, by simp, by simp, SM4.out, M4.out⟩
      case round =>
        clear LS4 SM4 D4 M4
        obtain ⟨j, L, W, G, V, hj, rfl, hd, hl, hL4, hWj, hsm, hmo⟩ := hrel
        have HD := Lib.hid hd
        have HLS := Lib.hid hl
        have HL4 := Lib.hid hL4
        have HWJ := Lib.hid hWj
        have HSM := Lib.hid hsm
        have HMO := Lib.hid hmo
        clear hd hl hL4 hWj hsm hmo
        by_cases hlt : j < n
        · have hltI : (j : Int) < (n : Int) := by omega
          have hltM : (j : Int) < (m : Int) := by omega
          have hj1 : j + 1 ≤ n := hlt
          have hjE : n - (j + 1) < n - j := by omega
          have hjx : j < xs.length := by rw [HN.out]; exact hlt
          have hjy : j < ys.length := by rw [HM.out]; omega
          obtain ⟨bx, ox, rfl, -, -⟩ := HS.out.at_ (by simp; omega)
          obtain ⟨by_, oy, rfl, -, -⟩ := HP.out.at_ (by simp; omega)
          have HCX := Lib.hid (bts_get xs j hjx)
          have HCY := Lib.hid (bts_get ys j hjy)
          obtain ⟨a, ha⟩ : ∃ a, xs[j]'hjx = a := ⟨_, rfl⟩
          rw [ha] at HCX
          obtain ⟨y, hy⟩ : ∃ y, a.toNat = y := ⟨_, rfl⟩
          rw [hy] at HCX
          generalize (ys[j]'hjy).toNat = s at HCY
          have cx := (HS.out.mods HMO.out (fun _ _ h => h)).cells j _ HCX.out
          have hand := u8_and3 y
          have hand1 := u8_and1 s
          obtain ⟨r, hr⟩ : ∃ r, y % 4 = r := ⟨_, rfl⟩
          have hr4 : r < 4 := by omega
          have hr4I : (r : Int) < 4 := by omega
          have hzr : IntKind.i64.wrap ((y : Int) % 4) = (r : Int) := by rw [IntKind.wrap_i64]; omega
          have hwj : IntKind.u8.wrap (j : Int) = (j : Int) := by rw [IntKind.wrap_u8']; omega
          obtain ⟨F, hF⟩ : ∃ F, fillP [a, UInt8.ofNat j] = F := ⟨_, rfl⟩
          have hFl : F.length = 64 := by rw [← hF]; exact fillP_length _
          have HFI := Lib.hid ((filled_any (bytes_two wr (a := a) (b := UInt8.ofNat j) hy (z := j) (by simp; omega)) rfl false))
          have HF := Lib.hid hF
          have HFL := Lib.hid hFl
          have HWR : Hid (∀ W5 g5, DiskAt W5 w.heap.size db (live L W) → Blk W5 g5 5 (bts F).toArray → Calls Try.prog 13 #[.pointer (some ⟨db, 0, none⟩), .int .i64 (r : Int), .slice (some ⟨g5, 0, none⟩) 64 64] W5 fun e w' => e = .returned (.int .i64 0) ∧ DiskAt w' w.heap.size db (live L (W ++ [(r, F)])) ∧ DM w.heap.size W5 w') := Lib.hid (fun W5 g5 h hb => by
            have := lwrite h (by have := HWJ.out; omega) (i := (r : Int)) (by omega) (by rw [HL4.out]; omega) (Bs.blk hb hFl) hFl rfl
            exact this)
          have HE1 := Lib.hid (HSM.out.write (r := r) (F := F))
          have HW1 : Hid ((W ++ [(r, F)]).length ≤ j + 1) := Lib.hid (by have := HWJ.out; simp; omega)
          clear hr hF hFl ha hy
          clear hjx hjy
          by_cases hs1 : s % 2 = 1
          · rw [hs1] at hand1
            go_wp2_with (first
              | (go_at_call 12; refine (HFI.out).mono ?_; rintro e w5 ⟨g5, rfl, b5, s5, m5⟩; rw [HF.out] at b5; have B5 := Lib.hid b5; have D5 := Lib.hid ((HD.out.nil ((Mods.refl Nil wr).alloc _)).nil m5); have LS5 := Lib.hid ((HLS.out.mods ((Mods.refl Nil wr).alloc _)).mods m5); have M5 := Lib.hid ((HMO.out.alloc _).trans m5); clear b5 s5 m5)
              | (go_at_call 13; refine (HWR.out _ _ D5.out B5.out).mono ?_; rintro e w6 ⟨rfl, d6, m6⟩; have B6 := Lib.hid (B5.out.dm m6 (by decide)); have LS6 := Lib.hid (LS5.out.dm m6); have M6 := Lib.hid (DM.nilTrans M5.out (Nat.le_refl _) m6); obtain ⟨gq, vq, kc, -, -, -⟩ := LS6.out.at_ hr4; have fq := LS6.out.blk.frozen r; have LS7 := Lib.hid (LS6.out.put B6.out HFL.out hr4); have D7 := Lib.hid (d6.typed (S := fun k => k = gl) (Mods.setCell (S := fun k => k = gl) (p := ⟨gl, r, none⟩) (Mods.refl _ _) (fun _ => rfl) (.slice (some ⟨g5, 0, none⟩) 64 64)) (fun k hk _ => by subst hk; exact ⟨_, _, LS6.out.blk, by decide, by decide, by decide⟩)); have M7 := Lib.hid (M6.out.setNew (p := ⟨gl, r, none⟩) hgl (.slice (some ⟨g5, 0, none⟩) 64 64)); have cy := (HP.out.mods M7.out (fun _ _ h => h)).cells j _ HCY.out; clear d6 m6)
              | (go_at_call 15; refine (lsync D7.out).mono ?_; rintro e w8 ⟨rfl, d8, m8⟩; have D9 := Lib.hid d8; have LS9 := Lib.hid (LS7.out.dm m8); have M9 := Lib.hid (DM.nilTrans M7.out (Nat.le_refl _) m8); clear d8 m8))
            have HL9 : Hid ((layAll L (W ++ [(r, F)])).length = 4) := Lib.hid (by rw [layAll_length]; exact HL4.out)
            have HW9 : Hid (([] : List (Nat × List UInt8)).length ≤ j + 1) := Lib.hid (by simp)
            have HE9 := Lib.hid (HE1.out.sync HL4.out)
            go_loopw [13] (fun x Wd => ∃ (q : Nat), q ≤ 4 ∧ x = .int .i64 (q : Int) ∧ DiskAt Wd w.heap.size db (live (layAll L (W ++ [(r, F)])) []) ∧ Last6 Wd gl (G.set r g5) (V.set r F) ∧ Mods Nil w Wd) (fun x _ => 4 - (intOf x).toNat)
            case atStart => exact ⟨0, Nat.zero_le _, rfl, D9.out, LS9.out, M9.out⟩
            case round =>
              obtain ⟨q, hq, rfl, hd, hl, hmo⟩ := hrel
              have HD := Lib.hid hd
              have HLS := Lib.hid hl
              have HMO := Lib.hid hmo
              clear hd hl hmo
              by_cases hlt : q < 4
              · have hqI : (q : Int) < 4 := by omega
                obtain ⟨g, v, kc, kb, kv, kl⟩ := HLS.out.at_ hlt
                have HRD := Lib.hid (lread HD.out (i := (q : Int)) (by omega) (by rw [HL9.out]; omega) (HE9.out q v hlt kv))
                have HKC := Lib.hid kc
                have HKB := Lib.hid kb
                have HKL := Lib.hid kl
                clear kc kb kv kl
                go_wp2_with (go_at_call 23; refine (HRD.out).mono ?_; rintro e w10 ⟨A10, c10, m10, rfl, h10, rfl, s10, k10⟩; have S10 := Lib.hid s10; have K10 := Lib.hid k10; have H10 := Lib.hid h10; clear s10 k10 h10)
                have v1 := fun W (h : Mods Nil w10 W) => conv6 H10.out (S10.out.mods h (fun _ _ h => h))
                have v2 := fun W (h : Mods Nil w10 W) => conv6 HKL.out (Bs.blk (base := 0) ((HKB.out.mods K10.out (fun h => h)).mods h (fun h => h)) HKL.out).1
                have cq := fun W (h : Mods Nil w10 W) => (World.cell?_of_block ((K10.out.trans h).block gl (World.block_lt_of_cell? wr _ HKC.out) (fun h => h))).trans HKC.out
                go_region_held (fun W => Mods Nil w10 W) (first | exact (Mods.refl Nil w10).drew | assumption) (fail)
                all_goals
                  go_wp2_with fail
                  exact ⟨⟨q + 1, hlt, by go_num, (HD.out.nil K10.out).nil (by assumption), (HLS.out.mods K10.out).mods (by assumption), (HMO.out.trans K10.out).trans (by assumption)⟩, by simp [intOf]; omega⟩
              · obtain rfl : q = 4 := by omega
                go_wp2_with fail
                exact ⟨⟨j + 1, (layAll L (W ++ [(r, F)])), [], _, _, hj1, by go_num, HD.out, HLS.out, HL9.out, HW9.out, HE9.out, HMO.out⟩, by simp [intOf]; omega⟩
          · have hs0 : s % 2 = 0 := by omega
            rw [hs0] at hand1
            go_wp2_with (first
              | (go_at_call 12; refine (HFI.out).mono ?_; rintro e w5 ⟨g5, rfl, b5, s5, m5⟩; rw [HF.out] at b5; have B5 := Lib.hid b5; have D5 := Lib.hid ((HD.out.nil ((Mods.refl Nil wr).alloc _)).nil m5); have LS5 := Lib.hid ((HLS.out.mods ((Mods.refl Nil wr).alloc _)).mods m5); have M5 := Lib.hid ((HMO.out.alloc _).trans m5); clear b5 s5 m5)
              | (go_at_call 13; refine (HWR.out _ _ D5.out B5.out).mono ?_; rintro e w6 ⟨rfl, d6, m6⟩; have B6 := Lib.hid (B5.out.dm m6 (by decide)); have LS6 := Lib.hid (LS5.out.dm m6); have M6 := Lib.hid (DM.nilTrans M5.out (Nat.le_refl _) m6); obtain ⟨gq, vq, kc, -, -, -⟩ := LS6.out.at_ hr4; have fq := LS6.out.blk.frozen r; have LS7 := Lib.hid (LS6.out.put B6.out HFL.out hr4); have D7 := Lib.hid (d6.typed (S := fun k => k = gl) (Mods.setCell (S := fun k => k = gl) (p := ⟨gl, r, none⟩) (Mods.refl _ _) (fun _ => rfl) (.slice (some ⟨g5, 0, none⟩) 64 64)) (fun k hk _ => by subst hk; exact ⟨_, _, LS6.out.blk, by decide, by decide, by decide⟩)); have M7 := Lib.hid (M6.out.setNew (p := ⟨gl, r, none⟩) hgl (.slice (some ⟨g5, 0, none⟩) 64 64)); have cy := (HP.out.mods M7.out (fun _ _ h => h)).cells j _ HCY.out; clear d6 m6))
            have D9 := D7
            have LS9 := LS7
            have M9 := M7
            have HL9 := HL4
            have HW9 := HW1
            have HE9 := HE1
            go_loopw [13] (fun x Wd => ∃ (q : Nat), q ≤ 4 ∧ x = .int .i64 (q : Int) ∧ DiskAt Wd w.heap.size db (live L (W ++ [(r, F)])) ∧ Last6 Wd gl (G.set r g5) (V.set r F) ∧ Mods Nil w Wd) (fun x _ => 4 - (intOf x).toNat)
            case atStart => exact ⟨0, Nat.zero_le _, rfl, D9.out, LS9.out, M9.out⟩
            case round =>
              obtain ⟨q, hq, rfl, hd, hl, hmo⟩ := hrel
              have HD := Lib.hid hd
              have HLS := Lib.hid hl
              have HMO := Lib.hid hmo
              clear hd hl hmo
              by_cases hlt : q < 4
              · have hqI : (q : Int) < 4 := by omega
                obtain ⟨g, v, kc, kb, kv, kl⟩ := HLS.out.at_ hlt
                have HRD := Lib.hid (lread HD.out (i := (q : Int)) (by omega) (by rw [HL9.out]; omega) (HE9.out q v hlt kv))
                have HKC := Lib.hid kc
                have HKB := Lib.hid kb
                have HKL := Lib.hid kl
                clear kc kb kv kl
                go_wp2_with (go_at_call 23; refine (HRD.out).mono ?_; rintro e w10 ⟨A10, c10, m10, rfl, h10, rfl, s10, k10⟩; have S10 := Lib.hid s10; have K10 := Lib.hid k10; have H10 := Lib.hid h10; clear s10 k10 h10)
                have v1 := fun W (h : Mods Nil w10 W) => conv6 H10.out (S10.out.mods h (fun _ _ h => h))
                have v2 := fun W (h : Mods Nil w10 W) => conv6 HKL.out (Bs.blk (base := 0) ((HKB.out.mods K10.out (fun h => h)).mods h (fun h => h)) HKL.out).1
                have cq := fun W (h : Mods Nil w10 W) => (World.cell?_of_block ((K10.out.trans h).block gl (World.block_lt_of_cell? wr _ HKC.out) (fun h => h))).trans HKC.out
                go_region_held (fun W => Mods Nil w10 W) (first | exact (Mods.refl Nil w10).drew | assumption) (fail)
                all_goals
                  go_wp2_with fail
                  exact ⟨⟨q + 1, hlt, by go_num, (HD.out.nil K10.out).nil (by assumption), (HLS.out.mods K10.out).mods (by assumption), (HMO.out.trans K10.out).trans (by assumption)⟩, by simp [intOf]; omega⟩
              · obtain rfl : q = 4 := by omega
                go_wp2_with fail
                exact ⟨⟨j + 1, L, (W ++ [(r, F)]), _, _, hj1, by go_num, HD.out, HLS.out, HL9.out, HW9.out, HE9.out, HMO.out⟩, by simp [intOf]; omega⟩
        · obtain rfl : j = n := by omega
          go_wp2_with fail
          go_ret
          exact ⟨rfl, HMO.out⟩
end Go.Proofs.Ytahahnapnfalcaa
