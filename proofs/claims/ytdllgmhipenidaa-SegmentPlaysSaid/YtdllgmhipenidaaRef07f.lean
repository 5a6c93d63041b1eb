/- The reference of layer 7: Append. -/
import Derived.Test.YtdllgmhipenidaaRef07e
import Derived.Test.YtdllgmhipenidaaRef07b
import Derived.Test.YtdllgmhipenidaaRef06A
import Derived.Test.YtdllgmhipenidaaQT
namespace Go.Proofs.Ytdllgmhipenidaa
set_option maxRecDepth 100000
open Go.RowKit
set_option linter.unusedVariables false
set_option linter.unusedSimpArgs false

/-- Blocks one behind the other. -/
theorem putsP_append : ∀ (bs cs : List (List UInt8)) (d : PD) (p : Nat), putsP d p (bs ++ cs) = if (putsP d p bs).2 ≠ 0 then putsP d p bs else putsP (putsP d p bs).1 (p + bs.length) cs
  | [], cs, d, p => by simp [putsP]
  | b :: bs, cs, d, p => by
    show (if (d.write (p : Int) b).2 ≠ 0 then d.write (p : Int) b else putsP (d.write (p : Int) b).1 (p + 1) (bs ++ cs)) = _
    rw [putsP_append bs cs]
    show _ = if (if (d.write (p : Int) b).2 ≠ 0 then d.write (p : Int) b else putsP (d.write (p : Int) b).1 (p + 1) bs).2 ≠ 0 then (if (d.write (p : Int) b).2 ≠ 0 then d.write (p : Int) b else putsP (d.write (p : Int) b).1 (p + 1) bs) else putsP (if (d.write (p : Int) b).2 ≠ 0 then d.write (p : Int) b else putsP (d.write (p : Int) b).1 (p + 1) bs).1 (p + (bs.length + 1)) cs
    by_cases h : (d.write (p : Int) b).2 ≠ 0
    · simp only [if_pos h]
    · simp only [if_neg h]
      rw [show p + (bs.length + 1) = p + 1 + bs.length by omega]
theorem putsP_one (d : PD) (p : Nat) (b : List UInt8) : putsP d p [b] = d.write (p : Int) b := by
  show (if (d.write (p : Int) b).2 ≠ 0 then d.write (p : Int) b else ((d.write (p : Int) b).1, 0)) = _
  by_cases h : (d.write (p : Int) b).2 ≠ 0
  · rw [if_pos h]
  · rw [if_neg h]
    simp only [ne_eq, Decidable.not_not] at h
    rw [← h]
/-- One part more. -/
theorem putsP_step {d D : PD} {p j : Nat} {l : List (List UInt8)} {b : List UInt8} (h : putsP d p (l.take j) = (D, 0)) (hb : l[j]? = some b) : putsP d p (l.take (j + 1)) = D.write ((p + j : Nat) : Int) b ∧ ((D.write ((p + j : Nat) : Int) b).2 ≠ 0 → putsP d p l = D.write ((p + j : Nat) : Int) b) := by
  obtain ⟨hj, hbb⟩ := List.getElem?_eq_some_iff.1 hb
  have h1 : putsP d p (l.take (j + 1)) = D.write ((p + j : Nat) : Int) b := by
    rw [List.take_succ_eq_append_getElem hj, putsP_append, h, hbb]
    rw [if_neg (by simp), putsP_one, List.length_take, Nat.min_eq_left (by omega)]
  refine ⟨h1, fun h2 => ?_⟩
  have h3 : putsP d p l = putsP d p (l.take (j + 1) ++ l.drop (j + 1)) := by rw [List.take_append_drop]
  rw [h3, putsP_append, h1, if_pos h2]
theorem write_lenA (d : PD) (i : Int) (b : List UInt8) : (d.write i b).1.L.length = d.L.length ∧ (d.write i b).1.W.length ≤ d.W.length + 1 := by
  have h := d.count_L
  unfold PD.write
  split
  · exact ⟨rfl, by simp⟩
  · split
    · exact ⟨rfl, by simp⟩
    · split
      · rw [h.1, h.2]; exact ⟨rfl, by omega⟩
      · exact ⟨by simp [h.1], by simp⟩
theorem writeA_left {d : PD} (h0 : -1 ≤ d.left) (h1 : d.left ≤ 9223372036854775807) (i : Int) (b : List UInt8) : -1 ≤ (d.write i b).1.left ∧ (d.write i b).1.left ≤ 9223372036854775807 := by
  have hc : -1 ≤ d.count.1.left ∧ d.count.1.left ≤ 9223372036854775807 := by
    unfold PD.count
    split
    · exact ⟨h0, h1⟩
    · dsimp only
      split <;> omega
  unfold PD.write
  split
  · exact ⟨h0, h1⟩
  · split
    · exact ⟨h0, h1⟩
    · split
      · exact hc
      · exact hc
/-- Disk, segment, place and error, told. -/
def RToldA (w : World) (d : PD) (s : PSeg) (x err : Int) (e : Ending) (w' : World) : Prop :=
  ∃ A c B k A2 c2, e = .returned (.tuple #[rdW A c B k d, rsV A2 c2 s, .int .i64 x, .int .i64 err]) ∧ RdAt w' A c B k d ∧ RsAt w' A2 c2 s ∧ Mods Nil w w'
set_option maxHeartbeats 6400000 in
theorem r7app_early (w : World) {A B : Option Addr} {c k : Nat} {d : PD} {A2 : Option Addr} {c2 : Nat} {s : PSeg} (h : RdAt w A c B k d) (hs : RsAt w A2 c2 s) {b : List UInt8} {q : Nat} (hb : b.length = q) (hq6 : q ≤ 100000) (hn : s.n ≤ 1000000) (hus : s.used ≤ s.n) (er : Int) (hcase : 4096 < q ∧ er = 13 ∨ q ≤ 4096 ∧ s.err ≠ 0 ∧ er = s.err ∨ q ≤ 4096 ∧ s.err = 0 ∧ s.n - s.used < needP q ∧ er = 21) :
    Calls Try.prog 19 #[rdW A c B k d, rsV A2 c2 s, .string (strOf b)] w (RToldA w d s 0 er) := by
  obtain ⟨st, n, ep, L, us, su, gone, se⟩ := s
  dsimp only at hcase hn hus
  have hsz : (strOf b).size = q := by simp [hb]
  obtain ⟨len, hl⟩ : ∃ len, L.length = len := ⟨_, rfl⟩
  have HRET : Hid (∀ w', Mods Nil w w' → RToldA w d ⟨st, n, ep, L, us, su, gone, se⟩ 0 er (.returned (.tuple #[.agg #[.slice A d.L.length c, .slice B d.W.length k, .int .i64 d.left, .bool d.down], .agg #[.int .i64 (st : Int), .int .i64 (n : Int), .int .u64 (ep : Int), .slice A2 len c2, .int .i64 (us : Int), .int .i64 (su : Int), .int .i64 (gone : Int), .int .i64 se], .int .i64 0, .int .i64 er])) w') := Lib.hid (fun w' m => ⟨A, c, B, k, A2, c2, by subst hl; rfl, h.mods m, hs.mods m, m⟩)
  have HC := Lib.hid hcase
  have HND := Lib.hid (fun W : World => rneed_any W (n := q) (by omega))
  have hnd := needP_pos q
  unfold rdW rsV
  dsimp only
  rw [hl]
  clear h hs hcase hb hl
  generalize d.L.length = n1 at HRET ⊢
  generalize d.W.length = n2 at HRET ⊢
  generalize d.left = left at HRET ⊢
  generalize d.down = down at HRET ⊢
  obtain ⟨nd, hndd⟩ : ∃ nd, needP q = nd := ⟨_, rfl⟩
  rw [hndd] at HC HND hnd
  clear hndd
  rcases HC.out with ⟨h1, rfl⟩ | ⟨h1, h2, rfl⟩ | ⟨h1, rfl, h3, rfl⟩
  · have h1I : decide ((4096 : Int) < (q : Int)) = true := by simp; omega
    clear HC h1 HND
    go_enter Try.func19, Try.ntmps19
    go_wp2
    go_region
    all_goals
      go_wp2
      exact bodyPost_ret (v := .tuple #[.agg #[.slice A n1 c, .slice B n2 k, .int .i64 left, .bool down], .agg #[.int .i64 (st : Int), .int .i64 (n : Int), .int .u64 (ep : Int), .slice A2 len c2, .int .i64 (us : Int), .int .i64 (su : Int), .int .i64 (gone : Int), .int .i64 se], .int .i64 0, .int .i64 13]) (by simp [results, Try.results19, go_sem]) rfl (HRET.out _ (by first | exact ((((((Mods.refl Nil w).alloc _).alloc _).drew).alloc _).alloc _) | exact ((((((Mods.refl Nil w).alloc _).alloc _).alloc _).alloc _).drew)))
  · have h1I : decide ((4096 : Int) < (q : Int)) = false := by simp; omega
    have h2B : (er == 0) = false := by simpa using h2
    clear HC h1 HND
    go_enter Try.func19, Try.ntmps19
    go_wp2
    go_region
    all_goals
      go_wp2
      exact bodyPost_ret (v := .tuple #[.agg #[.slice A n1 c, .slice B n2 k, .int .i64 left, .bool down], .agg #[.int .i64 (st : Int), .int .i64 (n : Int), .int .u64 (ep : Int), .slice A2 len c2, .int .i64 (us : Int), .int .i64 (su : Int), .int .i64 (gone : Int), .int .i64 er], .int .i64 0, .int .i64 er]) (by simp [results, Try.results19, go_sem]) rfl (HRET.out _ (by first | exact ((((((Mods.refl Nil w).alloc _).alloc _).drew).alloc _).alloc _) | exact ((((((Mods.refl Nil w).alloc _).alloc _).alloc _).alloc _).drew)))
  · have h1I : decide ((4096 : Int) < (q : Int)) = false := by simp; omega
    have h3I : decide ((n : Int) - (us : Int) < (nd : Int)) = true := by simp; omega
    have hw : IntKind.i64.wrap ((n : Int) - (us : Int)) = (n : Int) - (us : Int) := by rw [IntKind.wrap_i64]; omega
    clear HC h1 h3 hus
    go_enter Try.func19, Try.ntmps19
    go_wp2_with (go_at_call 73; refine (HND.out _).mono ?_; rintro e w1 ⟨rfl, rfl⟩)
    go_region
    all_goals
      go_wp2
      exact bodyPost_ret (v := .tuple #[.agg #[.slice A n1 c, .slice B n2 k, .int .i64 left, .bool down], .agg #[.int .i64 (st : Int), .int .i64 (n : Int), .int .u64 (ep : Int), .slice A2 len c2, .int .i64 (us : Int), .int .i64 (su : Int), .int .i64 (gone : Int), .int .i64 0], .int .i64 0, .int .i64 21]) (by simp [results, Try.results19, go_sem]) rfl (HRET.out _ (by first | exact ((((((Mods.refl Nil w).alloc _).alloc _).drew).alloc _).alloc _) | exact ((((((Mods.refl Nil w).alloc _).alloc _).alloc _).alloc _).drew)))

theorem strs_append (xs ys : List (List UInt8)) : strs (xs ++ ys) = strs xs ++ strs ys := by simp [strs]
theorem own_sl7 {w : World} {base n c : Nat} {e : TypeId} {A : Option Addr} {xs : List Value} (h : w.ownsRow base e 1 (.slice A n c) n xs) : Sl w A c xs := by
  obtain ⟨A', c', hv, _, hs, _⟩ := own_slice h
  injection hv with e1 e2 e3
  subst e1; subst e3
  exact hs
theorem infoStrA : (Try.prog.info? 9).map (fun i => (i.zero, i.size, i.bytes)) = some (some (.string ⟨#[]⟩), 1, 16) := by kernel_rfl
theorem partP_le (b : List UInt8) (j : Nat) : (partP b j).length ≤ 45 := by rw [partP_length]; omega
theorem recP_at {ep pl : Nat} {b : List UInt8} {j : Nat} (h : j < needP b.length) : (recP ep pl b)[j]? = some (blockP ep pl j (needP b.length) (partP b j)) := by
  unfold recP
  rw [List.getElem?_map, List.getElem?_range h]
  rfl
theorem needP_part {q j : Nat} (h : j < needP q) : 45 * j ≤ q := by
  rcases Nat.eq_zero_or_pos j with rfl | h0
  · omega
  · have := needP_some q j h h0; omega
set_option maxHeartbeats 12800000 in
theorem r7app_go (w : World) {A B : Option Addr} {c k : Nat} {d : PD} {A2 : Option Addr} {c2 : Nat} {s : PSeg} (h : RdAt w A c B k d) (hok : d.Ok) (hlim : d.W.length ≤ 900) (h0 : -1 ≤ d.left) (h1 : d.left ≤ 9223372036854775807) (hs : RsAt w A2 c2 s) {b : List UInt8} {q : Nat} (hb : b.length = q) (hq : q ≤ 4096) (he : s.err = 0) (hsp : needP q ≤ s.n - s.used) (hep : s.epoch < 4294967296) (hL : s.L.length ≤ 100000) (hst : s.start ≤ 1000000) (hn : s.n ≤ 1000000) (hus : s.used ≤ s.n) :
    Calls Try.prog 19 #[rdW A c B k d, rsV A2 c2 s, .string (strOf b)] w (RToldA w (s.append d b).1 (s.append d b).2.1 (s.append d b).2.2.1 (s.append d b).2.2.2) := by
  have happ : s.append d b = if (putsP d (s.start + s.used) (recP s.epoch s.L.length b)).2 ≠ 0 then
      ((putsP d (s.start + s.used) (recP s.epoch s.L.length b)).1, { s with err := (putsP d (s.start + s.used) (recP s.epoch s.L.length b)).2 }, 0, (putsP d (s.start + s.used) (recP s.epoch s.L.length b)).2)
    else ((putsP d (s.start + s.used) (recP s.epoch s.L.length b)).1, { s with L := s.L ++ [b], used := s.used + needP b.length }, (s.L.length : Int), 0) := by
    unfold PSeg.append
    rw [if_neg (by omega), if_neg (by simp [he]), if_neg (by rw [hb]; omega)]
  rw [happ]
  obtain ⟨st, n, ep, L, us, su, gone, se⟩ := s
  dsimp only at he hsp hep hL hst hn hus ⊢
  subst he
  have hsz : (strOf b).size = q := by simp [hb]
  have hrec := fun j => recP_at (ep := ep) (pl := L.length) (b := b) (j := j)
  have hrl := recP_length ep L.length b
  rw [hb] at hrec hrl ⊢
  obtain ⟨len, hl⟩ : ∃ len, L.length = len := ⟨_, rfl⟩
  rw [hl] at hrec hrl hL ⊢
  obtain ⟨rec, hr⟩ : ∃ rec, recP ep len b = rec := ⟨_, rfl⟩
  rw [hr] at hrec hrl ⊢
  obtain ⟨nd, hndd⟩ : ∃ nd, needP q = nd := ⟨_, rfl⟩
  have hnd := needP_pos q
  have hnd2 := needP_le hq
  have HPRT := Lib.hid (fun (W : World) (j : Nat) (hj : j < nd) => rpart_any W hb (by omega) (k := j) (needP_part (by rw [hndd]; exact hj)))
  have HND := Lib.hid (fun W : World => rneed_any W (n := q) (by omega))
  rw [hndd] at hrec hrl hsp hnd hnd2 HND ⊢
  have HBLK := Lib.hid (fun (W : World) (j : Nat) => rblock_any W (e := ep) (pl := len) (k := j) (m := nd) (s := partP b j) rfl (partP_le b j) hep (by omega))
  have HREC := Lib.hid hrec
  have HRL := Lib.hid hrl
  have HL := Lib.hid hl
  have HB := Lib.hid hb
  obtain ⟨p0, hp0⟩ : ∃ p0, st + us = p0 := ⟨_, rfl⟩
  have hp6 : p0 ≤ 2000000 := by omega
  rw [hp0]
  have HR0 := Lib.hid h
  have HS0 := Lib.hid hs
  have HOK := Lib.hid hok
  have HLF := Lib.hid (And.intro h0 h1)
  have HWR := Lib.hid (fun (W : World) (D : PD) A' c' B' k' (hr : RdAt W A' c' B' k' D) (hn1 : D.L.length = d.L.length) (hw : D.W.length ≤ 1000) (hlf : -1 ≤ D.left ∧ D.left ≤ 9223372036854775807) (i : Nat) (blk : List UInt8) (z : Int) (hz : z = (i : Int)) => (by
    subst hz
    have h := r6write_any W hr hn1 rfl rfl rfl hw hlf.1 hlf.2 (i : Int) (b := blk) rfl (fun _ => by simp)
    exact h : Calls Try.prog 28 #[.agg #[.slice A' d.L.length c', .slice B' D.W.length k', .int .i64 D.left, .bool D.down], .int .i64 z, .string (strOf blk)] W (RTold6 W (D.write (i : Int) blk).1 (D.write (i : Int) blk).2)))
  have h1I : decide ((4096 : Int) < (q : Int)) = false := by simp; omega
  have h3I : decide ((n : Int) - (us : Int) < (nd : Int)) = false := by simp; omega
  have hw : IntKind.i64.wrap ((n : Int) - (us : Int)) = (n : Int) - (us : Int) := by rw [IntKind.wrap_i64]; omega
  obtain ⟨X, hX⟩ : ∃ X, (if (putsP d p0 rec).2 ≠ 0 then ((putsP d p0 rec).1, (⟨st, n, ep, L, us, su, gone, (putsP d p0 rec).2⟩ : PSeg), (0 : Int), (putsP d p0 rec).2) else ((putsP d p0 rec).1, (⟨st, n, ep, L ++ [b], us + nd, su, gone, 0⟩ : PSeg), (len : Int), (0 : Int))) = X := ⟨_, rfl⟩
  rw [hX]
  have HIF := Lib.hid hX
  clear hX
  unfold rdW rsV
  dsimp only
  rw [hl]
  obtain ⟨n1, hn1⟩ : ∃ n1, d.L.length = n1 := ⟨_, rfl⟩
  have HN1 := Lib.hid hn1
  rw [hn1] at HWR
  rw [hn1]
  have HRET : Hid (∀ (D : PD) (S : PSeg) (x er : Int) (w3 w' : World) A' c' B' k' A9 c9, D.L.length = n1 → Mods Nil w w3 → RdAt w3 A' c' B' k' D → RsAt w3 A9 c9 S → Boxes w3 w.heap.size → Mods (Bx w.heap.size) w3 w' → RToldA w D S x er (.returned (.tuple #[.agg #[.slice A' n1 c', .slice B' D.W.length k', .int .i64 D.left, .bool D.down], .agg #[.int .i64 (S.start : Int), .int .i64 (S.n : Int), .int .u64 (S.epoch : Int), .slice A9 S.L.length c9, .int .i64 (S.used : Int), .int .i64 (S.sure : Int), .int .i64 (S.gone : Int), .int .i64 S.err], .int .i64 x, .int .i64 er])) w') := Lib.hid (fun D S x er w3 w' A' c' B' k' A9 c9 hD m3 hr hS hb hm => ⟨A', c', B', k', A9, c9, by subst hD; rfl, hr.boxes hb hm, hS.boxes hb hm, m3.ofBx hm⟩)
  obtain ⟨W, hW⟩ : ∃ W, ((((w.alloc (.cells #[.slice A n1 c, .slice B d.W.length k, .int .i64 d.left, .bool d.down] 31)).alloc (.cells #[.int .i64 (st : Int), .int .i64 (n : Int), .int .u64 (ep : Int), .slice A2 len c2, .int .i64 (us : Int), .int .i64 (su : Int), .int .i64 (gone : Int), .int .i64 0] 39)).alloc (.cells #[.slice none 0 0, .slice none 0 0, .int .i64 0, .bool false] 31)).alloc (.cells #[.int .i64 0, .int .i64 0, .int .u64 0, .slice none 0 0, .int .i64 0, .int .i64 0, .int .i64 0, .int .i64 0] 39)) = W := ⟨_, rfl⟩
  have MW : Hid (Mods Nil w W) := Lib.hid (by rw [← hW]; exact ((((Mods.refl Nil w).alloc _).alloc _).alloc _).alloc _)
  obtain ⟨b1, b2, b3, b4⟩ : Blk W w.heap.size 31 #[.slice A n1 c, .slice B d.W.length k, .int .i64 d.left, .bool d.down] ∧ Blk W (w.heap.size + 1) 39 #[.int .i64 (st : Int), .int .i64 (n : Int), .int .u64 (ep : Int), .slice A2 len c2, .int .i64 (us : Int), .int .i64 (su : Int), .int .i64 (gone : Int), .int .i64 0] ∧ Blk W (w.heap.size + 1 + 1) 31 #[.slice none 0 0, .slice none 0 0, .int .i64 0, .bool false] ∧ Blk W (w.heap.size + 1 + 1 + 1) 39 #[.int .i64 0, .int .i64 0, .int .u64 0, .slice none 0 0, .int .i64 0, .int .i64 0, .int .i64 0, .int .i64 0] := by
    rw [← hW]
    exact four_blk (Mods.refl Nil _)
  have B1 := Lib.hid b1
  have B2 := Lib.hid b2
  have B3 := Lib.hid b3
  have B4 := Lib.hid b4
  obtain ⟨⟨v0, v1, v2, v3, v4, v5, v6, v7⟩, -⟩ := b2.eight
  clear happ h hs hok h0 h1 hb hl hr hrec hrl hndd hn1 b1 b2 b3 b4
  go_enter Try.func19, Try.ntmps19
  go_wp2_with (go_at_call 73; refine (HND.out _).mono ?_; rintro e w1 ⟨rfl, rfl⟩)
  clear v0 v1 v2 v3 v4 v5 v6 v7
  go_loopw [11] (fun x wr => ∃ (j : Nat) (D : PD) (A' : Option Addr) (c' : Nat) (B' : Option Addr) (k' : Nat), j ≤ nd ∧ x = .int .i64 (j : Int) ∧ putsP d p0 (rec.take j) = (D, 0) ∧ D.L.length = n1 ∧ D.W.length ≤ d.W.length + j ∧ (-1 ≤ D.left ∧ D.left ≤ 9223372036854775807) ∧ RdAt wr A' c' B' k' D ∧ Blk wr w.heap.size 31 #[.slice A' n1 c', .slice B' D.W.length k', .int .i64 D.left, .bool D.down] ∧ Blk wr (w.heap.size + 1) 39 #[.int .i64 (st : Int), .int .i64 (n : Int), .int .u64 (ep : Int), .slice A2 len c2, .int .i64 (us : Int), .int .i64 (su : Int), .int .i64 (gone : Int), .int .i64 0] ∧ Blk wr (w.heap.size + 1 + 1) 31 #[.slice none 0 0, .slice none 0 0, .int .i64 0, .bool false] ∧ Blk wr (w.heap.size + 1 + 1 + 1) 39 #[.int .i64 0, .int .i64 0, .int .u64 0, .slice none 0 0, .int .i64 0, .int .i64 0, .int .i64 0, .int .i64 0] ∧ Mods Nil w wr) (fun x _ => nd - (intOf x).toNat)
  case atStart => exact ⟨0, d, A, c, B, k, Nat.zero_le _, rfl, rfl, HN1.out, Nat.le_refl _, HLF.out, HR0.out.mods MW.out, B1.out, B2.out, B3.out, B4.out, MW.out⟩
  case round =>
    clear B1 B2 B3 B4 MW
    obtain ⟨j, D, A', c', B', k', hj, rfl, hput, hDL, hDW, hDl, hrd, hb1, hb2, hb3, hb4, hmo⟩ := hrel
    have HPUT := Lib.hid hput
    have HDL := Lib.hid hDL
    have HDLF := Lib.hid hDl
    have HRD := Lib.hid hrd
    have HB1 := Lib.hid hb1
    have HB2 := Lib.hid hb2
    have HB3 := Lib.hid hb3
    have HB4 := Lib.hid hb4
    have HMO := Lib.hid hmo
    clear hput hDL hDl hrd hb1 hb2 hb3 hb4 hmo
    by_cases hlt : j < nd
    · have hjI : (j : Int) < (nd : Int) := by omega
      have hstep := putsP_step HPUT.out (HREC.out j hlt)
      have HPT : Hid (∀ V, Mods Nil wr V → Calls Try.prog 74 #[.string (strOf b), .int .i64 (j : Int)] V fun e V' => e = .returned (.string (strOf (partP b j))) ∧ Mods Nil wr V') := Lib.hid (fun V hV => (HPRT.out V j hlt).mono fun e V' h => ⟨h.1, h.2 ▸ hV⟩)
      have HBK := Lib.hid (gq_of (W := wr) (fun V => HBLK.out V j))
      obtain ⟨blk, hblk⟩ : ∃ blk, blockP ep len j nd (partP b j) = blk := ⟨_, rfl⟩
      rw [hblk] at hstep HBK
      have hz : (st : Int) + (us : Int) + (j : Int) = ((p0 + j : Nat) : Int) := by omega
      have hwz1 : IntKind.i64.wrap ((st : Int) + (us : Int)) = (st : Int) + (us : Int) := by rw [IntKind.wrap_i64]; omega
      have hwz2 : IntKind.i64.wrap ((st : Int) + (us : Int) + (j : Int)) = (st : Int) + (us : Int) + (j : Int) := by rw [IntKind.wrap_i64]; omega
      have HW := Lib.hid (fun (V : World) (hV : Mods Nil wr V) => HWR.out V D A' c' B' k' (HRD.out.mods hV) HDL.out (by omega) HDLF.out (p0 + j) blk ((st : Int) + (us : Int) + (j : Int)) hz)
      have hwl := write_lenA D ((p0 + j : Nat) : Int) blk
      have hwlf := writeA_left HDLF.out.1 HDLF.out.2 ((p0 + j : Nat) : Int) blk
      obtain ⟨X, hX⟩ : ∃ X, D.write ((p0 + j : Nat) : Int) blk = X := ⟨_, rfl⟩
      rw [hX] at hstep HW hwl hwlf
      obtain ⟨D1, e1⟩ := X
      dsimp only at hstep HW hwl hwlf
      have HST := Lib.hid hstep
      have HWL := Lib.hid hwl
      have HWLF := Lib.hid hwlf
      clear hX hblk hz hstep hwl hwlf
      have x0 : ∀ V, Mods Nil wr V → V.cell? ⟨w.heap.size, 0, none⟩ = some (.slice A' n1 c') := fun V hV => (HB1.out.mods hV (fun h => h)).four6.1.1
      have x1 : ∀ V, Mods Nil wr V → V.cell? ⟨w.heap.size, 1, none⟩ = some (.slice B' D.W.length k') := fun V hV => (HB1.out.mods hV (fun h => h)).four6.1.2.1
      have x2 : ∀ V, Mods Nil wr V → V.cell? ⟨w.heap.size, 2, none⟩ = some (.int .i64 D.left) := fun V hV => (HB1.out.mods hV (fun h => h)).four6.1.2.2.1
      have x3 : ∀ V, Mods Nil wr V → V.cell? ⟨w.heap.size, 3, none⟩ = some (.bool D.down) := fun V hV => (HB1.out.mods hV (fun h => h)).four6.1.2.2.2
      have y0 : ∀ V, Mods Nil wr V → V.cell? ⟨w.heap.size + 1, 0, none⟩ = some (.int .i64 (st : Int)) := fun V hV => (HB2.out.mods hV (fun h => h)).eight.1.1
      have y2 : ∀ V, Mods Nil wr V → V.cell? ⟨w.heap.size + 1, 2, none⟩ = some (.int .u64 (ep : Int)) := fun V hV => (HB2.out.mods hV (fun h => h)).eight.1.2.2.1
      have y3 : ∀ V, Mods Nil wr V → V.cell? ⟨w.heap.size + 1, 3, none⟩ = some (.slice A2 len c2) := fun V hV => (HB2.out.mods hV (fun h => h)).eight.1.2.2.2.1
      have y4 : ∀ V, Mods Nil wr V → V.cell? ⟨w.heap.size + 1, 4, none⟩ = some (.int .i64 (us : Int)) := fun V hV => (HB2.out.mods hV (fun h => h)).eight.1.2.2.2.2.1
      go_wp2_with fail
      refine qt_region 25 (by kernel_rfl) rfl ?_
      refine qt_quiet (fun V => Mods Nil wr V) 0 19 6 (by kernel_rfl) ((Mods.refl Nil wr).drew) ?_
      simp only [List.drop_zero, List.take_succ_cons, List.take_zero]
      repeat (first
        | go_big_quiet_skip
        | (go_big_quiet_want; first
            | (refine gq_call HPT.out ?_ ?_; (focus (intro V; go_simp; done)); go_big_quiet_on)
            | (refine gq_call HBK.out ?_ ?_; (focus (intro V; go_simp; done)); go_big_quiet_on)
            | (refine gq_op (v := ?_) ?_ ?_; rotate_left; (focus (intro V hV; go_simp; try with_reducible rfl)); go_big_quiet_on))
          simp only [Act.put, List.setIfInBounds_toArray, List.set_cons_zero, List.set_cons_succ])
      refine wpQuiet_nil ?_
      intro V hV
      refine qt_call 19 5 (by kernel_rfl) _ rfl rfl _ _ ?_ ((HW.out V hV).mono ?_)
      · go_simp
      rintro e w3 ⟨A7, c7, B7, k7, rfl, r3, m3⟩
      refine ⟨_, rfl, ?_⟩
      simp only [List.getElem_toArray, List.getElem_cons_succ, List.getElem_cons_zero, Act.put, List.setIfInBounds_toArray, List.set_cons_zero, List.set_cons_succ]
      refine qt_take 20 4 rfl (by kernel_rfl) (by kernel_rfl) (by kernel_rfl) (fun _ _ _ h => h) (by rfl) (v := ?_) ?_ ?_
      rotate_left
      · intro V
        go_simp
        try with_reducible rfl
      simp only [List.getElem_toArray, List.getElem_cons_succ, List.getElem_cons_zero, Act.put, List.setIfInBounds_toArray, List.set_cons_zero, List.set_cons_succ]
      refine qt_take 21 3 rfl (by kernel_rfl) (by kernel_rfl) (by kernel_rfl) (fun _ _ _ h => h) (by rfl) (v := ?_) ?_ ?_
      rotate_left
      · intro V
        go_simp
        try with_reducible rfl
      simp only [List.getElem_toArray, List.getElem_cons_succ, List.getElem_cons_zero, Act.put, List.setIfInBounds_toArray, List.set_cons_zero, List.set_cons_succ]
      refine qt_take 22 2 rfl (by kernel_rfl) (by kernel_rfl) (by kernel_rfl) (fun _ _ _ h => h) (by rfl) (v := ?_) ?_ ?_
      rotate_left
      · intro V
        go_simp
        try with_reducible rfl
      simp only [List.getElem_toArray, List.getElem_cons_succ, List.getElem_cons_zero, Act.put, List.setIfInBounds_toArray, List.set_cons_zero, List.set_cons_succ]
      refine qt_list 23 2 rfl (by kernel_rfl) ?_
      simp only [List.drop_succ_cons, List.drop_zero]
      have R3 := Lib.hid r3
      have m33 := hV.trans m3
      have M3 := Lib.hid (HMO.out.trans m33)
      have C1 := Lib.hid (HB1.out.mods m33 (fun h => h))
      have C2 := Lib.hid (HB2.out.mods m33 (fun h => h))
      have C3 := Lib.hid (HB3.out.mods m33 (fun h => h))
      have C4 := Lib.hid (HB4.out.mods m33 (fun h => h))
      have hlen1 : D1.L.length = n1 := by rw [HWL.out.1, HDL.out]
      rw [hlen1]
      have HLEN1 := Lib.hid hlen1
      clear r3 m3 m33 hV x0 x1 x2 x3 y0 y2 y3 y4 HPT HBK HB1 HB2 HB3 HB4 HW hlen1 hwz1 hwz2
      by_cases he1 : e1 = 0
      · subst he1
        go_wp2_with (refine wpList_store_mk rfl 31 (.tmp 3) (.tmp 64) rfl rfl w.heap.size rfl 31 #[.slice A' n1 c', .slice B' D.W.length k', .int .i64 D.left, .bool D.down] #[.slice A7 n1 c7, .slice B7 D1.W.length k7, .int .i64 D1.left, .bool D1.down] rfl C1.out rfl (by simp [Value.oneCell']) rd_info (by simp [Value.cells]) ?_; intro w4 b4 m4; have G1 := Lib.hid b4; have G2 := Lib.hid (C2.out.mods m4 (by omega)); have G3 := Lib.hid (C3.out.mods m4 (by omega)); have G4 := Lib.hid (C4.out.mods m4 (by omega)); have R4 := Lib.hid (R3.out.box C1.out (by decide) (by decide) m4); have M4 := Lib.hid (M3.out.nil_trans m4 (fun i hi => by rw [hi]; exact Nat.le_refl _)); clear b4 m4)
        exact ⟨⟨j + 1, D1, A7, c7, B7, k7, by omega, by go_num, HST.out.1, HLEN1.out, by have := HWL.out.2; omega, HWLF.out, R4.out, G1.out, G2.out, G3.out, G4.out, M4.out⟩, by simp [intOf]; omega⟩
      · have he1B : (e1 == 0) = false := by simpa using he1
        have HPE := Lib.hid (HST.out.2 he1)
        have BX := Lib.hid (Boxes.mk ⟨_, C1.out⟩ ⟨_, C2.out⟩ ⟨_, C3.out⟩ ⟨_, C4.out⟩)
        have HE1 := Lib.hid he1
        clear he1
        go_wp2_with (refine wpList_store_mk rfl 31 (.tmp 3) (.tmp 64) rfl rfl w.heap.size rfl 31 #[.slice A' n1 c', .slice B' D.W.length k', .int .i64 D.left, .bool D.down] #[.slice A7 n1 c7, .slice B7 D1.W.length k7, .int .i64 D1.left, .bool D1.down] rfl C1.out rfl (by simp [Value.oneCell']) rd_info (by simp [Value.cells]) ?_; intro w4 b4 m4; have G1 := Lib.hid b4; have G2 := Lib.hid (C2.out.mods m4 (by omega)); have G3 := Lib.hid (C3.out.mods m4 (by omega)); have G4 := Lib.hid (C4.out.mods m4 (by omega)); have M4 : Hid (Mods (Bx w.heap.size) w3 w4) := Lib.hid (m4.mono (fun i _ hi => .inl hi)); obtain ⟨⟨s0, s1, s2, s3, s4, s5, s6, s7⟩, f0, f1, f2, f3, f4, f5, f6, f7⟩ := G2.out.eight; clear b4 m4)
        have E2 : Hid (Blk _ (w.heap.size + 1) 39 #[.int .i64 (st : Int), .int .i64 (n : Int), .int .u64 (ep : Int), .slice A2 len c2, .int .i64 (us : Int), .int .i64 (su : Int), .int .i64 (gone : Int), .int .i64 e1]) := Lib.hid (G2.out.set_ 7 (.int .i64 e1))
        have E1 := Lib.hid (G1.out.setOther (show w.heap.size ≠ w.heap.size + 1 by omega) 7 (.int .i64 e1))
        have E3 := Lib.hid (G3.out.setOther (show w.heap.size + 1 + 1 ≠ w.heap.size + 1 by omega) 7 (.int .i64 e1))
        have E4 := Lib.hid (G4.out.setOther (show w.heap.size + 1 + 1 + 1 ≠ w.heap.size + 1 by omega) 7 (.int .i64 e1))
        have M5 := Lib.hid (M4.out.trans (S := Bx w.heap.size) ((set_mods _ (w.heap.size + 1) 7 (.int .i64 e1)).mono (fun i _ hi => .inr (.inl hi))))
        generalize w4.setCell ⟨w.heap.size + 1, 7, none⟩ (.int .i64 e1) = w5 at E1 E2 E3 E4 M5 ⊢
        clear C1 C2 C3 C4 G1 G2 G3 G4 M4 s0 s1 s2 s3 s4 s5 s6 s7 f0 f1 f2 f3 f4 f5 f6 f7
        have HRET2 : Hid (∀ w', Mods (Bx w.heap.size) w3 w' → RToldA w X.1 X.2.1 X.2.2.1 X.2.2.2 (.returned (.tuple #[.agg #[.slice A7 n1 c7, .slice B7 D1.W.length k7, .int .i64 D1.left, .bool D1.down], .agg #[.int .i64 (st : Int), .int .i64 (n : Int), .int .u64 (ep : Int), .slice A2 len c2, .int .i64 (us : Int), .int .i64 (su : Int), .int .i64 (gone : Int), .int .i64 e1], .int .i64 0, .int .i64 e1])) w') := Lib.hid (fun w' hm => by
          rw [← HIF.out]
          rw [HPE.out, if_pos HE1.out]
          have h := HRET.out D1 ⟨st, n, ep, L, us, su, gone, e1⟩ 0 e1 w3 w' A7 c7 B7 k7 A2 c2 HLEN1.out M3.out R3.out ((HS0.out.mods M3.out).of rfl) BX.out hm
          dsimp only at h
          rw [HL.out] at h
          exact h)
        obtain ⟨⟨x0, x1, x2, x3⟩, -⟩ := E1.out.four6
        obtain ⟨⟨s0, s1, s2, s3, s4, s5, s6, s7⟩, -⟩ := E2.out.eight
        obtain ⟨⟨y0, y1, y2, y3⟩, g0, g1, g2, g3⟩ := E3.out.four6
        obtain ⟨⟨z0, z1, z2, z3, z4, z5, z6, z7⟩, h0, h1, h2, h3, h4, h5, h6, h7⟩ := E4.out.eight
        go_region
        all_goals
          go_wp2
          refine with_ret (Q := fun W => bodyPost _ _ _ Exit.ret _ W.drew) (by omega) E3.out E4.out ?_
          intro w6 F3 F4 FM
          clear x0 x1 x2 x3 s0 s1 s2 s3 s4 s5 s6 s7 y0 y1 y2 y3 z0 z1 z2 z3 z4 z5 z6 z7 g0 g1 g2 g3 h0 h1 h2 h3 h4 h5 h6 h7
          obtain ⟨⟨y0, y1, y2, y3⟩, -⟩ := F3.four6
          obtain ⟨⟨z0, z1, z2, z3, z4, z5, z6, z7⟩, -⟩ := F4.eight
          refine bodyPost_ret (v := .tuple #[.agg #[.slice A7 n1 c7, .slice B7 D1.W.length k7, .int .i64 D1.left, .bool D1.down], .agg #[.int .i64 (st : Int), .int .i64 (n : Int), .int .u64 (ep : Int), .slice A2 len c2, .int .i64 (us : Int), .int .i64 (su : Int), .int .i64 (gone : Int), .int .i64 e1], .int .i64 0, .int .i64 e1]) (by simp [results, Try.results19, go_sem, y0, y1, y2, y3, z0, z1, z2, z3, z4, z5, z6, z7]) rfl (HRET2.out _ ?_)
          exact (M5.out.trans (S := Bx w.heap.size) (FM.mono (fun i _ hi => by rcases hi with h | h; exact .inr (.inr (.inl h)); exact .inr (.inr (.inr h))))).drew
    · obtain rfl : j = nd := by omega
      have hfull : rec.take j = rec := List.take_of_length_le (by rw [HRL.out]; exact Nat.le_refl _)
      rw [hfull] at HPUT
      obtain ⟨i0, hi0, hz0, hz1, hz2⟩ := info_parts infoStrA
      obtain ⟨⟨s0, s1, s2, s3, s4, s5, s6, s7⟩, f0, f1, f2, f3, f4, f5, f6, f7⟩ := HB2.out.eight
      obtain ⟨u2, hu2⟩ : ∃ u2, us + j = u2 := ⟨_, rfl⟩
      have hw5 : IntKind.i64.wrap ((us : Int) + (j : Int)) = (u2 : Int) := by rw [IntKind.wrap_i64]; omega
      obtain ⟨len1, hlen1⟩ : ∃ k, len + 1 = k := ⟨_, rfl⟩
      have hw6 : IntKind.i64.wrap ((len1 : Int) - 1) = (len : Int) := by rw [IntKind.wrap_i64]; omega
      have hi6 : (len1 : Int) - 1 = (len : Int) := by omega
      have HU2 := Lib.hid hu2
      have HLEN1 := Lib.hid hlen1
      have HSL := Lib.hid (show Sl wr A2 c2 (strs L) from (HS0.out.mods HMO.out).sl)
      clear hfull hu2
      go_wp2_with (first
        | (at_builtin; have hx := O5.out; clear hx; refine wpList_append_sl _ rfl _ _ 28 rfl wr.heap.size 9 i0 (.string ⟨#[]⟩) 16 Try.underlying28 hi0 hz0 hz1 hz2 rfl _ len (strs L) rfl (O5.out.alloc _) (some ⟨w5.heap.size, 0, none⟩) 1 1 [.string (strOf b)] rfl rfl (build_at (n := 1) (by simp) rfl rfl (by decide)) (by simp [Value.oneCell']) (by omega) (by unfold maxLen; omega) (M5.out.alloc _).size ?_; intro v' w6 hown hgrow hmv; rw [hlen1] at hown; obtain ⟨A6, c6, rfl, e6, t6, b6⟩ := own_slice hown; rw [show [Value.string (strOf b)] = strs [b] from rfl, ← strs_append] at hown; have O6 := Lib.hid hown; have M6 := Lib.hid (show Mods Nil wr w6 from (M5.out.alloc _).nil_trans ((Mods.refl (fun q => (Value.slice A5 len c5).ownBlock = some q) _).grown hgrow (fun q hq _ => hq)) (fun i h => (O5.out.lt i h).1)); clear hown hgrow hmv e6 t6 b6 s0 s1 s2 s3 s4 s5 s6 s7 f0 f1 f2 f3 f4 f5 f6 f7; obtain ⟨⟨s0, s1, s2, s3, s4, s5, s6, s7⟩, f0, f1, f2, f3, f4, f5, f6, f7⟩ := (HB2.out.mods M6.out (fun h => h)).eight)
        | (at_builtin; refine wpList_append_sl _ rfl _ _ 28 rfl wr.heap.size 9 i0 (.string ⟨#[]⟩) 16 Try.underlying28 hi0 hz0 hz1 hz2 rfl (.slice none 0 0) 0 [] rfl (World.ownsRow_nil _ _ _ _) A2 len c2 (strs L) rfl (by rw [strs_length, HL.out]) HSL.out (strs_one L) (by omega) (by unfold maxLen; omega) (Nat.le_refl _) ?_; intro v' w5 hown hgrow hmv; rw [Nat.zero_add, List.nil_append] at hown; obtain ⟨A5, c5, rfl, e5, s9, b5⟩ := own_slice hown; have O5 := Lib.hid hown; have M5 := Lib.hid (show Mods Nil wr w5 from (Mods.refl Nil _).grown hgrow (fun q hq _ => by simp [Value.ownBlock] at hq)); clear hown hgrow hmv e5 s9 b5))
      have G1 := HB1.out.mods M6.out (fun h => h)
      have G2 := HB2.out.mods M6.out (fun h => h)
      have G3 := HB3.out.mods M6.out (fun h => h)
      have G4 := HB4.out.mods M6.out (fun h => h)
      have BX := Lib.hid (Boxes.mk ⟨_, G1⟩ ⟨_, G2⟩ ⟨_, G3⟩ ⟨_, G4⟩)
      have E2 : Hid (Blk _ (w.heap.size + 1) 39 #[.int .i64 (st : Int), .int .i64 (n : Int), .int .u64 (ep : Int), .slice A6 len1 c6, .int .i64 (u2 : Int), .int .i64 (su : Int), .int .i64 (gone : Int), .int .i64 0]) := Lib.hid ((G2.set_ 3 (.slice A6 len1 c6)).set_ 4 (.int .i64 (u2 : Int)))
      have E1 := Lib.hid ((G1.setOther (show w.heap.size ≠ w.heap.size + 1 by omega) 3 (.slice A6 len1 c6)).setOther (show w.heap.size ≠ w.heap.size + 1 by omega) 4 (.int .i64 (u2 : Int)))
      have E3 := Lib.hid ((G3.setOther (show w.heap.size + 1 + 1 ≠ w.heap.size + 1 by omega) 3 (.slice A6 len1 c6)).setOther (show w.heap.size + 1 + 1 ≠ w.heap.size + 1 by omega) 4 (.int .i64 (u2 : Int)))
      have E4 := Lib.hid ((G4.setOther (show w.heap.size + 1 + 1 + 1 ≠ w.heap.size + 1 by omega) 3 (.slice A6 len1 c6)).setOther (show w.heap.size + 1 + 1 + 1 ≠ w.heap.size + 1 by omega) 4 (.int .i64 (u2 : Int)))
      have M7 := Lib.hid (((set_mods w6 (w.heap.size + 1) 3 (.slice A6 len1 c6)).mono (T := Bx w.heap.size) (fun i _ hi => .inr (.inl hi))).trans (S := Bx w.heap.size) ((set_mods _ (w.heap.size + 1) 4 (.int .i64 (u2 : Int))).mono (fun i _ hi => .inr (.inl hi))))
      generalize (w6.setCell ⟨w.heap.size + 1, 3, none⟩ (.slice A6 len1 c6)).setCell ⟨w.heap.size + 1, 4, none⟩ (.int .i64 (u2 : Int)) = w7 at E1 E2 E3 E4 M7 ⊢
      clear G1 G2 G3 G4 s0 s1 s2 s3 s4 s5 s6 s7 f0 f1 f2 f3 f4 f5 f6 f7 hlen1
      have HRET2 : Hid (∀ w', Mods (Bx w.heap.size) w6 w' → RToldA w X.1 X.2.1 X.2.2.1 X.2.2.2 (.returned (.tuple #[.agg #[.slice A' n1 c', .slice B' D.W.length k', .int .i64 D.left, .bool D.down], .agg #[.int .i64 (st : Int), .int .i64 (n : Int), .int .u64 (ep : Int), .slice A6 len1 c6, .int .i64 (u2 : Int), .int .i64 (su : Int), .int .i64 (gone : Int), .int .i64 0], .int .i64 (len : Int), .int .i64 0])) w') := Lib.hid (fun w' hm => by
        rw [← HIF.out, HPUT.out, if_neg (by simp), HU2.out]
        have h := HRET.out D ⟨st, n, ep, L ++ [b], us + j, su, gone, 0⟩ (len : Int) 0 w6 w' A' c' B' k' A6 c6 HDL.out (HMO.out.trans M6.out) (HRD.out.mods M6.out) ⟨own_sl7 O6.out, own_ty6 O6.out⟩ BX.out hm
        dsimp only at h
        rw [List.length_append, HL.out, HU2.out, show len + [b].length = len1 from HLEN1.out] at h
        exact h)
      obtain ⟨⟨x0, x1, x2, x3⟩, -⟩ := E1.out.four6
      obtain ⟨⟨s0, s1, s2, s3, s4, s5, s6, s7⟩, -⟩ := E2.out.eight
      obtain ⟨⟨y0, y1, y2, y3⟩, g0, g1, g2, g3⟩ := E3.out.four6
      obtain ⟨⟨z0, z1, z2, z3, z4, z5, z6, z7⟩, h0, h1, h2, h3, h4, h5, h6, h7⟩ := E4.out.eight
      go_region
      all_goals
        go_wp2
        refine with_ret (Q := fun W => bodyPost _ _ _ Exit.ret _ W.drew) (by omega) E3.out E4.out ?_
        intro w6 F3 F4 FM
        clear x0 x1 x2 x3 s0 s1 s2 s3 s4 s5 s6 s7 y0 y1 y2 y3 z0 z1 z2 z3 z4 z5 z6 z7 g0 g1 g2 g3 h0 h1 h2 h3 h4 h5 h6 h7
        obtain ⟨⟨y0, y1, y2, y3⟩, -⟩ := F3.four6
        obtain ⟨⟨z0, z1, z2, z3, z4, z5, z6, z7⟩, -⟩ := F4.eight
        refine bodyPost_ret (v := .tuple #[.agg #[.slice A' n1 c', .slice B' D.W.length k', .int .i64 D.left, .bool D.down], .agg #[.int .i64 (st : Int), .int .i64 (n : Int), .int .u64 (ep : Int), .slice A6 len1 c6, .int .i64 (u2 : Int), .int .i64 (su : Int), .int .i64 (gone : Int), .int .i64 0], .int .i64 (len : Int), .int .i64 0]) (by simp [results, Try.results19, go_sem, y0, y1, y2, y3, z0, z1, z2, z3, z4, z5, z6, z7]) rfl (HRET2.out _ ?_)
        exact (M7.out.trans (S := Bx w.heap.size) (FM.mono (fun i _ hi => by rcases hi with h | h; exact .inr (.inr (.inl h)); exact .inr (.inr (.inr h))))).drew
end Go.Proofs.Ytdllgmhipenidaa
