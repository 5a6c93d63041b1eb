/- The reference of layer 7: Open. -/
import Derived.Test.YtdllgmhipenidaaRef07f
import Derived.Test.YtdllgmhipenidaaRef07c
import Derived.Test.YtdllgmhipenidaaRef06A
import Derived.Test.YtdllgmhipenidaaSgmE
import Derived.Test.YtdllgmhipenidaaSegP
import Derived.Test.YtdllgmhipenidaaGQ
namespace Go.Proofs.Ytdllgmhipenidaa
set_option maxRecDepth 100000
open Go.RowKit
set_option linter.unusedVariables false
set_option linter.unusedSimpArgs false

theorem numP_lt9 (b : List UInt8) (i : Nat) : numP b i < 4294967296 := by
  have h : ∀ j, byteP b j < 256 := fun j => (b.getD j 0).toNat_lt
  have h0 := h i
  have h1 := h (i + 1)
  have h2 := h (i + 2)
  have h3 := h (i + 3)
  unfold numP
  omega
theorem stampP_snocO (l : List (List UInt8)) (b : List UInt8) : stampP (l ++ [b]) = max (max (stampP l) (numP b 0)) (numP b 60) := by
  unfold stampP
  rw [List.foldl_append]
  rfl
theorem takeP_some {l : List (List UInt8)} {p pl e m x : Nat} {b : List UInt8} (h : takeP l p pl e = some (b, m, x)) : 1 ≤ m ∧ p + m ≤ l.length ∧ x < 4294967296 := by
  unfold takeP at h
  split at h
  · rename_i hc
    injection h with h
    injection h with h1 h
    injection h with h2 h3
    subst h2; subst h3
    exact ⟨hc.2.2.1, hc.2.2.2.2.2.1, numP_lt9 _ _⟩
  · cases h
theorem strs_drop60 (b : List UInt8) : (strOf b).extract 60 64 = strOf ((b.drop 60).take 4) := strOf_extract b 60 64
theorem read_lat {d : PD} (hdn : d.down = false) {i : Nat} {z : Int} (hz : z = (i : Int)) (hi : i < d.L.length) : d.read z = (d.lat i, 0) := by
  subst hz
  have h0 : d.at_ (i : Int) = 0 := by
    unfold PD.at_
    rw [hdn, if_neg (by simp), if_neg (by omega)]
  unfold PD.read
  rw [h0, if_neg (by simp)]
  rfl
def usedAtO (g : Nat) (w : World) : Nat := match w.cell? ⟨g, 4, none⟩ with | some (.int .i64 z) => z.toNat | _ => 0
set_option maxHeartbeats 3200000 in
theorem r7open_bad (w : World) {A B : Option Addr} {n1 c n2 k : Nat} {left : Int} {down : Bool} {a n : Int} (hn1 : n1 ≤ 65536) (h3 : a ≤ 9223372036854775807) (hbad : a < 0 ∨ n < 1 ∨ (n1 : Int) < a ∨ (n1 : Int) - a < n) :
    Calls Try.prog 16 #[.agg #[.slice A n1 c, .slice B n2 k, .int .i64 left, .bool down], .int .i64 a, .int .i64 n] w fun e w' => e = .returned (.tuple #[.agg #[.int .i64 0, .int .i64 0, .int .u64 0, .slice none 0 0, .int .i64 0, .int .i64 0, .int .i64 0, .int .i64 0], .int .i64 1]) ∧ Mods Nil w w' := by
  obtain ⟨W, hW⟩ : ∃ W, ((w.alloc (.cells #[.slice A n1 c, .slice B n2 k, .int .i64 left, .bool down] 31)).alloc (.cells #[.int .i64 0, .int .i64 0, .int .u64 0, .slice none 0 0, .int .i64 0, .int .i64 0, .int .i64 0, .int .i64 0] 39)) = W := ⟨_, rfl⟩
  have MW : Hid (Mods Nil w W) := Lib.hid (by rw [← hW]; exact (((Mods.refl Nil w).alloc _).alloc _))
  have DB : Hid (Blk W w.heap.size 31 #[.slice A n1 c, .slice B n2 k, .int .i64 left, .bool down]) := by
    rw [← hW]
    exact Lib.hid ((Blk.new w _ _).alloc _)
  have RB : Hid (Blk W (w.heap.size + 1) 39 #[.int .i64 0, .int .i64 0, .int .u64 0, .slice none 0 0, .int .i64 0, .int .i64 0, .int .i64 0, .int .i64 0]) := by
    rw [← hW]
    have h := Blk.new (w.alloc (.cells #[.slice A n1 c, .slice B n2 k, .int .i64 left, .bool down] 31)) 39 #[.int .i64 0, .int .i64 0, .int .u64 0, .slice none 0 0, .int .i64 0, .int .i64 0, .int .i64 0, .int .i64 0]
    rw [show (w.alloc (.cells #[.slice A n1 c, .slice B n2 k, .int .i64 left, .bool down] 31)).heap.size = w.heap.size + 1 by simp] at h
    exact Lib.hid h
  obtain ⟨⟨x0, x1, x2, x3⟩, -⟩ := DB.out.four6
  have hend : ∀ V, Mods (fun i => i = w.heap.size + 1) W V → Mods Nil w V := fun V h => MW.out.nil_trans h (fun i hi => by omega)
  have HEND := Lib.hid hend
  clear hend DB
  by_cases h0 : a < 0
  · have h0I : decide (a < 0) = true := by simpa using h0
    clear hbad h3 h0
    go_enter Try.func16, Try.ntmps16
    go_wp2_with (refine wpList_store_mk rfl 39 (.tmp 6) (.tmp 39) rfl rfl (w.heap.size + 1) rfl 39 #[.int .i64 0, .int .i64 0, .int .u64 0, .slice none 0 0, .int .i64 0, .int .i64 0, .int .i64 0, .int .i64 0] #[.int .i64 0, .int .i64 0, .int .u64 0, .slice none 0 0, .int .i64 0, .int .i64 0, .int .i64 0, .int .i64 0] rfl RB.out rfl (by simp [Value.oneCell']) rs_info (by simp [Value.cells]) ?_; intro w4 b4 m4; have G4 := Lib.hid b4; have M4 := Lib.hid m4; obtain ⟨⟨z0, z1, z2, z3, z4, z5, z6, z7⟩, -⟩ := b4.eight; clear b4 m4)
    exact bodyPost_ret (v := .tuple #[.agg #[.int .i64 0, .int .i64 0, .int .u64 0, .slice none 0 0, .int .i64 0, .int .i64 0, .int .i64 0, .int .i64 0], .int .i64 1]) (by simp [results, Try.results16, go_sem, z0, z1, z2, z3, z4, z5, z6, z7]) rfl ⟨rfl, HEND.out _ M4.out⟩
  have h0I : decide (a < 0) = false := by simpa using h0
  by_cases h1 : n < 1
  · have h1I : decide (n < 1) = true := by simpa using h1
    clear hbad h3 h1
    go_enter Try.func16, Try.ntmps16
    go_wp2_with (refine wpList_store_mk rfl 39 (.tmp 6) (.tmp 39) rfl rfl (w.heap.size + 1) rfl 39 #[.int .i64 0, .int .i64 0, .int .u64 0, .slice none 0 0, .int .i64 0, .int .i64 0, .int .i64 0, .int .i64 0] #[.int .i64 0, .int .i64 0, .int .u64 0, .slice none 0 0, .int .i64 0, .int .i64 0, .int .i64 0, .int .i64 0] rfl RB.out rfl (by simp [Value.oneCell']) rs_info (by simp [Value.cells]) ?_; intro w4 b4 m4; have G4 := Lib.hid b4; have M4 := Lib.hid m4; obtain ⟨⟨z0, z1, z2, z3, z4, z5, z6, z7⟩, -⟩ := b4.eight; clear b4 m4)
    exact bodyPost_ret (v := .tuple #[.agg #[.int .i64 0, .int .i64 0, .int .u64 0, .slice none 0 0, .int .i64 0, .int .i64 0, .int .i64 0, .int .i64 0], .int .i64 1]) (by simp [results, Try.results16, go_sem, z0, z1, z2, z3, z4, z5, z6, z7]) rfl ⟨rfl, HEND.out _ M4.out⟩
  have h1I : decide (n < 1) = false := by simpa using h1
  by_cases h2 : (n1 : Int) < a
  · have h2I : decide ((n1 : Int) < a) = true := by simpa using h2
    clear hbad h3 h1 h2
    go_enter Try.func16, Try.ntmps16
    go_wp2_with (refine wpList_store_mk rfl 39 (.tmp 6) (.tmp 39) rfl rfl (w.heap.size + 1) rfl 39 #[.int .i64 0, .int .i64 0, .int .u64 0, .slice none 0 0, .int .i64 0, .int .i64 0, .int .i64 0, .int .i64 0] #[.int .i64 0, .int .i64 0, .int .u64 0, .slice none 0 0, .int .i64 0, .int .i64 0, .int .i64 0, .int .i64 0] rfl RB.out rfl (by simp [Value.oneCell']) rs_info (by simp [Value.cells]) ?_; intro w4 b4 m4; have G4 := Lib.hid b4; have M4 := Lib.hid m4; obtain ⟨⟨z0, z1, z2, z3, z4, z5, z6, z7⟩, -⟩ := b4.eight; clear b4 m4)
    exact bodyPost_ret (v := .tuple #[.agg #[.int .i64 0, .int .i64 0, .int .u64 0, .slice none 0 0, .int .i64 0, .int .i64 0, .int .i64 0, .int .i64 0], .int .i64 1]) (by simp [results, Try.results16, go_sem, z0, z1, z2, z3, z4, z5, z6, z7]) rfl ⟨rfl, HEND.out _ M4.out⟩
  have h2I : decide ((n1 : Int) < a) = false := by simpa using h2
  have h4 : (n1 : Int) - a < n := by omega
  have h4I : decide ((n1 : Int) - a < n) = true := by simpa using h4
  have hw : IntKind.i64.wrap ((n1 : Int) - a) = (n1 : Int) - a := by rw [IntKind.wrap_i64]; omega
  clear hbad h3 h1 h2 h4
  go_enter Try.func16, Try.ntmps16
  go_wp2_with (refine wpList_store_mk rfl 39 (.tmp 6) (.tmp 39) rfl rfl (w.heap.size + 1) rfl 39 #[.int .i64 0, .int .i64 0, .int .u64 0, .slice none 0 0, .int .i64 0, .int .i64 0, .int .i64 0, .int .i64 0] #[.int .i64 0, .int .i64 0, .int .u64 0, .slice none 0 0, .int .i64 0, .int .i64 0, .int .i64 0, .int .i64 0] rfl RB.out rfl (by simp [Value.oneCell']) rs_info (by simp [Value.cells]) ?_; intro w4 b4 m4; have G4 := Lib.hid b4; have M4 := Lib.hid m4; obtain ⟨⟨z0, z1, z2, z3, z4, z5, z6, z7⟩, -⟩ := b4.eight; clear b4 m4)
  exact bodyPost_ret (v := .tuple #[.agg #[.int .i64 0, .int .i64 0, .int .u64 0, .slice none 0 0, .int .i64 0, .int .i64 0, .int .i64 0, .int .i64 0], .int .i64 1]) (by simp [results, Try.results16, go_sem, z0, z1, z2, z3, z4, z5, z6, z7]) rfl ⟨rfl, HEND.out _ M4.out⟩

/-- What is told of a segment that is opened. -/
def ROpen7 (w : World) (l : List (List UInt8)) (a : Nat) (e : Ending) (w' : World) : Prop :=
  (stampP l < 4294967295 → ∃ A2 c2, e = .returned (.tuple #[rsV A2 c2 (segOpen l a), .int .i64 0]) ∧ RsAt w' A2 c2 (segOpen l a)) ∧ (stampP l = 4294967295 → e = .returned (.tuple #[.agg #[.int .i64 0, .int .i64 0, .int .u64 0, .slice none 0 0, .int .i64 0, .int .i64 0, .int .i64 0, .int .i64 0], .int .i64 37])) ∧ Mods Nil w w'
set_option maxHeartbeats 12800000 in
theorem r7open_any (w : World) {A B : Option Addr} {c k : Nat} {d : PD} (h : RdAt w A c B k d) (hok : d.Ok) (hL : d.L.length ≤ 65536) (hdn : d.down = false) {n1 n2 : Nat} {left : Int} (hn1 : d.L.length = n1) (hn2 : d.W.length = n2) (hleft : d.left = left) {a n : Nat} (h1 : 1 ≤ n) (hn : a + n ≤ n1) :
    Calls Try.prog 16 #[.agg #[.slice A n1 c, .slice B n2 k, .int .i64 left, .bool false], .int .i64 (a : Int), .int .i64 (n : Int)] w (ROpen7 w (segL d a n) a) := by
  obtain ⟨i0, hi0, hz0, hz1, hz2⟩ := info_parts infoStrA
  have hsl := segL_length d a n
  have h64 : ∀ b ∈ segL d a n, b.length = 64 := fun b hb => by
    obtain ⟨i, hi, e⟩ := mem_getD hb
    rw [hsl] at hi
    rw [← e, segL_get hi]
    exact hok.lat (by omega)
  have HRD : Hid (∀ (V : World), Mods Nil w V → ∀ j, j < n → ∃ b : List UInt8, b.length = 64 ∧ (segL d a n).take (j + 1) = (segL d a n).take j ++ [b] ∧ Calls Try.prog 67 #[.agg #[.slice A n1 c, .slice B n2 k, .int .i64 left, .bool false], .int .i64 ((a : Int) + (j : Int))] V fun e w' => e = .returned (.tuple #[.string (strOf b), .int .i64 0]) ∧ Mods Nil V w') := Lib.hid (fun V hV j hj => by
    have hr := r6read_any V (h.mods hV) hn1 hn2 hdn ((a : Int) + (j : Int)) (left := left)
    have hat : d.read ((a : Int) + (j : Int)) = (d.lat (a + j), 0) := read_lat hdn (by omega) (by omega)
    rw [hat] at hr
    exact ⟨d.lat (a + j), hok.lat (by omega), segL_take d a n j hj, hr⟩)
  obtain ⟨l, hl⟩ : ∃ l, segL d a n = l := ⟨_, rfl⟩
  rw [hl] at HRD hsl h64 ⊢
  have HSL := Lib.hid hsl
  have H64 := Lib.hid h64
  clear h hok hn2 hleft hl hsl h64
  obtain ⟨W, hW⟩ : ∃ W, ((w.alloc (.cells #[.slice A n1 c, .slice B n2 k, .int .i64 left, .bool false] 31)).alloc (.cells #[.int .i64 0, .int .i64 0, .int .u64 0, .slice none 0 0, .int .i64 0, .int .i64 0, .int .i64 0, .int .i64 0] 39)) = W := ⟨_, rfl⟩
  have MW : Hid (Mods Nil w W) := Lib.hid (by rw [← hW]; exact (((Mods.refl Nil w).alloc _).alloc _))
  have DB : Hid (Blk W w.heap.size 31 #[.slice A n1 c, .slice B n2 k, .int .i64 left, .bool false]) := by
    rw [← hW]
    exact Lib.hid ((Blk.new w _ _).alloc _)
  have RB : Hid (Blk W (w.heap.size + 1) 39 #[.int .i64 0, .int .i64 0, .int .u64 0, .slice none 0 0, .int .i64 0, .int .i64 0, .int .i64 0, .int .i64 0]) := by
    rw [← hW]
    have h := Blk.new (w.alloc (.cells #[.slice A n1 c, .slice B n2 k, .int .i64 left, .bool false] 31)) 39 #[.int .i64 0, .int .i64 0, .int .u64 0, .slice none 0 0, .int .i64 0, .int .i64 0, .int .i64 0, .int .i64 0]
    rw [show (w.alloc (.cells #[.slice A n1 c, .slice B n2 k, .int .i64 left, .bool false] 31)).heap.size = w.heap.size + 1 by simp] at h
    exact Lib.hid h
  obtain ⟨⟨x0, x1, x2, x3⟩, -⟩ := DB.out.four6
  have h0I : decide ((a : Int) < 0) = false := by simp
  have h1I : decide ((n : Int) < 1) = false := by simp; omega
  have h2I : decide ((n1 : Int) < (a : Int)) = false := by simp; omega
  have h2N : decide (n1 < a) = false := by simp; omega
  have h4I : decide ((n1 : Int) - (a : Int) < (n : Int)) = false := by simp; omega
  have hw : IntKind.i64.wrap ((n1 : Int) - (a : Int)) = (n1 : Int) - (a : Int) := by rw [IntKind.wrap_i64]; omega
  obtain ⟨g8, hg8⟩ : ∃ g8, w.heap.size + 1 + 1 = g8 := ⟨_, rfl⟩
  have hWs : W.heap.size = g8 := by rw [← hg8, ← hW]; simp
  have B8 : Hid (Blk (W.alloc (.cells #[.int .i64 (a : Int), .int .i64 (n : Int), .int .u64 1, .slice none 0 0, .int .i64 0, .int .i64 0, .int .i64 0, .int .i64 0] 39)) g8 39 #[.int .i64 (a : Int), .int .i64 (n : Int), .int .u64 1, .slice none 0 0, .int .i64 0, .int .i64 0, .int .i64 0, .int .i64 0]) := by rw [← hWs]; exact Lib.hid (Blk.new W _ _)
  have DB2 := Lib.hid (DB.out.alloc (.cells #[.int .i64 (a : Int), .int .i64 (n : Int), .int .u64 1, .slice none 0 0, .int .i64 0, .int .i64 0, .int .i64 0, .int .i64 0] 39))
  have RB2 := Lib.hid (RB.out.alloc (.cells #[.int .i64 (a : Int), .int .i64 (n : Int), .int .u64 1, .slice none 0 0, .int .i64 0, .int .i64 0, .int .i64 0, .int .i64 0] 39))
  have MW2 := Lib.hid (MW.out.alloc (.cells #[.int .i64 (a : Int), .int .i64 (n : Int), .int .u64 1, .slice none 0 0, .int .i64 0, .int .i64 0, .int .i64 0, .int .i64 0] 39))
  have hn16 : n1 ≤ 65536 := by omega
  clear hn1 hdn
  go_enter Try.func16, Try.ntmps16
  go_wp2_with fail
  try rw [hWs]
  clear DB RB MW hWs x0 x1 x2 x3 hW
  go_loopw [9, 10] (fun v x wr => ∃ (j c3 : Nat) (A3 : Option Addr) (t ep : Nat), j ≤ n ∧ x = .int .i64 (j : Int) ∧ v = .slice A3 j c3 ∧ wr.ownsRow w.heap.size 9 1 (.slice A3 j c3) j (strs (l.take j)) ∧ stampP (l.take j) = t ∧ t + 1 = ep ∧ t < 4294967296 ∧ Blk wr w.heap.size 31 #[.slice A n1 c, .slice B n2 k, .int .i64 left, .bool false] ∧ Blk wr (w.heap.size + 1) 39 #[.int .i64 0, .int .i64 0, .int .u64 0, .slice none 0 0, .int .i64 0, .int .i64 0, .int .i64 0, .int .i64 0] ∧ Blk wr g8 39 #[.int .i64 (a : Int), .int .i64 (n : Int), .int .u64 (ep : Int), .slice none 0 0, .int .i64 0, .int .i64 0, .int .i64 0, .int .i64 0] ∧ Mods Nil w wr) (fun _ x _ => n - (intOf x).toNat)
  case atStart => exact ⟨0, 0, none, 0, 1, Nat.zero_le _, rfl, rfl, World.ownsRow_nil _ _ _ _, rfl, rfl, by omega, DB2.out, RB2.out, B8.out, MW2.out⟩
  case round =>
    clear DB2 RB2 B8 MW2
    obtain ⟨j, c3, A3, t, ep, hj, rfl, rfl, ho, ht, hep, htb, hdb, hrb, hb8, hmo⟩ := hrel
    have HO := Lib.hid ho
    have HT := Lib.hid ht
    have HEP := Lib.hid hep
    have HDB := Lib.hid hdb
    have HRB := Lib.hid hrb
    have HB8 := Lib.hid hb8
    have HMO := Lib.hid hmo
    clear ho ht hep hdb hrb hb8 hmo
    by_cases hlt : j < n
    · have hjI : (j : Int) < (n : Int) := by omega
      obtain ⟨b, hb64, htk, hrd⟩ := HRD.out wr HMO.out j hlt
      have HRDJ := Lib.hid hrd
      have HTK := Lib.hid htk
      have HB64 := Lib.hid hb64
      have hwa : IntKind.i64.wrap ((a : Int) + (j : Int)) = (a : Int) + (j : Int) := by rw [IntKind.wrap_i64]; omega
      have hn0 := numP_lt9 b 0
      have hn6 := numP_lt9 b 60
      have HNUM0 := Lib.hid (fun V => rnumber_any V hb64 (by omega))
      have HNUM6 := Lib.hid (fun V => rnumber_any V (xs := b.drop 60) (n := 4) (by simp [hb64]) (by omega))
      rw [numP_drop b 60] at HNUM6
      have hst := stampP_snocO (l.take j) b
      rw [← htk, HT.out] at hst
      have hbsz : (strOf b).size = 64 := by simp [hb64]
      have hx60 : (strOf b).extract 60 64 = strOf (b.drop 60) := by rw [strOf_extract, List.take_of_length_le (by simp [hb64])]
      obtain ⟨u, hu⟩ : ∃ u, numP b 0 = u := ⟨_, rfl⟩
      obtain ⟨v, hv⟩ : ∃ v, numP b 60 = v := ⟨_, rfl⟩
      rw [hu] at hn0 HNUM0 hst
      rw [hv] at hn6 HNUM6 hst
      have HST := Lib.hid hst
      have hwu : IntKind.u64.wrap ((u : Int) + 1) = ((u + 1 : Nat) : Int) := by rw [IntKind.wrap_u64]; omega
      have hwv : IntKind.u64.wrap ((v : Int) + 1) = ((v + 1 : Nat) : Int) := by rw [IntKind.wrap_u64]; omega
      obtain ⟨u1, hu1⟩ : ∃ x, u + 1 = x := ⟨_, rfl⟩
      obtain ⟨v1, hv1⟩ : ∃ x, v + 1 = x := ⟨_, rfl⟩
      rw [hu1] at hwu
      rw [hv1] at hwv
      have HU1 := Lib.hid hu1
      have HV1 := Lib.hid hv1
      obtain ⟨⟨x0, x1, x2, x3⟩, -⟩ := HDB.out.four6
      clear hrd htk hb64 hst hu hv hu1 hv1
      go_wp2_with (first
        | (go_at_call 67; refine (HRDJ.out).mono ?_; rintro e w3 ⟨rfl, m3⟩; have M3 := Lib.hid m3; have O3 := Lib.hid (own_mods HO.out m3 (fun _ _ h => h)); clear m3)
        | (at_builtin; refine wpList_append_sl _ rfl _ _ 28 rfl w.heap.size 9 i0 (.string ⟨#[]⟩) 16 Try.underlying28 hi0 hz0 hz1 hz2 rfl _ j _ rfl (O3.out.alloc _) (some ⟨w3.heap.size, 0, none⟩) 1 1 [.string (strOf b)] rfl rfl (build_at (n := 1) (by simp) rfl rfl (by decide)) (by simp [Value.oneCell']) (by omega) (by unfold maxLen; omega) (HMO.out.trans (M3.out.alloc _)).size ?_; intro v' w4 hown hgrow hmv; obtain ⟨A5, c5, rfl, e5, s5, b5⟩ := own_slice hown; have O4 := Lib.hid hown; have hgr := (Mods.refl (fun q => (Value.slice A3 j c3).ownBlock = some q) (w3.alloc (.cells #[.string (strOf b)] 9))).grown hgrow (fun q hq _ => hq); have G1 := Lib.hid (((HDB.out.mods M3.out (fun h => h)).alloc (.cells #[.string (strOf b)] 9)).mods hgr (own_blk_ne (O3.out.alloc _) ((HDB.out.mods M3.out (fun h => h)).alloc (.cells #[.string (strOf b)] 9)) (by decide))); have G2 := Lib.hid (((HRB.out.mods M3.out (fun h => h)).alloc (.cells #[.string (strOf b)] 9)).mods hgr (own_blk_ne (O3.out.alloc _) ((HRB.out.mods M3.out (fun h => h)).alloc (.cells #[.string (strOf b)] 9)) (by decide))); have G8 := Lib.hid (((HB8.out.mods M3.out (fun h => h)).alloc (.cells #[.string (strOf b)] 9)).mods hgr (own_blk_ne (O3.out.alloc _) ((HB8.out.mods M3.out (fun h => h)).alloc (.cells #[.string (strOf b)] 9)) (by decide))); have M4 := Lib.hid (show Mods Nil w w4 from (HMO.out.trans (M3.out.alloc _)).nil_trans hgr (fun i h => (O3.out.lt i h).1)); clear hown hgrow hmv hgr e5 s5 b5 x0 x1 x2 x3))
      have HO5 : Hid (w4.ownsRow w.heap.size 9 1 (.slice A5 (j + 1) c5) (j + 1) (strs (l.take (j + 1)))) := Lib.hid (by rw [HTK.out, strs_append]; exact O4.out)
      -- what a round ends in
      have HNEXT : Hid (∀ (V : World) (t2 : Nat), Mods (fun i => i = g8) w4 V → t2 = stampP (l.take (j + 1)) → Blk V g8 39 #[.int .i64 (a : Int), .int .i64 (n : Int), .int .u64 ((t2 + 1 : Nat) : Int), .slice none 0 0, .int .i64 0, .int .i64 0, .int .i64 0, .int .i64 0] → ∃ (j' c3 : Nat) (A3 : Option Addr) (t ep : Nat), j' ≤ n ∧ (.int .i64 ((j : Int) + 1) : Value) = .int .i64 (j' : Int) ∧ (.slice A5 (j + 1) c5 : Value) = .slice A3 j' c3 ∧ V.ownsRow w.heap.size 9 1 (.slice A3 j' c3) j' (strs (l.take j')) ∧ stampP (l.take j') = t ∧ t + 1 = ep ∧ t < 4294967296 ∧ Blk V w.heap.size 31 #[.slice A n1 c, .slice B n2 k, .int .i64 left, .bool false] ∧ Blk V (w.heap.size + 1) 39 #[.int .i64 0, .int .i64 0, .int .u64 0, .slice none 0 0, .int .i64 0, .int .i64 0, .int .i64 0, .int .i64 0] ∧ Blk V g8 39 #[.int .i64 (a : Int), .int .i64 (n : Int), .int .u64 (ep : Int), .slice none 0 0, .int .i64 0, .int .i64 0, .int .i64 0, .int .i64 0] ∧ Mods Nil w V) := Lib.hid (fun V t2 hm ht2 hb => ⟨j + 1, c5, A5, t2, t2 + 1, by omega, by go_num, rfl, own_mods HO5.out hm (fun i hi h => own_blk_ne HO5.out G8.out (by decide) (by rw [← h]; exact hi)), ht2.symm, rfl, by rw [ht2, HST.out]; omega, G1.out.mods hm (by omega), G2.out.mods hm (by omega), hb, M4.out.nil_trans hm (fun i hi => by omega)⟩)
      have y2 : ∀ V, Mods Nil w4 V → V.cell? ⟨g8, 2, none⟩ = some (.int .u64 (ep : Int)) := fun V hV => (G8.out.mods hV (fun h => h)).eight.1.2.2.1
      have HN0 := Lib.hid (gq_of (W := w4) (fun V => HNUM0.out V))
      clear HO HDB HRB HB8 O3 M3 HRDJ HMO O4 HTK
      refine gq_region (by kernel_rfl) (by kernel_rfl) ?_
      try simp only [Act.put, List.setIfInBounds_toArray, List.set_cons_zero, List.set_cons_succ]
      repeat (first
        | go_big_quiet_skip
        | (go_big_quiet_want; first
            | (refine gq_call HN0.out ?_ ?_; (focus (intro V; go_simp; done)); go_big_quiet_on)
            | (refine gq_op (v := ?_) ?_ ?_; rotate_left; (focus (intro V hV; go_simp; try with_reducible rfl)); go_big_quiet_on))
          simp only [Act.put, List.setIfInBounds_toArray, List.set_cons_zero, List.set_cons_succ])
      refine wpQuiet_nil ?_
      intro V5 hV5
      have K5 := Lib.hid (G8.out.mods hV5 (fun h => h))
      have MM5 := Lib.hid (hV5.mono (T := fun i => i = g8) (fun _ _ h => h.elim))
      clear y2 hV5 HN0
      by_cases hu2 : ep ≤ u
      · have hu2I : (ep : Int) ≤ (u : Int) := by omega
        obtain ⟨⟨s0, s1, s2, s3, s4, s5, s6, s7⟩, f0, f1, f2, f3, f4, f5, f6, f7⟩ := K5.out.eight
        go_wp2_with (go_at_call 68; refine (HNUM0.out _).mono ?_; rintro e w5 ⟨rfl, m5⟩; have K5b := Lib.hid (K5.out.mods m5 (fun h => h)); have MM5b := Lib.hid (MM5.out.trans (m5.mono (fun _ _ h => h.elim))); clear m5 s0 s1 s2 s3 s4 s5 s6 s7 f0 f1 f2 f3 f4 f5 f6 f7; obtain ⟨⟨s0, s1, s2, s3, s4, s5, s6, s7⟩, f0, f1, f2, f3, f4, f5, f6, f7⟩ := K5b.out.eight)
        have K9 : Hid (Blk _ g8 39 #[.int .i64 (a : Int), .int .i64 (n : Int), .int .u64 (u1 : Int), .slice none 0 0, .int .i64 0, .int .i64 0, .int .i64 0, .int .i64 0]) := Lib.hid (K5b.out.set_ 2 (.int .u64 (u1 : Int)))
        have MM9 := Lib.hid (MM5b.out.trans (set_mods w5 g8 2 (.int .u64 (u1 : Int))))
        generalize w5.setCell ⟨g8, 2, none⟩ (.int .u64 (u1 : Int)) = w9 at K9 MM9 ⊢
        clear s0 s1 s2 s3 s4 s5 s6 s7 f0 f1 f2 f3 f4 f5 f6 f7 K5 MM5 K5b MM5b
        obtain ⟨e2, he2⟩ : ∃ e2, u1 = e2 := ⟨_, rfl⟩
        have HE2 := Lib.hid (show u + 1 = e2 by rw [HU1.out, he2])
        rw [he2] at K9 ⊢
        clear he2
        have y2 : ∀ V, Mods Nil w9 V → V.cell? ⟨g8, 2, none⟩ = some (.int .u64 (e2 : Int)) := fun V hV => (K9.out.mods hV (fun h => h)).eight.1.2.2.1
        have HN6 := Lib.hid (gq_of (W := w9) (fun V => HNUM6.out V))
        refine gq_region (by kernel_rfl) (by kernel_rfl) ?_
        try simp only [Act.put, List.setIfInBounds_toArray, List.set_cons_zero, List.set_cons_succ]
        repeat (first
          | go_big_quiet_skip
          | (go_big_quiet_want; first
                | (refine gq_call HN6.out ?_ ?_; (focus (intro V; go_simp; done)); go_big_quiet_on)
                | (refine gq_op (v := ?_) ?_ ?_; rotate_left; (focus (intro V hV; go_simp; try with_reducible rfl)); go_big_quiet_on))
            simp only [Act.put, List.setIfInBounds_toArray, List.set_cons_zero, List.set_cons_succ])
        refine wpQuiet_nil ?_
        intro V6 hV6
        have K6 := Lib.hid (K9.out.mods hV6 (fun h => h))
        have MM6 := Lib.hid ((MM9.out).trans (hV6.mono (fun _ _ h => h.elim)))
        clear y2 hV6
        by_cases hv2 : e2 ≤ v
        · have hv2I : (e2 : Int) ≤ (v : Int) := by omega
          obtain ⟨⟨s0, s1, s2, s3, s4, s5, s6, s7⟩, f0, f1, f2, f3, f4, f5, f6, f7⟩ := K6.out.eight
          go_wp2_with (go_at_call 68; refine (HNUM6.out _).mono ?_; rintro e w7 ⟨rfl, m7⟩; have K7 := Lib.hid (K6.out.mods m7 (fun h => h)); have MM7 := Lib.hid (MM6.out.trans (m7.mono (fun _ _ h => h.elim))); clear m7 s0 s1 s2 s3 s4 s5 s6 s7 f0 f1 f2 f3 f4 f5 f6 f7; obtain ⟨⟨s0, s1, s2, s3, s4, s5, s6, s7⟩, f0, f1, f2, f3, f4, f5, f6, f7⟩ := K7.out.eight)
          exact ⟨HNEXT.out _ v (MM7.out.trans (set_mods _ g8 2 _)) (by have := HST.out; have := HE2.out; have := HEP.out; omega) (by rw [HV1.out]; exact K7.out.set_ 2 (.int .u64 (v1 : Int))), by simp [intOf]; omega⟩
        · have hv2I : decide ((e2 : Int) ≤ (v : Int)) = false := by simp; omega
          go_wp2_with fail
          exact ⟨HNEXT.out _ u MM6.out (by have := HST.out; have := HE2.out; have := HEP.out; omega) (by rw [show u + 1 = e2 from HE2.out]; exact K6.out), by simp [intOf]; omega⟩
      · have hu2I : decide ((ep : Int) ≤ (u : Int)) = false := by simp; omega
        go_wp2_with fail
        obtain ⟨e2, he2⟩ : ∃ e2, ep = e2 := ⟨_, rfl⟩
        have HE2 := Lib.hid (show t + 1 = e2 by rw [HEP.out, he2])
        rw [he2] at K5 ⊢
        clear he2
        have y2 : ∀ V, Mods Nil V5 V → V.cell? ⟨g8, 2, none⟩ = some (.int .u64 (e2 : Int)) := fun V hV => (K5.out.mods hV (fun h => h)).eight.1.2.2.1
        have HN6 := Lib.hid (gq_of (W := V5) (fun V => HNUM6.out V))
        refine gq_region (by kernel_rfl) (by kernel_rfl) ?_
        try simp only [Act.put, List.setIfInBounds_toArray, List.set_cons_zero, List.set_cons_succ]
        repeat (first
          | go_big_quiet_skip
          | (go_big_quiet_want; first
                | (refine gq_call HN6.out ?_ ?_; (focus (intro V; go_simp; done)); go_big_quiet_on)
                | (refine gq_op (v := ?_) ?_ ?_; rotate_left; (focus (intro V hV; go_simp; try with_reducible rfl)); go_big_quiet_on))
            simp only [Act.put, List.setIfInBounds_toArray, List.set_cons_zero, List.set_cons_succ])
        refine wpQuiet_nil ?_
        intro V6 hV6
        have K6 := Lib.hid (K5.out.mods hV6 (fun h => h))
        have MM6 := Lib.hid ((MM5.out).trans (hV6.mono (fun _ _ h => h.elim)))
        clear y2 hV6
        by_cases hv2 : e2 ≤ v
        · have hv2I : (e2 : Int) ≤ (v : Int) := by omega
          obtain ⟨⟨s0, s1, s2, s3, s4, s5, s6, s7⟩, f0, f1, f2, f3, f4, f5, f6, f7⟩ := K6.out.eight
          go_wp2_with (go_at_call 68; refine (HNUM6.out _).mono ?_; rintro e w7 ⟨rfl, m7⟩; have K7 := Lib.hid (K6.out.mods m7 (fun h => h)); have MM7 := Lib.hid (MM6.out.trans (m7.mono (fun _ _ h => h.elim))); clear m7 s0 s1 s2 s3 s4 s5 s6 s7 f0 f1 f2 f3 f4 f5 f6 f7; obtain ⟨⟨s0, s1, s2, s3, s4, s5, s6, s7⟩, f0, f1, f2, f3, f4, f5, f6, f7⟩ := K7.out.eight)
          exact ⟨HNEXT.out _ v (MM7.out.trans (set_mods _ g8 2 _)) (by have := HST.out; have := HE2.out; have := HEP.out; omega) (by rw [HV1.out]; exact K7.out.set_ 2 (.int .u64 (v1 : Int))), by simp [intOf]; omega⟩
        · have hv2I : decide ((e2 : Int) ≤ (v : Int)) = false := by simp; omega
          go_wp2_with fail
          exact ⟨HNEXT.out _ t MM6.out (by have := HST.out; have := HE2.out; have := HEP.out; omega) (by rw [show t + 1 = e2 from HE2.out]; exact K6.out), by simp [intOf]; omega⟩
    · obtain rfl : n = j := by omega
      have hfull : l.take n = l := List.take_of_length_le (by rw [HSL.out]; exact Nat.le_refl _)
      rw [hfull] at HO HT
      clear hfull
      obtain ⟨w9, hw9⟩ : ∃ w9, wr = w9 := ⟨_, rfl⟩
      rw [hw9] at HO HDB HRB HB8 HMO ⊢
      clear hw9 HRD
      have SLL := Lib.hid (own_sl7 HO.out)
      have LTY := Lib.hid (own_ty6 HO.out)
      obtain ⟨⟨s0, s1, s2, s3, s4, s5, s6, s7⟩, -⟩ := HB8.out.eight
      by_cases hworn : t = 4294967295
      · have hwI : decide ((4294967295 : Int) < (ep : Int)) = true := by simp; have := HEP.out; omega
        have HW9 := Lib.hid hworn
        clear hworn
        go_wp2_with (refine wpList_store_mk rfl 39 (.tmp 6) (.tmp 86) rfl rfl (w.heap.size + 1) rfl 39 #[.int .i64 0, .int .i64 0, .int .u64 0, .slice none 0 0, .int .i64 0, .int .i64 0, .int .i64 0, .int .i64 0] #[.int .i64 0, .int .i64 0, .int .u64 0, .slice none 0 0, .int .i64 0, .int .i64 0, .int .i64 0, .int .i64 0] rfl HRB.out rfl (by simp [Value.oneCell']) rs_info (by simp [Value.cells]) ?_; intro w4 b4 m4; have M4 := Lib.hid (HMO.out.nil_trans m4 (fun i hi => by omega)); obtain ⟨⟨z0, z1, z2, z3, z4, z5, z6, z7⟩, -⟩ := b4.eight; clear b4 m4 s0 s1 s2 s3 s4 s5 s6 s7)
        exact bodyPost_ret (v := .tuple #[.agg #[.int .i64 0, .int .i64 0, .int .u64 0, .slice none 0 0, .int .i64 0, .int .i64 0, .int .i64 0, .int .i64 0], .int .i64 37]) (by simp [results, Try.results16, go_sem, z0, z1, z2, z3, z4, z5, z6, z7]) rfl ⟨fun h => (by have := HT.out; have := HW9.out; omega), fun _ => rfl, M4.out⟩
      · have hwI : decide ((4294967295 : Int) < (ep : Int)) = false := by simp; have := HEP.out; omega
        have htlt := Lib.hid (show t < 4294967295 by omega)
        clear hworn
        go_wp2_with fail
        clear s0 s1 s2 s3 s4 s5 s6 s7
        go_loopw [13] (fun ev wr2 => ∃ (f p k x c4 : Nat) (A4 : Option Addr) (M : List (List UInt8)), ev = .int .u64 (x : Int) ∧ x < 4294967296 ∧ f + k = n + 1 ∧ k ≤ p ∧ p ≤ n ∧ walkP l (n + 1) 0 0 0 = (M ++ (walkP l f p k x).1, (walkP l f p k x).2) ∧ M.length = k ∧ wr2.ownsRow w9.heap.size 9 1 (.slice A4 k c4) k (strs M) ∧ Blk wr2 g8 39 #[.int .i64 (a : Int), .int .i64 (n : Int), .int .u64 (ep : Int), .slice A4 k c4, .int .i64 (p : Int), .int .i64 0, .int .i64 0, .int .i64 0] ∧ Mods (fun i => i = g8) w9 wr2) (fun _ wr2 => n - usedAtO g8 wr2)
        case atStart => exact ⟨n + 1, 0, 0, 0, 0, none, [], rfl, by omega, rfl, Nat.le_refl _, Nat.zero_le _, rfl, rfl, World.ownsRow_nil _ _ _ _, HB8.out, Mods.refl _ _⟩
        case round =>
          obtain ⟨f, p, k, x, c4, A4, M, rfl, hx, hf, hkp, hpj, hwalk, hM, ho, hb8, hm⟩ := hrel
          have HF := Lib.hid hf
          have HWALK := Lib.hid hwalk
          have HML := Lib.hid hM
          have HO4 := Lib.hid ho
          have HB4 := Lib.hid hb8
          have HM4 := Lib.hid hm
          have hg89 : g8 < w9.heap.size := HB8.out.lt
          have HRB4 := Lib.hid (HRB.out.mods hm (show ¬ w.heap.size + 1 = g8 by omega))
          have HSL4 := Lib.hid (SLL.out.mods hm (LTY.out.of_ne HB8.out (by decide)))
          have HTAKE := Lib.hid (rtake_any wr HSL4.out HSL.out H64.out (by omega) (p := p) (pl := k) (e := x) (by omega) (by omega) hx)
          obtain ⟨⟨s0, s1, s2, s3, s4, s5, s6, s7⟩, f0, f1, f2, f3, f4, f5, f6, f7⟩ := hb8.eight
          clear hf hwalk hM ho hb8 hm
          cases htk : takeP l p k x with
          | none =>
            rw [htk] at HTAKE
            have HEND : Hid (walkP l (n + 1) 0 0 0 = (M, p)) := Lib.hid (by rw [HWALK.out, walkP_none htk, List.append_nil])
            have HFIN : Hid (rsV A4 c4 (segOpen l a) = .agg #[.int .i64 (a : Int), .int .i64 (n : Int), .int .u64 (ep : Int), .slice A4 k c4, .int .i64 (p : Int), .int .i64 (k : Int), .int .i64 0, .int .i64 0]) := Lib.hid (by
              unfold rsV segOpen
              dsimp only
              rw [HSL.out, HEND.out, HT.out, HEP.out]
              dsimp only
              rw [HML.out]
              rfl)
            have HLL : Hid ((segOpen l a).L = M) := Lib.hid (by unfold segOpen; dsimp only; rw [HSL.out, HEND.out])
            unfold takeV at HTAKE
            clear htk HWALK
            go_wp2_with (first
              | (go_at_call 69; refine (HTAKE.out).mono ?_; rintro e w5 ⟨rfl, m5⟩; have M5 := Lib.hid m5; have B5 := Lib.hid (HB4.out.mods m5 (fun h => h)); have R5 := Lib.hid (HRB4.out.mods m5 (fun h => h)); clear m5 s0 s1 s2 s3 s4 s5 s6 s7 f0 f1 f2 f3 f4 f5 f6 f7; obtain ⟨⟨s0, s1, s2, s3, s4, s5, s6, s7⟩, f0, f1, f2, f3, f4, f5, f6, f7⟩ := B5.out.eight)
              | (refine wpList_store_mk rfl 39 (.tmp 6) (.tmp 105) rfl rfl (w.heap.size + 1) rfl 39 #[.int .i64 0, .int .i64 0, .int .u64 0, .slice none 0 0, .int .i64 0, .int .i64 0, .int .i64 0, .int .i64 0] #[.int .i64 (a : Int), .int .i64 (n : Int), .int .u64 (ep : Int), .slice A4 k c4, .int .i64 (p : Int), .int .i64 (k : Int), .int .i64 0, .int .i64 0] rfl (R5.out.setOther (show w.heap.size + 1 ≠ g8 by omega) 5 (.int .i64 (k : Int))) rfl (by simp [Value.oneCell']) rs_info (by simp [Value.cells]) ?_; intro w6 b6 m6; have M6 := Lib.hid m6; obtain ⟨⟨z0, z1, z2, z3, z4, z5, z6, z7⟩, -⟩ := b6.eight; clear b6 m6))
            have HMM : Hid (Mods (fun i => i = w.heap.size + 1 ∨ i = g8) wr w6) := Lib.hid (((M5.out.mono (fun _ _ h => h.elim)).trans (S := fun i => i = w.heap.size + 1 ∨ i = g8) ((set_mods w5 g8 5 (.int .i64 (k : Int))).mono (fun _ _ h => .inr h))).trans (M6.out.mono (fun _ _ h => .inl h)))
            have HRSA : Hid (RsAt w6 A4 c4 (segOpen l a)) := Lib.hid (by
              have hne : ∀ i, (Value.slice A4 k c4).ownBlock = some i → ¬ (i = w.heap.size + 1 ∨ i = g8) := fun i hi h => by
                rcases h with h | h
                · exact own_blk_ne HO4.out HRB4.out (by decide) (by rw [← h]; exact hi)
                · exact own_blk_ne HO4.out HB4.out (by decide) (by rw [← h]; exact hi)
              have o6 := own_mods HO4.out HMM.out hne
              exact ⟨by rw [HLL.out]; exact own_sl7 o6, own_ty6 o6⟩)
            refine bodyPost_ret (v := .tuple #[.agg #[.int .i64 (a : Int), .int .i64 (n : Int), .int .u64 (ep : Int), .slice A4 k c4, .int .i64 (p : Int), .int .i64 (k : Int), .int .i64 0, .int .i64 0], .int .i64 0]) (by simp [results, Try.results16, go_sem, z0, z1, z2, z3, z4, z5, z6, z7]) rfl ⟨fun _ => ⟨A4, c4, by rw [HFIN.out], HRSA.out⟩, fun h => (by have := HT.out; have := htlt.out; omega), ?_⟩
            exact (HMO.out.nil_trans HM4.out (fun i hi => by omega)).nil_trans HMM.out (fun i hi => by omega)
          | some r =>
            obtain ⟨b, m, x2⟩ := r
            rw [htk] at HTAKE
            obtain ⟨hm1, hpm, hx2⟩ := takeP_some htk
            rw [HSL.out] at hpm
            have HNX : Hid (∃ f', f = f' + 1 ∧ walkP l (n + 1) 0 0 0 = ((M ++ [b]) ++ (walkP l f' (p + m) (k + 1) x2).1, (walkP l f' (p + m) (k + 1) x2).2)) := Lib.hid (by
              obtain ⟨f', hf'⟩ : ∃ f', f = f' + 1 := ⟨f - 1, by have := HF.out; omega⟩
              refine ⟨f', hf', ?_⟩
              rw [HWALK.out, hf', walkP_succ, htk]
              simp)
            have hmB : ((m : Int) == 0) = false := by rw [beq_eq_false_iff_ne]; omega
            obtain ⟨p2, hp2⟩ : ∃ p2, p + m = p2 := ⟨_, rfl⟩
            have hwp : IntKind.i64.wrap ((p : Int) + (m : Int)) = (p2 : Int) := by rw [IntKind.wrap_i64]; omega
            have HP2 := Lib.hid hp2
            unfold takeV at HTAKE
            have hk9 : k ≤ 65536 := by omega
            have hjp : n - p2 < n - p := by omega
            have HJP := Lib.hid hjp
            clear htk HWALK hp2 hjp
            go_wp2_with (first
              | (go_at_call 69; refine (HTAKE.out).mono ?_; rintro e w5 ⟨rfl, m5⟩; have M5 := Lib.hid m5; have B5 := Lib.hid (HB4.out.mods m5 (fun h => h)); have O5 := Lib.hid (own_mods HO4.out m5 (fun _ _ h => h)); clear m5 s0 s1 s2 s3 s4 s5 s6 s7 f0 f1 f2 f3 f4 f5 f6 f7; obtain ⟨⟨s0, s1, s2, s3, s4, s5, s6, s7⟩, f0, f1, f2, f3, f4, f5, f6, f7⟩ := B5.out.eight)
              | (at_builtin; refine wpList_append_sl _ rfl _ _ 28 rfl w9.heap.size 9 i0 (.string ⟨#[]⟩) 16 Try.underlying28 hi0 hz0 hz1 hz2 rfl _ k _ rfl (O5.out.alloc _) (some ⟨w5.heap.size, 0, none⟩) 1 1 [.string (strOf b)] rfl rfl (build_at (n := 1) (by simp) rfl rfl (by decide)) (by simp [Value.oneCell']) (by omega) (by unfold maxLen; omega) (Nat.le_trans HM4.out.size (M5.out.alloc _).size) ?_; intro v' w6 hown hgrow hmv; obtain ⟨A6, c6, rfl, e6, t6, b6⟩ := own_slice hown; rw [show [Value.string (strOf b)] = strs [b] from rfl, ← strs_append] at hown; have O6 := Lib.hid hown; have hgr := (Mods.refl (fun q => (Value.slice A4 k c4).ownBlock = some q) (w5.alloc (.cells #[.string (strOf b)] 9))).grown hgrow (fun q hq _ => hq); have B6 := Lib.hid ((B5.out.alloc (.cells #[.string (strOf b)] 9)).mods hgr (own_blk_ne (O5.out.alloc _) (B5.out.alloc (.cells #[.string (strOf b)] 9)) (by decide))); have M6 := Lib.hid (show Mods (fun i => i = g8) w9 w6 from (HM4.out.trans ((M5.out.alloc _).mono (fun _ _ h => h.elim))).trans2 hgr (fun i hi hs => by have := (O5.out.lt i hs).1; omega)); clear hown hgrow hmv hgr e6 t6 b6 s0 s1 s2 s3 s4 s5 s6 s7 f0 f1 f2 f3 f4 f5 f6 f7; obtain ⟨⟨s0, s1, s2, s3, s4, s5, s6, s7⟩, f0, f1, f2, f3, f4, f5, f6, f7⟩ := B6.out.eight))
            have K6 : Hid (Blk _ g8 39 #[.int .i64 (a : Int), .int .i64 (n : Int), .int .u64 (ep : Int), .slice A6 (k + 1) c6, .int .i64 (p2 : Int), .int .i64 0, .int .i64 0, .int .i64 0]) := Lib.hid ((B6.out.set_ 3 (.slice A6 (k + 1) c6)).set_ 4 (.int .i64 (p2 : Int)))
            have MM6 := Lib.hid ((set_mods w6 g8 3 (.slice A6 (k + 1) c6)).trans (set_mods _ g8 4 (.int .i64 (p2 : Int))))
            have U6 := (K6.out.eight).1.2.2.2.2.1
            obtain ⟨f', hf', hwk⟩ := HNX.out
            refine ⟨⟨f', p2, k + 1, x2, c6, A6, M ++ [b], rfl, hx2, by have := HF.out; omega, by have := HP2.out; omega, by have := HP2.out; omega, by rw [← HP2.out]; exact hwk, by rw [List.length_append, HML.out]; rfl, own_mods O6.out MM6.out (fun i hi h => own_blk_ne O6.out B6.out (by decide) (by rw [← h]; exact hi)), K6.out, M6.out.trans MM6.out⟩, ?_⟩
            have U4 : usedAtO g8 wr = p := by unfold usedAtO; rw [HB4.out.eight.1.2.2.2.2.1]; simp
            have U5 : usedAtO g8 ((w6.setCell ⟨g8, 3, none⟩ (.slice A6 (k + 1) c6)).setCell ⟨g8, 4, none⟩ (.int .i64 (p2 : Int))) = p2 := by unfold usedAtO; rw [U6]; simp
            rw [U4, U5]
            exact HJP.out
end Go.Proofs.Ytdllgmhipenidaa
