/- Texts laid as one: Sgm7, Sgm8, Sgm9, Sgm10. -/
import Derived.Test.YtdllgmhipenidaaSgmB
import Derived.Test.YtdllgmhipenidaaSumsM
import Derived.Deep.RegionHeldLaw
import Derived.Test.YtdllgmhipenidaaClone

section
/- Package segment: lay, walked. -/
namespace Go.Proofs.Ytdllgmhipenidaa
set_option maxRecDepth 100000
open Go.RowKit
set_option linter.unusedVariables false

theorem infoSB4 {l : List UInt8} (h : l.length = 64) : (Try.prog.info? 124).map (·.size) = some (bts l).toArray.size := by simpa [h] using infoSB2
theorem bts_all (l : List UInt8) : (bts l).toArray.all (·.oneCell') = true := all_oneCell_toArray (bts_one l)
set_option maxHeartbeats 6400000 in
theorem slay_in {w : World} {base db sb mb : Nat} {s : PSeg} (h : SegIn w base sb db mb s) {A : Option Addr} {c n : Nat} {r : List UInt8} (hs : Sl w A c (bts r)) (hn : r.length = n) (hn4 : n ≤ 4096) {k pl : Nat} (hk : k < needP n) (hpl : pl ≤ 1000000) :
    Calls Try.prog 70 #[.pointer (some ⟨sb, 0, none⟩), .int .i64 (pl : Int), .int .i64 (k : Int), .slice A n c] w fun e w' => e = .returned (.agg (bts (blockP s.epoch pl k (needP n) (partP r k))).toArray) ∧ Mods Nil w w' := by
  obtain ⟨q, hq⟩ : ∃ q, (partP r k).length = q := ⟨_, rfl⟩
  have hql := partP_length r k
  rw [hq, hn] at hql
  have hq45 : q ≤ 45 := by omega
  have h92 := needP_le hn4
  have hkn : 45 * k ≤ n := by
    rcases Nat.eq_zero_or_pos k with rfl | h0
    · omega
    · have := needP_some n k hk h0; omega
  obtain ⟨A1, c1, S1, hs1⟩ := cut_run (lo := 45 * k) (hi := 45 * k + q) hs hn (by omega) (by omega)
  rw [show 45 * k + q - 45 * k = q by omega] at S1 hs1
  have hpart : (r.drop (45 * k)).take q = partP r k := by
    unfold partP
    rw [hql]
    rcases Nat.le_total 45 (n - 45 * k) with h | h
    · rw [Nat.min_eq_left h]
    · rw [Nat.min_eq_right h, List.take_of_length_le (by simp [hn]), List.take_of_length_le (by simp [hn]; omega)]
  rw [hpart] at hs1
  have HS1 := Lib.hid hs1
  obtain ⟨lo, hlo⟩ : ∃ lo, 45 * k = lo := ⟨_, rfl⟩
  obtain ⟨hi, hhi⟩ : ∃ hi, lo + q = hi := ⟨_, rfl⟩
  rw [hlo, hhi] at S1
  obtain ⟨h1, hh1⟩ : ∃ h1, lo + 45 = h1 := ⟨_, rfl⟩
  have wlo : IntKind.i64.wrap ((k : Int) * 45) = (lo : Int) := by rw [IntKind.wrap_i64]; omega
  have wk1 : IntKind.i64.wrap ((k : Int) + 1) = (k : Int) + 1 := by rw [IntKind.wrap_i64]; omega
  have whi : IntKind.i64.wrap (((k : Int) + 1) * 45) = (h1 : Int) := by rw [IntKind.wrap_i64]; omega
  have hmin : ∀ (ts : Array TypeId) (t : TypeId) (W : World), (Builtin.min_ ts t #[.int .i64 (h1 : Int), .int .i64 (n : Int)]).run Try.prog W = .ok (.int .i64 (hi : Int)) W := fun ts t W => by
    rw [run_min_int2]
    congr 2
    split <;> omega
  have he := h.ok.epoch
  obtain ⟨p1, hp1⟩ : ∃ p, pl + 1 = p := ⟨_, rfl⟩
  have hp1I : (pl : Int) + 1 = (p1 : Int) := by omega
  have wp1 : IntKind.i64.wrap (p1 : Int) = (p1 : Int) := by rw [IntKind.wrap_i64]; omega
  have wp2 : IntKind.u32.wrap (p1 : Int) = (p1 : Int) := by rw [IntKind.wrap_u32]; omega
  have HP1 := Lib.hid (show p1 < 4294967296 by omega)
  obtain ⟨ku, hku⟩ : ∃ u, UInt8.ofNat k = u := ⟨_, rfl⟩
  obtain ⟨mu, hmu⟩ : ∃ u, UInt8.ofNat (needP n) = u := ⟨_, rfl⟩
  obtain ⟨qu, hqu⟩ : ∃ u, UInt8.ofNat q = u := ⟨_, rfl⟩
  have hwk : IntKind.u8.wrap (k : Int) = (ku.toNat : Int) := by rw [← hku, IntKind.wrap_u8']; simp
  have hwm : IntKind.u8.wrap ((needP n : Nat) : Int) = (mu.toNat : Int) := by rw [← hmu, IntKind.wrap_u8']; simp
  have hwq : IntKind.u8.wrap (q : Int) = (qu.toNat : Int) := by rw [← hqu, IntKind.wrap_u8']; simp
  have h4 : Hid (∀ V, Mods Nil w V → V.cell? ⟨sb, 4, none⟩ = some (.int .u32 (s.epoch : Int))) := Lib.hid (fun V hm => (h.nil hm).cells.2.2.2.2.1)
  have hL1 : (l1P s.epoch).length = 64 := by unfold l1P; rw [set4_length]; rfl
  have hL2 : (l2P s.epoch pl).length = 64 := by unfold l2P; rw [set4_length]; exact hL1
  have hP45 : (partP r k).length ≤ 45 := by omega
  have HL2' := Lib.hid hL2
  rw [show l2P s.epoch pl = set4 (l1P s.epoch) 4 p1 by unfold l2P; rw [hp1]] at hL2
  have HL1 := Lib.hid hL1
  have HL2 := Lib.hid hL2
  have HQ := Lib.hid hq
  have HEP := Lib.hid he
  have hl5 : ((((set4 (l1P s.epoch) 4 p1).set 8 ku).set 9 mu).set 10 qu) = l5P s.epoch pl k (needP n) q := by
    unfold l5P l2P
    rw [hp1, hku, hmu, hqu]
  have HN6 : Hid (((bts ((((set4 (l1P s.epoch) 4 p1).set 8 ku).set 9 mu).set 10 qu)).toArray.toList.take 11 ++ bts (partP r k) ++ (bts ((((set4 (l1P s.epoch) 4 p1).set 8 ku).set 9 mu).set 10 qu)).toArray.toList.drop (11 + q)).toArray = (bts (l6P s.epoch pl k (needP n) (partP r k))).toArray) := by
    show _ = _
    rw [hl5]
    congr 1
    unfold l6P
    rw [hq, bts_append, bts_append, bts_take, bts_drop]
  have HL5 : Hid ((bts ((((set4 (l1P s.epoch) 4 p1).set 8 ku).set 9 mu).set 10 qu)).toArray.size = 64) := by
    show _ = _
    rw [hl5]
    simp [l5P_length]
  have HP45 := Lib.hid hP45
  have HN4 := Lib.hid hn4
  clear h hs hn hn4 hk hql h92 hkn hs1 hpart he hL1 hL2 hP45 hq hlo hhi hp1 hh1 hku hmu hqu hl5
  go_enter Try.func70, Try.ntmps70
  go_wp2_with (first
    | (refine gw_alloc_sb rfl rfl ?_; intro W2 b9 m9 s9; have HB2 := Lib.hid b9; have M2 := Lib.hid (M1.out.trans m9); have G02 := Lib.hid (G01.out.mods m9 (fun h => h)); have c4 := h4.out _ M2.out; have hne : w.heap.size ≠ W1.heap.size := (by have := S1z.out; omega); have hnb : Hid (∀ i, i = W1.heap.size → w.heap.size ≤ i) := Lib.hid (fun i hi => by have := S1z.out; omega); clear b9 m9 s9)
    | (refine gw_alloc_sb rfl rfl ?_; intro W1 b8 m8 s8; have G01 := Lib.hid b8; have M1 := Lib.hid m8; have S1z := Lib.hid s8; clear b8 m8 s8)
    | (refine wpList_copy_mk rfl (.tmp 42) (.tmp 43) 42 42 rfl 5 Try.underlying42 infoU8s W1.heap.size 11 53 53 124 (bts ((((set4 (l1P s.epoch) 4 p1).set 8 ku).set 9 mu).set 10 qu)).toArray (bts (l6P s.epoch pl k (needP n) (partP r k))).toArray rfl B7.out A1 q c1 (bts (partP r k)) rfl (HS1.out.mods M7.out (fun _ _ h => h)) (by rw [bts_length]; exact HQ.out) (bts_one _) (by omega) (by rw [HL5.out]; omega) HN6.out ?_; intro W8 b9 m9; have B8 := Lib.hid b9; have M8 := Lib.hid (M7.out.nil_trans m9 hnb.out); have G8 := Lib.hid (G7.out.mods m9 hne); have c4W8 := h4.out _ M8.out; clear b9 m9)
    | (refine gw_store_u8 rfl 5 (.tmp 41) (.tmp 40) rfl rfl infoU8s W1.heap.size 10 rfl qu rfl 124 _ B6.out (by simp [set4_length, zeros64]) ?_; intro W7 b9 m9; have B7 := Lib.hid b9; have M7 := Lib.hid (M6.out.nil_trans m9 hnb.out); have G7 := Lib.hid (G6.out.mods m9 hne); have c4W7 := h4.out _ M7.out; clear b9 m9)
    | (refine gw_store_u8 rfl 5 (.tmp 37) (.tmp 36) rfl rfl infoU8s W1.heap.size 9 rfl mu rfl 124 _ B5.out (by simp [set4_length, zeros64]) ?_; intro W6 b9 m9; have B6 := Lib.hid b9; have M6 := Lib.hid (M5.out.nil_trans m9 hnb.out); have G6 := Lib.hid (G5.out.mods m9 hne); have c4W6 := h4.out _ M6.out; clear b9 m9)
    | (go_at_call 62; refine (sneed_any W5 n (by have := HN4.out; omega)).mono ?_; rintro e W5b ⟨rfl, rfl⟩)
    | (refine gw_store_u8 rfl 5 (.tmp 32) (.tmp 31) rfl rfl infoU8s W1.heap.size 8 rfl ku rfl 124 _ B4.out (by simp [set4_length, zeros64]) ?_; intro W5 b9 m9; have B5 := Lib.hid b9; have M5 := Lib.hid (M4.out.nil_trans m9 hnb.out); have G5 := Lib.hid (G4.out.mods m9 hne); have c4W5 := h4.out _ M5.out; clear b9 m9)
    | (go_at_call 119; refine (sput_any B3.out HL1.out (k := 4) (x := p1) (by omega) HP1.out).mono ?_; rintro e W4 ⟨rfl, b9, m9⟩; have B4 := Lib.hid b9; have M4 := Lib.hid (M3.out.nil_trans m9 hnb.out); have G4 := Lib.hid (G3.out.mods m9 hne); have c4W4 := h4.out _ M4.out; clear b9 m9)
    | (go_at_call 119; refine (sput_any HB2.out rfl (k := 0) (x := s.epoch) (by omega) HEP.out).mono ?_; rintro e W3 ⟨rfl, b9, m9⟩; have B3 := Lib.hid b9; have M3 := Lib.hid (M2.out.nil_trans m9 hnb.out); have G3 := Lib.hid (G02.out.mods m9 hne); have c4W3 := h4.out _ M3.out; clear b9 m9))
  have SL8 := Lib.hid (show Sl W8.drew (some ⟨W1.heap.size, 0, none⟩) 64 (bts (bodyP s.epoch pl k (needP n) (partP r k))) from by
    have := blk_sl B8.out.drew (l6P_length HP45.out) 56
    rw [l6P_take HP45.out] at this
    exact this)
  have HBL := Lib.hid (bodyP_length (e := s.epoch) (pl := pl) (k := k) (m := needP n) HP45.out)
  have HSL : Hid ((bts (sealedOf (bodyP s.epoch pl k (needP n) (partP r k)))).length = 60) := by
    show _ = _
    rw [bts_length, sealedOf_length, HBL.out]
  have HN9 : Hid (((bts (l6P s.epoch pl k (needP n) (partP r k))).toArray.toList.take 0 ++ bts (sealedOf (bodyP s.epoch pl k (needP n) (partP r k))) ++ (bts (l6P s.epoch pl k (needP n) (partP r k))).toArray.toList.drop (0 + 60)).toArray = (bts (sealedOf (bodyP s.epoch pl k (needP n) (partP r k)) ++ (l6P s.epoch pl k (needP n) (partP r k)).drop 60)).toArray) := by
    show _ = _
    congr 1
    rw [bts_append, ← bts_drop]
    simp
  have HF64 : Hid ((sealedOf (bodyP s.epoch pl k (needP n) (partP r k)) ++ (l6P s.epoch pl k (needP n) (partP r k)).drop 60).length = 64) := by
    show _ = _
    rw [List.length_append, sealedOf_length, HBL.out, List.length_drop, l6P_length HP45.out]
  have HS64 : Hid ((bts (l6P s.epoch pl k (needP n) (partP r k))).toArray.size = 64) := by
    show _ = _
    simp [l6P_length HP45.out]
  go_region_held_law (fun _ => True) (trivial) (first
    | (rw [if_pos (by rfl)]; refine wp_copy_mk (.tmp 45) (.tmp 47) 42 42 rfl 5 Try.underlying42 infoU8s W1.heap.size 0 64 64 124 (bts (l6P s.epoch pl k (needP n) (partP r k))).toArray (bts (sealedOf (bodyP s.epoch pl k (needP n) (partP r k)) ++ (l6P s.epoch pl k (needP n) (partP r k)).drop 60)).toArray rfl B9.out A9 60 c9 (bts (sealedOf (bodyP s.epoch pl k (needP n) (partP r k)))) rfl S9.out HSL.out (bts_one _) (by omega) (by rw [HS64.out]; omega) HN9.out ?_; intro W10 b9 m9; have B10 := Lib.hid b9; have M10 := Lib.hid (M9.out.nil_trans m9 hnb.out); have G10 := Lib.hid (G9.out.mods m9 hne); have c4W10 := h4.out _ M10.out; clear b9 m9)
    | (go_at_call 120; refine (sealed_to (n := 56) (m := 60) HBL.out rfl (by omega) SL8.out).mono ?_; rintro e W9 ⟨A9, c9, rfl, s9, x1, x2, x3, m9⟩; have S9 := Lib.hid s9; have B9 := Lib.hid (B8.out.mods m9.of_drew (fun h => h)); have M9 := Lib.hid (M8.out.trans m9.of_drew); have G9 := Lib.hid (G8.out.mods m9.of_drew (fun h => h)); clear s9 x1 x2 x3 m9))
  all_goals
    go_wp2_with (first
      | (go_at_call 119; refine (sput_any B10.out HF64.out (k := 60) (x := s.epoch) (by omega) HEP.out).mono ?_; rintro e W11 ⟨rfl, b9, m9⟩; have B11 := Lib.hid b9; have M11 := Lib.hid (M10.out.nil_trans m9 hnb.out); have G11 := Lib.hid (G10.out.mods m9 hne); clear b9 m9)
      | (refine gw_load_mid (by rfl) 124 _ rfl W1.heap.size 0 rfl (bts (set4 (sealedOf (bodyP s.epoch pl k (needP n) (partP r k)) ++ (l6P s.epoch pl k (needP n) (partP r k)).drop 60) 60 s.epoch)) _ (blk_range B11.out) Try.underlying124 rfl (infoSB3 (by rw [set4_length]; exact HF64.out)) ?_)
      | (refine wpList_store_mk rfl 124 (.tmp 8) (.tmp 54) rfl rfl w.heap.size rfl 124 (bts zeros64).toArray (bts (set4 (sealedOf (bodyP s.epoch pl k (needP n) (partP r k)) ++ (l6P s.epoch pl k (needP n) (partP r k)).drop 60) 60 s.epoch)).toArray rfl G11.out (by simp [set4_length, HF64.out, zeros64]) (bts_all _) (infoSB4 (by rw [set4_length]; exact HF64.out)) rfl ?_; intro W12 b9 m9; have G12 := Lib.hid b9; have M12 := Lib.hid (M11.out.nil_trans m9 (fun i hi => by omega)); clear b9 m9))
    refine bodyPost_ret (results_cell_row rfl _ _ w.heap.size 124 (bts (set4 (sealedOf (bodyP s.epoch pl k (needP n) (partP r k)) ++ (l6P s.epoch pl k (needP n) (partP r k)).drop 60) 60 s.epoch)).toArray (0, 0) _ rfl G12.out Try.underlying124 rfl (infoSB4 (by rw [set4_length]; exact HF64.out))) rfl ?_
    refine ⟨?_, M12.out⟩
    rw [l7P_eq HP45.out]
end Go.Proofs.Ytdllgmhipenidaa
end

section
/- Package segment: Append. -/
namespace Go.Proofs.Ytdllgmhipenidaa
set_option maxRecDepth 100000
open Go.RowKit
set_option linter.unusedVariables false

/-- A block of bytes, marked or not. -/
def U8 (w : World) (g : Nat) : Prop := ∃ cs fr, w.heap[g]? = some (.cells cs 5 fr)
theorem U8.blk {w : World} {g : Nat} {cs : Array Value} (h : Blk w g 5 cs) : U8 w g := ⟨cs, (0, 0), h⟩
theorem U8.mods {S : Nat → Prop} {w w' : World} {g : Nat} (h : U8 w g) (hm : Mods S w w') (hS : ¬ S g) : U8 w' g := by
  obtain ⟨cs, fr, h⟩ := h
  exact ⟨cs, fr, (hm.block g (lt_of_block h) hS).trans h⟩
theorem u8_typ {w : World} {g : Nat} {t : TypeId} {cs : Array Value} (h : U8 w g) (h2 : Blk w g t cs) : 5 = t := by
  obtain ⟨cs1, fr, h⟩ := h
  have e := Eq.trans (Eq.symm h) h2
  injection e with e
  injection e
theorem u8_map {w : World} {g : Nat} {es : Array MapEntry} {c : Nat} (h : U8 w g) (h2 : w.heap[g]? = some (.map es c)) : False := by
  obtain ⟨cs1, fr, h⟩ := h
  have e := Eq.trans (Eq.symm h) h2
  injection e with e
  cases e
theorem sm_U8 {base : Nat} {w : World} (k : Nat) (hs : SS base w k) : ¬ U8 w k := fun h => by
  obtain ⟨_, hs⟩ := hs
  rcases hs with ⟨t, cs2, h2, h3⟩ | ⟨es, c, h2⟩
  · obtain rfl := u8_typ h h2
    rcases h3 with h3 | h3 | h3 | h3 <;> exact absurd h3 (by decide)
  · exact u8_map h h2
/-- Bytes that no call on the segment changes. -/
def Sb (base : Nat) (w : World) (A : Option Addr) (c : Nat) (xs : List UInt8) : Prop := Sl w A c (bts xs) ∧ (xs ≠ [] → ∀ a, A = some a → a.block < base ∨ U8 w a.block)
section
variable {w w' : World} {base db sb mb : Nat} {A : Option Addr} {c : Nat} {xs : List UInt8}
theorem Sb.off {S : Nat → Prop} (h : Sb base w A c xs) (hm : Mods S w w') (h1 : ∀ k, S k → base ≤ k) (h2 : ∀ k, S k → ¬ U8 w k) : Sb base w' A c xs := by
  have key : xs ≠ [] → ∀ a, A = some a → ¬ S a.block := fun hx a ha hs => by
    rcases h.2 hx a ha with h3 | h3
    · have := h1 _ hs; omega
    · exact h2 _ hs h3
  refine ⟨h.1.mods' hm (fun hx => key (bts_ne6.1 hx)), fun hx a ha => ?_⟩
  rcases h.2 hx a ha with h3 | h3
  · exact .inl h3
  · exact .inr (h3.mods hm (key hx a ha))
theorem Sb.sm (h : Sb base w A c xs) (hm : SM base w w') : Sb base w' A c xs := h.off hm (fun _ h => h.1) sm_U8
theorem Sb.nil (h : Sb base w A c xs) (hm : Mods Nil w w') : Sb base w' A c xs := h.off hm (fun _ h => h.elim) (fun _ h => h.elim)
theorem Sb.arg (h : Sl w A c (bts xs)) (hb : w.heap.size ≤ base) : Sb base w A c xs := ⟨h, fun hx a ha => .inl (Nat.lt_of_lt_of_le (h.old (bts_ne6.2 hx) a ha) hb)⟩
theorem Rb.toSb (h : Rb w A c xs) : Sb base w A c xs := ⟨h.1, fun hx a ha => by
  obtain ⟨cs, hb⟩ := h.2 hx a ha
  exact .inr (U8.blk hb)⟩
theorem clone_rb {n : Nat} (hn : xs.length = n) (hlim : n ≤ 140737488355328) (hs : Sl w A c (bts xs)) : Calls Try.prog 72 #[.slice A n c] w fun e w' => ∃ A' c', e = .returned (.slice A' n c') ∧ Rb w' A' c' xs ∧ Mods Nil w w' :=
  (clone_any hn hlim hs).mono fun e w' ⟨A', c', h1, h2, h3, h4⟩ => ⟨A', c', h1, ⟨h2, fun hx a ha => (h4 (bts_ne6.2 hx) a ha).2⟩, h3⟩
theorem PD.write_err (d : PD) (i : Int) (b : List UInt8) : -1000 ≤ (d.write i b).2 ∧ (d.write i b).2 ≤ 1000 := by
  have h1 : -1000 ≤ d.at_ i ∧ d.at_ i ≤ 1000 := by unfold PD.at_; split; exact ⟨by omega, by omega⟩; split <;> exact ⟨by omega, by omega⟩
  have h2 : -1000 ≤ d.count.2 ∧ d.count.2 ≤ 1000 := by unfold PD.count; split <;> simp
  unfold PD.write
  split
  · exact h1
  · split
    · simp
    · split
      · exact h2
      · simp
theorem PD.write_W (d : PD) (i : Int) (b : List UInt8) : (d.write i b).1.W.length ≤ d.W.length + 1 := by
  have h2 := d.count_L
  unfold PD.write
  split
  · simp
  · split
    · simp
    · split
      · rw [h2.2]; omega
      · simp
theorem recP_cons (e pl : Nat) (s : List UInt8) (i : Nat) (h : i < needP s.length) : (recP e pl s).drop i = blockP e pl i (needP s.length) (partP s i) :: (recP e pl s).drop (i + 1) := by
  rw [List.drop_eq_getElem_cons (by rw [recP_length]; exact h)]
  congr 1
  simp [recP]
end
end Go.Proofs.Ytdllgmhipenidaa
end

section
/- Package segment: Append, walked. -/
namespace Go.Proofs.Ytdllgmhipenidaa
set_option maxRecDepth 100000
open Go.RowKit
set_option linter.unusedVariables false

/-- What stands in the segment at a part's writing. -/
def S3 (sb db : Nat) (s : PSeg) (V : World) : Prop := V.cell? ⟨sb, 0, none⟩ = some (.pointer (some ⟨db, 0, none⟩)) ∧ V.cell? ⟨sb, 1, none⟩ = some (.int .i64 (s.start : Int)) ∧ V.cell? ⟨sb, 3, none⟩ = some (.int .i64 (s.used : Int))
def PSeg.fail (s : PSeg) (e : Int) : PSeg := { s with err := e }
theorem PSeg.Ok.fail {s : PSeg} (h : s.Ok) {e : Int} (he : -1000 ≤ e ∧ e ≤ 1000) : (s.fail e).Ok := ⟨h.fit, h.used, h.len, h.sure, h.gone, h.epoch, he⟩
set_option maxHeartbeats 6400000 in
theorem sappend_go {w : World} {base sb db mb : Nat} {d : PD} {s : PSeg} (hS : SegIn w base sb db mb s) (hD : DiskAt w base db d) (hW : d.W.length ≤ 900) {A : Option Addr} {c n : Nat} {b : List UInt8} (hs : Sb base w A c b) (hn : b.length = n) (h4 : n ≤ 4096) (he : s.err = 0) (hf : s.used + needP n ≤ s.n) :
    Calls Try.prog 17 #[.pointer (some ⟨sb, 0, none⟩), .slice A n c] w fun e w' => e = .returned (.tuple #[.int .i64 (s.append d b).2.2.1, .int .i64 (s.append d b).2.2.2]) ∧ SegAt w' base sb db (s.append d b).1 (s.append d b).2.1 ∧ SM base w w' := by
  obtain ⟨m, hm⟩ : ∃ m, needP n = m := ⟨_, rfl⟩
  have hm1 : 1 ≤ m := by rw [← hm]; exact needP_pos n
  have hm92 : m ≤ 92 := by rw [← hm]; exact needP_le h4
  obtain ⟨R, hR⟩ : ∃ R, putsP d (s.start + s.used) (recP s.epoch s.L.length b) = R := ⟨_, rfl⟩
  have happ : s.append d b = if R.2 ≠ 0 then (R.1, s.fail R.2, 0, R.2) else (R.1, s.add b m, (s.L.length : Int), 0) := by
    unfold PSeg.append
    rw [if_neg (by omega), if_neg (by simp [he]), hn, hm, if_neg (by omega), hR]
    rfl
  obtain ⟨X, hX⟩ : ∃ X, s.append d b = X := ⟨_, rfl⟩
  rw [hX] at happ ⊢
  have HX := Lib.hid happ
  clear hX
  have c8 := hS.cells.2.2.2.2.2.2.2.2
  rw [he] at c8
  have hfit := hS.ok.fit
  have hused := hS.ok.used
  have hlen := hS.ok.len
  have h4I : (n : Int) ≤ 4096 := by omega
  have HNEED := Lib.hid (sneed_any w n (by omega))
  have HFREE := Lib.hid (sfree_in hS)
  obtain ⟨fr, hfr⟩ : ∃ fr, s.n - s.used = fr := ⟨_, rfl⟩
  rw [hfr] at HFREE
  rw [hm] at HNEED
  have hfrI : (m : Int) ≤ (fr : Int) := by omega
  have HLEN : Hid (∀ V, Mods Nil w V → Calls Try.prog 59 #[.pointer (some ⟨sb, 0, none⟩)] V fun e w' => e = .returned (.int .i64 (s.L.length : Int)) ∧ Mods Nil V w') := Lib.hid (fun V hV => slen_in (hS.nil hV))
  have HS := Lib.hid hS
  have HD := Lib.hid hD
  have HW := Lib.hid hW
  have HB := Lib.hid hs
  have HN := Lib.hid hn
  have HM := Lib.hid hm
  have HR := Lib.hid hR
  have HF := Lib.hid hf
  have HE := Lib.hid he
  have H4 := Lib.hid h4
  have HFIT := Lib.hid (And.intro hfit (And.intro hused (And.intro hlen hm92)))
  obtain ⟨pl, hpl⟩ : ∃ pl, s.L.length = pl := ⟨_, rfl⟩
  have HPL := Lib.hid hpl
  rw [hpl] at HLEN
  clear hS hD hW hs hn h4 he hf hm hR happ hfit hused hlen hm92 hpl hfr
  go_enter Try.func17, Try.ntmps17
  go_wp2_with (first
    | (go_at_call 62; refine HNEED.out.mono ?_; rintro e w1 ⟨rfl, rfl⟩)
    | (go_at_call 61; refine HFREE.out.mono ?_; rintro e w1 ⟨rfl, m1⟩; have M1 := Lib.hid m1; clear m1)
    | (go_at_call 59; refine (HLEN.out _ M1.out).mono ?_; rintro e w2 ⟨rfl, m2⟩; have M2 := Lib.hid (M1.out.trans m2); clear m2))
  clear c8
  go_loopw [34] (fun x wr => ∃ (j : Nat) (dj : PD), j ≤ m ∧ x = .int .i64 (j : Int) ∧ SegIn wr base sb db mb s ∧ DiskAt wr base db dj ∧ SM base w wr ∧ dj.W.length ≤ d.W.length + j ∧ putsP dj (s.start + s.used + j) ((recP s.epoch s.L.length b).drop j) = R) (fun x _ => m - (intOf x).toNat)
  case atStart => exact ⟨0, d, Nat.zero_le _, rfl, HS.out.nil M2.out, HD.out.nil M2.out, SM.nil M2.out, by omega, HR.out⟩
  case round =>
    obtain ⟨j, dj, hj, rfl, hs0, hd0, hmo, hwl, hput⟩ := hrel
    have SJ := Lib.hid hs0
    have DJ := Lib.hid hd0
    have MJ := Lib.hid hmo
    have WJ := Lib.hid hwl
    have PJ := Lib.hid hput
    clear hs0 hd0 hmo hwl hput
    by_cases hlt : j < m
    · have hltI : (j : Int) < (m : Int) := by omega
      obtain ⟨blk, hblk⟩ : ∃ x, blockP s.epoch pl j (needP n) (partP b j) = x := ⟨_, rfl⟩
      have hb64 : Hid (blk.length = 64) := by rw [← hblk]; exact Lib.hid (blockP_length (by rw [partP_length]; omega))
      have hrec : (recP s.epoch s.L.length b).drop j = blk :: (recP s.epoch s.L.length b).drop (j + 1) := by
        rw [recP_cons _ _ _ _ (by rw [HN.out, HM.out]; exact hlt), HN.out, HPL.out, hblk]
      have HLAY := Lib.hid (slay_in SJ.out ((HB.out.sm MJ.out).1) HN.out H4.out (k := j) (pl := pl) (by rw [HM.out]; exact hlt) (by have := HFIT.out; have := HPL.out; omega))
      rw [hblk] at HLAY
      obtain ⟨p, hp⟩ : ∃ p, s.start + s.used + j = p := ⟨_, rfl⟩
      have hpI : (s.start : Int) + (s.used : Int) + (j : Int) = (p : Int) := by omega
      have hw1 : IntKind.i64.wrap ((s.start : Int) + (s.used : Int)) = (s.start : Int) + (s.used : Int) := by rw [IntKind.wrap_i64]; have := HFIT.out; omega
      have hw2 : IntKind.i64.wrap (p : Int) = (p : Int) := by rw [IntKind.wrap_i64]; have := HFIT.out; have := HPL.out; omega
      have hw3 : IntKind.i64.wrap ((j : Int) + 1) = (j : Int) + 1 := by rw [IntKind.wrap_i64]; have := HFIT.out; omega
      have hput : putsP dj p (blk :: (recP s.epoch s.L.length b).drop (j + 1)) = R := by rw [← hrec, ← hp]; exact PJ.out
      obtain ⟨D1, hD1⟩ : ∃ D, dj.write (p : Int) blk = D := ⟨_, rfl⟩
      have herr := PD.write_err dj (p : Int) blk
      have hwl1 := PD.write_W dj (p : Int) blk
      rw [hD1] at herr hwl1
      have HPUT : Hid (if D1.2 ≠ 0 then D1 = R else putsP D1.1 (p + 1) ((recP s.epoch s.L.length b).drop (j + 1)) = R) := by
        unfold putsP at hput
        rw [hD1] at hput
        show ite _ _ _
        split <;> rename_i hz <;> simpa [hz] using hput
      have HWR : Hid (∀ V, DiskAt V base db dj → ∀ g, Blk V g 124 (bts blk).toArray → Calls Try.prog 27 #[.pointer (some ⟨db, 0, none⟩), .int .i64 (p : Int), .slice (some ⟨g, 0, none⟩) 64 64] V fun e w' => e = .returned (.int .i64 D1.2) ∧ DiskAt w' base db D1.1 ∧ DM base V w') := Lib.hid (fun V hV g hg => by
        have hbs : Bs base V (some ⟨g, 0, none⟩) 64 blk := ⟨by have := blk_sl hg hb64.out 64; rwa [List.take_of_length_le (by rw [hb64.out]; omega)] at this, fun _ a ha => by
          injection ha with ha
          subst ha
          exact .inr ⟨_, _, hg, by decide, by decide, by decide⟩⟩
        have := dwrite_any hV (by have := WJ.out; have := HW.out; have := HFIT.out; omega) (p : Int) hbs hb64.out
        rw [hD1] at this
        exact this)
      have HERR := Lib.hid herr
      have HWL := Lib.hid hwl1
      clear hrec hp hput hD1 herr hwl1 hblk
      have HK : Hid (∀ V, SegIn V base sb db mb s → (V.cell? ⟨sb, 0, none⟩ = some (.pointer (some ⟨db, 0, none⟩)) ∧ V.cell? ⟨sb, 1, none⟩ = some (.int .i64 (s.start : Int)) ∧ V.cell? ⟨sb, 3, none⟩ = some (.int .i64 (s.used : Int)))) := Lib.hid (fun V h => ⟨h.cells.1, h.cells.2.1, h.cells.2.2.2.1⟩)
      have HK2 : Hid (∀ V, SegIn V base sb db mb (s.fail D1.2) → (V.cell? ⟨sb, 0, none⟩ = some (.pointer (some ⟨db, 0, none⟩)) ∧ V.cell? ⟨sb, 1, none⟩ = some (.int .i64 (s.start : Int)) ∧ V.cell? ⟨sb, 3, none⟩ = some (.int .i64 (s.used : Int)))) := Lib.hid (fun V h => ⟨h.cells.1, h.cells.2.1, h.cells.2.2.2.1⟩)
      have HSET : Hid (∀ V, SegIn V base sb db mb s → DiskAt V base db D1.1 → SegIn (V.setCell ⟨sb, 8, none⟩ (.int .i64 D1.2)) base sb db mb (s.fail D1.2) ∧ DiskAt (V.setCell ⟨sb, 8, none⟩ (.int .i64 D1.2)) base db D1.1 ∧ SM base V (V.setCell ⟨sb, 8, none⟩ (.int .i64 D1.2))) := Lib.hid (fun V h hd => h.set hd 8 _ rfl rfl rfl (h.ok.fail HERR.out))
      obtain ⟨er, her⟩ : ∃ er, D1.2 = er := ⟨_, rfl⟩
      obtain ⟨DD, hDD⟩ : ∃ DD, D1.1 = DD := ⟨_, rfl⟩
      have HD12 : Hid (D1 = (DD, er)) := by rw [← her, ← hDD]; exact Lib.hid rfl
      rw [her] at HK2 HSET HPUT HERR
      rw [her, hDD] at HWR
      rw [hDD] at HSET HPUT HWL
      clear her hDD
      go_wp2_with (first
        | (go_at_call 70; refine HLAY.out.mono ?_; rintro e w3 ⟨rfl, m3⟩; have M3 := Lib.hid m3; clear m3)
        | (refine gw_alloc_sb rfl rfl ?_; intro w4 b9 m9 s9; have B4 := Lib.hid b9; have M4 := Lib.hid (M3.out.trans m9); clear b9 m9 s9)
        | (refine wpList_store_mk rfl 124 (.tmp 9) (.tmp 41) rfl rfl w3.heap.size rfl 124 (bts zeros64).toArray (bts blk).toArray rfl B4.out (by simp [hb64.out, zeros64]) (bts_all _) (infoSB4 hb64.out) rfl ?_; intro w5 b9 m9; have B5 := Lib.hid b9; have N5 := Lib.hid (M4.out.nil_trans m9 (fun i hi => by have := M3.out.size; omega)); have D5 := Lib.hid (DJ.out.nil N5.out); have S5 := Lib.hid (SJ.out.nil N5.out); have M5 := Lib.hid (MJ.out.trans (SM.nil N5.out)); have K5 := HK.out _ S5.out; clear b9 m9))
      by_cases hz : er = 0
      · subst hz
        go_region_held (fun V => V.cell? ⟨sb, 0, none⟩ = some (.pointer (some ⟨db, 0, none⟩)) ∧ V.cell? ⟨sb, 1, none⟩ = some (.int .i64 (s.start : Int)) ∧ V.cell? ⟨sb, 3, none⟩ = some (.int .i64 (s.used : Int))) (assumption) (first
          | (go_at_call 27; refine (HWR.out _ (D5.out.nil (Mods.refl Nil _).drew) _ B5.out.drew).mono ?_; rintro e w6 ⟨rfl, d6, m6⟩; have D6 := Lib.hid d6; have S6 := Lib.hid ((S5.out.nil (Mods.refl Nil _).drew).dm m6); have M6 := Lib.hid (M5.out.trans (SM.dm (Mods.of_drew m6))); have K6 := HK.out _ S6.out; have f8 := S6.out.blk.frozen 8; have c8 := S6.out.cells.2.2.2.2.2.2.2.2; have Q7 := Lib.hid (HSET.out _ S6.out D6.out); have K7 := HK2.out _ Q7.out.1; have e8 : (w6.setCell ⟨sb, 8, none⟩ (.int .i64 0)).cell? ⟨sb, 8, none⟩ = some (.int .i64 0) := Q7.out.1.cells.2.2.2.2.2.2.2.2; clear d6 m6))
        all_goals
          go_wp2_with fail
          refine ⟨⟨j + 1, DD, by omega, by go_num, ?_, Q7.out.2.1, M6.out.trans Q7.out.2.2, ?_, ?_⟩, by simp [intOf]; omega⟩
          · have hfe : s.fail 0 = s := by have := HE.out; cases s; subst this; rfl
            have := Q7.out.1
            rw [hfe] at this
            exact this
          · have := HWL.out; have := WJ.out; omega
          · have := HPUT.out
            rw [if_neg (by simp)] at this
            rw [← this]
            congr 1
            omega
      · have hzI : (er != 0) = true := by simpa using hz
        go_region_held (fun V => V.cell? ⟨sb, 0, none⟩ = some (.pointer (some ⟨db, 0, none⟩)) ∧ V.cell? ⟨sb, 1, none⟩ = some (.int .i64 (s.start : Int)) ∧ V.cell? ⟨sb, 3, none⟩ = some (.int .i64 (s.used : Int))) (assumption) (first
          | (go_at_call 27; refine (HWR.out _ (D5.out.nil (Mods.refl Nil _).drew) _ B5.out.drew).mono ?_; rintro e w6 ⟨rfl, d6, m6⟩; have D6 := Lib.hid d6; have S6 := Lib.hid ((S5.out.nil (Mods.refl Nil _).drew).dm m6); have M6 := Lib.hid (M5.out.trans (SM.dm (Mods.of_drew m6))); have K6 := HK.out _ S6.out; have f8 := S6.out.blk.frozen 8; have c8 := S6.out.cells.2.2.2.2.2.2.2.2; have Q7 := Lib.hid (HSET.out _ S6.out D6.out); have K7 := HK2.out _ Q7.out.1; have e8 : (w6.setCell ⟨sb, 8, none⟩ (.int .i64 er)).cell? ⟨sb, 8, none⟩ = some (.int .i64 er) := Q7.out.1.cells.2.2.2.2.2.2.2.2; clear d6 m6))
        all_goals
          go_wp2_with fail
          go_quiet (fail)
          go_wp2_with fail
          go_ret2
          have hR : R = (DD, er) := by have := HPUT.out; rw [if_pos hz] at this; rw [← this, HD12.out]
          have hz2 : R.2 ≠ 0 := by rw [hR]; exact hz
          have hx := HX.out
          rw [if_pos hz2, hR] at hx
          subst hx
          exact ⟨rfl, ⟨Q7.out.2.1.nil ((Mods.refl Nil _).drewN _), mb, Q7.out.1.nil ((Mods.refl Nil _).drewN _)⟩, (M6.out.trans Q7.out.2.2).trans (SM.nil ((Mods.refl Nil _).drewN _))⟩
    · obtain rfl : j = m := by omega
      have hput : R = (dj, 0) := by
        have := PJ.out
        rw [List.drop_eq_nil_of_le (by rw [recP_length, HN.out, HM.out]; exact Nat.le_refl _)] at this
        exact this.symm
      go_wp2_with (first
        | (go_at_call 72; refine (clone_rb HN.out (by have := H4.out; omega) (HB.out.sm MJ.out).1).mono ?_; rintro e w3 ⟨A3, c3, rfl, rb3, m3⟩; have RB3 := Lib.hid rb3; have M3 := Lib.hid m3; clear rb3 m3)
        | (go_at_call 71; refine (skeep_in (SJ.out.nil M3.out) (DJ.out.nil M3.out) RB3.out (by have := H4.out; have := HN.out; omega) HN.out hm1 (by have := HF.out; have := HM.out; omega)).mono ?_; rintro e w4 ⟨rfl, s4, d4, m4⟩; have S4 := Lib.hid s4; have D4 := Lib.hid d4; have M4 := Lib.hid ((MJ.out.trans (SM.nil M3.out)).trans m4); clear s4 d4 m4))
      go_ret2
      have hx := HX.out
      rw [if_neg (by rw [hput]; simp), hput, HPL.out] at hx
      subst hx
      exact ⟨rfl, ⟨D4.out, mb, S4.out⟩, M4.out⟩
end Go.Proofs.Ytdllgmhipenidaa
end

section
/- Package segment: Append's other ways, Sync, Read. -/
namespace Go.Proofs.Ytdllgmhipenidaa
set_option maxRecDepth 100000
open Go.RowKit
set_option linter.unusedVariables false
section
variable {w : World} {base db sb mb : Nat} {d : PD} {s : PSeg}
theorem sappend_nil (w : World) (A : Option Addr) (n c : Nat) : Calls Try.prog 17 #[.pointer none, .slice A n c] w fun e w' => e = .returned (.tuple #[.int .i64 0, .int .i64 1]) ∧ w = w' := by
  go_enter Try.func17, Try.ntmps17
  go_wp2_with fail
  go_ret2
  exact ⟨rfl, rfl⟩
theorem sappend_any (h : SegAt w base sb db d s) (hW : d.W.length ≤ 900) {A : Option Addr} {c n : Nat} {b : List UInt8} (hs : Sb base w A c b) (hn : b.length = n) :
    Calls Try.prog 17 #[.pointer (some ⟨sb, 0, none⟩), .slice A n c] w fun e w' => e = .returned (.tuple #[.int .i64 (s.append d b).2.2.1, .int .i64 (s.append d b).2.2.2]) ∧ SegAt w' base sb db (s.append d b).1 (s.append d b).2.1 ∧ SM base w w' := by
  obtain ⟨hD, mb, hS⟩ := h
  by_cases h4 : 4096 < n
  · have hx : s.append d b = (d, s, 0, 13) := by unfold PSeg.append; rw [if_pos (by omega)]
    have hI : (4096 : Int) < (n : Int) := by omega
    rw [hx]
    have HS := Lib.hid hS
    have HD := Lib.hid hD
    clear hS hD hs hn hx h4
    go_enter Try.func17, Try.ntmps17
    go_wp2_with fail
    go_ret2
    exact ⟨rfl, ⟨HD.out, mb, HS.out⟩, SM.refl _ _⟩
  have hI : (n : Int) ≤ 4096 := by omega
  by_cases he : s.err = 0
  · by_cases hf : s.n - s.used < needP n
    · have hx : s.append d b = (d, s, 0, 21) := by unfold PSeg.append; rw [if_neg (by omega), if_neg (by simp [he]), hn, if_pos hf]
      rw [hx]
      have c8 := hS.cells.2.2.2.2.2.2.2.2
      rw [he] at c8
      have HNEED := Lib.hid (sneed_any w n (by omega))
      have HFREE := Lib.hid (sfree_in hS)
      obtain ⟨fr, hfr⟩ : ∃ fr, s.n - s.used = fr := ⟨_, rfl⟩
      obtain ⟨m, hm⟩ : ∃ m, needP n = m := ⟨_, rfl⟩
      rw [hfr] at HFREE
      rw [hm] at HNEED
      have hfrI : (fr : Int) < (m : Int) := by omega
      have HS := Lib.hid hS
      have HD := Lib.hid hD
      clear hS hD hs hn hx h4 he hf hfr hm
      go_enter Try.func17, Try.ntmps17
      go_wp2_with (first
        | (go_at_call 62; refine HNEED.out.mono ?_; rintro e w1 ⟨rfl, rfl⟩)
        | (go_at_call 61; refine HFREE.out.mono ?_; rintro e w1 ⟨rfl, m1⟩; have M1 := Lib.hid m1; clear m1))
      go_ret2
      exact ⟨rfl, ⟨HD.out.nil M1.out, mb, HS.out.nil M1.out⟩, SM.nil M1.out⟩
    · exact sappend_go hS hD hW hs hn (by omega) he (by have := hS.ok.used; omega)
  · have hx : s.append d b = (d, s, 0, s.err) := by unfold PSeg.append; rw [if_neg (by omega), if_pos he]
    rw [hx]
    have c8 := hS.cells.2.2.2.2.2.2.2.2
    obtain ⟨er, her⟩ : ∃ er, s.err = er := ⟨_, rfl⟩
    rw [her] at c8 he ⊢
    have hz : (er != 0) = true := by simpa using he
    have HS := Lib.hid hS
    have HD := Lib.hid hD
    clear hS hD hs hn hx h4 he her
    go_enter Try.func17, Try.ntmps17
    go_wp2_with fail
    go_quiet (fail)
    go_wp2_with fail
    go_ret2
    exact ⟨rfl, ⟨HD.out.nil ((Mods.refl Nil _).drewN _), mb, HS.out.nil ((Mods.refl Nil _).drewN _)⟩, SM.nil ((Mods.refl Nil _).drewN _)⟩
theorem ssync_nil (w : World) : Calls Try.prog 20 #[.pointer none] w fun e w' => e = .returned (.int .i64 1) ∧ w = w' := by
  go_enter Try.func20, Try.ntmps20
  go_wp2_with fail
  go_ret
  exact ⟨rfl, rfl⟩
theorem PD.sync_err (d : PD) : -1000 ≤ d.sync.2 ∧ d.sync.2 ≤ 1000 := by
  have h2 : -1000 ≤ d.count.2 ∧ d.count.2 ≤ 1000 := by unfold PD.count; split <;> simp
  unfold PD.sync
  split
  · simp
  · split
    · exact h2
    · simp
set_option maxHeartbeats 3200000 in
theorem ssync_any (h : SegAt w base sb db d s) :
    Calls Try.prog 20 #[.pointer (some ⟨sb, 0, none⟩)] w fun e w' => e = .returned (.int .i64 (s.sync d).2.2) ∧ SegAt w' base sb db (s.sync d).1 (s.sync d).2.1 ∧ SM base w w' := by
  obtain ⟨hD, mb, hS⟩ := h
  obtain ⟨X, hX⟩ : ∃ X, s.sync d = X := ⟨_, rfl⟩
  rw [hX]
  by_cases he : s.err = 0
  · have herr := d.sync_err
    have HSY := Lib.hid (dsync_any hD)
    obtain ⟨D1, hD1⟩ : ∃ D, d.sync = D := ⟨_, rfl⟩
    rw [hD1] at HSY herr
    have hx : X = if D1.2 ≠ 0 then (D1.1, s.fail D1.2, D1.2) else (D1.1, { s with sure := s.L.length }, 0) := by
      rw [← hX]
      unfold PSeg.sync
      rw [if_neg (by simp [he]), hD1]
      rfl
    have HX := Lib.hid hx
    have HE := Lib.hid he
    have HERR := Lib.hid herr
    have c0 := hS.cells.1
    have c8 := hS.cells.2.2.2.2.2.2.2.2
    rw [he] at c8
    have HS := Lib.hid hS
    have HSET : Hid (∀ V, SegIn V base sb db mb s → DiskAt V base db D1.1 → SegIn (V.setCell ⟨sb, 8, none⟩ (.int .i64 D1.2)) base sb db mb (s.fail D1.2) ∧ DiskAt (V.setCell ⟨sb, 8, none⟩ (.int .i64 D1.2)) base db D1.1 ∧ SM base V (V.setCell ⟨sb, 8, none⟩ (.int .i64 D1.2))) := Lib.hid (fun V h hd => h.set hd 8 _ rfl rfl rfl (h.ok.fail HERR.out))
    have HSET2 : Hid (∀ V, SegIn V base sb db mb s → DiskAt V base db D1.1 → SegIn (V.setCell ⟨sb, 7, none⟩ (.int .i64 (s.L.length : Int))) base sb db mb { s with sure := s.L.length } ∧ DiskAt (V.setCell ⟨sb, 7, none⟩ (.int .i64 (s.L.length : Int))) base db D1.1 ∧ SM base V (V.setCell ⟨sb, 7, none⟩ (.int .i64 (s.L.length : Int)))) :=
      Lib.hid (fun V h hd => h.set hd 7 _ rfl rfl rfl ⟨h.ok.fit, h.ok.used, h.ok.len, Nat.le_refl _, Nat.le_trans h.ok.gone h.ok.sure, h.ok.epoch, h.ok.err⟩)
    obtain ⟨er, her⟩ : ∃ er, D1.2 = er := ⟨_, rfl⟩
    obtain ⟨DD, hDD⟩ : ∃ DD, D1.1 = DD := ⟨_, rfl⟩
    rw [her] at HX HSET
    rw [her, hDD] at HSY
    rw [hDD] at HX HSET HSET2
    clear hS hD he herr hx hX hD1 her hDD
    by_cases hz : er = 0
    · subst hz
      go_enter Try.func20, Try.ntmps20
      go_wp2_with (first
        | (go_at_call 75; refine HSY.out.mono ?_; rintro e w2 ⟨rfl, d2, m2⟩; have D2 := Lib.hid d2; have M2 := Lib.hid m2; have S2 := Lib.hid (HS.out.dm m2); have f8 := S2.out.blk.frozen 8; have c8 := S2.out.cells.2.2.2.2.2.2.2.2; have Q3 := Lib.hid (HSET.out _ S2.out D2.out); have e8 : (w2.setCell ⟨sb, 8, none⟩ (.int .i64 0)).cell? ⟨sb, 8, none⟩ = some (.int .i64 0) := Q3.out.1.cells.2.2.2.2.2.2.2.2; clear d2 m2)
        | (go_at_call 59; have Q4 : Hid (SegIn (w2.setCell ⟨sb, 8, none⟩ (.int .i64 0)) base sb db mb s) := (by have := Q3.out.1; have he := HE.out; have e : s.fail 0 = s := (by cases s; subst he; rfl); rw [e] at this; exact Lib.hid this); refine (slen_in Q4.out).mono ?_; rintro e w4 ⟨rfl, m4⟩; have S4 := Lib.hid (Q4.out.nil m4); have D4 := Lib.hid (Q3.out.2.1.nil m4); have M4 := Lib.hid (((SM.dm M2.out).trans Q3.out.2.2).trans (SM.nil m4)); have f7 := S4.out.blk.frozen 7; have c7 := S4.out.cells.2.2.2.2.2.2.2.1; have Q5 := Lib.hid (HSET2.out _ S4.out D4.out); clear m4))
      go_ret
      have hx := HX.out
      rw [if_neg (by simp)] at hx
      subst hx
      exact ⟨rfl, ⟨Q5.out.2.1, mb, Q5.out.1⟩, M4.out.trans Q5.out.2.2⟩
    · have hzI : (er != 0) = true := by simpa using hz
      go_enter Try.func20, Try.ntmps20
      go_wp2_with (first
        | (go_at_call 75; refine HSY.out.mono ?_; rintro e w2 ⟨rfl, d2, m2⟩; have D2 := Lib.hid d2; have M2 := Lib.hid m2; have S2 := Lib.hid (HS.out.dm m2); have f8 := S2.out.blk.frozen 8; have c8 := S2.out.cells.2.2.2.2.2.2.2.2; have Q3 := Lib.hid (HSET.out _ S2.out D2.out); have e8 : (w2.setCell ⟨sb, 8, none⟩ (.int .i64 er)).cell? ⟨sb, 8, none⟩ = some (.int .i64 er) := Q3.out.1.cells.2.2.2.2.2.2.2.2; clear d2 m2))
      go_ret
      have hx := HX.out
      rw [if_pos hz] at hx
      subst hx
      exact ⟨rfl, ⟨Q3.out.2.1, mb, Q3.out.1⟩, (SM.dm M2.out).trans Q3.out.2.2⟩
  · have hx : X = (d, s, s.err) := by rw [← hX]; unfold PSeg.sync; rw [if_pos he]
    subst hx
    have c8 := hS.cells.2.2.2.2.2.2.2.2
    obtain ⟨er, her⟩ : ∃ er, s.err = er := ⟨_, rfl⟩
    rw [her] at c8 he ⊢
    have hz : (er != 0) = true := by simpa using he
    have HS := Lib.hid hS
    have HD := Lib.hid hD
    clear hS hD he her hX
    go_enter Try.func20, Try.ntmps20
    go_wp2_with fail
    go_ret
    exact ⟨rfl, ⟨HD.out, mb, HS.out⟩, SM.refl _ _⟩
end
end Go.Proofs.Ytdllgmhipenidaa
end
