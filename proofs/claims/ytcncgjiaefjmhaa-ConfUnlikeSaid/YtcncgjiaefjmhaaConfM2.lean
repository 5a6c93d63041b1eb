/- Texts laid as one: Conf6, Conf7, Conf8. -/
import Derived.Test.YtcncgjiaefjmhaaConfM1
import Derived.Test.YtcncgjiaefjmhaaRef10d
import Derived.Test.YtcncgjiaefjmhaaNumsM

section
/- Package conf: putRow, putField. -/
namespace Go.Proofs.Ytcncgjiaefjmhaa
set_option maxRecDepth 100000
open Go.RowKit
set_option linter.unusedVariables false
set_option linter.unusedSimpArgs false

theorem IsWriter.nil10 {w w' : World} {base g : Nat} {v : Value} {out : List UInt8} (h : IsWriter w base g v out) (hm : Mods Nil w w') : IsWriter w' base g v out := h.mods hm (fun h => h) (fun _ _ h => h)
theorem Wrote.nil10 {w w1 w2 : World} {g : Nat} {v v' : Value} (h : Wrote w w1 g v v') (hm : Mods Nil w1 w2) : Wrote w w2 g v v' := h.trans ⟨hm.mono (fun _ _ h => h.elim), fun _ h => .inl h⟩
theorem Wrote.start10 {w w1 w2 : World} {g : Nat} {v v' : Value} (hm : Mods Nil w w1) (h : Wrote w1 w2 g v v') : Wrote w w2 g v v' := Wrote.trans (v1 := v) ⟨hm.mono (fun _ _ h => h.elim), fun _ h => .inl h⟩ h
/-- What a writer's calls may change is new. -/
theorem Wrote.on {w0 w w' : World} {base g : Nat} {v v' : Value} {out : List UInt8} (hb : w0.heap.size ≤ base) (hw : IsWriter w base g v out) (hm : Mods Nil w0 w) (hr : Wrote w w' g v v') : Mods Nil w0 w' :=
  hm.nil_trans hr.mods (fun i h => by
    rcases h with rfl | h
    · exact Nat.le_trans hb hw.le
    · exact Nat.le_trans hb (hw.own.lt i h).1)

theorem rowN_put (s : Nat) (xs : List Nat) : putAll (rowN ⟨s, xs⟩) = putU s ++ putU xs.length ++ putAll xs := by simp [rowN, putAll]
set_option maxHeartbeats 4000000 in
theorem putRow_any {w0 w : World} {base g : Nat} {v : Value} {out : List UInt8} {s n c : Nat} {A : Option Addr} {xs : List Nat} (hs7 : s ≤ 7) (hn : xs.length = n) (hn4 : n ≤ 4) (hx : ∀ x ∈ xs, x < 18446744073709551616) (hs : Sl w0 A c (nums xs))
    (hb : w0.heap.size ≤ base) (hm : Mods Nil w0 w) (hlim : out.length ≤ 1000000) (hw : IsWriter w base g v out) :
    Calls Try.prog 48 #[.pointer (some ⟨g, 0, none⟩), .agg #[.int .i64 (s : Int), .slice A n c]] w fun e w' => e = .returned (.tuple #[]) ∧ ∃ v', IsWriter w' base g v' (out ++ putAll (rowN ⟨s, xs⟩)) ∧ Wrote w w' g v v' := by
  rw [rowN_put, hn]
  have AB := Lib.hid (Blk.new w 50 #[.int .i64 (s : Int), .slice A n c])
  have m1 := (Mods.refl Nil w).alloc (.cells #[.int .i64 (s : Int), .slice A n c] 50)
  have MM := Lib.hid m1
  have HW := Lib.hid (hw.nil10 m1)
  have HS := Lib.hid hs
  have HX := Lib.hid hx
  have HN := Lib.hid hn
  have HB := Lib.hid hb
  have HM := Lib.hid (hm.trans m1)
  have hws : IntKind.u64.wrap (s : Int) = (s : Int) := (IntKind.wrap_u64 (s : Int)).trans (by omega)
  have hwn : IntKind.u64.wrap (n : Int) = (n : Int) := (IntKind.wrap_u64 (n : Int)).trans (by omega)
  obtain ⟨d0, d1, -, -⟩ := AB.out.two
  have l1 := putU_length s (by omega)
  have l2 := putU_length n (by omega)
  have HL := Lib.hid (show (out ++ putU s ++ putU n).length ≤ 1000018 by simp only [List.length_append]; omega)
  have hl1 : out.length + 9 ≤ 140737488355328 := by omega
  have hl2 : (out ++ putU s).length + 9 ≤ 140737488355328 := by simp only [List.length_append]; omega
  have HL1 := Lib.hid hl1
  have HL2 := Lib.hid hl2
  clear hs hx hn hb hm hw m1 l1 l2 hl1 hl2
  go_enter Try.func48, Try.ntmps48
  go_wp2_with (first
    | (go_at_call 46; first
        | (refine (wuint_any s (by omega) HL1.out HW.out).mono ?_; rintro e w3 ⟨rfl, v3, h3, r3⟩; have H3 := Lib.hid h3; have R3 := Lib.hid r3; have HM3 := Lib.hid (Wrote.on HB.out HW.out HM.out r3); have d1 := (AB.out.mods r3.mods (fun h => by rcases h with h | h; exact Blk.ne_ AB.out HW.out.blk (by decide) h; exact own_blk_ne HW.out.own AB.out (by decide) h)).two.2.1; have AB3 := Lib.hid (AB.out.mods r3.mods (fun h => by rcases h with h | h; exact Blk.ne_ AB.out HW.out.blk (by decide) h; exact own_blk_ne HW.out.own AB.out (by decide) h)); clear h3 r3 HL1)
        | (refine (wuint_any n (by omega) HL2.out H3.out).mono ?_; rintro e w4 ⟨rfl, v4, h4, r4⟩; have H4 := Lib.hid h4; have R4 := Lib.hid (R3.out.trans r4); have HM4 := Lib.hid (Wrote.on HB.out H3.out HM3.out r4); have d1 := (AB3.out.mods r4.mods (fun h => by rcases h with h | h; exact Blk.ne_ AB3.out H3.out.blk (by decide) h; exact own_blk_ne H3.out.own AB3.out (by decide) h)).two.2.1; clear h4 r4)))
  go_loopw [20] (fun x wr => ∃ (i : Nat) (v' : Value), i ≤ n ∧ x = .int .i64 (i : Int) ∧ IsWriter wr base g v' (out ++ (putU s ++ putU n) ++ putAll (xs.take i)) ∧ Wrote (w.alloc (.cells #[.int .i64 (s : Int), .slice A n c] 50)) wr g v v' ∧ Mods Nil w0 wr) (fun x _ => n - (intOf x).toNat)
  case atStart => exact ⟨0, v4, Nat.zero_le _, rfl, by have := H4.out; simpa [putAll] using this, R4.out, HM4.out⟩
  case round =>
    obtain ⟨i, v', hi, rfl, h5, r5, m5⟩ := hrel
    have H5 := Lib.hid h5
    have R5 := Lib.hid r5
    have M5 := Lib.hid m5
    clear h5 r5 m5 d0 d1
    by_cases hlt : i < n
    · have hiI : (i : Int) < (n : Int) := by omega
      have hix : i < xs.length := by rw [HN.out]; exact hlt
      obtain ⟨b2, off2, rfl, hb2, e0⟩ := sl_num (HS.out.mods M5.out (fun _ _ h => h)) (j := i) hix
      have hsn := Lib.hid (putAll_snoc xs i hix)
      have hv := vat_lt hix
      have hy64 : vat xs i < 18446744073709551616 := by rw [hv]; exact HX.out _ (List.getElem_mem hix)
      rw [← hv] at hsn
      have hpl : (putAll (xs.take i)).length ≤ 36 := by
        have := putAll_length (xs.take i) (fun x hx => HX.out x (List.mem_of_mem_take hx))
        simp at this
        omega
      have HL5 := Lib.hid (show (out ++ (putU s ++ putU n) ++ putAll (xs.take i)).length + 9 ≤ 140737488355328 by have := HL.out; simp only [List.length_append] at this ⊢; omega)
      generalize vat xs i = y at e0 hsn hy64
      have HY := Lib.hid hy64
      clear hv hix hy64 hpl
      go_wp2_with (go_at_call 46; refine (wuint_any y HY.out HL5.out H5.out).mono ?_; rintro e w6 ⟨rfl, v6, h6, r6⟩; have H6 := Lib.hid h6; have R6 := Lib.hid (R5.out.trans r6); have M6 := Lib.hid (Wrote.on HB.out H5.out M5.out r6); clear h6 r6)
      exact ⟨⟨i + 1, v6, by omega, by go_num, by rw [hsn.out, ← List.append_assoc]; exact H6.out, R6.out, M6.out⟩, by simp [intOf]; omega⟩
    · obtain rfl : n = i := by omega
      have HF : Hid (xs.take n = xs) := Lib.hid (List.take_of_length_le (by rw [HN.out]; exact Nat.le_refl _))
      go_wp2_with fail
      exact bodyPost_end (results_none rfl _ _ _) rfl ⟨rfl, v', by have := H5.out; rw [HF.out] at this; simpa using this, R5.out.start10 MM.out⟩
end Go.Proofs.Ytcncgjiaefjmhaa
end

section
/- Package conf: putField. -/
namespace Go.Proofs.Ytcncgjiaefjmhaa
set_option maxRecDepth 100000
open Go.RowKit
set_option linter.unusedVariables false
set_option linter.unusedSimpArgs false

theorem amt_lt {c : PC} (hok : c.ok) {n : Nat} (hn : n ≤ 9223372036854775807) (j : Nat) : amt c n j < 18446744073709551616 := by
  have h1 := hok.client
  have h2 := hok.seq
  have h3 := hok.pos
  unfold amt
  split
  · exact h1
  split
  · exact h2
  split
  · omega
  split
  · omega
  split
  · exact h3
  omega
/-- The numbers of a field. -/
def fN (c : PC) (n j : Nat) : List Nat := if j = 5 then n :: rowsN c.rows else [amt c n j]
theorem fN_5 (c : PC) (n : Nat) : fN c n 5 = n :: rowsN c.rows := rfl
theorem fN_ne (c : PC) (n : Nat) {j : Nat} (h : j ≠ 5) : fN c n j = [amt c n j] := by unfold fN; rw [if_neg h]
set_option maxHeartbeats 4000000 in
theorem putF_any {w0 w : World} {base g : Nat} {v : Value} {out : List UInt8} (c : PC) {A : Option Addr} {n k : Nat} {L : List RowP} (h : Rws w0 A n k L) (hok : c.ok) (hr : c.rows = pws L) (h8 : n ≤ 8) (hS : ∀ r ∈ pws L, rowS r)
    (hb : w0.heap.size ≤ base) (hm : Mods Nil w0 w) (hlim : out.length ≤ 100000) (hw : IsWriter w base g v out) {j : Nat} (hj : j < 6) :
    Calls Try.prog 32 #[.pointer (some ⟨g, 0, none⟩), .agg (CV c A n k), .int .u8 (fI j)] w fun e w' => e = .returned (.tuple #[]) ∧ ∃ v', IsWriter w' base g v' (out ++ putAll (fN c n j)) ∧ Wrote w w' g v v' := by
  have AB := Lib.hid (Blk.new w 27 (CV c A n k))
  have m1 := (Mods.refl Nil w).alloc (.cells (CV c A n k) 27)
  have MM := Lib.hid m1
  have HW := Lib.hid (hw.nil10 m1)
  have HS := Lib.hid hS
  have HB := Lib.hid hb
  have HR := Lib.hid h
  have HM := Lib.hid (hm.trans m1)
  have HAM := Lib.hid (fun W => amount_any W c A (n := n) (k := k) (by omega) j hj)
  have ha := amt_lt hok (n := n) (by omega) j
  have hlen : (pws L).length = n := by simp [pws, h.len]
  have HLN := Lib.hid hlen
  have HP := Lib.hid (fun i => rowsP_len (n := n) (j := i) (l := pws L) h8 (by omega) hS)
  have HL1 := Lib.hid (show out.length + 9 ≤ 140737488355328 by omega)
  have HLM := Lib.hid hlim
  obtain ⟨d0, d1, d2, d3, d4, d5, d6⟩ := cv_seven AB.out
  by_cases h5 : j = 5
  · subst h5
    rw [fN_5, hr]
    have hx : amt c n 5 = n := rfl
    rw [hx] at HAM ha
    have HE : Hid (putAll (n :: rowsN (pws L)) = rowsP n (pws L) n) := Lib.hid (by unfold rowsP; rw [← hlen, List.take_length])
    rw [HE.out]
    have HZ := Lib.hid (rowsP_zero n (pws L))
    dsimp only [fI] at HAM ⊢
    clear hS hb h hm hw hok hr m1 hx hlim hlen ha
    go_enter Try.func32, Try.ntmps32
    go_wp2_with (first
      | (go_at_call 47; refine (HAM.out _).mono ?_; rintro e w2 ⟨rfl, m2⟩; have H2 := Lib.hid (HW.out.nil10 m2); have M2 := Lib.hid (HM.out.trans m2); have AB2 := Lib.hid (AB.out.mods m2 (fun h => h)); have MM2 := Lib.hid (MM.out.trans m2); clear m2)
      | (go_at_call 46; refine (wuint_any n (by omega) HL1.out H2.out).mono ?_; rintro e w3 ⟨rfl, v3, h3, r3⟩; have H3 := Lib.hid h3; have R3 := Lib.hid r3; have HM3 := Lib.hid (Wrote.on HB.out H2.out M2.out r3); have AB3 := AB2.out.mods r3.mods (fun h => by rcases h with h | h; exact Blk.ne_ AB2.out H2.out.blk (by decide) h; exact own_blk_ne H2.out.own AB2.out (by decide) h); have d6 := (cv_seven AB3).2.2.2.2.2.2; clear h3 r3 AB3))
    clear d0 d1 d2 d3 d4 d5 d6
    go_loopw [18] (fun x wr => ∃ (i : Nat) (v' : Value), i ≤ n ∧ x = .int .i64 (i : Int) ∧ IsWriter wr base g v' (out ++ rowsP n (pws L) i) ∧ Wrote w2 wr g v v' ∧ Mods Nil w0 wr) (fun x _ => n - (intOf x).toNat)
    case atStart => exact ⟨0, v3, Nat.zero_le _, rfl, by rw [HZ.out]; exact H3.out, R3.out, HM3.out⟩
    case round =>
      obtain ⟨i, v', hi, rfl, h5, r5, m5⟩ := hrel
      have H5 := Lib.hid h5
      have R5 := Lib.hid r5
      have M5 := Lib.hid m5
      clear h5 r5 m5
      by_cases hlt : i < n
      · have hiI : (i : Int) < (n : Int) := by omega
        obtain ⟨gg, off, q, rfl, hg, hq, hc0', hc1', hs, hx, -⟩ := Rws.at_ HR.out hlt
        have hc0 := (World.cell?_of_block (M5.out.block gg hg (fun h => h))).trans hc0'
        have hc1 := (World.cell?_of_block (M5.out.block gg hg (fun h => h))).trans hc1'
        have hqp : (pws L)[i]? = some q.pw := by simp [pws, hq]
        have hst := rowsP_succ (n := n) hqp
        obtain ⟨t0, t7, t4, -⟩ := HS.out _ (List.mem_of_getElem? hqp)
        have t0' : 0 ≤ q.shard := t0
        have t7' : q.shard ≤ 7 := t7
        have t4' : q.lens.length ≤ 4 := t4
        have hqs : q.pw.shard = q.shard := rfl
        have hql : q.pw.lens = q.lens := rfl
        rw [hqs, hql] at hst
        obtain ⟨s, hs7⟩ : ∃ s : Nat, q.shard = s := ⟨q.shard.toNat, by omega⟩
        rw [hs7] at hst hc0 t7'
        rw [Int.toNat_natCast] at hst
        have hst2 : rowsP n (pws L) (i + 1) = rowsP n (pws L) i ++ putAll (rowN ⟨s, q.lens⟩) := by rw [hst, rowN_put]; simp
        have HST := Lib.hid hst2
        rw [← Nat.add_assoc] at hc1
        have hl6 : (out ++ rowsP n (pws L) i).length ≤ 1000000 := by have := HP.out i; have := HLM.out; simp only [List.length_append]; omega
        have HROW : Hid (∀ W, Mods Nil wr W → Calls Try.prog 48 #[.pointer (some ⟨g, 0, none⟩), .agg #[.int .i64 (s : Int), .slice q.A q.lens.length q.cap]] W fun e w' => e = .returned (.tuple #[]) ∧ ∃ v6, IsWriter w' base g v6 (out ++ rowsP n (pws L) i ++ putAll (rowN ⟨s, q.lens⟩)) ∧ Wrote W w' g v' v6) := Lib.hid (fun W hW => putRow_any (w0 := w0) (by omega) rfl t4' hx hs HB.out (M5.out.trans hW) hl6 (H5.out.nil10 hW))
        generalize q.lens.length = m at hc1 HROW
        generalize q.A = A2 at hc1 HROW
        generalize q.cap = c2 at hc1 HROW
        generalize q.lens = xs at HROW HST
        clear hs hx hq hqp hst hst2 t0 t7 t4 t0' t7' t4' hqs hql hs7 hc0' hc1' hl6 hg
        go_wp2_with (go_at_call 48; refine (HROW.out _ ((Mods.refl Nil wr).alloc _)).mono ?_; rintro e w6 ⟨rfl, v6, h6, r6⟩; have H6 := Lib.hid h6; have R6 := Lib.hid (R5.out.trans (r6.start10 ((Mods.refl Nil wr).alloc _))); have M6 := Lib.hid (Wrote.on HB.out (H5.out.nil10 ((Mods.refl Nil wr).alloc _)) (M5.out.alloc _) r6); clear h6 r6)
        exact ⟨⟨i + 1, v6, by omega, by go_num, by rw [HST.out, ← List.append_assoc]; exact H6.out, R6.out, M6.out⟩, by simp [intOf]; omega⟩
      · obtain rfl : n = i := by omega
        go_wp2_with fail
        exact bodyPost_end (results_none rfl _ _ _) rfl ⟨rfl, v', H5.out, R5.out.start10 MM2.out⟩
  · rw [fN_ne c n h5]
    have hne := fI_32 j (by omega)
    have hx64 := ha
    have HU : Hid (putAll [amt c n j] = putU (amt c n j)) := Lib.hid (by simp [putAll])
    rw [HU.out]
    generalize amt c n j = x at HAM hx64 ⊢
    generalize fI j = F at HAM hne ⊢
    have H64 := Lib.hid hx64
    clear hS hb h hm hw hok hr m1 hlim hlen ha hx64 HU
    go_enter Try.func32, Try.ntmps32
    go_wp2_with (first
      | (go_at_call 47; refine (HAM.out _).mono ?_; rintro e w2 ⟨rfl, m2⟩; have H2 := Lib.hid (HW.out.nil10 m2); have MM2 := Lib.hid (MM.out.trans m2); clear m2)
      | (go_at_call 46; refine (wuint_any x H64.out HL1.out H2.out).mono ?_; rintro e w3 ⟨rfl, v3, h3, r3⟩; have H3 := Lib.hid h3; have R3 := Lib.hid r3; clear h3 r3))
    exact bodyPost_end (results_none rfl _ _ _) rfl ⟨rfl, v3, H3.out, R3.out.start10 MM2.out⟩
end Go.Proofs.Ytcncgjiaefjmhaa
end

section
/- Package conf: Put. -/
namespace Go.Proofs.Ytcncgjiaefjmhaa
set_option maxRecDepth 100000
open Go.RowKit
set_option linter.unusedVariables false
set_option linter.unusedSimpArgs false

/-- The numbers of the first fields. -/
def bodyJ (c : PC) (n : Nat) : Nat → List Nat
  | 0 => []
  | j + 1 => bodyJ c n j ++ (if has c.op j then fN c n j else [])
theorem bodyJ_6 {c : PC} (hok : c.ok) (h : chkC c = 0) : bodyJ c c.rows.length 6 = bodyN c := by
  obtain ⟨hr, ho⟩ := chkC_zero.1 h
  have hg := opB_range ho
  obtain ⟨op, client, seq, shard, segs, pos, rows⟩ := c
  dsimp only at *
  obtain h | h | h | h | h : op = 0 ∨ op = 1 ∨ op = 2 ∨ op = 3 ∨ op = 4 := by omega
  · subst h
    have t : has 0 0 = false ∧ has 0 1 = false ∧ has 0 2 = false ∧ has 0 3 = false ∧ has 0 4 = false ∧ has 0 5 = false := by decide
    simp [bodyJ, bodyN, t]
  · subst h
    simp [opB] at ho
    have t : has 1 0 = true ∧ has 1 1 = true ∧ has 1 2 = true ∧ has 1 3 = true ∧ has 1 4 = false ∧ has 1 5 = false := by decide
    have e1 : (shard % 18446744073709551616).toNat = shard.toNat := by omega
    have e2 : (segs % 18446744073709551616).toNat = segs.toNat := by omega
    simp [bodyJ, bodyN, t, fN, amt, e1, e2]
  · subst h
    simp [opB] at ho
    have t : has 2 0 = true ∧ has 2 1 = true ∧ has 2 2 = true ∧ has 2 3 = false ∧ has 2 4 = false ∧ has 2 5 = true := by decide
    have e1 : (shard % 18446744073709551616).toNat = shard.toNat := by omega
    simp [bodyJ, bodyN, t, fN, amt, e1]
  · subst h
    have t : has 3 0 = true ∧ has 3 1 = true ∧ has 3 2 = false ∧ has 3 3 = false ∧ has 3 4 = true ∧ has 3 5 = false := by decide
    simp [bodyJ, bodyN, t, fN, amt]
  · subst h
    have t : has 4 0 = false ∧ has 4 1 = false ∧ has 4 2 = false ∧ has 4 3 = false ∧ has 4 4 = false ∧ has 4 5 = true := by decide
    simp [bodyJ, bodyN, t, fN, amt]
theorem bodyJ_yes {c : PC} {n j : Nat} (h : has c.op j = true) : putAll (bodyJ c n (j + 1)) = putAll (bodyJ c n j) ++ putAll (fN c n j) := by
  simp [bodyJ, h, putAll_append]
theorem bodyJ_no {c : PC} {n j : Nat} (h : has c.op j = false) : bodyJ c n (j + 1) = bodyJ c n j := by simp [bodyJ, h]
theorem bodyJ_len {c : PC} (hok : c.ok) {n : Nat} (hl : c.rows.length = n) (h8 : n ≤ 8) (hS : ∀ r ∈ c.rows, rowS r) : ∀ j, (putAll (bodyJ c n j)).length ≤ 441 * j
  | 0 => by simp [bodyJ, putAll]
  | j + 1 => by
    have ih := bodyJ_len hok hl h8 hS j
    by_cases h : has c.op j = true
    · rw [bodyJ_yes h, List.length_append]
      have h2 : (putAll (fN c n j)).length ≤ 441 := by
        by_cases h5 : j = 5
        · subst h5
          have := rowsP_len (n := n) (j := c.rows.length) h8 (by omega) hS
          unfold rowsP at this
          rw [List.take_length] at this
          exact this
        · rw [fN_ne c n h5]
          have := putU_length (amt c n j) (amt_lt hok (by omega) j)
          simp [putAll]
          omega
      omega
    · rw [bodyJ_no (by simpa using h)]
      omega

set_option maxHeartbeats 4000000 in
theorem cput_bad (w : World) (c : PC) {A : Option Addr} {n k : Nat} {L : List RowP} (h : Rws w A n k L) (hok : c.ok) (hr : c.rows = pws L) (hc : chkC c = 1) :
    Calls Try.prog 16 #[.agg (CV c A n k)] w fun e w' => e = .returned (.tuple #[.slice none 0 0, .int .i64 1]) ∧ Mods Nil w w' := by
  have MM := Lib.hid ((Mods.refl Nil w).alloc (.cells (CV c A n k) 27))
  have HCH := Lib.hid (fun W (hW : Mods Nil w W) => hc ▸ ccheck_any W c hok hr (h.mods hW))
  obtain ⟨d0, d1, d2, d3, d4, d5, d6⟩ := cv_seven (Blk.new w 27 (CV c A n k))
  clear h hok hr hc
  go_enter Try.func16, Try.ntmps16
  go_wp2_with (go_at_call 18; refine (HCH.out _ MM.out).mono ?_; rintro e w2 ⟨rfl, m2⟩; have M2 := Lib.hid m2; clear m2)
  go_ret2
  exact ⟨rfl, MM.out.trans M2.out⟩

set_option maxHeartbeats 4000000 in
theorem cput_any (w : World) (c : PC) {A : Option Addr} {n k : Nat} {L : List RowP} (h : Rws w A n k L) (hok : c.ok) (hr : c.rows = pws L) (hc : chkC c = 0) :
    Calls Try.prog 16 #[.agg (CV c A n k)] w fun e w' => ∃ A' c', e = .returned (.tuple #[.slice A' (putC c).length c', .int .i64 0]) ∧ Sl w' A' c' (bts (putC c)) ∧ Mods Nil w w' ∧ ∀ a, A' = some a → w.heap.size ≤ a.block ∧ a.block < w'.heap.size := by
  have hlen : c.rows.length = n := by rw [hr]; simp [pws, h.len]
  obtain ⟨hrw, ho⟩ := chkC_zero.1 hc
  have h8 : n ≤ 8 := by have := rowsB_8 hrw; omega
  have hS := rowS_of hok hrw
  have hg := opB_range ho
  have HR := Lib.hid h
  have AB := Lib.hid (Blk.new w 27 (CV c A n k))
  have MM := Lib.hid ((Mods.refl Nil w).alloc (.cells (CV c A n k) 27))
  have HCH := Lib.hid (fun W (hW : Mods Nil w W) => hc ▸ ccheck_any W c hok hr (h.mods hW))
  have HLJ := Lib.hid (bodyJ_len hok hlen h8 hS)
  have HPF := Lib.hid (fun (W : World) (base g : Nat) (v : Value) (out : List UInt8) (hb : w.heap.size ≤ base) (hm : Mods Nil w W) (hlim : out.length ≤ 100000) (hw : IsWriter W base g v out) (j : Nat) (hj : j < 6) => putF_any c h hok hr h8 (hr ▸ hS) hb hm hlim hw hj)
  have HFIN : Hid (kbC c.op :: putAll (bodyJ c n 6) = putC c) := Lib.hid (by rw [← hlen, bodyJ_6 hok hc]; rfl)
  have hwo : IntKind.u8.wrap c.op = ((kbC c.op).toNat : Int) := by rw [kbC_toNat hg.1 hg.2, IntKind.wrap_u8']; omega
  obtain ⟨d0, d1, d2, d3, d4, d5, d6⟩ := cv_seven AB.out
  clear h hok hr hc hlen hrw ho hS hg
  generalize putC c = PCb at HFIN ⊢
  go_enter Try.func16, Try.ntmps16
  go_wp2_with (first
    | (go_at_call 18; refine (HCH.out _ MM.out).mono ?_; rintro e w2 ⟨rfl, m2⟩; have M2 := Lib.hid m2; clear m2)
    | (go_at_call 29; refine (newWriter_any _).mono ?_; rintro e w3 ⟨rfl, h3, m3⟩; have H3 := Lib.hid h3; have M3 := Lib.hid (M2.out.trans m3); have d0 := (cv_seven (AB.out.mods (M2.out.trans m3) (fun h => h))).1; clear h3 m3)
    | (go_at_call 30; refine (wraw_any (ys := [kbC c.op]) rfl (by simp) (H3.out.alloc _) (one_sl _ _ _)).mono ?_; rintro e w4 ⟨rfl, v4, h4, r4⟩; have H4 := Lib.hid h4; have M4 := Lib.hid (Wrote.on (w0 := w) (by have := M2.out.size; have := MM.out.size; omega) (H3.out.alloc _) (MM.out.trans (M3.out.alloc _)) r4); have AB4 := Lib.hid ((AB.out.mods (M3.out.alloc _) (fun h => h)).mods r4.mods (fun h => by rcases h with h | h; exact Blk.ne_ (AB.out.mods M3.out (fun h => h)) H3.out.blk (by decide) h; exact own_blk_ne H3.out.own (AB.out.mods M3.out (fun h => h)) (by decide) h)); have d0 := (cv_seven AB4.out).1; clear h4 r4)
    | (go_at_call 31; refine (ownF_any _ _).mono ?_; rintro e w' ⟨rfl, rfl⟩))
  have hsz : w.heap.size ≤ w2.heap.size := by have := M2.out.size; have := MM.out.size; omega
  have HSZ := Lib.hid hsz
  clear d0 d1 d2 d3 d4 d5 d6 hsz hwo
  go_loopw [7] (fun x wr => ∃ (j : Nat) (v' : Value), j ≤ 6 ∧ x = .int .u8 (fI j) ∧ IsWriter wr w2.heap.size w2.heap.size v' (kbC c.op :: putAll (bodyJ c n j)) ∧ Mods Nil w wr ∧ Blk wr w.heap.size 27 (CV c A n k)) (fun x _ => 64 - (intOf x).toNat)
  case atStart => exact ⟨0, v4, Nat.zero_le _, rfl, by simpa [bodyJ, putAll] using H4.out, M4.out, AB4.out⟩
  case round =>
    obtain ⟨j, v', hj, rfl, h5, m5, ab5⟩ := hrel
    have H5 := Lib.hid h5
    have M5 := Lib.hid m5
    have AB5 := Lib.hid ab5
    obtain ⟨d0, d1, d2, d3, d4, d5, d6⟩ := cv_seven ab5
    clear h5 m5 ab5
    by_cases hlt : j < 6
    · have hle := fI_le j hlt
      have hps := fI_pos j hlt
      have hsu := fI_succ j hlt
      have hlt2 := fI_lt j hlt
      have hand := and_own c.op j hlt
      have HL5 := Lib.hid (show (kbC c.op :: putAll (bodyJ c n j)).length ≤ 100000 by have := HLJ.out j; simp only [List.length_cons]; omega)
      have HP := Lib.hid (fun W (hW : Mods Nil wr W) => HPF.out W w2.heap.size w2.heap.size v' (kbC c.op :: putAll (bodyJ c n j)) HSZ.out (M5.out.trans hW) HL5.out (H5.out.nil10 hW) j hlt)
      have HY := Lib.hid (fun h => bodyJ_yes (c := c) (n := n) (j := j) h)
      have HNO := Lib.hid (fun h => bodyJ_no (c := c) (n := n) (j := j) h)
      obtain ⟨F, hFI⟩ : ∃ F, fI j = F := ⟨_, rfl⟩
      obtain ⟨F', hFI'⟩ : ∃ F, fI (j + 1) = F := ⟨_, rfl⟩
      rw [hFI] at hle hps hsu hand HP hlt2 ⊢
      rw [hFI'] at hsu hlt2
      have HFI' := Lib.hid hFI'
      clear hFI hFI'
      by_cases hh : has c.op j = true
      · rw [if_pos hh] at hand
        have hne : (F != 0) = true := by simp; omega
        have HYY := Lib.hid (HY.out hh)
        clear hh
        go_wp2_with (go_at_call 32; refine (HP.out _ (Mods.refl Nil wr)).mono ?_; rintro e w6 ⟨rfl, v6, h6, r6⟩; have H6 := Lib.hid h6; have M6 := Lib.hid (Wrote.on HSZ.out H5.out M5.out r6); have AB6 := Lib.hid (AB5.out.mods r6.mods (fun h => by rcases h with h | h; exact Blk.ne_ AB5.out H5.out.blk (by decide) h; exact own_blk_ne H5.out.own AB5.out (by decide) h)); clear h6 r6)
        exact ⟨⟨j + 1, v6, by omega, by rw [HFI'.out], by rw [HYY.out, ← List.cons_append]; exact H6.out, M6.out, AB6.out⟩, by simp only [intOf]; omega⟩
      · rw [if_neg hh] at hand
        have HNN := Lib.hid (HNO.out (by simpa using hh))
        clear hh
        go_wp2_with fail
        exact ⟨⟨j + 1, v', by omega, by rw [HFI'.out], by rw [HNN.out]; exact H5.out, M5.out, AB5.out⟩, by simp only [intOf]; omega⟩
    · obtain rfl : j = 6 := by omega
      have e6 : fI 6 = 64 := rfl
      have h5 := H5.out
      rw [HFIN.out] at h5
      have hl : PCb.length ≤ 140737488355328 := by have := HLJ.out 6; rw [← HFIN.out]; simp only [List.length_cons]; omega
      have H5' := Lib.hid h5
      have HL := Lib.hid hl
      clear h5 hl
      go_wp2_with (go_at_call 33; refine (out_any rfl HL.out H5'.out).mono ?_; rintro e w6 ⟨A6, c6, rfl, s6, b6, m6⟩; have S6 := Lib.hid s6; have B6 := Lib.hid b6; have M6 := Lib.hid m6; clear s6 b6 m6)
      go_ret2
      have hs5 := M5.out.size
      exact ⟨A6, c6, rfl, S6.out, M5.out.trans M6.out, fun a ha => by have := B6.out a ha; omega⟩
end Go.Proofs.Ytcncgjiaefjmhaa
end
