/- Texts laid as one: Confc, Confd, Confe, Conff. -/
import Derived.Test.YtcncgjiaefjmhaaConfM3
import Derived.Test.YtcncgjiaefjmhaaRowsO

section
/- Package conf: getRows. -/
namespace Go.Proofs.Ytcncgjiaefjmhaa
set_option maxRecDepth 100000
open Go.RowKit
set_option linter.unusedVariables false
set_option linter.unusedSimpArgs false

theorem infoCRow : (Try.prog.info? 50).map (fun i => (i.zero, i.size, i.bytes)) = some (some (.agg #[.int .i64 0, .slice none 0 0]), 2, 32) := by kernel_rfl
/-- What the rows' reading leaves. -/
def RowsTold (w : World) (g : Nat) (k : Option Nat) (n : Nat) (r : Int × List UInt8 × List PW) (e : Ending) (w' : World) : Prop :=
  ∃ A m c, e = .returned (.tuple #[.slice A m c, .int .i64 r.1]) ∧ Mods (· = g) w w' ∧ (r.1 = 0 → IsReader w' g k 0 r.2.1 ∧ ∃ L, r.2.2 = pws L ∧ m = n ∧ Rws w' A m c L ∧ Rfar w.heap.size A L)
set_option maxHeartbeats 4000000 in
theorem getRows_any {w : World} {g : Nat} {k : Option Nat} {xs : List UInt8} {n : Nat} (hn : n ≤ 8) (hlim : xs.length ≤ 140737488355328) (hk : ∀ q, k = some q → q < w.heap.size) (h : IsReader w g k 0 xs) :
    Calls Try.prog 53 #[.pointer (some ⟨g, 0, none⟩), .int .u64 (n : Int)] w (RowsTold w g k n (rowsF n xs)) := by
  have HGL := Lib.hid h.lt
  have HK := Lib.hid hk
  have HR := Lib.hid h
  have HLIM := Lib.hid hlim
  clear h hk hlim
  obtain ⟨i0, hi, hz0, hz1, hz2⟩ := info_parts infoCRow
  go_enter Try.func53, Try.ntmps53
  go_wp2_with fail
  go_loopw [6, 10] (fun p x wr => ∃ (i : Nat) (L : List RowP) (ys : List UInt8), i ≤ n ∧ x = .int .u64 (i : Int) ∧ (rowsF i xs).1 = 0 ∧ (rowsF i xs).2.1 = ys ∧ (rowsF i xs).2.2 = pws L ∧ L.length = i ∧ OwnR 50 w.heap.size wr p L ∧ (∀ q ∈ L, q.off (fun k => k < w.heap.size)) ∧ IsReader wr g k 0 ys ∧ Mods (· = g) w wr) (fun _ x _ => n - (intOf x).toNat)
  case atStart => exact ⟨0, [], xs, Nat.zero_le _, rfl, rfl, rfl, rfl, rfl, OwnR.nil _ _ _, by simp, HR.out, Mods.refl _ _⟩
  case round =>
    obtain ⟨i, L, ys, hi', rfl, hz, hys, hL, hLn, o5, off5, r5, m5⟩ := hrel
    have O5 := Lib.hid o5
    have OFF5 := Lib.hid off5
    have R5 := Lib.hid r5
    have M5 := Lib.hid m5
    have HZ := Lib.hid hz
    have HYS := Lib.hid hys
    have HLL := Lib.hid hL
    have HLN := Lib.hid hLn
    have HI0 := Lib.hid hi
    have hyl : ys.length ≤ 140737488355328 := by have := rowsF_rest i xs; rw [hys] at this; have := HLIM.out; omega
    by_cases hlt : i < n
    · have hltI : (i : Int) < (n : Int) := by omega
      have HST := Lib.hid (rowsF_snoc i xs)
      rw [if_neg (by simp [hz]), hys, hL] at HST
      have HGR := Lib.hid (getRow_any hyl (fun q hq => Nat.lt_of_lt_of_le (HK.out q hq) m5.size) r5)
      have HOK := Lib.hid (fun h => rowR_ok (xs := ys) h)
      have HERR := Lib.hid (fun (h : (rowsF (i + 1) xs).1 ≠ 0) => rowsF_err h (n - (i + 1)))
      have hni : i + 1 + (n - (i + 1)) = n := by omega
      rw [hni] at HERR
      generalize rowR ys = RW at HST HGR HOK
      obtain ⟨e1, zs, pw⟩ := RW
      dsimp only at HST HOK
      have HYL := Lib.hid hyl
      clear o5 off5 r5 m5 hz hys hL hLn hi hyl hni hi'
      by_cases h1 : e1 = 0
      · subst h1
        rw [if_neg (by simp)] at HST
        go_wp2_with (first
          | (go_at_call 58; refine (HGR.out).mono ?_; rintro e w2 ⟨s, A, m, c, rfl, m2, t2⟩; obtain ⟨r2, hs2, hm2, o2⟩ := t2 rfl; dsimp only at r2 hs2 hm2 o2; have R2 := Lib.hid r2; have M2 := Lib.hid m2; have O2 := Lib.hid o2; have HS2 := Lib.hid hs2; have HM2 := Lib.hid hm2; have O6 := Lib.hid (O5.out.mods m2 (fun q hq h => by have := (O5.out.own.lt q hq).1; have := HGL.out; omega) (fun q hq hne a ha h => OFF5.out q hq hne a ha (by have := HGL.out; omega))); clear r2 m2 o2 hs2 hm2 t2)
          | (at_builtin; refine wpList_append_own_at _ rfl _ _ 25 rfl w.heap.size 50 i0 (.agg #[.int .i64 0, .slice none 0 0]) 2 32 Try.underlying25 HI0.out hz0 hz1 hz2 rfl (by decide) u6 i (rcs L) rfl (by have := ((O6.out.nilm ((Mods.refl Nil w2).alloc (.cells #[.int .i64 s, .slice A m c] 50))).nilm ((Mods.refl Nil _).alloc (.cells #[.int .i64 s, .slice A m c] 50))).own; rw [HLN.out] at this; exact this) ⟨w2.heap.size + 1, 0, none⟩ 1 1 [.int .i64 s, .slice A m c] rfl rfl (two_at10 (by simp)) (by simp [Value.oneCell']) (by unfold maxLen; omega) (by omega) (by have := M5.out.size; have := M2.out.size; simp; omega) ?_; intro v' w3 hown hgrow _ hblk; have HOWN := Lib.hid hown; have HGROW := Lib.hid hgrow; have HBLK := Lib.hid hblk; clear hown hgrow hblk))
        obtain ⟨hx, hs0, hs7, hl4⟩ := HOK.out (by first | rfl | trivial)
        have hss := HS2.out
        have hp : OwnR 50 w.heap.size w3 v' (L ++ [⟨s, A, c, pw.lens⟩]) := OwnR.push O6.out (own_sl10 O2.out) hx (by show _ ≤ s ∧ s ≤ _; omega) (fun hne a ha hk => by
            have h1 := (O5.out.own.lt _ hk).2
            have h2 := (O2.out.lt a.block (by subst ha; rfl)).1
            omega) (((Mods.refl Nil w2).alloc _).alloc _) (by show World.ownsRow _ _ _ _ _ (L.length + 1) (rcs L ++ [.int .i64 s, .slice A pw.lens.length c]); rw [HLN.out, HM2.out]; exact HOWN.out) HGROW.out HBLK.out
        have mg : Mods (fun k => u6.ownBlock = some k) w2 w3 := (((Mods.refl _ w2).alloc _).alloc _).grown HGROW.out (fun k hk _ => hk)
        refine ⟨?_, by simp [intOf]; omega⟩
        refine ⟨i + 1, L ++ [⟨s, A, c, pw.lens⟩], zs, by omega, by go_num, by rw [HST.out], by rw [HST.out], ?_, by simp [HLN.out], hp, ?_, R2.out.mods mg (fun h => by have := (O6.out.own.lt _ h).1; have := HGL.out; omega) (fun q hq h => by have := (O6.out.own.lt _ h).1; have := HK.out q hq; omega), (M5.out.trans M2.out).trans2 mg (fun i hi h => by have := (O6.out.own.lt _ h).1; omega)⟩
        · rw [HST.out]
          simp only [pws, List.map_append, List.map_cons, List.map_nil, RowP.pw]
          rw [← hss]
        · intro q hq
          rcases List.mem_append.1 hq with hq | hq
          · exact OFF5.out q hq
          · rw [List.mem_singleton.1 hq]
            intro hne a ha hk
            have h2 := (O2.out.lt a.block (by subst ha; rfl)).1
            have h3 := M5.out.size
            omega
      · have hE : (rowsF n xs).1 = e1 := by
          have h2 : (rowsF (i + 1) xs).1 = e1 := by rw [HST.out, if_pos h1]
          rw [← h2]
          exact HERR.out (by rw [h2]; exact h1)
        have hne : (e1 != 0) = true := by simp [h1]
        have H1 := Lib.hid h1
        have HE := Lib.hid hE
        generalize rowsF n xs = RF at HE ⊢
        clear h1 hE HST HERR HOK
        go_wp2_with (first
          | (go_at_call 58; refine (HGR.out).mono ?_; rintro e w2 ⟨s, A, m, c, rfl, m2, -⟩; have M2 := Lib.hid m2; clear m2))
        go_ret2
        exact ⟨none, 0, 0, by rw [HE.out]; rfl, (M5.out.trans M2.out).alloc _, fun h => absurd (HE.out ▸ h) H1.out⟩
    · obtain rfl : n = i := by omega
      obtain ⟨A, c, rfl, hR, hF⟩ := o5.rws
      have HRW := Lib.hid hR
      have HRF := Lib.hid (hF off5)
      clear o5 off5 r5 m5 hz hys hL hi hR hF
      go_wp2_with fail
      go_ret2
      exact ⟨A, L.length, c, by rw [HZ.out]; rfl, M5.out, fun _ => ⟨by rw [HYS.out]; exact R5.out, L, HLL.out, HLN.out, HRW.out, HRF.out⟩⟩
end Go.Proofs.Ytcncgjiaefjmhaa
end

section
/- Package conf: getField. -/
namespace Go.Proofs.Ytcncgjiaefjmhaa
set_option maxRecDepth 100000
open Go.RowKit
set_option linter.unusedVariables false
set_option linter.unusedSimpArgs false

/-- The rows of a command in a box: where they lie. -/
def RowsIn (B : Nat) (w : World) (c : PC) (A : Option Addr) (n k : Nat) : Prop := ∃ L, c.rows = pws L ∧ Rws w A n k L ∧ Rfar B A L
theorem RowsIn.mods {S : Nat → Prop} {B : Nat} {w w' : World} {c : PC} {A : Option Addr} {n k : Nat} (h : RowsIn B w c A n k) (hm : Mods S w w') (hS : ∀ i, S i → i < B) : RowsIn B w' c A n k := by
  obtain ⟨L, h1, h2, h3⟩ := h
  exact ⟨L, h1, h2.modsB h3 hm hS, h3⟩
theorem RowsIn.nil (B : Nat) (w : World) {c : PC} (h : c.rows = []) : RowsIn B w c none 0 0 := ⟨[], h, Rws.nil w, Rfar.nil _ _⟩
theorem setC_rows (c : PC) (j x : Nat) : (setC c j x).rows = c.rows := by
  unfold setC
  split
  · rfl
  split
  · rfl
  split
  · rfl
  split <;> rfl
/-- What a field's reading leaves. -/
def FldTold (w : World) (B G g : Nat) (k : Option Nat) (t : Int × List UInt8 × PC) (e : Ending) (w' : World) : Prop :=
  ∃ c' A' n' k', e = .returned (.int .i64 t.1) ∧ Blk w' G 27 (CV c' A' n' k') ∧ Mods (fun i => i = G ∨ i = g) w w' ∧ (t.1 = 0 → c' = t.2.2 ∧ IsReader w' g k 0 t.2.1 ∧ RowsIn B w' c' A' n' k')
theorem fldR_bad {j : Nat} {c : PC} {xs : List UInt8} (h : numE xs (bLo j) (bHi j) ≠ 0) : (fldR j c xs).1 = numE xs (bLo j) (bHi j) := by
  unfold numE at h ⊢
  unfold fldR
  split
  · rfl
  · rename_i h1
    rw [if_neg h1] at h
    by_cases h2 : (readUint 0 xs).2.2 < bLo j ∨ bHi j < (readUint 0 xs).2.2
    · rw [if_pos h2, if_pos h2]
    · rw [if_neg h2] at h; exact absurd rfl h
theorem fldR_num {j : Nat} (hj : j ≠ 5) {c : PC} {xs : List UInt8} (h : numE xs (bLo j) (bHi j) = 0) : fldR j c xs = (0, (readUint 0 xs).2.1, setC c j (readUint 0 xs).2.2) := by
  obtain ⟨h1, h2, h3⟩ := numE_zero.1 h
  unfold fldR
  rw [if_neg (by simp [h1]), if_neg (by omega), if_neg hj]
theorem fldR_rows {c : PC} {xs : List UInt8} (h : numE xs (bLo 5) (bHi 5) = 0) : fldR 5 c xs = if (rowsF (readUint 0 xs).2.2 (readUint 0 xs).2.1).1 ≠ 0 then ((rowsF (readUint 0 xs).2.2 (readUint 0 xs).2.1).1, [], c) else (0, (rowsF (readUint 0 xs).2.2 (readUint 0 xs).2.1).2.1, { c with rows := (rowsF (readUint 0 xs).2.2 (readUint 0 xs).2.1).2.2 }) := by
  obtain ⟨h1, h2, h3⟩ := numE_zero.1 h
  unfold fldR
  rw [if_neg (by simp [h1]), if_neg (by omega), if_pos rfl]
theorem CV_rows (c : PC) (A : Option Addr) (n k : Nat) (A' : Option Addr) (n' k' : Nat) (l : List PW) : (CV c A n k).setIfInBounds 6 (.slice A' n' k') = CV { c with rows := l } A' n' k' := rfl
set_option maxHeartbeats 4000000 in
theorem getF_any {w : World} {B G g : Nat} {k : Option Nat} {c : PC} {A : Option Addr} {n kk : Nat} {xs : List UInt8} (hlim : xs.length ≤ 140737488355328) (hB : Blk w G 27 (CV c A n kk)) (hr : IsReader w g k 0 xs) (hin : RowsIn B w c A n kk)
    (hGB : G < B) (hgB : g < B) (hBw : B ≤ w.heap.size) (hk : ∀ q, k = some q → q < w.heap.size ∧ q ≠ G) {j : Nat} (hj : j < 6) :
    Calls Try.prog 42 #[.pointer (some ⟨G, 0, none⟩), .pointer (some ⟨g, 0, none⟩), .int .u8 (fI j)] w (FldTold w B G g k (fldR j c xs)) := by
  have hne : G ≠ g := by obtain ⟨_, A, c, hb, _⟩ := hr; exact Blk.ne_ hB hb (by decide)
  have HB := Lib.hid hB
  have HI := Lib.hid hin
  have HK := Lib.hid hk
  have HL := Lib.hid hlim
  have HN := Lib.hid (getNum_any (bLo j) (bHi j) hlim hr)
  have HBD := Lib.hid (fun W => bounds_any W j hj)
  have HGB := Lib.hid hGB
  have HgB := Lib.hid hgB
  have HBW := Lib.hid hBw
  have HNE := Lib.hid hne
  clear hB hin hk hr hGB hgB hBw hne
  by_cases hE : numE xs (bLo j) (bHi j) = 0
  · obtain ⟨h1, h2, h3⟩ := numE_zero.1 hE
    have hX : numX xs (bLo j) (bHi j) = (readUint 0 xs).2.2 := by unfold numX; rw [if_pos hE]
    rw [hE, hX] at HN
    have hyl := readUint_le xs 0
    by_cases h5 : j = 5
    · subst h5
      have HF := Lib.hid (fldR_rows (c := c) hE)
      obtain ⟨x, hx⟩ : ∃ x, (readUint 0 xs).2.2 = x := ⟨_, rfl⟩
      obtain ⟨ys, hys⟩ : ∃ ys, (readUint 0 xs).2.1 = ys := ⟨_, rfl⟩
      rw [hx] at HN HF h3
      rw [hys] at HN HF hyl
      generalize fldR 5 c xs = RF at HF ⊢
      have hx8 : x ≤ 8 := h3
      have HX8 := Lib.hid hx8
      have HYL := Lib.hid (show ys.length ≤ 140737488355328 by omega)
      have HGR := Lib.hid (fun W (hW : IsReader W g k 0 ys) (hkW : ∀ q, k = some q → q < W.heap.size) => getRows_any HX8.out HYL.out hkW hW)
      generalize rowsF x ys = RW at HF HGR
      obtain ⟨e1, zs, l⟩ := RW
      dsimp only at HF
      dsimp only [fI] at HBD ⊢
      clear h1 h2 h3 hE hX hx hys hyl hx8 hlim
      go_enter Try.func42, Try.ntmps42
      go_wp2_with (first
        | (go_at_call 50; refine (HBD.out _).mono ?_; rintro e w' ⟨rfl, rfl⟩)
        | (go_at_call 52; refine (HN.out).mono ?_; rintro e w2 ⟨rfl, m2, r2⟩; have R2 := Lib.hid (r2 (by first | rfl | trivial)); have M2 := Lib.hid m2; clear m2 r2)
        | (go_at_call 53; refine (HGR.out _ R2.out (fun q hq => Nat.lt_of_lt_of_le (HK.out q hq).1 M2.out.size)).mono ?_; rintro e w3 ⟨A3, m3, c3, rfl, m3', t3⟩; have M3 := Lib.hid (M2.out.trans m3'); have MS3 := Lib.hid m3'; have T3 := Lib.hid t3; have b3 := (HB.out.mods M2.out HNE.out).mods m3' HNE.out; have HB3 := Lib.hid b3; obtain ⟨y0, y1, y2, y3, y4, y5, y6⟩ := cv_seven b3; have z6 := b3.frozen 6; clear m3' t3 b3))
      have hset : Mods (· = G) w3 (w3.setCell ⟨G, 6, none⟩ (.slice A3 m3 c3)) := Mods.setCell (S := (· = G)) (Mods.refl _ _) (fun _ => rfl) _
      have mm : Mods (fun i => i = G ∨ i = g) w (w3.setCell ⟨G, 6, none⟩ (.slice A3 m3 c3)) := (M3.out.mono (fun _ _ h => .inr h)).trans (hset.mono (fun _ _ h => .inl h))
      have bF := HB3.out.set_ 6 (.slice A3 m3 c3)
      rw [CV_rows c A n kk A3 m3 c3 l] at bF
      refine bodyPost_ret (results_tmp rfl _ _ _) rfl ?_
      by_cases h0 : e1 = 0
      · subst h0
        rw [HF.out, if_neg (by simp)]
        obtain ⟨r3, L, hL, hm, hR, hRf⟩ := T3.out rfl
        try dsimp only at hL r3
        refine ⟨_, A3, m3, c3, rfl, bF, mm, fun _ => ⟨rfl, r3.mods hset (fun h => HNE.out h.symm) (fun q hq h => (HK.out q hq).2 h), L, hL, ?_, ?_⟩⟩
        · have hG2 : ∀ i, i = G → i < w2.heap.size := fun i h => by have := HGB.out; have := HBW.out; have := M2.out.size; omega
          exact hR.modsB hRf hset hG2
        · exact hRf.mono (by have := HBW.out; have := M2.out.size; omega)
      · rw [HF.out, if_pos h0]
        exact ⟨_, A3, m3, c3, rfl, bF, mm, fun h => absurd h h0⟩
    · have HF := Lib.hid (fldR_num h5 (c := c) hE)
      have hne := fI_32 j (by omega)
      obtain ⟨x, hx⟩ : ∃ x, (readUint 0 xs).2.2 = x := ⟨_, rfl⟩
      obtain ⟨ys, hys⟩ : ∃ ys, (readUint 0 xs).2.1 = ys := ⟨_, rfl⟩
      rw [hx] at HN HF h3
      rw [hys] at HN HF hyl
      generalize fldR j c xs = RF at HF ⊢
      obtain rfl := HF.out
      have HS := Lib.hid (fun W (hW : Blk W G 27 (CV c A n kk)) => setNum_any hW j (by omega) h3)
      have HSR := Lib.hid (setC_rows c j x)
      generalize setC c j x = c2 at HS HSR ⊢
      generalize fI j = F at HBD HS hne ⊢
      generalize bLo j = a at HBD HN
      generalize bHi j = b at HBD HN
      clear h1 h2 h3 hE hX hx hys hyl hlim HF h5
      go_enter Try.func42, Try.ntmps42
      go_wp2_with (first
        | (go_at_call 50; refine (HBD.out _).mono ?_; rintro e w' ⟨rfl, rfl⟩)
        | (go_at_call 52; refine (HN.out).mono ?_; rintro e w2 ⟨rfl, m2, r2⟩; have R2 := Lib.hid (r2 (by first | rfl | trivial)); have M2 := Lib.hid m2; have HB2 := Lib.hid (HB.out.mods m2 HNE.out); clear m2 r2)
        | (go_at_call 54; refine (HS.out _ HB2.out).mono ?_; rintro e w3 ⟨rfl, b3, m3⟩; have B3 := Lib.hid b3; have M3 := Lib.hid m3; clear b3 m3))
      have mm : Mods (fun i => i = G ∨ i = g) w w3 := (M2.out.mono (fun _ _ h => .inr h)).trans (M3.out.mono (fun _ _ h => .inl h))
      refine bodyPost_ret (results_tmp rfl _ _ _) rfl ⟨c2, A, n, kk, rfl, B3.out, mm, fun _ => ⟨rfl, R2.out.mods M3.out (fun h => HNE.out h.symm) (fun q hq h => (HK.out q hq).2 h), ?_⟩⟩
      obtain ⟨L, hL, hR, hRf⟩ := HI.out
      exact ⟨L, by rw [HSR.out, hL], hR.modsB hRf mm (fun i h => by have := HGB.out; have := HgB.out; rcases h with rfl | rfl <;> assumption), hRf⟩
  · have HF := Lib.hid (fldR_bad (c := c) hE)
    have H1 := Lib.hid hE
    have hne : (numE xs (bLo j) (bHi j) != 0) = true := by simp [hE]
    generalize fldR j c xs = RF at HF ⊢
    generalize numE xs (bLo j) (bHi j) = E at HN HF H1 hne
    generalize numX xs (bLo j) (bHi j) = X at HN
    generalize fI j = F at HBD ⊢
    generalize bLo j = a at HBD HN
    generalize bHi j = b at HBD HN
    clear hE hlim
    go_enter Try.func42, Try.ntmps42
    go_wp2_with (first
      | (go_at_call 50; refine (HBD.out _).mono ?_; rintro e w' ⟨rfl, rfl⟩)
      | (go_at_call 52; refine (HN.out).mono ?_; rintro e w2 ⟨rfl, m2, -⟩; have M2 := Lib.hid m2; have HB2 := Lib.hid (HB.out.mods m2 HNE.out); clear m2))
    exact bodyPost_ret (results_tmp rfl _ _ _) rfl ⟨c, A, n, kk, by rw [HF.out]; rfl, HB2.out, M2.out.mono (fun _ _ h => .inr h), fun h => absurd (HF.out ▸ h) H1.out⟩
end Go.Proofs.Ytcncgjiaefjmhaa
end

section
/- Package conf: getFields. -/
namespace Go.Proofs.Ytcncgjiaefjmhaa
set_option maxRecDepth 100000
open Go.RowKit
set_option linter.unusedVariables false
set_option linter.unusedSimpArgs false

/-- What the fields' reading says. -/
def fldsE (t : Int × List UInt8 × PC) : Int := if t.1 ≠ 0 then t.1 else if t.2.1 = [] then 0 else 12
def FldsTold (w : World) (B G g : Nat) (t : Int × List UInt8 × PC) (e : Ending) (w' : World) : Prop :=
  ∃ c' A' n' k', e = .returned (.int .i64 (fldsE t)) ∧ Blk w' G 27 (CV c' A' n' k') ∧ Mods (fun i => i = G ∨ i = g) w w' ∧ (fldsE t = 0 → c' = t.2.2 ∧ RowsIn B w' c' A' n' k')
theorem chain_err {j : Nat} {fs : List Nat} {c : PC} {xs : List UInt8} (h : (fldR j c xs).1 ≠ 0) : chain (j :: fs) c xs = ((fldR j c xs).1, [], {}) := by rw [chain, if_pos h]
theorem chain_ok {j : Nat} {fs : List Nat} {c : PC} {xs : List UInt8} (h : (fldR j c xs).1 = 0) : chain (j :: fs) c xs = chain fs (fldR j c xs).2.2 (fldR j c xs).2.1 := by rw [chain, if_neg (by simp [h])]
theorem setC_op (c : PC) (j x : Nat) : (setC c j x).op = c.op := by
  unfold setC
  split
  · rfl
  split
  · rfl
  split
  · rfl
  split <;> rfl
theorem fldR_op (j : Nat) (c : PC) (xs : List UInt8) : (fldR j c xs).2.2.op = c.op := by
  unfold fldR
  split
  · rfl
  split
  · rfl
  split
  · split <;> rfl
  · exact setC_op _ _ _
set_option maxHeartbeats 4000000 in
theorem getFs_any {w : World} {G g : Nat} {k : Option Nat} {c : PC} {A : Option Addr} {n kk : Nat} {xs : List UInt8} (hlim : xs.length ≤ 140737488355328) (hB : Blk w G 27 (CV c A n kk)) (hr : IsReader w g k 0 xs) (hin : RowsIn w.heap.size w c A n kk)
    (hk : ∀ q, k = some q → q < w.heap.size ∧ q ≠ G) :
    Calls Try.prog 23 #[.pointer (some ⟨G, 0, none⟩), .pointer (some ⟨g, 0, none⟩)] w (FldsTold w w.heap.size G g (chain (ownFrom c.op 0) c xs)) := by
  have HGL := Lib.hid hB.lt
  have HgL := Lib.hid hr.lt
  have HB := Lib.hid hB
  have HR := Lib.hid hr
  have HI := Lib.hid hin
  have HK := Lib.hid hk
  have HL := Lib.hid hlim
  obtain ⟨d0, d1, d2, d3, d4, d5, d6⟩ := cv_seven hB
  generalize hT : chain (ownFrom c.op 0) c xs = T
  have HT := Lib.hid hT
  clear hB hin hk hr hlim hT
  go_enter Try.func23, Try.ntmps23
  go_wp2_with (go_at_call 31; refine (ownF_any _ _).mono ?_; rintro e w' ⟨rfl, rfl⟩)
  clear d0 d1 d2 d3 d4 d5 d6
  go_loopw [6] (fun x wr => ∃ (j : Nat) (c1 : PC) (A1 : Option Addr) (n1 k1 : Nat) (ys : List UInt8), j ≤ 6 ∧ x = .int .u8 (fI j) ∧ T = chain (ownFrom c.op j) c1 ys ∧ ys.length ≤ 140737488355328 ∧ Blk wr G 27 (CV c1 A1 n1 k1) ∧ IsReader wr g k 0 ys ∧ RowsIn w.heap.size wr c1 A1 n1 k1 ∧ Mods (fun i => i = G ∨ i = g) w wr) (fun x _ => 64 - (intOf x).toNat)
  case atStart => exact ⟨0, c, A, n, kk, xs, Nat.zero_le _, rfl, HT.out.symm, HL.out, HB.out, HR.out, HI.out, Mods.refl _ _⟩
  case round =>
    obtain ⟨j, c1, A1, n1, k1, ys, hj, rfl, hT1, hyl, b5, r5, i5, m5⟩ := hrel
    have HT1 := Lib.hid hT1
    have HYL := Lib.hid hyl
    have B5 := Lib.hid b5
    have R5 := Lib.hid r5
    have I5 := Lib.hid i5
    have M5 := Lib.hid m5
    clear hT1 hyl b5 r5 i5 m5 HT
    by_cases hlt : j < 6
    · have hle := fI_le j hlt
      have hps := fI_pos j hlt
      have hsu := fI_succ j hlt
      have hlt2 := fI_lt j hlt
      have hand := and_own c.op j hlt
      have HF := Lib.hid (fun W (hb : Blk W G 27 (CV c1 A1 n1 k1)) (hrd : IsReader W g k 0 ys) (hi : RowsIn w.heap.size W c1 A1 n1 k1) (hs : w.heap.size ≤ W.heap.size) (hkW : ∀ q, k = some q → q < W.heap.size ∧ q ≠ G) => getF_any HYL.out hb hrd hi HGL.out HgL.out hs hkW hlt)
      have HY := Lib.hid (fun h => ownFrom_yes (op := c.op) hlt h)
      have HNO := Lib.hid (fun h => ownFrom_no (op := c.op) hlt h)
      obtain ⟨F, hFI⟩ : ∃ F, fI j = F := ⟨_, rfl⟩
      obtain ⟨F', hFI'⟩ : ∃ F, fI (j + 1) = F := ⟨_, rfl⟩
      rw [hFI] at hle hps hsu hand HF hlt2 ⊢
      rw [hFI'] at hsu hlt2
      have HFI' := Lib.hid hFI'
      clear hFI hFI'
      by_cases hh : has c.op j = true
      · rw [if_pos hh] at hand
        have hne : (F == 0) = false := by rw [beq_eq_false_iff_ne]; omega
        have HE := Lib.hid (fun h => chain_err (j := j) (fs := ownFrom c.op (j + 1)) (c := c1) (xs := ys) h)
        have HO := Lib.hid (fun h => chain_ok (j := j) (fs := ownFrom c.op (j + 1)) (c := c1) (xs := ys) h)
        have hT2 := HT1.out
        rw [HY.out hh] at hT2
        have HT2 := Lib.hid hT2
        have HRE := Lib.hid (fldR_rest j c1 ys)
        clear hh hT2
        generalize fldR j c1 ys = FR at HF HE HO HRE
        obtain ⟨e1, zs, c2⟩ := FR
        dsimp only at HE HO HRE
        by_cases h1 : e1 = 0
        · subst h1
          have HO2 := Lib.hid (HO.out rfl)
          clear HE HO
          go_wp2_with (go_at_call 42; refine (HF.out _ B5.out R5.out I5.out M5.out.size (fun q hq => ⟨Nat.lt_of_lt_of_le (HK.out q hq).1 M5.out.size, (HK.out q hq).2⟩)).mono ?_; rintro e w6 ⟨c', A', n', k', rfl, b6, m6, t6⟩; obtain ⟨rfl, r6, i6⟩ := t6 rfl; have B6 := Lib.hid b6; have M6 := Lib.hid (M5.out.trans m6); have R6 := Lib.hid r6; have I6 := Lib.hid i6; clear b6 m6 t6 r6 i6)
          exact ⟨⟨j + 1, c', A', n', k', zs, by omega, by rw [HFI'.out], by rw [HT2.out]; exact HO2.out, by have := HRE.out; have := HYL.out; omega, B6.out, R6.out, I6.out, M6.out⟩, by simp only [intOf]; omega⟩
        · have HE2 := Lib.hid (HE.out h1)
          have H1 := Lib.hid h1
          have hne1 : (e1 != 0) = true := by simp [h1]
          have HFE : Hid (fldsE T = e1) := Lib.hid (by rw [HT2.out, HE2.out]; unfold fldsE; rw [if_pos h1])
          clear HE HO h1
          go_wp2_with (go_at_call 42; refine (HF.out _ B5.out R5.out I5.out M5.out.size (fun q hq => ⟨Nat.lt_of_lt_of_le (HK.out q hq).1 M5.out.size, (HK.out q hq).2⟩)).mono ?_; rintro e w6 ⟨c', A', n', k', rfl, b6, m6, -⟩; have B6 := Lib.hid b6; have M6 := Lib.hid (M5.out.trans m6); clear b6 m6)
          exact bodyPost_ret (results_tmp rfl _ _ _) rfl ⟨c', A', n', k', by rw [HFE.out]; rfl, B6.out, M6.out, fun h => absurd (HFE.out ▸ h) H1.out⟩
      · rw [if_neg hh] at hand
        have hT2 := HT1.out
        rw [HNO.out (by simpa using hh)] at hT2
        have HT2 := Lib.hid hT2
        clear hh hT2
        go_wp2_with fail
        exact ⟨⟨j + 1, c1, A1, n1, k1, ys, by omega, by rw [HFI'.out], HT2.out, HYL.out, B5.out, R5.out, I5.out, M5.out⟩, by simp only [intOf]; omega⟩
    · obtain rfl : j = 6 := by omega
      have e6 : fI 6 = 64 := rfl
      have HTE : Hid (T = (0, ys, c1)) := Lib.hid (by rw [HT1.out, ownFrom_6]; rfl)
      have HFE : Hid (fldsE T = if ys = [] then 0 else 12) := Lib.hid (by rw [HTE.out]; simp [fldsE])
      have HEND := Lib.hid (end_any R5.out)
      rw [if_pos rfl] at HEND
      generalize (if ys = [] then (0 : Int) else 12) = E at HEND HFE
      go_wp2_with (go_at_call 43; refine (HEND.out).mono ?_; rintro e w6 ⟨rfl, rfl⟩)
      exact bodyPost_ret (results_tmp rfl _ _ _) rfl ⟨c1, A1, n1, k1, by rw [HFE.out]; rfl, B5.out, M5.out, fun _ => ⟨by rw [HTE.out], I5.out⟩⟩
end Go.Proofs.Ytcncgjiaefjmhaa
end

section
/- Package conf: Get. -/
namespace Go.Proofs.Ytcncgjiaefjmhaa
set_option maxRecDepth 100000
open Go.RowKit
set_option linter.unusedVariables false
set_option linter.unusedSimpArgs false

theorem CV_one (c : PC) (A : Option Addr) (n k : Nat) : (CV c A n k).all (·.oneCell') = true := by simp [CV, Value.oneCell']
theorem CV_cells (c : PC) (A : Option Addr) (n k : Nat) : (Value.agg (CV c A n k)).cells = CV c A n k := by simp [CV, Value.cells]
theorem CV_info : (Try.prog.info? 27).map (·.size) = some 7 := by kernel_rfl
/-- What a call that reads a command leaves. -/
def GotC (w : World) (c : PC) (E : Int) (e : Ending) (w' : World) : Prop :=
  ∃ A n k, e = .returned (.tuple #[.agg (CV c A n k), .int .i64 E]) ∧ RowsIn w.heap.size w' c A n k ∧ Mods Nil w w'
theorem fldsE_zero {T : Int × List UInt8 × PC} (h : fldsE T = 0) : T.1 = 0 := by
  unfold fldsE at h
  split at h
  · rename_i h1; exact absurd h h1
  · rename_i h1; exact Classical.not_not.1 h1
theorem gT_chain {x : UInt8} {t : List UInt8} (h : x.toNat ≤ 4) : gT (x :: t) = chain (ownFrom (x.toNat : Int) 0) { op := (x.toNat : Int) } t := by
  unfold gT
  simp only [List.headD_cons, List.drop_one, List.tail_cons]
  exact tree_chain h t
theorem gT_ok {x : UInt8} {t : List UInt8} (h : x.toNat ≤ 4) (h1 : (gT (x :: t)).1 = 0) : (gT (x :: t)).2.2.ok := by
  obtain ⟨c, hc⟩ : ∃ c, (gT (x :: t)).2.2 = c := ⟨_, rfl⟩
  obtain ⟨r, hr⟩ : ∃ r, (gT (x :: t)).2.1 = r := ⟨_, rfl⟩
  have hT : gT (x :: t) = (0, r, c) := Prod.ext h1 (Prod.ext hr hc)
  unfold gT at hT
  simp only [List.headD_cons, List.drop_one, List.tail_cons] at hT
  obtain ⟨L, e, hw, hb⟩ := run_walk _ _ _ _ hT
  rw [hc]
  exact (tree_to h hw).2.2 hb
theorem gE_cons {x : UInt8} {t : List UInt8} (h : x.toNat ≤ 4) : gE (x :: t) = if fldsE (gT (x :: t)) ≠ 0 then fldsE (gT (x :: t)) else if chkC (gT (x :: t)).2.2 ≠ 0 then 11 else 0 := by
  unfold gE fldsE
  rw [if_neg (by simp), if_neg (by simp only [List.headD_cons]; omega)]
  by_cases h1 : (gT (x :: t)).1 = 0
  · by_cases h2 : (gT (x :: t)).2.1 = []
    · simp [h1, h2]
    · simp [h1, h2]
  · simp [h1]
set_option maxHeartbeats 8000000 in
theorem cget_any {w : World} {A : Option Addr} {c n : Nat} {xs : List UInt8} (hn : xs.length = n) (hs : Sl w A c (bts xs)) (hlim : n ≤ 140737488355328) :
    Calls Try.prog 11 #[.slice A n c] w (GotC w (gC xs) (gE xs)) := by
  have BR := Lib.hid (Blk.new w 27 (CV {} none 0 0))
  have M1 := Lib.hid ((Mods.refl Nil w).alloc (.cells (CV {} none 0 0) 27))
  have HNR := Lib.hid (newReader_any hn (by omega) (hs.alloc (.cells (CV {} none 0 0) 27)))
  cases xs with
  | nil =>
    have HE : Hid (gE [] = 10) := Lib.hid rfl
    have HC : Hid (gC [] = {}) := Lib.hid (gC_bad (by rw [HE.out]; simp))
    have hRR : readRaw 0 [] 1 = (10, [], []) := by unfold readRaw; rw [if_neg (by simp), if_neg (by omega), if_pos (by simp)]
    have HRAW := Lib.hid (fun (W : World) (g : Nat) (k : Option Nat) (h : IsReader W g k 0 []) => hRR ▸ raw_any (xs := []) 1 (by simp) h)
    rw [HE.out, HC.out]
    clear hn hs hlim hRR
    go_enter Try.func11, Try.ntmps11
    go_wp2_with (first
      | (go_at_call 20; refine (HNR.out).mono ?_; rintro e w2 ⟨g, k, rfl, r2, hg2, hk2, m2⟩; have R2 := Lib.hid r2; have HG2 := Lib.hid (show w.heap.size + 1 ≤ g by simpa using hg2); have HK2 := Lib.hid (show ∀ q, k = some q → w.heap.size + 1 ≤ q ∧ q < w2.heap.size from fun q hq => by have := hk2 q hq; simpa using this); have M2 := Lib.hid (M1.out.trans m2); have BR2 := Lib.hid (BR.out.mods m2 (fun h => h)); clear r2 hk2 m2 hg2)
      | (go_at_call 21; refine (HRAW.out _ _ _ R2.out).mono ?_; rintro e w3 ⟨A3, c3, rfl, s3, f3, r3, m3⟩; dsimp only at r3 s3; have R3 := Lib.hid r3; have hgw : w.heap.size ≠ g := (by have := HG2.out; omega); have M3 := Lib.hid (M2.out.nil_trans m3 (fun i h => by have := HG2.out; omega)); have BR3 := Lib.hid (BR2.out.mods m3 hgw); have SZ3 := Lib.hid m3.size; clear s3 f3 r3 m3 hgw)
      | (go_at_call 22; refine (err_any R3.out).mono ?_; rintro e w4 ⟨rfl, rfl⟩)
      | (refine wpList_store_row rfl _ _ _ rfl rfl w.heap.size rfl _ (CV {} none 0 0) (CV {} none 0 0) rfl BR3.out rfl (CV_one _ _ _ _) CV_info (CV_cells _ _ _ _) ?_))
    have bF := BR3.out.setRow (CV {} none 0 0)
    have mF : Mods Nil w (w3.setRow w.heap.size (CV {} none 0 0)) := Mods.setRow M3.out (fun h => by omega) _
    obtain ⟨W2, hW2⟩ : ∃ W2, w3.setRow w.heap.size (CV {} none 0 0) = W2 := ⟨_, rfl⟩
    rw [hW2] at bF mF ⊢
    obtain ⟨y0, y1, y2, y3, y4, y5, y6⟩ := cv_seven bF
    clear hW2
    exact bodyPost_ret (v := .tuple #[.agg (CV {} none 0 0), .int .i64 10]) (by simp [results, Try.results11, go_sem, y0, y1, y2, y3, y4, y5, y6, CV]) rfl ⟨none, 0, 0, rfl, RowsIn.nil _ _ rfl, mF⟩
  | cons x t =>
    have hRR : readRaw 0 (x :: t) 1 = (0, t, [x]) := by
      unfold readRaw
      rw [if_neg (by simp), if_neg (by omega), if_neg (by simp; omega)]
      simp
    have htl : t.length ≤ 140737488355328 := by simp at hn; omega
    have HRAW := Lib.hid (fun (W : World) (g : Nat) (k : Option Nat) (h : IsReader W g k 0 (x :: t)) => hRR ▸ raw_any (xs := x :: t) 1 (by omega) h)
    have HTL := Lib.hid htl
    have hx256 := x.toNat_lt
    have hwx : IntKind.i64.wrap ((x.toNat : Nat) : Int) = ((x.toNat : Nat) : Int) := IntWalk.i64_in _ (by omega)
    clear hRR hs
    by_cases h4 : 4 < x.toNat
    · have HE : Hid (gE (x :: t) = 11) := Lib.hid (get_op h4)
      have HC : Hid (gC (x :: t) = {}) := Lib.hid (gC_bad (by rw [HE.out]; simp))
      rw [HE.out, HC.out]
      have h4I : (4 : Int) < ((x.toNat : Nat) : Int) := by omega
      clear hn hlim htl HE HC h4
      go_enter Try.func11, Try.ntmps11
      go_wp2_with (first
        | (go_at_call 20; refine (HNR.out).mono ?_; rintro e w2 ⟨g, k, rfl, r2, hg2, hk2, m2⟩; have R2 := Lib.hid r2; have HG2 := Lib.hid (show w.heap.size + 1 ≤ g by simpa using hg2); have HK2 := Lib.hid (show ∀ q, k = some q → w.heap.size + 1 ≤ q ∧ q < w2.heap.size from fun q hq => by have := hk2 q hq; simpa using this); have M2 := Lib.hid (M1.out.trans m2); have BR2 := Lib.hid (BR.out.mods m2 (fun h => h)); clear r2 hk2 m2 hg2)
        | (go_at_call 21; refine (HRAW.out _ _ _ R2.out).mono ?_; rintro e w3 ⟨A3, c3, rfl, s3, f3, r3, m3⟩; dsimp only at r3 s3; have R3 := Lib.hid r3; have hgw : w.heap.size ≠ g := (by have := HG2.out; omega); have M3 := Lib.hid (M2.out.nil_trans m3 (fun i h => by have := HG2.out; omega)); have BR3 := Lib.hid (BR2.out.mods m3 hgw); have SZ3 := Lib.hid m3.size; obtain ⟨b3, off3, rfl, hb3, hc3⟩ := s3.at_ (by simp [bts]); have z3 : w3.cell? ⟨b3, off3, none⟩ = some (.int .u8 ((x.toNat : Nat) : Int)) := hc3 0 _ rfl; clear hc3; clear s3 f3 r3 m3 hgw)
        | (go_at_call 22; refine (err_any R3.out).mono ?_; rintro e w4 ⟨rfl, rfl⟩)
        | (refine wpList_store_row rfl _ _ _ rfl rfl w.heap.size rfl _ (CV {} none 0 0) (CV {} none 0 0) rfl BR3.out rfl (CV_one _ _ _ _) CV_info (CV_cells _ _ _ _) ?_))
      have bF := BR3.out.setRow (CV {} none 0 0)
      have mF : Mods Nil w (w3.setRow w.heap.size (CV {} none 0 0)) := Mods.setRow M3.out (fun h => by omega) _
      obtain ⟨W2, hW2⟩ : ∃ W2, w3.setRow w.heap.size (CV {} none 0 0) = W2 := ⟨_, rfl⟩
      rw [hW2] at bF mF ⊢
      obtain ⟨y0, y1, y2, y3, y4, y5, y6⟩ := cv_seven bF
      clear hW2
      exact bodyPost_ret (v := .tuple #[.agg (CV {} none 0 0), .int .i64 11]) (by simp [results, Try.results11, go_sem, y0, y1, y2, y3, y4, y5, y6, CV]) rfl ⟨none, 0, 0, rfl, RowsIn.nil _ _ rfl, mF⟩
    · have h4' : x.toNat ≤ 4 := by omega
      have h4I : ((x.toNat : Nat) : Int) ≤ 4 := by omega
      have hGT := gT_chain (t := t) h4'
      have HGF := Lib.hid (fun W G g k (hr : IsReader W g k 0 t) (hB : Blk W G 27 (CV { op := (x.toNat : Int) } none 0 0)) (hk : ∀ q, k = some q → q < W.heap.size ∧ q ≠ G) => hGT ▸ getFs_any htl hB hr (RowsIn.nil _ _ rfl) hk)
      have HOK := Lib.hid (fun h => gT_ok (t := t) h4' h)
      have HGE := Lib.hid (gE_cons (t := t) h4')
      have HGC : Hid (gC (x :: t) = if gE (x :: t) = 0 then (gT (x :: t)).2.2 else {}) := Lib.hid rfl
      generalize gE (x :: t) = E at HGE HGC ⊢
      generalize gC (x :: t) = C at HGC ⊢
      generalize gT (x :: t) = T at HGE HGC HGF HOK
      have HFE : Hid (fldsE T = 0 → T.1 = 0) := Lib.hid fldsE_zero
      generalize hFT : fldsE T = FE at HGE HFE
      have HFT := Lib.hid hFT
      clear hn hlim htl hGT h4 h4' hFT
      by_cases hFE : FE = 0
      · subst hFE
        have HOK2 := Lib.hid (HOK.out (HFE.out rfl))
        have hne0 : E = if chkC T.2.2 ≠ 0 then 11 else 0 := by rw [HGE.out, if_neg (by simp)]
        have HCK := Lib.hid (fun W A n k (h : ∃ L, T.2.2.rows = pws L ∧ Rws W A n k L) => (show Calls Try.prog 18 #[.agg (CV T.2.2 A n k)] W fun e w' => e = .returned (.int .i64 (chkC T.2.2)) ∧ Mods Nil W w' from by obtain ⟨L, h1, h2⟩ := h; exact ccheck_any W T.2.2 HOK2.out h1 h2))
        by_cases hc : chkC T.2.2 = 0
        · have hE0 : E = 0 := by rw [hne0, if_neg (by simp [hc])]
          have hCC : C = T.2.2 := by rw [HGC.out, if_pos hE0]
          subst hE0
          subst hCC
          rw [hc] at HCK
          clear HGE HGC HOK HFE hne0 hc
          go_enter Try.func11, Try.ntmps11
          go_wp2_with (first
            | (go_at_call 20; refine (HNR.out).mono ?_; rintro e w2 ⟨g, k, rfl, r2, hg2, hk2, m2⟩; have R2 := Lib.hid r2; have HG2 := Lib.hid (show w.heap.size + 1 ≤ g by simpa using hg2); have HK2 := Lib.hid (show ∀ q, k = some q → w.heap.size + 1 ≤ q ∧ q < w2.heap.size from fun q hq => by have := hk2 q hq; simpa using this); have M2 := Lib.hid (M1.out.trans m2); have BR2 := Lib.hid (BR.out.mods m2 (fun h => h)); clear r2 hk2 m2 hg2)
            | (go_at_call 21; refine (HRAW.out _ _ _ R2.out).mono ?_; rintro e w3 ⟨A3, c3, rfl, s3, f3, r3, m3⟩; dsimp only at r3 s3; have R3 := Lib.hid r3; have hgw : w.heap.size ≠ g := (by have := HG2.out; omega); have M3 := Lib.hid (M2.out.nil_trans m3 (fun i h => by have := HG2.out; omega)); have BR3 := Lib.hid (BR2.out.mods m3 hgw); have SZ3 := Lib.hid m3.size; obtain ⟨b3, off3, rfl, hb3, hc3⟩ := s3.at_ (by simp [bts]); have z3 : w3.cell? ⟨b3, off3, none⟩ = some (.int .u8 ((x.toNat : Nat) : Int)) := hc3 0 _ rfl; have R4 := Lib.hid (r3.alloc' (.cells (CV { op := (x.toNat : Int) } none 0 0) 27)); have B4 := Lib.hid (Blk.new w3 27 (CV { op := (x.toNat : Int) } none 0 0)); have M4 := Lib.hid (M3.out.alloc (.cells (CV { op := (x.toNat : Int) } none 0 0) 27)); have BR4 := Lib.hid (BR3.out.alloc (.cells (CV { op := (x.toNat : Int) } none 0 0) 27)); have HW3 := Lib.hid BR3.out.lt; clear hc3; clear s3 f3 r3 m3 hgw)
            | (go_at_call 22; refine (err_any R3.out).mono ?_; rintro e w4 ⟨rfl, rfl⟩)
            | (go_at_call 23; refine (HGF.out _ _ _ _ R4.out B4.out (fun q hq => by have := HK2.out q hq; have := SZ3.out; simp; omega)).mono ?_; rintro e w5 ⟨c5, A5, n5, k5, rfl, b5, m5, t5⟩; rw [HFT.out]; have HB5 := Lib.hid b5; have M5 := Lib.hid (M4.out.nil_trans m5 (fun i h => by have := HG2.out; have := M3.out.size; have := HW3.out; rcases h with h | h <;> omega)); have BR5 := Lib.hid (BR4.out.mods m5 (fun h => by have := HG2.out; have := HW3.out; rcases h with h | h <;> omega)); have T5 := Lib.hid t5; obtain ⟨rfl, hin5⟩ := t5 (by first | rfl | assumption | exact HFT.out); have T5R : ∃ L, T.2.2.rows = pws L ∧ Rws w5 A5 n5 k5 L := (by obtain ⟨L, h1, h2, h3⟩ := hin5; exact ⟨L, h1, h2⟩); have HIN5 := Lib.hid hin5; obtain ⟨q0, q1, q2, q3, q4, q5, q6⟩ := cv_seven b5; clear b5 m5 t5 hin5)
            | (go_at_call 18; refine (HCK.out _ _ _ _ T5R).mono ?_; rintro e w6 ⟨rfl, m6⟩; have M6 := Lib.hid (M5.out.trans m6); have BR6 := Lib.hid (BR5.out.mods m6 (fun h => h)); have HB6 := Lib.hid (HB5.out.mods m6 (fun h => h)); obtain ⟨q0, q1, q2, q3, q4, q5, q6⟩ := cv_seven (HB5.out.mods m6 (fun h => h)); have HIN6 := Lib.hid (HIN5.out.mods m6 (fun _ h => h.elim)); clear m6)
            | (refine wpList_store_row rfl _ _ _ rfl rfl w.heap.size rfl _ (CV {} none 0 0) (CV T.2.2 A5 n5 k5) rfl BR6.out rfl (CV_one _ _ _ _) CV_info (CV_cells _ _ _ _) ?_))
          have bF := BR6.out.setRow (CV T.2.2 A5 n5 k5)
          have mF : Mods Nil w (w6.setRow w.heap.size (CV T.2.2 A5 n5 k5)) := Mods.setRow M6.out (fun h => by omega) _
          have mS : Mods (· = w.heap.size) w6 (w6.setRow w.heap.size (CV T.2.2 A5 n5 k5)) := Mods.setRow (S := (· = w.heap.size)) (Mods.refl _ _) (fun _ => rfl) _
          have hinF := HIN6.out.mods mS (fun i h => by have := HW3.out; simp; omega)
          obtain ⟨W2, hW2⟩ : ∃ W2, w6.setRow w.heap.size (CV T.2.2 A5 n5 k5) = W2 := ⟨_, rfl⟩
          rw [hW2] at bF mF hinF ⊢
          obtain ⟨y0, y1, y2, y3, y4, y5, y6⟩ := cv_seven bF
          clear hW2
          obtain ⟨L, h1, h2, h3⟩ := hinF
          exact bodyPost_ret (v := .tuple #[.agg (CV T.2.2 A5 n5 k5), .int .i64 0]) (by simp [results, Try.results11, go_sem, y0, y1, y2, y3, y4, y5, y6, CV]) rfl ⟨A5, n5, k5, rfl, ⟨L, h1, h2, h3.mono (by have := HW3.out; simp; omega)⟩, mF⟩
        · have hE0 : E = 11 := by rw [hne0, if_pos hc]
          have hCC : C = {} := by rw [HGC.out, if_neg (by rw [hE0]; simp)]
          subst hE0
          subst hCC
          have hcne : (chkC T.2.2 != 0) = true := by simp [hc]
          generalize chkC T.2.2 = ck at HCK hcne
          clear HGE HGC HOK HFE hne0 hc
          go_enter Try.func11, Try.ntmps11
          go_wp2_with (first
            | (go_at_call 20; refine (HNR.out).mono ?_; rintro e w2 ⟨g, k, rfl, r2, hg2, hk2, m2⟩; have R2 := Lib.hid r2; have HG2 := Lib.hid (show w.heap.size + 1 ≤ g by simpa using hg2); have HK2 := Lib.hid (show ∀ q, k = some q → w.heap.size + 1 ≤ q ∧ q < w2.heap.size from fun q hq => by have := hk2 q hq; simpa using this); have M2 := Lib.hid (M1.out.trans m2); have BR2 := Lib.hid (BR.out.mods m2 (fun h => h)); clear r2 hk2 m2 hg2)
            | (go_at_call 21; refine (HRAW.out _ _ _ R2.out).mono ?_; rintro e w3 ⟨A3, c3, rfl, s3, f3, r3, m3⟩; dsimp only at r3 s3; have R3 := Lib.hid r3; have hgw : w.heap.size ≠ g := (by have := HG2.out; omega); have M3 := Lib.hid (M2.out.nil_trans m3 (fun i h => by have := HG2.out; omega)); have BR3 := Lib.hid (BR2.out.mods m3 hgw); have SZ3 := Lib.hid m3.size; obtain ⟨b3, off3, rfl, hb3, hc3⟩ := s3.at_ (by simp [bts]); have z3 : w3.cell? ⟨b3, off3, none⟩ = some (.int .u8 ((x.toNat : Nat) : Int)) := hc3 0 _ rfl; have R4 := Lib.hid (r3.alloc' (.cells (CV { op := (x.toNat : Int) } none 0 0) 27)); have B4 := Lib.hid (Blk.new w3 27 (CV { op := (x.toNat : Int) } none 0 0)); have M4 := Lib.hid (M3.out.alloc (.cells (CV { op := (x.toNat : Int) } none 0 0) 27)); have BR4 := Lib.hid (BR3.out.alloc (.cells (CV { op := (x.toNat : Int) } none 0 0) 27)); have HW3 := Lib.hid BR3.out.lt; clear hc3; clear s3 f3 r3 m3 hgw)
            | (go_at_call 22; refine (err_any R3.out).mono ?_; rintro e w4 ⟨rfl, rfl⟩)
            | (go_at_call 23; refine (HGF.out _ _ _ _ R4.out B4.out (fun q hq => by have := HK2.out q hq; have := SZ3.out; simp; omega)).mono ?_; rintro e w5 ⟨c5, A5, n5, k5, rfl, b5, m5, t5⟩; rw [HFT.out]; have HB5 := Lib.hid b5; have M5 := Lib.hid (M4.out.nil_trans m5 (fun i h => by have := HG2.out; have := M3.out.size; have := HW3.out; rcases h with h | h <;> omega)); have BR5 := Lib.hid (BR4.out.mods m5 (fun h => by have := HG2.out; have := HW3.out; rcases h with h | h <;> omega)); have T5 := Lib.hid t5; obtain ⟨rfl, hin5⟩ := t5 (by first | rfl | assumption | exact HFT.out); have T5R : ∃ L, T.2.2.rows = pws L ∧ Rws w5 A5 n5 k5 L := (by obtain ⟨L, h1, h2, h3⟩ := hin5; exact ⟨L, h1, h2⟩); obtain ⟨q0, q1, q2, q3, q4, q5, q6⟩ := cv_seven b5; clear b5 m5 t5 hin5)
            | (go_at_call 18; refine (HCK.out _ _ _ _ T5R).mono ?_; rintro e w6 ⟨rfl, m6⟩; have M6 := Lib.hid (M5.out.trans m6); have BR6 := Lib.hid (BR5.out.mods m6 (fun h => h)); have HB6 := Lib.hid (HB5.out.mods m6 (fun h => h)); clear m6)
            | (refine wpList_store_row rfl _ _ _ rfl rfl w.heap.size rfl _ (CV {} none 0 0) (CV {} none 0 0) rfl BR6.out rfl (CV_one _ _ _ _) CV_info (CV_cells _ _ _ _) ?_))
          have bF := BR6.out.setRow (CV {} none 0 0)
          have mF : Mods Nil w (w6.setRow w.heap.size (CV {} none 0 0)) := Mods.setRow M6.out (fun h => by omega) _
          obtain ⟨W2, hW2⟩ : ∃ W2, w6.setRow w.heap.size (CV {} none 0 0) = W2 := ⟨_, rfl⟩
          rw [hW2] at bF mF ⊢
          obtain ⟨y0, y1, y2, y3, y4, y5, y6⟩ := cv_seven bF
          clear hW2
          exact bodyPost_ret (v := .tuple #[.agg (CV {} none 0 0), .int .i64 11]) (by simp [results, Try.results11, go_sem, y0, y1, y2, y3, y4, y5, y6, CV]) rfl ⟨none, 0, 0, rfl, RowsIn.nil _ _ rfl, mF⟩
      · have hEE : E = FE := by rw [HGE.out, if_pos hFE]
        have hCC : C = {} := by rw [HGC.out, if_neg (by rw [hEE]; exact hFE)]
        subst hEE
        subst hCC
        have hne : (E != 0) = true := by simp [hFE]
        clear HGE HGC HOK HFE hFE
        go_enter Try.func11, Try.ntmps11
        go_wp2_with (first
          | (go_at_call 20; refine (HNR.out).mono ?_; rintro e w2 ⟨g, k, rfl, r2, hg2, hk2, m2⟩; have R2 := Lib.hid r2; have HG2 := Lib.hid (show w.heap.size + 1 ≤ g by simpa using hg2); have HK2 := Lib.hid (show ∀ q, k = some q → w.heap.size + 1 ≤ q ∧ q < w2.heap.size from fun q hq => by have := hk2 q hq; simpa using this); have M2 := Lib.hid (M1.out.trans m2); have BR2 := Lib.hid (BR.out.mods m2 (fun h => h)); clear r2 hk2 m2 hg2)
          | (go_at_call 21; refine (HRAW.out _ _ _ R2.out).mono ?_; rintro e w3 ⟨A3, c3, rfl, s3, f3, r3, m3⟩; dsimp only at r3 s3; have R3 := Lib.hid r3; have hgw : w.heap.size ≠ g := (by have := HG2.out; omega); have M3 := Lib.hid (M2.out.nil_trans m3 (fun i h => by have := HG2.out; omega)); have BR3 := Lib.hid (BR2.out.mods m3 hgw); have SZ3 := Lib.hid m3.size; obtain ⟨b3, off3, rfl, hb3, hc3⟩ := s3.at_ (by simp [bts]); have z3 : w3.cell? ⟨b3, off3, none⟩ = some (.int .u8 ((x.toNat : Nat) : Int)) := hc3 0 _ rfl; have R4 := Lib.hid (r3.alloc' (.cells (CV { op := (x.toNat : Int) } none 0 0) 27)); have B4 := Lib.hid (Blk.new w3 27 (CV { op := (x.toNat : Int) } none 0 0)); have M4 := Lib.hid (M3.out.alloc (.cells (CV { op := (x.toNat : Int) } none 0 0) 27)); have BR4 := Lib.hid (BR3.out.alloc (.cells (CV { op := (x.toNat : Int) } none 0 0) 27)); have HW3 := Lib.hid BR3.out.lt; clear hc3; clear s3 f3 r3 m3 hgw)
          | (go_at_call 22; refine (err_any R3.out).mono ?_; rintro e w4 ⟨rfl, rfl⟩)
          | (go_at_call 23; refine (HGF.out _ _ _ _ R4.out B4.out (fun q hq => by have := HK2.out q hq; have := SZ3.out; simp; omega)).mono ?_; rintro e w5 ⟨c5, A5, n5, k5, rfl, b5, m5, t5⟩; rw [HFT.out]; have HB5 := Lib.hid b5; have M5 := Lib.hid (M4.out.nil_trans m5 (fun i h => by have := HG2.out; have := M3.out.size; have := HW3.out; rcases h with h | h <;> omega)); have BR5 := Lib.hid (BR4.out.mods m5 (fun h => by have := HG2.out; have := HW3.out; rcases h with h | h <;> omega)); have T5 := Lib.hid t5; clear b5 m5 t5)
          | (refine wpList_store_row rfl _ _ _ rfl rfl w.heap.size rfl _ (CV {} none 0 0) (CV {} none 0 0) rfl BR5.out rfl (CV_one _ _ _ _) CV_info (CV_cells _ _ _ _) ?_))
        have bF := BR5.out.setRow (CV {} none 0 0)
        have mF : Mods Nil w (w5.setRow w.heap.size (CV {} none 0 0)) := Mods.setRow M5.out (fun h => by omega) _
        obtain ⟨W2, hW2⟩ : ∃ W2, w5.setRow w.heap.size (CV {} none 0 0) = W2 := ⟨_, rfl⟩
        rw [hW2] at bF mF ⊢
        obtain ⟨y0, y1, y2, y3, y4, y5, y6⟩ := cv_seven bF
        clear hW2
        exact bodyPost_ret (v := .tuple #[.agg (CV {} none 0 0), .int .i64 E]) (by simp [results, Try.results11, go_sem, y0, y1, y2, y3, y4, y5, y6, CV]) rfl ⟨none, 0, 0, rfl, RowsIn.nil _ _ rfl, mF⟩
end Go.Proofs.Ytcncgjiaefjmhaa
end
