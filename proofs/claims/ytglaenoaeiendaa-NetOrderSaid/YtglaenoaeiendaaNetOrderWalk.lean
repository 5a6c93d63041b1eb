/- NetOrder's walk. -/
import Derived.Test.YtglaenoaeiendaaHelp5
import Derived.Deep.QuietTactic
import Derived.BigQuiet
namespace Go.Proofs.Ytglaenoaeiendaa
set_option maxRecDepth 100000
open Go.RowKit
set_option linter.unusedVariables false

theorem infoString : (Try.prog.info? 9).map (fun i => (i.zero, i.size, i.bytes)) = some (some (.string ⟨#[]⟩), 1, 16) := by kernel_rfl
/-- What is sent at i. -/
def oc (i : Nat) (b : List UInt8) : Int × Int × List UInt8 := ((i : Int) % 4, 3 - (i : Int) % 4, b)
/-- L is what was sent from j on. -/
def OrdL (ls : List (List UInt8)) (j : Nat) (L : List Pk) : Prop := ∀ i q, L[i]? = some q → ∃ b, ls[j + i]? = some b ∧ q.core = oc (j + i) b
theorem OrdL.nil (ls : List (List UInt8)) : OrdL ls 0 [] := fun i q h => by simp at h
theorem OrdL.snoc {ls : List (List UInt8)} {L : List Pk} {q : Pk} {b : List UInt8} (h : OrdL ls 0 L) (hb : ls[L.length]? = some b) (hq : q.core = oc L.length b) : OrdL ls 0 (L ++ [q]) := fun i r hr => by
  rcases Nat.lt_trichotomy i L.length with hi | hi | hi
  · rw [List.getElem?_append_left hi] at hr
    exact h i r hr
  · subst hi
    rw [List.getElem?_append_right (Nat.le_refl _)] at hr
    simp at hr
    subst hr
    rw [Nat.zero_add]
    exact ⟨b, hb, hq⟩
  · rw [List.getElem?_eq_none (by simp; omega)] at hr
    cases hr
theorem OrdL.tail {ls : List (List UInt8)} {j : Nat} {L : List Pk} (h : OrdL ls j L) : OrdL ls (j + 1) (L.eraseIdx 0) := fun i r hr => by
  cases L with
  | nil => simp at hr
  | cons p L =>
    have := h (i + 1) r (by simpa using hr)
    rw [show j + 1 + i = j + (i + 1) by omega]
    exact this

/-- Where the walk stands while it sends. -/
structure Ord5 (w W : World) (ls : List (List UInt8)) (j : Nat) (vw v : Value) (L : List Pk) (nb : Nat) : Prop where
  net : NetAt W w.heap.size nb 4 v L
  len : L.length = j
  ord : OrdL ls 0 L
  was : W.ownsRow w.heap.size 9 1 vw j (strs (ls.take j))
  small : ∀ b ∈ ls.take j, b.length ≤ 50
  mods : Mods Nil w W
/-- One round's bookkeeping: the copy's block, the row that has grown, the packet that was sent, the byte that is then another one. -/
theorem Ord5.step {w wr w1 w2 : World} {ls : List (List UInt8)} {j nb : Nat} {vw vw2 v : Value} {L : List Pk} {xs : List UInt8} {A : Option Addr} {c : Nat} {o : Obj} (h : Ord5 w wr ls j vw v L nb) (hxs : ls[j]? = some xs) (h50 : xs.length ≤ 50)
    (m1 : Mods Nil wr w1) (h1 : wr.heap.size < w1.heap.size) (s1 : Sl w1 (some ⟨wr.heap.size, 0, none⟩) c (bts xs))
    (own2 : w2.ownsRow w.heap.size 9 1 vw2 (j + 1) (strs (ls.take j) ++ [.string (strOf xs)])) (g2 : (w1.alloc o).grownBy w2 vw.ownBlock) (b2 : ∀ k, vw2.ownBlock = some k → vw.ownBlock = some k ∨ (w1.alloc o).heap.size ≤ k) :
    NetAt w2 w.heap.size nb 4 v L ∧ Mods Nil w w2 ∧ Sl w2 (some ⟨wr.heap.size, 0, none⟩) c (bts xs) ∧ ∀ w3, (∃ v' q, NetAt w3 w.heap.size nb 4 v' (L ++ [q]) ∧ q.core = Pk.core ⟨(j : Int) % 4, 3 - (j : Int) % 4, A, c, xs⟩ ∧ (q.xs ≠ [] → ∀ a, q.A = some a → w2.heap.size ≤ a.block) ∧ Mods (NS nb v) w2 w3 ∧ (∀ k, v'.ownBlock = some k → v.ownBlock = some k ∨ w2.heap.size ≤ k)) →
      w3.heap[wr.heap.size]? = w1.heap[wr.heap.size]? ∧ ∃ v' L', Ord5 w w3 ls (j + 1) vw2 v' L' nb ∧ ∀ z, Ord5 w (w3.setCell ⟨wr.heap.size, 0, none⟩ z) ls (j + 1) vw2 v' L' nb := by
  have lw : ∀ k, vw.ownBlock = some k → k < wr.heap.size := fun k hk => (h.was.lt k hk).2
  have lv : ∀ k, v.ownBlock = some k → k < wr.heap.size := fun k hk => (h.net.own.lt k hk).2
  have ln := h.net.blk.lt
  have m12 : Mods (fun k => vw.ownBlock = some k) w1 w2 := ((Mods.refl _ _).alloc o).grown g2 (fun k hk _ => hk)
  have was1 := own_mods h.was m1 (fun _ _ h => h)
  have net1 := h.net.nil m1
  have net2 := net1.typed m12 (fun k hk _ => by
    obtain ⟨_, cs, hb⟩ := own_kind was1 k hk
    exact ⟨_, cs, hb, by decide, by decide, by decide⟩)
  have m2 : Mods Nil w w2 := (h.mods.trans m1).nil_trans m12 (fun i hi => (h.was.lt i hi).1)
  have s2 := s1.mods m12 (fun a ha hk => by injection ha with ha; subst ha; have := lw _ hk; simp at this)
  have hsz := m12.size
  refine ⟨net2, m2, s2, ?_⟩
  rintro w3 ⟨v', q, k1, k2, k3, k4, k5⟩
  have hD : ¬ NS nb v wr.heap.size := by
    rintro (e | e)
    · omega
    · have := lv _ e; omega
  have hblk : w3.heap[wr.heap.size]? = w1.heap[wr.heap.size]? := (k4.block _ (by omega) hD).trans (m12.block _ h1 (fun e => by have := lw _ e; omega))
  have m3 := net2.trans_nil (Nat.le_refl _) m2 k4
  have hord : OrdL ls 0 (L ++ [q]) := h.ord.snoc (b := xs) (by rw [h.len]; exact hxs) (by rw [h.len]; exact k2)
  have hlen : (L ++ [q]).length = j + 1 := by simp [h.len]
  have hlt : j < ls.length := (List.getElem?_eq_some_iff.1 hxs).1
  have htk : ls.take (j + 1) = ls.take j ++ [xs] := by rw [List.take_succ_eq_append_getElem hlt, (List.getElem?_eq_some_iff.1 hxs).2]
  have was3 : w3.ownsRow w.heap.size 9 1 vw2 (j + 1) (strs (ls.take (j + 1))) := by
    rw [htk, strs_snoc]
    refine own_mods own2 k4 (fun k hk hs => ?_)
    obtain ⟨_, cs, hb⟩ := own_kind own2 k hk
    exact net2.far hb (by decide) (by decide) hs
  have hsm : ∀ b ∈ ls.take (j + 1), b.length ≤ 50 := by
    intro b hb
    rw [htk] at hb
    rcases List.mem_append.1 hb with hb | hb
    · exact h.small b hb
    · simp at hb; rw [hb]; exact h50
  have o3 : Ord5 w w3 ls (j + 1) vw2 v' (L ++ [q]) nb := ⟨k1, hlen, hord, was3, hsm, m3⟩
  refine ⟨hblk, v', L ++ [q], o3, fun z => ?_⟩
  have mS : Mods (fun k => k = wr.heap.size) w3 (w3.setCell ⟨wr.heap.size, 0, none⟩ z) := Mods.setCell (S := fun k => k = wr.heap.size) (Mods.refl _ _) (fun _ => rfl) z
  refine ⟨k1.mods mS (fun k hk _ => ?_), hlen, hord, own_mods was3 mS (fun k hk e => ?_), hsm, m3.setNew h.mods.size z⟩
  · subst hk
    refine ⟨?_, fun p hp hx a ha e => ?_⟩
    · rintro (e | e)
      · omega
      · rcases k5 _ e with e | e
        · have := lv _ e; omega
        · omega
    · rcases List.mem_append.1 hp with hp | hp
      · obtain ⟨cs, hb⟩ := ((h.net.oks p hp).2 hx a ha).2
        have := hb.lt
        omega
      · simp at hp
        subst hp
        have := k3 hx a ha
        omega
  · rcases b2 k hk with e2 | e2
    · have := lw _ e2; omega
    · simp at e2; omega

set_option maxRecDepth 1000000 in
set_option maxHeartbeats 6400000 in
theorem netOrder_nat (w : World) {A : Option Addr} {c n : Nat} {l : List Row} (hn : l.length = n) (hs : Sl w A c (l.map Row.val)) (hr : ∀ r ∈ l, r.ok w) (x : Nat) (hx : x < 256) :
    Calls Try.prog 3 #[.slice A n c, .int .u8 (x : Int)] w fun e w' => e = .returned (.bool true) ∧ Mods Nil w w' := by
  by_cases hbig : 30 < n
  · have hb : (30 : Int) < (n : Int) := by omega
    clear hs hr
    go_enter Try.func3, Try.ntmps3
    go_wp2_with (first | (go_at_call 7; refine (awake5_any _).mono ?_; rintro e w1 ⟨rfl, m1⟩; have M1 := Lib.hid m1; clear m1))
    go_ret
    exact ⟨rfl, M1.out⟩
  have hb30 : (n : Int) ≤ 30 := by omega
  have hn30 : n ≤ 30 := by omega
  obtain ⟨i0, hi, hz0, hz1, hz2⟩ := info_parts infoString
  obtain ⟨ls, hls⟩ : ∃ ls, l.map (·.xs) = ls := ⟨_, rfl⟩
  have hlsn : ls.length = n := by rw [← hls]; simp; exact hn
  have HN := Lib.hid hn
  have HS := Lib.hid hs
  have HR := Lib.hid hr
  have HLS := Lib.hid hls
  have HLN := Lib.hid hlsn
  have HNEW := Lib.hid (fun W : World => nnew_int W (k := 4) (by omega) (by omega))
  clear hs hr hn hbig hls hlsn
  go_enter Try.func3, Try.ntmps3
  go_wp2_with (first
    | (go_at_call 7; refine (awake5_any _).mono ?_; rintro e w1 ⟨rfl, m1⟩; have M1 := Lib.hid m1; clear m1)
    | (go_at_call 8; refine (HNEW.out _).mono ?_; rintro e w2 ⟨rfl, rfl⟩; have O0 : Hid (Ord5 w (w1.alloc (.cells #[.int .i64 4, .slice none 0 0] 46)) ls 0 (.slice none 0 0) (.slice none 0 0) [] w1.heap.size) := ⟨(net_new w1 (k := 4) (n := 4) rfl).sub M1.out.size, rfl, OrdL.nil _, World.ownsRow_nil _ _ _ _, (by simp), M1.out.alloc _⟩))
  obtain ⟨nb, hnb⟩ : ∃ nb, w1.heap.size = nb := ⟨_, rfl⟩
  rw [hnb] at O0 ⊢
  clear hnb HNEW
  go_loopw [8, 9] (fun vw i wr => ∃ (j : Nat) (v : Value) (L : List Pk), j ≤ n ∧ i = .int .i64 j ∧ Ord5 w wr ls j vw v L nb) (fun _ i _ => n - (intOf i).toNat)
  case atStart => exact ⟨0, _, [], by omega, rfl, O0.out⟩
  case round =>
    obtain ⟨j, v, L, hj, rfl, ho⟩ := hrel
    clear O0 M1
    by_cases hlt : j < n
    · have hjI : (j : Int) < (n : Int) := by omega
      obtain ⟨b, off, r, rfl, hr1, hr2, hr3⟩ := in5_at HN.out HLS.out HS.out HR.out hlt
      have hrw : wr.cell? ⟨b, off + j, none⟩ = some (.slice r.A r.xs.length r.c) := (World.cell?_of_block (ho.mods.block b (World.block_lt_of_cell? w _ hr3) (fun h => h))).trans hr3
      have hrok := hr2.mods ho.mods
      generalize hxs : r.xs = xs at hr1 hrw
      unfold Row.ok at hrok
      rw [hxs] at hrok
      generalize r.A = rA at hrw hrok
      generalize r.c = rc at hrw hrok
      obtain ⟨p, hp⟩ : ∃ p, xs.length = p := ⟨_, rfl⟩
      rw [hp] at hrw
      by_cases h50 : 50 < p
      · have h50I : (50 : Int) < (p : Int) := by omega
        have HMO := Lib.hid ho.mods
        clear ho hr1 hr2 hr3 hrok hp hxs
        go_wp2_with fail
        go_ret
        exact ⟨rfl, HMO.out⟩
      · have h50I : (p : Int) ≤ 50 := by omega
        have k1 := conv5 hp hrok
        obtain ⟨cD, w1, k2, s1, m1, hsz1, hf1⟩ := conv_bytes5 wr hp (by omega)
        have k3 := conv5 hp s1
        obtain ⟨rr, hrr⟩ : ∃ rr, (j : Int) % 4 = rr := ⟨_, rfl⟩
        have hand : bits .and .i64 (j : Int) 3 = rr := by rw [i64_and3, hrr]
        have hr0 : 0 ≤ rr := by omega
        have hr4 : rr ≤ 3 := by omega
        have hlen := ho.len
        have hstep := fun (vw2 : Value) (w2 : World) => ho.step (vw2 := vw2) (w2 := w2) (A := some ⟨wr.heap.size, 0, none⟩) (o := .cells #[.string (strOf xs)] 9) hr1 (by omega) m1 hsz1 s1
        rw [hrr] at hstep
        have hwas : (w1.alloc (.cells #[.string (strOf xs)] 9)).ownsRow w.heap.size 9 1 u8 j (strs (ls.take j)) := (own_mods ho.was m1 (fun _ _ h => h)).alloc _
        have hbase : w.heap.size ≤ (w1.alloc (.cells #[.string (strOf xs)] 9)).heap.size := by have := ho.mods.size; have := m1.size; simp; omega
        have HSTEP := Lib.hid hstep
        have HWAS := Lib.hid hwas
        have HBASE := Lib.hid hbase
        have HP := Lib.hid hp
        have HLEN := Lib.hid hlen
        rcases Nat.eq_zero_or_pos p with hp0 | hp0
        · subst hp0
          clear ho hr1 hr2 hr3 hrok hp hxs hstep hwas hbase s1 m1 hsz1 hf1 hlen hrr
          go_wp2_with (first
            | (at_builtin; refine wpList_append_sl _ rfl _ _ 28 rfl w.heap.size 9 i0 (.string ⟨#[]⟩) 16 Try.underlying28 hi hz0 hz1 hz2 rfl _ j (strs (ls.take j)) rfl HWAS.out (some ⟨w1.heap.size, 0, none⟩) 1 1 [.string (strOf xs)] rfl rfl (one_sl _ _ _) (by simp [Value.oneCell']) (by omega) (by unfold maxLen; omega) HBASE.out ?_; intro vw2 w2 own2 g2 b2; obtain ⟨n2, m2, s2, st2⟩ := HSTEP.out vw2 w2 own2 g2 b2; have N2 := Lib.hid n2; have S2 := Lib.hid s2; have ST2 := Lib.hid st2; clear own2 g2 b2 n2 m2 s2 st2)
            | (go_at_call 9; refine (nsend_int N2.out (by have := HLEN.out; omega) (by omega) (by omega) (by omega) (by omega) HP.out (by omega) S2.out).mono ?_; rintro e w3 ⟨rfl, kk⟩; obtain ⟨hblk, v3, L3, o3, oz⟩ := ST2.out w3 kk; have O3 := Lib.hid o3; clear kk hblk o3 oz))
          exact ⟨⟨j + 1, v3, L3, by omega, by go_num, O3.out⟩, by simp [intOf]; omega⟩
        · have hpI : (0 : Int) < (p : Int) := by omega
          obtain ⟨d0, hcell⟩ : ∃ d0 : Int, w1.cell? ⟨wr.heap.size, 0 + 0, none⟩ = some (.int .u8 d0) := ⟨_, s1.cells 0 _ (bts_get xs 0 (by omega))⟩
          have hfz := hf1 hp0
          have HC := Lib.hid hcell
          have HF := Lib.hid hfz
          clear ho hr1 hr2 hr3 hrok hp hxs hstep hwas hbase s1 m1 hsz1 hf1 hlen hrr hcell hfz
          go_wp2_with (first
            | (at_builtin; refine wpList_append_sl _ rfl _ _ 28 rfl w.heap.size 9 i0 (.string ⟨#[]⟩) 16 Try.underlying28 hi hz0 hz1 hz2 rfl _ j (strs (ls.take j)) rfl HWAS.out (some ⟨w1.heap.size, 0, none⟩) 1 1 [.string (strOf xs)] rfl rfl (one_sl _ _ _) (by simp [Value.oneCell']) (by omega) (by unfold maxLen; omega) HBASE.out ?_; intro vw2 w2 own2 g2 b2; obtain ⟨n2, m2, s2, st2⟩ := HSTEP.out vw2 w2 own2 g2 b2; have N2 := Lib.hid n2; have S2 := Lib.hid s2; have ST2 := Lib.hid st2; clear own2 g2 b2 n2 m2 s2 st2)
            | (go_at_call 9; refine (nsend_int N2.out (by have := HLEN.out; omega) (by omega) (by omega) (by omega) (by omega) HP.out (by omega) S2.out).mono ?_; rintro e w3 ⟨rfl, kk⟩; obtain ⟨hblk, v3, L3, o3, oz⟩ := ST2.out w3 kk; have OZ := Lib.hid oz; have hcell := (World.cell?_of_block (a := ⟨wr.heap.size, 0 + 0, none⟩) hblk).trans HC.out; have hfz := (World.frozen?_of_block (a := ⟨wr.heap.size, 0, none⟩) hblk).trans HF.out; rw [Nat.add_zero] at hcell; clear kk hblk o3 oz))
          exact ⟨⟨j + 1, v3, L3, by omega, by go_num, OZ.out _⟩, by simp [intOf]; omega⟩
    · obtain rfl : n = j := by omega
      have htk : ls.take n = ls := by rw [← HLN.out, List.take_length]
      have hwas := ho.was
      rw [htk] at hwas
      have hsm := ho.small
      rw [htk] at hsm
      have HN0 := Lib.hid ho.net
      have HW0 := Lib.hid hwas
      have HM0 := Lib.hid ho.mods
      have HL0 := Lib.hid ho.len
      have HO0 := Lib.hid ho.ord
      have HSM := Lib.hid hsm
      clear ho hwas hsm htk
      obtain ⟨vw, hvw⟩ : ∃ vw, u8 = vw := ⟨_, rfl⟩
      rw [hvw] at HW0 ⊢
      clear hvw
      go_wp2_with fail
      go_loopw [11] (fun i W => ∃ (j : Nat) (v : Value) (L : List Pk), j ≤ n ∧ i = .int .i64 j ∧ NetAt W w.heap.size nb 4 v L ∧ L.length = n - j ∧ OrdL ls j L ∧ W.ownsRow w.heap.size 9 1 vw n (strs ls) ∧ Mods Nil w W) (fun i _ => n - (intOf i).toNat)
      case atStart => exact ⟨0, v, L, by omega, rfl, HN0.out, by have := HL0.out; omega, HO0.out, HW0.out, HM0.out⟩
      case round =>
        obtain ⟨j, v, L, hj, rfl, hnet, hlen, hord, hwas, hmo⟩ := hrel
        clear HN0 HM0 HL0 HO0
        by_cases hlt : j < n
        · have hjI : (j : Int) < (n : Int) := by omega
          have hL0 : 0 < L.length := by omega
          obtain ⟨b, hb, hcore⟩ := hord 0 _ (List.getElem?_eq_getElem hL0)
          rw [Nat.add_zero] at hb hcore
          obtain ⟨m, hm⟩ : ∃ m, b.length = m := ⟨_, rfl⟩
          obtain ⟨rr, hrr⟩ : ∃ rr, (j : Int) % 4 = rr := ⟨_, rfl⟩
          have hand : bits .and .i64 (j : Int) 3 = rr := by rw [i64_and3, hrr]
          have hr0 : 0 ≤ rr := by omega
          have hr4 : rr ≤ 3 := by omega
          unfold oc at hcore
          rw [hrr] at hcore
          have HTA := Lib.hid (ntake_core hnet (by omega) (List.getElem?_eq_getElem hL0) (k := 0) rfl hcore hm)
          obtain ⟨Aw, cw, hvw, -, sw, -⟩ := own_slice hwas
          subst hvw
          obtain ⟨bw, ow, rfl, hbw, hcw⟩ := sw.at_ (by rw [strs_length, HLN.out]; omega)
          have hw0 := hcw j _ (strs_at hb)
          have hwf : ¬ NS nb v bw := by
            obtain ⟨_, cs, hbk⟩ := own_kind hwas bw rfl
            exact hnet.far hbk (by decide) (by decide)
          have HNET := Lib.hid hnet
          have HWAS := Lib.hid hwas
          have HMO := Lib.hid hmo
          have HLEN := Lib.hid hlen
          have HORD := Lib.hid hord.tail
          have HM := Lib.hid hm
          have HWC := Lib.hid hw0
          have HWF := Lib.hid hwf
          have hL1 : (L.eraseIdx 0).length = n - (j + 1) := by rw [List.length_eraseIdx]; simp [hL0]; omega
          have HL1 := Lib.hid hL1
          clear hnet hwas hmo hlen hord hb hcore hm hrr sw hcw hw0 hL1 hwf HW0 hL0
          go_wp2_with (go_at_call 10; refine (HTA.out).mono ?_; rintro e w6 ⟨A6, c6, rfl, s6, v6, n6, m6⟩; have mA : Mods Nil w6 (w6.alloc (.cells #[.int .i64 rr, .int .i64 (3 - rr), .slice A6 m c6] 32)) := (Mods.refl _ _).alloc _; obtain ⟨d0, d1, d2, -, -, -⟩ := (Blk.new w6 32 #[.int .i64 rr, .int .i64 (3 - rr), .slice A6 m c6]).three; have cv : ∀ nq, (convert 29 9 (.slice A6 m c6)).run Try.prog ((w6.alloc (.cells #[.int .i64 rr, .int .i64 (3 - rr), .slice A6 m c6] 32)).drewN nq) = .ok (.string (strOf b)) ((w6.alloc (.cells #[.int .i64 rr, .int .i64 (3 - rr), .slice A6 m c6] 32)).drewN nq) := (fun nq => conv5 HM.out ((s6.mods mA (fun _ _ h => h)).drewN nq)); have m67 := m6.trans (mA.mono (T := NS nb v) (fun _ _ h => h.elim)); have e5 := (World.cell?_of_block (m67.block bw hbw HWF.out)).trans HWC.out; have N7 := Lib.hid (n6.nil mA); have W7 := Lib.hid (own_mods HWAS.out m67 (fun k hk => by simp [Value.ownBlock] at hk; subst hk; exact HWF.out)); have X7 := Lib.hid (HNET.out.trans_nil (Nat.le_refl _) HMO.out m67); clear s6 n6 m6 mA m67)
          go_quiet (fail)
          go_wp2
          exact ⟨⟨j + 1, v6, _, by omega, by go_num, N7.out.nil ((Mods.refl _ _).drewN nq), HL1.out, HORD.out, own_mods W7.out ((Mods.refl Nil _).drewN nq) (fun _ _ h => h), X7.out.drewN nq⟩, by simp [intOf]; omega⟩
        · obtain rfl : n = j := by omega
          obtain ⟨Av, cv, rfl, -, -, -⟩ := hnet.place
          have hL : L.length = 0 := by omega
          have hc := hnet.cells.2.1
          rw [hL] at hc
          have HMO := Lib.hid hmo
          clear hnet hlen hord hwas hmo hL
          go_wp2_with (go_at_call 11; refine (nlen_any hc).mono ?_; rintro e w8 ⟨rfl, rfl⟩)
          go_ret
          exact ⟨rfl, HMO.out⟩
theorem netOrder_walk (w : World) {A : Option Addr} {c n : Nat} {l : List Row} (hn : l.length = n) (hs : Sl w A c (l.map Row.val)) (hr : ∀ r ∈ l, r.ok w) {a1 : Int} (w1 : (Lit.int .u8 a1).wf = true) :
    Calls Try.prog 3 #[.slice A n c, .int .u8 a1] w fun e w' => e = .returned (.bool true) ∧ Mods Nil w w' := by
  have h1 := u8_of_wf w1
  obtain ⟨x, rfl⟩ := Int.eq_ofNat_of_zero_le h1.1
  exact netOrder_nat w hn hs hr x (by omega)
end Go.Proofs.Ytglaenoaeiendaa
