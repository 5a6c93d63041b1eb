/- NetClears' walk. -/
import Derived.Test.YtglaenoaeiendaaHelp5
import Derived.Deep.QuietTactic
import Derived.BigQuiet
namespace Go.Proofs.Ytglaenoaeiendaa
set_option maxRecDepth 100000
open Go.RowKit
set_option linter.unusedVariables false

/-- What Take leaves, told by the packet's core, with all that is known of the net's blocks. -/
def TookF (w : World) (base nb nodes : Nat) (v : Value) (l : List Pk) (i : Nat) (f t : Int) (xs : List UInt8) (m : Nat) (e : Ending) (w' : World) : Prop :=
  ∃ A c, e = .returned (.tuple #[.agg #[.int .i64 f, .int .i64 t, .slice A m c], .bool true]) ∧ Pk.ok base w' ⟨f, t, A, c, xs⟩ ∧ ∃ v', NetAt w' base nb nodes v' (l.eraseIdx i) ∧ Mods (NS nb v) w w' ∧ (∀ k, v'.ownBlock = some k → v.ownBlock = some k ∨ w.heap.size ≤ k)
theorem ntake_core3 {w : World} {base nb nodes i : Nat} {v : Value} {l : List Pk} (h : NetAt w base nb nodes v l) (hl : l.length ≤ 4096) {q0 : Pk} (h0 : l[i]? = some q0) {k : Int} (hk : k = (i : Int)) {f t : Int} {xs : List UInt8} {m : Nat} (hc : q0.core = (f, t, xs)) (hm : xs.length = m) :
    Calls Try.prog 10 #[.pointer (some ⟨nb, 0, none⟩), .int .i64 k] w (TookF w base nb nodes v l i f t xs m) := by
  refine (ntake_int h hl (List.getElem?_eq_some_iff.1 h0).1 hk).mono ?_
  rintro e w' ⟨q, k0, rfl, k1, v', k2, k3, k4⟩
  rw [h0] at k0
  injection k0 with k0
  subst k0
  obtain ⟨qf, qt, qA, qc, qx⟩ := q0
  unfold Pk.core at hc
  injection hc with h1 hc
  injection hc with h2 h3
  dsimp only at h1 h2 h3
  subst h1; subst h2; subst h3; subst hm
  exact ⟨qA, qc, rfl, k1, v', k2, k3, k4⟩

/-- What is sent for a byte; whether it is kept when node k's are lost. -/
def cc (b : UInt8) : Int × Int × List UInt8 := ((b.toNat : Int) % 4, (b.toNat : Int) / 4 % 4, [b])
def kc (k : Int) (c : Int × Int × List UInt8) : Bool := !(c.1 == k || c.2.1 == k)
def lf (k : Int) (ys : List UInt8) : List UInt8 := ys.filter fun b => kc k (cc b)
theorem keepB_core (k : Int) : ∀ L : List Pk, (L.filter (keepB k)).map Pk.core = (L.map Pk.core).filter (kc k)
  | [] => rfl
  | p :: L => by
    have e : keepB k p = kc k p.core := rfl
    have ih := keepB_core k L
    rw [List.filter_cons, List.map_cons, List.filter_cons, ← e]
    split
    · rw [List.map_cons, ih]
    · exact ih
theorem lf_core (k : Int) (ys : List UInt8) : (ys.map cc).filter (kc k) = (lf k ys).map cc := by
  rw [List.filter_map]; rfl
theorem lf_snoc (k : Int) (ys : List UInt8) (b : UInt8) : lf k (ys ++ [b]) = lf k ys ++ if kc k (cc b) then [b] else [] := by
  unfold lf
  rw [List.filter_append, List.filter_cons]
  rfl

/-- Where the walk stands. -/
structure Cl5 (w W : World) (ys zs : List UInt8) (vl v : Value) (L : List Pk) (nb : Nat) : Prop where
  net : NetAt W w.heap.size nb 4 v L
  map : L.map Pk.core = ys.map cc
  left : W.ownsRow w.heap.size 5 1 vl zs.length (bts zs)
  off : ∀ bl, vl.ownBlock = some bl → NOff nb v L bl
  mods : Mods Nil w W
section
variable {w W W2 : World} {ys zs : List UInt8} {vl v : Value} {L : List Pk} {nb : Nat}
theorem Cl5.nil (h : Cl5 w W ys zs vl v L nb) (hm : Mods Nil W W2) : Cl5 w W2 ys zs vl v L nb :=
  ⟨h.net.nil hm, h.map, own_mods h.left hm (fun _ _ h => h), h.off, h.mods.trans hm⟩
/-- A call on the net: what it leaves. -/
theorem Cl5.call (h : Cl5 w W ys zs vl v L nb) {v' : Value} {L' : List Pk} {ys' : List UInt8} (hn : NetAt W2 w.heap.size nb 4 v' L') (hmap : L'.map Pk.core = ys'.map cc) (hm : Mods (NS nb v) W W2) (hv : ∀ k, v'.ownBlock = some k → v.ownBlock = some k ∨ W.heap.size ≤ k)
    (hL : ∀ p ∈ L', p ∈ L ∨ (p.xs ≠ [] → ∀ a, p.A = some a → W.heap.size ≤ a.block)) : Cl5 w W2 ys' zs vl v' L' nb := by
  refine ⟨hn, hmap, own_mods h.left hm (fun k hk hs => (h.off k hk).1 hs), fun bl hbl => ?_, h.net.trans_nil (Nat.le_refl _) h.mods hm⟩
  have hlt := (h.left.lt bl hbl).2
  obtain ⟨h1, h2⟩ := h.off bl hbl
  refine ⟨?_, fun p hp hx a ha e => ?_⟩
  · rintro (e | e)
    · exact h1 (.inl e)
    · rcases hv _ e with e | e
      · exact h1 (.inr e)
      · omega
  · rcases hL p hp with hp | hp
    · exact h2 p hp hx a ha e
    · have := hp hx a ha; omega
/-- A byte more is left. -/
theorem Cl5.more (h : Cl5 w W ys zs vl v L nb) {o : Obj} {vl2 : Value} {b : UInt8} (own4 : W2.ownsRow w.heap.size 5 1 vl2 (zs.length + 1) (bts zs ++ [.int .u8 (b.toNat : Int)])) (g : (W.alloc o).grownBy W2 vl.ownBlock) (hb : ∀ k, vl2.ownBlock = some k → vl.ownBlock = some k ∨ (W.alloc o).heap.size ≤ k) :
    Cl5 w W2 ys (zs ++ [b]) vl2 v L nb := by
  have m : Mods (fun k => vl.ownBlock = some k) W W2 := ((Mods.refl _ _).alloc o).grown g (fun k hk _ => hk)
  have hb2 : bts zs ++ [.int .u8 (b.toNat : Int)] = bts (zs ++ [b]) := by simp [bts]
  rw [hb2] at own4
  refine ⟨h.net.mods m (fun k hk _ => h.off k hk), h.map, by simpa using own4, fun bl hbl => ?_, h.mods.nil_trans m (fun i hi => (h.left.lt i hi).1)⟩
  rcases hb bl hbl with e | e
  · exact h.off bl e
  · simp at e
    refine ⟨?_, fun p hp hx a ha e2 => ?_⟩
    · rintro (e2 | e2)
      · have := h.net.blk.lt; omega
      · have := (h.net.own.lt _ e2).2; omega
    · obtain ⟨cs, hk⟩ := ((h.net.oks p hp).2 hx a ha).2
      have := hk.lt
      omega
end
theorem u8_and3 (b : UInt8) : bits .and .u8 (b.toNat : Int) 3 = (b.toNat : Int) % 4 := by
  have := u8_and_nat b.toNat 3 b.toNat_lt (by omega)
  rw [nat_mask2] at this
  rw [show (3 : Int) = ((3 : Nat) : Int) from rfl, this]
  omega

set_option maxRecDepth 1000000 in
set_option maxHeartbeats 6400000 in
theorem netClears_nat (w : World) {A : Option Addr} {c n : Nat} {xs : List UInt8} (hn : xs.length = n) (hs : Sl w A c (bts xs)) (x : UInt8) :
    Calls Try.prog 6 #[.slice A n c, .int .u8 (x.toNat : Int)] w fun e w' => e = .returned (.bool true) ∧ Mods Nil w w' := by
  by_cases hbig : 60 < n
  · have hb : (60 : Int) < (n : Int) := by omega
    clear hs
    go_enter Try.func6, Try.ntmps6
    go_wp2_with (first | (go_at_call 7; refine (awake5_any _).mono ?_; rintro e w1 ⟨rfl, m1⟩; have M1 := Lib.hid m1; clear m1))
    go_ret
    exact ⟨rfl, M1.out⟩
  have hb60 : (n : Int) ≤ 60 := by omega
  have hn60 : n ≤ 60 := by omega
  obtain ⟨i0, hi, hz0, hz1, hz2⟩ := info_parts infoByte
  obtain ⟨k, hk⟩ : ∃ k, (x.toNat : Int) % 4 = k := ⟨_, rfl⟩
  have handx : bits .and .u8 (x.toNat : Int) 3 = k := by rw [u8_and3, hk]
  have hk0 : 0 ≤ k := by omega
  have hk3 : k ≤ 3 := by omega
  have HN := Lib.hid hn
  have HS := Lib.hid hs
  have HNEW := Lib.hid (fun W : World => nnew_int W (k := 4) (by omega) (by omega))
  clear hs hn hbig hk
  go_enter Try.func6, Try.ntmps6
  go_wp2_with (first
    | (go_at_call 7; refine (awake5_any _).mono ?_; rintro e w1 ⟨rfl, m1⟩; have M1 := Lib.hid m1; clear m1)
    | (go_at_call 8; refine (HNEW.out _).mono ?_; rintro e w2 ⟨rfl, rfl⟩; have O0 : Hid (Cl5 w (w1.alloc (.cells #[.int .i64 4, .slice none 0 0] 46)) [] [] (.slice none 0 0) (.slice none 0 0) [] w1.heap.size) := ⟨(net_new w1 (k := 4) (n := 4) rfl).sub M1.out.size, rfl, World.ownsRow_nil _ _ _ _, (fun bl h => by simp [Value.ownBlock] at h), M1.out.alloc _⟩))
  obtain ⟨nb, hnb⟩ : ∃ nb, w1.heap.size = nb := ⟨_, rfl⟩
  rw [hnb] at O0 ⊢
  clear hnb HNEW handx
  go_loopw [9, 10] (fun vl i wr => ∃ (j : Nat) (v : Value) (L : List Pk), j ≤ n ∧ i = .int .i64 j ∧ Cl5 w wr (xs.take j) (lf k (xs.take j)) vl v L nb) (fun _ i _ => n - (intOf i).toNat)
  case atStart => exact ⟨0, _, [], by omega, rfl, O0.out⟩
  case round =>
    obtain ⟨j, v, L, hj, rfl, ho⟩ := hrel
    clear O0 M1
    by_cases hlt : j < n
    · have hjI : (j : Int) < (n : Int) := by omega
      have hjl : j < xs.length := by rw [HN.out]; exact hlt
      obtain ⟨b, hb⟩ : ∃ b, xs[j] = b := ⟨_, rfl⟩
      obtain ⟨bb, off, rfl, _, hcell⟩ := (HS.out.mods ho.mods (fun _ _ h => h)).at_ (by rw [bts_length, HN.out]; omega)
      have h0 := hcell j _ (bts_get xs j hjl)
      rw [hb] at h0
      have htk : xs.take (j + 1) = xs.take j ++ [b] := by rw [List.take_succ_eq_append_getElem hjl, hb]
      obtain ⟨d, hd⟩ : ∃ d : Nat, b.toNat = d := ⟨_, rfl⟩
      have hd256 : d < 256 := by rw [← hd]; exact b.toNat_lt
      rw [hd] at h0
      obtain ⟨fa, hfa⟩ : ∃ fa, (d : Int) % 4 = fa := ⟨_, rfl⟩
      obtain ⟨fb, hfb⟩ : ∃ fb, (d : Int) / 4 % 4 = fb := ⟨_, rfl⟩
      have hand1 : bits .and .u8 (d : Int) 3 = fa := by rw [← hd, u8_and3, hd, hfa]
      have hand2 : bits .and .u8 ((d : Int) / 4) 3 = fb := by
        have h1 := u8_and3 (UInt8.ofNat (d / 4))
        have h2 : ((UInt8.ofNat (d / 4)).toNat : Int) = (d : Int) / 4 := by simp; omega
        rw [h2] at h1
        rw [h1, hfb]
      have hcc : cc b = (fa, fb, [b]) := by unfold cc; rw [hd, hfa, hfb]
      have hfa0 : 0 ≤ fa ∧ fa ≤ 3 := by omega
      have hfb0 : 0 ≤ fb ∧ fb ≤ 3 := by omega
      obtain ⟨hfa1, hfa2⟩ := hfa0
      obtain ⟨hfb1, hfb2⟩ := hfb0
      have hlen : L.length = j := by have := congrArg List.length ho.map; simp at this; omega
      obtain ⟨zs, hzs⟩ : ∃ zs, lf k (xs.take j) = zs := ⟨_, rfl⟩
      have hzl : zs.length ≤ j := by rw [← hzs]; unfold lf; have := List.length_filter_le (fun b => kc k (cc b)) (xs.take j); simp at this ⊢; omega
      have hlf := lf_snoc k (xs.take j) b
      rw [← htk, hzs] at hlf
      rw [hzs] at ho
      have hA := ho.nil ((Mods.refl Nil wr).alloc (.cells #[.int .u8 (d : Int)] 5))
      have hsl : Sl (wr.alloc (.cells #[.int .u8 (d : Int)] 5)) (some ⟨wr.heap.size, 0, none⟩) 1 (bts [b]) := by
        have := one_sl wr (.int .u8 (d : Int)) 5
        rw [← hd] at this ⊢
        exact this
      have HSEND := Lib.hid (nsend_int (f := fa) (t := fb) hA.net (by omega) (by omega) (by omega) (by omega) (by omega) (m := 1) rfl (by omega) hsl)
      have HCALL : Hid (∀ w3 v3 (q : Pk), NetAt w3 w.heap.size nb 4 v3 (L ++ [q]) → q.core = (fa, fb, [b]) → (q.xs ≠ [] → ∀ a, q.A = some a → (wr.alloc (.cells #[.int .u8 (d : Int)] 5)).heap.size ≤ a.block) → Mods (NS nb v) (wr.alloc (.cells #[.int .u8 (d : Int)] 5)) w3 → (∀ k, v3.ownBlock = some k → v.ownBlock = some k ∨ (wr.alloc (.cells #[.int .u8 (d : Int)] 5)).heap.size ≤ k) → Cl5 w w3 (xs.take (j + 1)) zs u9 v3 (L ++ [q]) nb ∧ w3.cell? ⟨bb, off + j, none⟩ = some (.int .u8 (d : Int))) := fun w3 v3 q k1 k2 k3 k4 k5 => by
        have h3 := hA.call (ys' := xs.take (j + 1)) k1 (by rw [List.map_append, ho.map, htk, List.map_append]; simp [k2, hcc]) k4 k5 (fun p hp => by
          rcases List.mem_append.1 hp with hp | hp
          · exact .inl hp
          · simp at hp; subst hp; exact .inr k3)
        refine ⟨h3, ?_⟩
        have h1 := HS.out
        obtain ⟨bb', off', hA', hb1, hc1⟩ := h1.at_ (by rw [bts_length, HN.out]; omega)
        injection hA' with hA'
        injection hA' with e1 e2
        subst e1; subst e2
        have := hc1 j _ (bts_get xs j hjl)
        rw [hb, hd] at this
        exact (World.cell?_of_block (h3.mods.block bb hb1 (fun h => h))).trans this
      have hd0 : (0 : Int) ≤ (d : Int) := by omega
      have hd1 : (d : Int) < 256 := by omega
      have HMO := Lib.hid ho.mods
      have HHD := Lib.hid hd
      have HZL := Lib.hid hzl
      cases hkc : kc k (cc b) with
      | true =>
        rw [hkc, if_pos rfl] at hlf
        rw [hcc] at hkc
        simp only [kc, Bool.not_eq_true', Bool.or_eq_false_iff] at hkc
        obtain ⟨hka, hkb⟩ := hkc
        have hka' : (fa != k) = true := by simp [bne, hka]
        have hkb' : (fb != k) = true := by simp [bne, hkb]
        have HLF := Lib.hid hlf
        clear ho hA hsl hlf htk hcell hb hd hfa hfb hcc hlen hzs hzl hjl
        go_wp2_with (first
          | (go_at_call 9; refine (HSEND.out).mono ?_; rintro e w3 ⟨rfl, v3, q, k1, k2, k3, k4, k5⟩; obtain ⟨h3, r3⟩ := HCALL.out w3 v3 q k1 k2 k3 k4 k5; have H3 := Lib.hid h3; clear k1 k2 k3 k4 k5 h3)
          | (at_builtin; refine wpList_append_sl _ rfl _ _ 29 rfl w.heap.size 5 i0 (.int .u8 0) 1 Try.underlying29 hi hz0 hz1 hz2 rfl _ zs.length (bts zs) rfl (H3.out.left.alloc _) (some ⟨w3.heap.size, 0, none⟩) 1 1 [.int .u8 (d : Int)] rfl rfl (one_sl _ _ _) (by simp [Value.oneCell']) (by have := HZL.out; omega) (by have := HZL.out; unfold maxLen; omega) (by have := H3.out.mods.size; simp; omega) ?_; intro vl2 w4 own4 g4 b4; rw [← HHD.out] at own4 g4 b4; have H4 := Lib.hid (H3.out.more own4 g4 b4); clear own4 g4 b4))
        exact ⟨⟨j + 1, v3, _, by omega, by go_num, by rw [HLF.out]; exact H4.out⟩, by simp [intOf]; omega⟩
      | false =>
        rw [hkc] at hlf
        simp at hlf
        rw [hcc] at hkc
        have HLF := Lib.hid hlf
        by_cases hka : fa = k
        · have hka1 : (fa == k) = true := by simp [hka]
          have hka' : (fa != k) = false := by simp [hka]
          clear ho hA hsl hlf htk hcell hb hd hfa hfb hcc hlen hzs hzl hjl hkc hka
          go_wp2_with (first
            | (go_at_call 9; refine (HSEND.out).mono ?_; rintro e w3 ⟨rfl, v3, q, k1, k2, k3, k4, k5⟩; obtain ⟨h3, r3⟩ := HCALL.out w3 v3 q k1 k2 k3 k4 k5; have H3 := Lib.hid h3; clear k1 k2 k3 k4 k5 h3))
          exact ⟨⟨j + 1, v3, _, by omega, by go_num, by rw [HLF.out]; exact H3.out⟩, by simp [intOf]; omega⟩
        · have hkb : fb = k := by simp [kc, hka] at hkc; exact hkc
          have hka1 : (fa == k) = false := by simp [hka]
          have hka' : (fa != k) = true := by simp [hka]
          have hkb1 : (fb == k) = true := by simp [hkb]
          have hkb' : (fb != k) = false := by simp [hkb]
          clear ho hA hsl hlf htk hcell hb hd hfa hfb hcc hlen hzs hzl hjl hkc hka hkb
          go_wp2_with (first
            | (go_at_call 9; refine (HSEND.out).mono ?_; rintro e w3 ⟨rfl, v3, q, k1, k2, k3, k4, k5⟩; obtain ⟨h3, r3⟩ := HCALL.out w3 v3 q k1 k2 k3 k4 k5; have H3 := Lib.hid h3; clear k1 k2 k3 k4 k5 h3))
          exact ⟨⟨j + 1, v3, _, by omega, by go_num, by rw [HLF.out]; exact H3.out⟩, by simp [intOf]; omega⟩
    · obtain rfl : n = j := by omega
      have htk : xs.take n = xs := by rw [← HN.out, List.take_length]
      rw [htk] at ho
      obtain ⟨Z, hZ⟩ : ∃ Z, lf k xs = Z := ⟨_, rfl⟩
      rw [hZ] at ho
      obtain ⟨q, hq⟩ : ∃ q, Z.length = q := ⟨_, rfl⟩
      have hlen : L.length = n := by have := congrArg List.length ho.map; simp at this; have := HN.out; omega
      have hmap : (L.filter (keepB k)).map Pk.core = Z.map cc := by rw [keepB_core, ho.map, lf_core, hZ]
      have hlenF : (L.filter (keepB k)).length = q := by have := congrArg List.length hmap; simp only [List.length_map] at this; omega
      have hqn : q ≤ n := by rw [← hlenF, ← hlen]; exact List.length_filter_le _ _
      have hqI : (q : Int) ≤ (n : Int) := by omega
      have hq0 : (0 : Int) ≤ (q : Int) := by omega
      have hpl : placesTo k 0 (L.filter (keepB k)) = [] := placesTo_none k 0 _ (fun p hp => (keepB_yes.1 (List.mem_filter.1 hp).2).2)
      have hcl := nclear_any ho.net (by omega) k
      unfold Cleared at hcl
      rw [hlen, hlenF] at hcl
      obtain ⟨Al, cl, hvl, -, -, -⟩ := own_slice ho.left
      rw [hq] at hvl
      obtain ⟨vl, hu9⟩ : ∃ vl, u9 = vl := ⟨_, rfl⟩
      rw [hu9] at hvl ho ⊢
      clear hu9
      subst hvl
      have HCL := Lib.hid hcl
      have HO := Lib.hid ho
      have HQ := Lib.hid hq
      have HLF := Lib.hid hlenF
      have HPL := Lib.hid hpl
      have HMAP := Lib.hid hmap
      clear ho htk hZ hq hlen hmap hlenF hpl hcl
      go_wp2_with (first
        | (go_at_call 13; refine (HCL.out).mono ?_; rintro e w2 ⟨rfl, v2, k1, k2, k3⟩; have h2 := HO.out.call (ys' := Z) k1 HMAP.out k2 k3 (fun p hp => .inl (List.mem_filter.1 hp).1); obtain ⟨A2, c2, rfl, -, -, -⟩ := k1.place; have g2 := k1.cells.2.1; rw [HLF.out] at g2; have N2 := Lib.hid k1; have H2 := Lib.hid h2; clear k1 k2 k3 h2)
        | (go_at_call 11; refine (nlen_any g2).mono ?_; rintro e w4 ⟨rfl, rfl⟩)
        | (go_at_call 14; refine (nto_any N2.out (by rw [HLF.out]; omega) k).mono ?_; rintro e w5 ⟨v5, rfl, o5, m5⟩; rw [HPL.out] at o5; obtain ⟨A5, c5, rfl, -, -, -⟩ := own_slice o5; have H5 := Lib.hid (H2.out.nil m5); clear o5 m5))
      go_loopw [13] (fun i W => ∃ (j : Nat) (v : Value) (L : List Pk), j ≤ q ∧ i = .int .i64 j ∧ Cl5 w W (Z.drop j) Z (.slice Al q cl) v L nb) (fun i _ => q - (intOf i).toNat)
      case atStart => exact ⟨0, _, _, by omega, rfl, by simpa using H5.out⟩
      case round =>
        obtain ⟨j, v, L, hj, rfl, ho⟩ := hrel
        clear HO H2 H5 N2 g2 HCL
        by_cases hlt : j < q
        · have hjI : (j : Int) < (q : Int) := by omega
          have hjZ : j < Z.length := by rw [HQ.out]; exact hlt
          obtain ⟨b, hb⟩ : ∃ b, Z[j] = b := ⟨_, rfl⟩
          have hdr : Z.drop j = b :: Z.drop (j + 1) := by rw [List.drop_eq_getElem_cons hjZ, hb]
          have hmap := ho.map
          rw [hdr] at hmap
          obtain ⟨q0, L1, hL⟩ : ∃ q0 L1, L = q0 :: L1 := by
            cases L with
            | nil => simp at hmap
            | cons a r => exact ⟨a, r, rfl⟩
          subst hL
          simp only [List.map_cons, List.cons.injEq] at hmap
          have hL1 : L1.length ≤ q := by have := congrArg List.length hmap.2; simp at this; have := HQ.out; omega
          obtain ⟨d, hd⟩ : ∃ d : Nat, b.toNat = d := ⟨_, rfl⟩
          obtain ⟨fa, hfa⟩ : ∃ fa, (d : Int) % 4 = fa := ⟨_, rfl⟩
          obtain ⟨fb, hfb⟩ : ∃ fb, (d : Int) / 4 % 4 = fb := ⟨_, rfl⟩
          have hcc : cc b = (fa, fb, [b]) := by unfold cc; rw [hd, hfa, hfb]
          have HTA := Lib.hid (ntake_core3 ho.net (by simp; omega) (i := 0) (q0 := q0) rfl (k := 0) rfl (hmap.1.trans hcc) (m := 1) rfl)
          obtain ⟨gl, capl, curl, hvl, hbl, hgl, -, -, -, -, -, hcell, -⟩ := own_place ho.left (by rw [HQ.out]; omega)
          rw [HQ.out] at hvl
          injection hvl with hvl1 hvl2 hvl3
          subst hvl1
          subst hvl3
          clear hvl2
          have hc0 := hcell j _ (bts_get Z j hjZ)
          rw [hb, hd] at hc0
          have hoff := (ho.off gl rfl).1
          have HO := Lib.hid ho
          have HC0 := Lib.hid hc0
          have HOFF := Lib.hid hoff
          have HM2 := Lib.hid hmap.2
          have HD := Lib.hid hd
          clear ho hb hdr hmap hd hfa hfb hcc hcell hc0 hoff hjZ hL1
          go_wp2_with (go_at_call 10; refine (HTA.out).mono ?_; rintro e w6 ⟨A6, c6, rfl, p6, v6, n6, m6, o6⟩; have h6 := HO.out.call (ys' := Z.drop (j + 1)) n6 HM2.out m6 o6 (fun p hp => .inl (List.mem_of_mem_eraseIdx hp)); have mA : Mods Nil w6 (w6.alloc (.cells #[.int .i64 fa, .int .i64 fb, .slice A6 1 c6] 32)) := (Mods.refl _ _).alloc _; have H7 := Lib.hid (h6.nil mA); obtain ⟨d0, d1, d2, -, -, -⟩ := (Blk.new w6 32 #[.int .i64 fa, .int .i64 fb, .slice A6 1 c6]).three; obtain ⟨ba, oa, rfl, hba, hca⟩ := p6.1.at_ (by simp); have e0 := (World.cell?_of_block (mA.block ba hba (fun h => h))).trans (hca 0 _ rfl); rw [Nat.add_zero] at e0; dsimp only at e0; rw [HD.out] at e0; have e1 := (World.cell?_of_block (mA.block gl (by have := m6.size; omega) (fun h => h))).trans ((World.cell?_of_block (m6.block gl hgl HOFF.out)).trans HC0.out); clear p6 n6 m6 o6 h6 mA hca)
          go_quiet (fail)
          go_wp2
          exact ⟨⟨j + 1, v6, _, by omega, by go_num, H7.out.nil ((Mods.refl Nil _).drewN nq)⟩, by simp [intOf]; omega⟩
        · have HMO := Lib.hid ho.mods
          clear ho
          go_wp2_with fail
          go_ret
          exact ⟨rfl, HMO.out⟩
theorem netClears_walk (w : World) {A : Option Addr} {c n : Nat} {xs : List UInt8} (hn : xs.length = n) (hs : Sl w A c (bts xs)) {a1 : Int} (w1 : (Lit.int .u8 a1).wf = true) :
    Calls Try.prog 6 #[.slice A n c, .int .u8 a1] w fun e w' => e = .returned (.bool true) ∧ Mods Nil w w' := by
  have h1 := u8_of_wf w1
  have h2 : a1 = ((UInt8.ofNat a1.toNat).toNat : Int) := by simp; omega
  rw [h2]
  exact netClears_nat w hn hs _
end Go.Proofs.Ytglaenoaeiendaa
