/- Texts laid as one: Acc7, Acc8, Acc9, AccA, AccB. -/
import Derived.Test.YthkejoabppocoaaAccM1
import Derived.Test.YthkejoabppocoaaSrtF
import Derived.Test.YthkejoabppocoaaGQ
import Derived.Deep.RegionWith

section
/- Package acceptor: the slots, sorted; Prepare. -/
namespace Go.Proofs.Ythkejoabppocoaa
set_option maxRecDepth 100000
open Go.RowKit Go.Maps Go.Shelf
set_option linter.unusedVariables false
set_option linter.unusedSimpArgs false
theorem sort_same {l : List Int} (hl : l.Pairwise (· < ·)) {ss : List Int} (hn : ss.Nodup) (hm : ∀ x, x ∈ ss ↔ x ∈ l) : ss.mergeSort (fun x y => decide (x ≤ y)) = l := by
  have hp : ss.Perm l := (List.perm_ext_iff_of_nodup hn (hl.imp (fun {a b} h e => by subst e; omega))).2 hm
  have h1 : (ss.mergeSort (fun x y => decide (x ≤ y))).Pairwise (fun x y => decide (x ≤ y) = true) := List.pairwise_mergeSort (fun a b c h1 h2 => by simp only [decide_eq_true_eq] at *; omega) (fun a b => by simp only [Bool.or_eq_true, decide_eq_true_eq]; omega) ss
  refine List.Perm.eq_of_pairwise (le := fun x y => decide (x ≤ y) = true) (fun a b _ _ h1 h2 => ?_) h1 (hl.imp (fun {a b} h => by simp only [decide_eq_true_eq]; omega)) ((List.mergeSort_perm ss _).trans hp)
  simp only [decide_eq_true_eq] at h1 h2
  omega
def slotsI (L : List PVt) : List Int := L.map fun v => (v.slot : Int)
theorem slotsI_rise {L : List PVt} (h : riseV L) : (slotsI L).Pairwise (· < ·) := List.pairwise_map.2 (h.imp (fun {a b} h => by omega))
section
variable {W0 W W' : World} {X S Y : Nat → Prop} {b T : Nat} {a : PAc} {L : List PVt} {mv : Value}
theorem keys_of {f : Value → Option Value} {F : Nat → Prop} (hok : ∀ v ∈ L, v.slot < 18446744073709551616) (hr : riseV L) (h : ∀ s : Nat, s < 18446744073709551616 → VotAt W F (lookV L s) (f (.int .u64 (s : Int)))) (x : Int) : (inU x ∧ (f (.int .u64 x)).isSome = true) ↔ x ∈ slotsI L := by
  constructor
  · rintro ⟨⟨h1, h2⟩, h3⟩
    obtain ⟨s, rfl⟩ : ∃ s : Nat, x = (s : Int) := ⟨x.toNat, by omega⟩
    cases hl : lookV L s with
    | none => rw [(h s (by omega)).none_ hl] at h3; cases h3
    | some v =>
      obtain ⟨hv, rfl⟩ := lookV_some hl
      exact List.mem_map.2 ⟨v, hv, rfl⟩
  · intro hx
    obtain ⟨v, hv, rfl⟩ := List.mem_map.1 hx
    have hs := hok v hv
    obtain ⟨A, c, e, _⟩ := (h v.slot hs).some_ v (lookV_of hr hv)
    exact ⟨⟨by omega, by omega⟩, by rw [e]; rfl⟩
/-- The slots, sorted. -/
theorem MapV.sorted (h : MapV W0 W X b L T mv) (hr : riseV L) (hok : ∀ v ∈ L, v.slot < 18446744073709551616) (hT : T ≤ 1000) (hlen : L.length ≤ T) :
    Calls Try.prog 27 #[.func (.func 45) #[] #[.pointer (some ⟨W.heap.size, 0, none⟩)]] (W.alloc (.cells #[mv] 69)) fun e w' => ∃ v, e = .returned v ∧ w'.ownsRow (W.heap.size + 1) 26 1 v L.length ((slotsI L).map nU) ∧ Mods Nil W w' := by
  have eg := enters_of Try.func45 (by kernel_rfl) rfl
  have hc : (W.alloc (.cells #[mv] 69)).cell? ⟨W.heap.size, 0, none⟩ = some mv := (Blk.new W _ #[mv]).cell 0
  have hm : Mods Nil W (W.alloc (.cells #[mv] 69)) := (Mods.refl _ _).alloc _
  have hsz : (W.alloc (.cells #[mv] 69)).heap.size = W.heap.size + 1 := by simp
  rcases h with ⟨rfl, rfl⟩ | ⟨mb, n, f, rfl, h1, h2, h3, h4, h5⟩
  · refine (ssorted_any (N := 0) (by omega) eg (skeys_seq0 (by simp) hc) (fun ss hs => by subst hs; exact Nat.zero_le _)).mono ?_
    rintro e w' ⟨v, ss, rfl, hS, ho, hm2⟩
    subst hS
    rw [hsz] at ho
    exact ⟨v, rfl, by simpa [slotsI] using ho, hm.trans hm2⟩
  · have hks : ∀ ss, Keys f ss → ss.mergeSort (fun x y => decide (x ≤ y)) = slotsI L := fun ss hs => sort_same (slotsI_rise hr) hs.1 (fun x => by rw [hs.2 x]; exact keys_of hok hr h5 x)
    have hln : ∀ ss, Keys f ss → ss.length = L.length := fun ss hs => by
      have := congrArg List.length (hks ss hs)
      rw [List.length_mergeSort] at this
      simpa [slotsI] using this
    refine (ssorted_any (N := n) (by omega) eg (skeys_seq (by simp) hc (h1.mods hm (fun h => h))) (fun ss hs => by rw [hln ss hs]; omega)).mono ?_
    rintro e w' ⟨v, ss, rfl, hS, ho, hm2⟩
    rw [hks ss hS, hln ss hS, hsz] at ho
    exact ⟨v, rfl, ho, hm.trans hm2⟩
end
end Go.Proofs.Ythkejoabppocoaa
end

section
/- Package acceptor: Prepare. -/
namespace Go.Proofs.Ythkejoabppocoaa
set_option maxRecDepth 100000
open Go.RowKit Go.Maps Go.Shelf
set_option linter.unusedVariables false
set_option linter.unusedSimpArgs false
/-- Votes that are told, in memory of the call's own. -/
structure OwnV (base : Nat) (w : World) (v : Value) (l : List VtP) : Prop where
  own : w.ownsRow base 43 3 v l.length (pvc l)
  bys : ∀ q ∈ l, Sl w q.A q.c (bts q.val) ∧ (bts q.val ≠ [] → ∀ a, q.A = some a → base ≤ a.block ∧ ∃ cs, Blk w a.block 5 cs) ∧ q.slot < 18446744073709551616 ∧ q.bal < 18446744073709551616
theorem OwnV.none_ (base : Nat) (w : World) : OwnV base w (.slice none 0 0) [] := ⟨World.ownsRow_nil _ _ _ _, fun q h => by cases h⟩
theorem OwnV.mods {base : Nat} {w w' : World} {v : Value} {l : List VtP} {S : Nat → Prop} (h : OwnV base w v l) (hm : Mods S w w') (h1 : ∀ k, v.ownBlock = some k → ¬ S k) (h2 : ∀ k, base ≤ k → (∃ cs, Blk w k 5 cs) → ¬ S k) : OwnV base w' v l :=
  ⟨own_mods h.own hm h1, fun q hq => by
    obtain ⟨a1, a2, a3⟩ := h.bys q hq
    refine ⟨a1.mods' hm (fun hne a ha hs => h2 _ (a2 hne a ha).1 (a2 hne a ha).2 hs), fun hne a ha => ⟨(a2 hne a ha).1, ?_⟩, a3⟩
    obtain ⟨b1, cs, b2⟩ := a2 hne a ha
    exact ⟨cs, b2.mods hm (h2 _ b1 ⟨cs, b2⟩)⟩⟩
theorem OwnV.nil {base : Nat} {w w' : World} {v : Value} {l : List VtP} (h : OwnV base w v l) (hm : Mods Nil w w') : OwnV base w' v l := h.mods hm (fun _ _ h => h) (fun _ _ _ h => h)
theorem OwnV.push {base : Nat} {w w1 : World} {v v' : Value} {l : List VtP} {q : VtP} (h : OwnV base w v l) (hq : Sl w q.A q.c (bts q.val) ∧ (bts q.val ≠ [] → ∀ a, q.A = some a → base ≤ a.block ∧ ∃ cs, Blk w a.block 5 cs) ∧ q.slot < 18446744073709551616 ∧ q.bal < 18446744073709551616)
    (ho : w1.ownsRow base 43 3 v' (l.length + 1) (pvc (l ++ [q]))) (hm : Mods (fun k => v.ownBlock = some k) w w1) : OwnV base w1 v' (l ++ [q]) := by
  refine ⟨by simpa using ho, fun r hr => ?_⟩
  have hr1 : Sl w r.A r.c (bts r.val) ∧ (bts r.val ≠ [] → ∀ a, r.A = some a → base ≤ a.block ∧ ∃ cs, Blk w a.block 5 cs) ∧ r.slot < 18446744073709551616 ∧ r.bal < 18446744073709551616 := by
    rcases List.mem_append.1 hr with hr | hr
    · exact h.bys r hr
    · rw [List.mem_singleton.1 hr]; exact hq
  obtain ⟨a1, a2, a3⟩ := hr1
  have off : ∀ k, (∃ cs, Blk w k 5 cs) → ¬ v.ownBlock = some k := fun k ⟨cs, hb⟩ => own_blk_ne h.own hb (by decide)
  refine ⟨a1.mods' hm (fun hne a ha hs => off _ (a2 hne a ha).2 hs), fun hne a ha => ⟨(a2 hne a ha).1, ?_⟩, a3⟩
  obtain ⟨b1, cs, b2⟩ := a2 hne a ha
  exact ⟨cs, b2.mods hm (off _ ⟨cs, b2⟩)⟩
/-- As the statements have it. -/
theorem OwnV.pvs {base : Nat} {w : World} {v : Value} {l : List VtP} {D : Nat → Prop} (h : OwnV base w v l) (hD : ∀ k, base ≤ k → k < w.heap.size → D k) : ∃ A c, v = .slice A l.length c ∧ PVs w D A c l.length l :=
  pvs_own h.own rfl (fun k hk => hD k (h.own.lt k hk).1 (h.own.lt k hk).2) (fun q hq => by
    obtain ⟨a1, a2, a3⟩ := h.bys q hq
    exact ⟨a1, fun hne a ha => hD _ (a2 hne a ha).1 (by obtain ⟨cs, hb⟩ := (a2 hne a ha).2; exact hb.lt), a3⟩)
section
variable {W0 W W' : World} {X S Y : Nat → Prop} {b T : Nat} {a : PAc} {L : List PVt} {mv : Value}
/-- What Prepare tells. -/
def PrepT (W0 W : World) (X : Nat → Prop) (b : Nat) (a : PAc) (T bal f : Nat) (e : Ending) (W' : World) : Prop :=
  ∃ A c n L, e = .returned (.tuple #[.slice A n c, .int .i64 (a.prepE bal : Int)]) ∧ L.map VtP.plain = a.told bal f ∧ PVs W' (fun k => W.heap.size ≤ k ∧ k < W'.heap.size) A c n L ∧ AccS W0 W' (XN X W W') b (a.prepare bal) T ∧ Mods (AM W0 X) W W'
set_option maxHeartbeats 3200000 in
theorem AccS.prep (h : AccS W0 W X b a T) (hT : T ≤ 1000) {bal f : Nat} (hb : bal < 18446744073709551616) (hf : f < 18446744073709551616) :
    Calls Try.prog 11 #[.pointer (some ⟨b, 0, none⟩), .int .u64 (bal : Int), .int .u64 (f : Int)] W (PrepT W0 W X b a T bal f) := by
  have HL := Lib.hid (h.late bal)
  have H0 := Lib.hid h
  by_cases hbp : bal < a.prom
  · have hE : (a.prepE bal : Int) = 32 := by unfold PAc.prepE; rw [if_pos hbp]; rfl
    rw [hE] at HL
    have HE := Lib.hid hE
    have HB := Lib.hid hbp
    clear h hE hbp
    go_enter Try.func11, Try.ntmps11
    go_wp2_with (go_at_call 26; refine HL.out.mono ?_; rintro e w' ⟨rfl, rfl⟩)
    go_ret2
    refine ⟨none, 0, 0, [], (by rw [HE.out]; rfl), ?_, PVs.none_ _ _, ?_, Mods.refl _ _⟩
    · unfold PAc.told; rw [if_pos HB.out]; rfl
    · rw [show a.prepare bal = a by unfold PAc.prepare; rw [if_pos HB.out]]
      exact H0.out.more (Mods.refl _ _) (fun k hk => hk)
  · have hE : (a.prepE bal : Int) = 0 := by unfold PAc.prepE; rw [if_neg hbp]; rfl
    rw [hE] at HL
    have HE := Lib.hid hE
    have HTO : Hid (a.told bal f = fromV f a.L) := Lib.hid (by unfold PAc.told; rw [if_neg hbp])
    have HPR : Hid (a.prepare bal = { a with prom := bal }) := Lib.hid (by unfold PAc.prepare; rw [if_neg hbp])
    obtain ⟨mv, k1, k2⟩ := h.blk
    obtain ⟨mo, rfl⟩ : ∃ mo, mv = .map mo := by
      rcases k2 with ⟨e, _⟩ | ⟨mb, _, _, e, _⟩ <;> exact ⟨_, e⟩
    have c0 := k1.cell 0
    have f0 := k1.frozen 0
    simp at c0
    have m1 : Mods (fun k => k = b) W (W.setCell ⟨b, 0, none⟩ (.int .u64 (bal : Int))) := Mods.setCell (S := fun k => k = b) (Mods.refl _ _) (fun _ => rfl) _
    have b1 := k1.set_ 0 (.int .u64 (bal : Int))
    obtain ⟨W1, hW1⟩ : ∃ W1, W.setCell ⟨b, 0, none⟩ (.int .u64 (bal : Int)) = W1 := ⟨_, rfl⟩
    have hsz1 : W1.heap.size = W.heap.size := by rw [← hW1]; simp [World.setCell]
    rw [hW1] at m1 b1
    replace b1 : Blk W1 b 71 #[.int .u64 (bal : Int), .int .u64 (a.low : Int), .map mo] := by simpa using b1
    have d2 := b1.cell 2
    simp at d2
    have k3 : MapV W0 W1 X b a.L T (.map mo) := k2.mods m1 (fun k _ _ h1 h2 => h1 h2) (fun k e hk => by
      rcases k2 with ⟨e2, _⟩ | ⟨mb, n, g, e2, q1, _⟩
      · rw [e2] at e; cases e
      · rw [e2] at e
        injection e with e
        injection e with e
        subst e
        exact q1.ne_blk k1 hk)
    have m01 : Mods (AM W0 X) W W1 := m1.mono (fun k _ e => by subst e; exact ⟨h.lo, h.nx⟩)
    have h1 : AccS W0 W1 X b { a with prom := bal } T := ⟨h.am m01, h.rise, h.ok, hb, h.len, fun k hk => Nat.lt_of_lt_of_le (h.old k hk) m01.size, h.lo, h.nx, _, b1, k3⟩
    obtain ⟨N, hN⟩ : ∃ N, a.L.length = N := ⟨_, rfl⟩
    have hN1 : N ≤ 1000 := by have := h.len; omega
    have HST := Lib.hid (k3.sorted h.rise (fun v hv => (h.ok v hv).1) hT h.len)
    rw [hN] at HST
    have HN := Lib.hid hN
    have H1 := Lib.hid h1
    have M01 := Lib.hid m01
    have HSZ1 := Lib.hid hsz1
    have B1 := Lib.hid b1
    have HLK : Hid (∀ v, v ∈ a.L → ∃ q : VtP, q.plain = v ∧ q.val.length ≤ 100000 ∧ Sl W1 q.A q.c (bts q.val) ∧ ∀ V, Mods Nil W1 V → (Instr.lookup 69 (.map mo) (.int .u64 (v.slot : Int)) false).run Try.prog V = .ok (.agg #[.int .u64 (q.slot : Int), .int .u64 (q.bal : Int), .slice q.A q.val.length q.c]) V) := Lib.hid (fun v hv => by
      obtain ⟨q, r, _, g2, g3, g4, g5, g6⟩ := k3.look (h.ok v hv).1
      have hl := lookV_of h.rise hv
      exact ⟨q, g6 v hl, g4, g3, g2 (by rw [g5, hl]; rfl)⟩)
    have HOK : Hid (∀ v ∈ a.L, v.slot < 18446744073709551616 ∧ v.bal < 18446744073709551616) := Lib.hid h.ok
    clear h hE hbp k1 k2 m1 b1 k3 m01 h1 hN hsz1
    go_enter Try.func11, Try.ntmps11
    go_wp2_with (first
      | (go_at_call 26; refine HL.out.mono ?_; rintro e w' ⟨rfl, rfl⟩)
      | (go_at_call 28; refine (skeys_any _ _).mono ?_; rintro e w1 ⟨rfl, rfl⟩)
      | (go_at_call 27; refine HST.out.mono ?_; rintro e w2 ⟨v, rfl, o2, m2⟩; obtain ⟨A2, c2, rfl⟩ : ∃ A c, v = .slice A N c := own_formU o2; have O2 := Lib.hid o2; have M2 := Lib.hid m2; clear o2 m2))
    go_loopw [9, 29] (fun x y wr => ∃ (j : Nat) (l : List VtP), j ≤ N ∧ y = .int .i64 (j : Int) ∧ l.length ≤ j ∧ Hid (l.map VtP.plain = fromV f (a.L.take j)) ∧ Hid (OwnV w2.heap.size wr x l) ∧ Hid (Mods Nil w2 wr)) (fun _ y _ => N - (intOf y).toNat)
    case atStart => exact ⟨0, [], Nat.zero_le _, rfl, Nat.le_refl _, Lib.hid rfl, Lib.hid (OwnV.none_ _ _), Lib.hid (Mods.refl _ _)⟩
    case round =>
      obtain ⟨j, l, hj, rfl, hl, HP, HO, HM⟩ := hrel
      by_cases hlt : j < N
      · have hltI : (j : Int) < (N : Int) := by omega
        have hjL : j < a.L.length := by rw [HN.out]; exact hlt
        obtain ⟨v, hv⟩ : ∃ v, a.L[j] = v := ⟨_, rfl⟩
        have hvm : v ∈ a.L := by rw [← hv]; exact List.getElem_mem hjL
        have hvs := HOK.out v hvm
        obtain ⟨q, hqv, hqn, hqs, hqk⟩ := HLK.out v hvm
        have HTK : Hid (a.L.take (j + 1) = a.L.take j ++ [v]) := Lib.hid (by rw [List.take_succ_eq_append_getElem hjL, hv])
        obtain ⟨g2, cap2, cur2, e2, hb2, hg2, -, -, -, -, -, hcell2, -⟩ := own_place O2.out (by omega)
        injection e2 with e2 e3 e4
        subst e2
        have z0 : wr.cell? ⟨g2, j, none⟩ = some (.int .u64 (v.slot : Int)) := (World.cell?_of_block (HM.out.block g2 hg2 (fun h => h))).trans (hcell2 j _ (by rw [List.getElem?_map]; simp [slotsI, List.getElem?_eq_getElem hjL, hv]))
        have MW : Hid (Mods Nil W1 wr) := Lib.hid (M2.out.trans HM.out)
        have z2 := (B1.out.mods MW.out (fun h => h)).cell 2
        simp at z2
        obtain ⟨n, hn⟩ : ∃ n, q.val.length = n := ⟨_, rfl⟩
        have zl := hqk wr MW.out
        rw [hn] at zl
        have HCP := Lib.hid (vcopied_any (w := wr) (q.slot : Int) (q.bal : Int) hn (by omega) (hqs.mods MW.out (fun _ _ h => h)))
        have HNQ := Lib.hid hn
        have HQV := Lib.hid hqv
        have HVS := Lib.hid hvs
        have HLL := Lib.hid hl
        clear hjL hv hvm hqv hqn hqs hqk e3 e4 hcell2 hb2 hg2 hn hl hvs
        by_cases hfs : f ≤ v.slot
        · have hfsI : (f : Int) ≤ (v.slot : Int) := by omega
          go_wp2_with (first
            | (go_at_call 29; refine HCP.out.mono ?_; rintro e w3 ⟨A3, k3, rfl, s3, f3, m3⟩; have S3 := Lib.hid s3; have F3 := Lib.hid f3; have M3 := Lib.hid m3; clear s3 f3 m3)
            | (at_builtin; refine push_pv rfl _ _ rfl ⟨q.slot, q.bal, A3, k3, q.val⟩ HNQ.out rfl (HO.out.nil M3.out).own rfl (by have := HLL.out; omega) (by have := HM.out.size; have := M3.out.size; omega) ?_; intro v' w4 ho4 m4; have O4 := Lib.hid ho4; have M4 := Lib.hid m4; clear ho4 m4))
          refine ⟨⟨j + 1, l ++ [⟨q.slot, q.bal, A3, k3, q.val⟩], by omega, by go_num, by have := HLL.out; simp; omega, Lib.hid ?_, Lib.hid ((HO.out.nil M3.out).push ⟨S3.out, fun hne ad had => ⟨by have := (F3.out hne ad had).1; have := HM.out.size; omega, (F3.out hne ad had).2.2⟩, ?_, ?_⟩ O4.out M4.out), Lib.hid ((HM.out.trans M3.out).nil_trans M4.out (fun i h => (HO.out.own.lt i h).1))⟩, by simp [intOf]; omega⟩
          · rw [HTK.out, fromV_snoc, if_pos hfs, List.map_append, HP.out, ← HQV.out]
            rfl
          · have := HVS.out.1
            rw [← HQV.out] at this
            exact this
          · have := HVS.out.2
            rw [← HQV.out] at this
            exact this
        · have hfsI : ¬ (f : Int) ≤ (v.slot : Int) := by omega
          go_wp2_with fail
          refine ⟨⟨j + 1, l, by omega, by go_num, by have := HLL.out; omega, Lib.hid ?_, HO, HM⟩, by simp [intOf]; omega⟩
          rw [HTK.out, fromV_snoc, if_neg hfs]
          exact HP.out
      · obtain rfl : N = j := by omega
        go_wp2_with fail
        go_ret2
        have hall : a.L.take N = a.L := List.take_of_length_le (by rw [HN.out]; exact Nat.le_refl _)
        have mall : Mods Nil W1 wr := M2.out.trans HM.out
        obtain ⟨A9, c9, rfl, hpv⟩ := HO.out.pvs (D := fun k => W.heap.size ≤ k ∧ k < wr.heap.size) (fun k h1 h2 => ⟨by have := M2.out.size; have := HSZ1.out; omega, h2⟩)
        refine ⟨A9, c9, l.length, l, by rw [HE.out]; rfl, by rw [HTO.out, HP.out, hall], hpv, ?_, (M01.out.trans (mall.mono (fun _ _ h => h.elim)))⟩
        rw [HPR.out]
        exact H1.out.more mall (fun k hk => hk.imp id (fun h => ⟨by have := HSZ1.out; omega, h.2⟩))
end
end Go.Proofs.Ythkejoabppocoaa
end

section
/- Package acceptor: Put. -/
namespace Go.Proofs.Ythkejoabppocoaa
set_option maxRecDepth 100000
open Go.RowKit
set_option linter.unusedVariables false
set_option linter.unusedSimpArgs false
theorem vputVs_take {L : List PVt} {j : Nat} {x : PVt} (h : L[j]? = some x) : vputVs (L.take (j + 1)) = vputVs (L.take j) ++ putU x.slot ++ putU x.bal ++ putB x.val := by
  obtain ⟨hj, e⟩ := List.getElem?_eq_some_iff.1 h
  rw [List.take_succ_eq_append_getElem hj, vputVs_snoc, e, vputV]
  simp
/-- What Put leaves of a round. -/
structure PutR (W wr : World) (v : Value) (out : List UInt8) : Prop where
  wr_ : IsWriter wr W.heap.size W.heap.size v out
  m : Mods Nil W wr
theorem PutR.wrote {W wr w2 : World} {v v' : Value} {out out' : List UInt8} (h : PutR W wr v out) (hw : IsWriter w2 W.heap.size W.heap.size v' out') (hm : Wrote wr w2 W.heap.size v v') : PutR W w2 v' out' :=
  ⟨hw, h.m.nil_trans hm.mods (fun i hi => by
    rcases hi with rfl | hi
    · exact Nat.le_refl _
    · exact (h.wr_.own.lt i hi).1)⟩
theorem PutR.nil {W wr w2 : World} {v : Value} {out : List UInt8} (h : PutR W wr v out) (hm : Mods Nil wr w2) : PutR W w2 v out :=
  ⟨h.wr_.mods hm (fun h => h) (fun _ _ h => h), h.m.trans hm⟩
set_option maxHeartbeats 3200000 in
theorem aput_any (W : World) {D : Nat → Prop} {A : Option Addr} {c n : Nat} {L : List VtP} (h : PVs W D A c n L) (hn : n ≤ 100000) (hv : ∀ q ∈ L, q.val.length ≤ 40000) :
    Calls Try.prog 24 #[.slice A n c] W fun e W' => ∃ A' c' m, e = .returned (.slice A' m c') ∧ (vputL (L.map VtP.plain)).length = m ∧ Sl W' A' c' (bts (vputL (L.map VtP.plain))) ∧ Mods Nil W W' := by
  have HH := Lib.hid h
  have HB : Hid (∀ j, (vputVs ((L.map VtP.plain).take j)).length ≤ 4002700000) := Lib.hid (fun j => by
    have h1 := vputVs_len (B := 40000) (by omega) ((L.map VtP.plain).take j) (fun v hv2 => by
      obtain ⟨q, hq, rfl⟩ := List.mem_map.1 (List.mem_of_mem_take hv2)
      exact ⟨(h.bys q hq).2.2.1, (h.bys q hq).2.2.2, hv q hq⟩)
    have h2 : ((L.map VtP.plain).take j).length ≤ 100000 := by
      have := h.len
      simp [List.length_take]; omega
    have h3 : ((L.map VtP.plain).take j).length * (27 + 40000) ≤ 100000 * (27 + 40000) := Nat.mul_le_mul_right _ h2
    omega)
  have HV := Lib.hid hv
  have hln := h.len
  obtain ⟨out, hout⟩ : ∃ out, vputL (L.map VtP.plain) = out := ⟨_, rfl⟩
  obtain ⟨m, hm⟩ : ∃ m, out.length = m := ⟨_, rfl⟩
  have HOUT : Hid (putU n ++ vputVs ((L.map VtP.plain).take n) = out) := Lib.hid (by
    rw [← hout, vputL, List.take_of_length_le (by simp; omega)]
    simp [hln])
  have hmb : m ≤ 4002700009 := by
    have h1 := HB.out n
    have h2 := putU_length n (by omega)
    rw [← hm, ← HOUT.out, List.length_append]; omega
  have HM := Lib.hid hm
  have HLN := Lib.hid hln
  have wn : IntKind.u64.wrap (n : Int) = (n : Int) := by rw [IntKind.wrap_u64]; omega
  have wn2 : (n : Int) ≤ 9223372036854775807 := by omega
  rw [hout, hm]
  clear h hv hln hout hm
  go_enter Try.func24, Try.ntmps24
  go_wp2_with (first
    | (go_at_call 37; refine (newWriter_any _).mono ?_; rintro e w1 ⟨rfl, i1, m1⟩; have R1 := Lib.hid (PutR.mk (W := W) i1 m1); clear i1 m1)
    | (go_at_call 38; refine (wuint_any n (by omega) (by simp) R1.out.wr_).mono ?_; rintro e w2 ⟨rfl, v2, i2, m2⟩; have R2 := Lib.hid (R1.out.wrote i2 m2); clear i2 m2))
  go_loopw [14] (fun y wr => ∃ (j : Nat) (v : Value), j ≤ n ∧ y = .int .i64 (j : Int) ∧ Hid (PutR W wr v (putU n ++ vputVs ((L.map VtP.plain).take j)))) (fun y _ => n - (intOf y).toNat)
  case atStart => exact ⟨0, v2, Nat.zero_le _, rfl, Lib.hid (by simpa [vputVs] using R2.out)⟩
  case round =>
    obtain ⟨j, v, hj, rfl, HR⟩ := hrel
    by_cases hlt : j < n
    · have hltI : (j : Int) < (n : Int) := by omega
      have hjL : j < L.length := by rw [HLN.out]; exact hlt
      obtain ⟨q, hq⟩ : ∃ q, L[j]? = some q := ⟨_, List.getElem?_eq_getElem hjL⟩
      have hqm : q ∈ L := List.mem_of_getElem? hq
      obtain ⟨qs, qo, q1, q2⟩ := HH.out.bys q hqm
      have qv := HV.out q hqm
      have hqp : (L.map VtP.plain)[j]? = some q.plain := by rw [List.getElem?_map, hq]; rfl
      have HTK := Lib.hid (vputVs_take hqp)
      obtain ⟨g, off, e, hg, z0, z1, z2⟩ := (HH.out.nil HR.out.m).cells hq
      subst e
      obtain ⟨k, hk⟩ : ∃ k, q.val.length = k := ⟨_, rfl⟩
      rw [hk] at z2
      have HO := Lib.hid (HB.out j)
      have mX : Mods Nil wr (wr.alloc (.cells #[.int .u64 (q.slot : Int), .int .u64 (q.bal : Int), .slice q.A k q.c] 43)) := (Mods.refl _ _).alloc _
      have bX := Blk.new wr 43 #[.int .u64 (q.slot : Int), .int .u64 (q.bal : Int), .slice q.A k q.c]
      obtain ⟨w3, hw3⟩ : ∃ w3, wr.alloc (.cells #[.int .u64 (q.slot : Int), .int .u64 (q.bal : Int), .slice q.A k q.c] 43) = w3 := ⟨_, rfl⟩
      rw [hw3] at mX bX
      have HR3 := Lib.hid (HR.out.nil mX)
      have x0 := bX.cell 0
      simp at x0
      have BX := Lib.hid bX
      have HXS : Hid (W.heap.size ≤ wr.heap.size) := Lib.hid HR.out.m.size
      have HXN : Hid (∀ V v0 v1 o0 o1, PutR W V v0 o0 → Blk V wr.heap.size 43 #[.int .u64 (q.slot : Int), .int .u64 (q.bal : Int), .slice q.A k q.c] → ∀ V2, Wrote V V2 W.heap.size v0 v1 → IsWriter V2 W.heap.size W.heap.size v1 o1 → Blk V2 wr.heap.size 43 #[.int .u64 (q.slot : Int), .int .u64 (q.bal : Int), .slice q.A k q.c]) := Lib.hid (fun V v0 v1 o0 o1 h0 hb V2 hw hw1 => hb.mods hw.mods (fun hs => by
        rcases hs with hs | hs
        · have := HR.out.wr_.blk.lt
          omega
        · exact own_blk_ne h0.wr_.own hb (by decide) hs))
      have HQS := Lib.hid qs
      have HK := Lib.hid hk
      have HK4 : Hid (q.val.length ≤ 40000) := Lib.hid qv
      have hb1 := putU_length q.slot q1
      have hb2 := putU_length q.bal q2
      have HP1 := Lib.hid hb1
      have HP2 := Lib.hid hb2
      have hn9 := putU_length n (by omega)
      have HN9 := Lib.hid hn9
      clear hjL hq hqm qs hqp hg hk qv mX bX hb1 hb2 hn9 qo
      go_wp2_with (first
        | (go_at_call 38; have hx := R4.out; clear hx; refine (wuint_any q.bal q2 (by have := HO.out; have := HP1.out; have := HN9.out; simp only [List.length_append]; omega) R4.out.wr_).mono ?_; rintro e w5 ⟨rfl, v5, i5, m5⟩; have B5 := Lib.hid (HXN.out _ _ _ _ _ R4.out B4.out _ m5 i5); have R5 := Lib.hid (R4.out.wrote i5 m5); have y2 := B5.out.cell 2; simp at y2; clear i5 m5)
        | (go_at_call 38; refine (wuint_any q.slot q1 (by have := HO.out; have := HN9.out; simp only [List.length_append]; omega) HR3.out.wr_).mono ?_; rintro e w4 ⟨rfl, v4, i4, m4⟩; have B4 := Lib.hid (HXN.out _ _ _ _ _ HR3.out BX.out _ m4 i4); have R4 := Lib.hid (HR3.out.wrote i4 m4); have y1 := B4.out.cell 1; simp at y1; clear i4 m4)
        | (go_at_call 39; refine (wbytes_any HK.out (by have := HO.out; have := HP1.out; have := HP2.out; have := HN9.out; have := HK4.out; simp only [List.length_append]; omega) R5.out.wr_ (HQS.out.mods R5.out.m (fun _ _ h => h)) (R5.out.wr_.apart (Nat.le_refl _) HQS.out)).mono ?_; rintro e w6 ⟨rfl, v6, i6, m6⟩; have R6 := Lib.hid (R5.out.wrote i6 m6); clear i6 m6))
      refine ⟨⟨j + 1, v6, by omega, by go_num, Lib.hid ?_⟩, by simp [intOf]; omega⟩
      have h6 := R6.out
      rw [HTK.out]
      simpa [List.append_assoc, VtP.plain] using h6
    · obtain rfl : n = j := by omega
      go_wp2_with (first
        | (go_at_call 40; refine (out_any (n := m) (by rw [HOUT.out]; exact HM.out) (by rw [HOUT.out, HM.out]; omega) HR.out.wr_).mono ?_; rintro e w3 ⟨A3, c3, rfl, s3, -, m3⟩; have S3 := Lib.hid s3; have M3 := Lib.hid m3; clear s3 m3))
      go_ret
      exact ⟨A3, c3, m, rfl, rfl, by rw [← HOUT.out]; exact S3.out, HR.out.m.trans M3.out⟩
end Go.Proofs.Ythkejoabppocoaa
end

section
/- Package acceptor: getVote. -/
namespace Go.Proofs.Ythkejoabppocoaa
set_option maxRecDepth 100000
open Go.RowKit
set_option linter.unusedVariables false
set_option linter.unusedSimpArgs false
/-- One more behind a row of the call's own: where the row then lies. -/
theorem push_pvm {ops : Array Oper} {rest : List Oper} {o : Oper} {a : Act} {Q : Exit → Act → World → Prop} (hgd : o.guard = none) (s x : Operand)
    (ho : o.op = .call { callee := .builtin .append, args := #[s, x], argTypes := #[34, 34] })
    {W : World} {base m : Nat} {v : Value} {l : List VtP} (y : VtP) {n : Nat} (hn : y.val.length = n) (hs : a.eval s = v) (hown : W.ownsRow base 43 3 v m (pvc l)) (hx : a.eval x = .slice (some ⟨W.heap.size, 0, none⟩) 1 1)
    (hlim : m ≤ 1000000) (hbase : base ≤ W.heap.size)
    (h : ∀ g cap w', w'.ownsRow base 43 3 (.slice (some ⟨g, 0, none⟩) (m + 1) cap) (m + 1) (pvc (l ++ [y])) → Mods (fun k => v.ownBlock = some k) W w' → (v.ownBlock = some g ∨ W.heap.size ≤ g) → wpList Try.prog ops Q rest (a.put o.dst (.slice (some ⟨g, 0, none⟩) (m + 1) cap)) w') :
    wpList Try.prog ops Q (o :: rest) a (W.alloc (.cells #[.int .u64 (y.slot : Int), .int .u64 (y.bal : Int), .slice y.A n y.c] 43)) := by
  subst hn
  obtain ⟨i0, hi0, hz0, hz1, hz2⟩ := info_parts infoVp
  refine wpList_plain hgd fun K hK => ?_
  obtain ⟨g, cap, w', hr, h1, h2, h3⟩ := run_append_rows (P := Try.prog) (W.alloc (.cells #[.int .u64 (y.slot : Int), .int .u64 (y.bal : Int), .slice y.A y.val.length y.c] 43)) base 34 o.type 43 i0 (.agg #[.int .u64 0, .int .u64 0, .slice none 0 0]) 3 40 Try.underlying34 hi0 hz0 hz1 hz2 rfl (by decide) v m (pvc l) (own_mods hown ((Mods.refl Nil W).alloc _) (fun _ _ h => h)) ⟨W.heap.size, 0, none⟩ 1 1 y.cells rfl (by omega) (pv_new y rfl) (pvC_one y) (by omega) (by unfold maxLen; omega) (by simp; omega)
  rw [show pvc l ++ y.cells = pvc (l ++ [y]) by simp [pvc]] at h1
  unfold Oper.wp
  simp [execOp, ho, resolve, invoke, builtin, hs, hx, hr, Result.andThen]
  refine hK _ _ (h g cap w' h1 (((Mods.refl (fun k => v.ownBlock = some k) W).alloc _).grown h2 (fun k hk _ => hk)) (h3.imp id (fun h => by simp at h; omega)))
/-- What is got of a vote: its error. -/
def gvE (B : List UInt8) (last : Option PVt) : Int :=
  if (readUint 0 B).1 ≠ 0 then (readUint 0 B).1
  else if ∃ v, last = some v ∧ (readUint 0 B).2.2 ≤ v.slot then 11
  else (readBytes (readUint 0 (readUint 0 B).2.1).1 (readUint 0 (readUint 0 B).2.1).2.1 32768).1
def gvB (B : List UInt8) : Int × List UInt8 × List UInt8 := readBytes (readUint 0 (readUint 0 B).2.1).1 (readUint 0 (readUint 0 B).2.1).2.1 32768
def gvV (B : List UInt8) : PVt := ⟨(readUint 0 B).2.2, (readUint 0 (readUint 0 B).2.1).2.2, (gvB B).2.2⟩
theorem readUint_errA {E : Int} (h : E ≠ 0) (xs : List UInt8) : readUint E xs = (E, xs, 0) := by unfold readUint; rw [if_pos h]
theorem gvE_1 {B : List UInt8} {last : Option PVt} (h1 : (readUint 0 B).1 ≠ 0) : gvE B last = (readUint 0 B).1 := by
  unfold gvE; rw [if_pos h1]
theorem gvE_2 {B : List UInt8} {last : Option PVt} (h1 : (readUint 0 B).1 = 0) (h2 : ∃ v, last = some v ∧ (readUint 0 B).2.2 ≤ v.slot) : gvE B last = 11 := by
  unfold gvE; rw [if_neg (fun h => h h1), if_pos h2]
theorem gvE_3 {B : List UInt8} {last : Option PVt} (h1 : (readUint 0 B).1 = 0) (h2 : ¬ ∃ v, last = some v ∧ (readUint 0 B).2.2 ≤ v.slot) : gvE B last = (gvB B).1 := by
  unfold gvE gvB; rw [if_neg (fun h => h h1), if_neg h2]
theorem vgetN_eq (n : Nat) (B : List UInt8) (out : List PVt) : vgetN (n + 1) 0 B out = if (readUint 0 B).1 = 0 ∧ ∃ v, out.getLast? = some v ∧ (readUint 0 B).2.2 ≤ v.slot then (11, []) else
    vgetN n (readBytes (readUint (readUint 0 B).1 (readUint 0 B).2.1).1 (readUint (readUint 0 B).1 (readUint 0 B).2.1).2.1 32768).1 (readBytes (readUint (readUint 0 B).1 (readUint 0 B).2.1).1 (readUint (readUint 0 B).1 (readUint 0 B).2.1).2.1 32768).2.1
      (out ++ [⟨(readUint 0 B).2.2, (readUint (readUint 0 B).1 (readUint 0 B).2.1).2.2, (readBytes (readUint (readUint 0 B).1 (readUint 0 B).2.1).1 (readUint (readUint 0 B).1 (readUint 0 B).2.1).2.1 32768).2.2⟩]) := by
  show (if (0 : Int) ≠ 0 then _ else _) = _
  rw [if_neg (fun h => h rfl)]
theorem vgetN_stop {n : Nat} {B : List UInt8} {out : List PVt} (h : gvE B out.getLast? ≠ 0) : vgetN (n + 1) 0 B out = (gvE B out.getLast?, []) := by
  rw [vgetN_eq]
  by_cases h1 : (readUint 0 B).1 = 0
  · by_cases h2 : ∃ v, out.getLast? = some v ∧ (readUint 0 B).2.2 ≤ v.slot
    · rw [if_pos ⟨h1, h2⟩, gvE_2 h1 h2]
    · rw [gvE_3 h1 h2] at h ⊢
      rw [if_neg (fun hc => h2 hc.2), h1]
      exact vgetN_err _ h _ _
  · rw [gvE_1 h1]
    rw [if_neg (fun hc => h1 hc.1)]
    have e2 : readUint (readUint 0 B).1 (readUint 0 B).2.1 = ((readUint 0 B).1, (readUint 0 B).2.1, 0) := readUint_errA h1 _
    have e3 : (readBytes (readUint 0 B).1 (readUint 0 B).2.1 32768).1 = (readUint 0 B).1 := by
      unfold readBytes
      rw [e2, if_pos h1]
    rw [e2]
    rw [vgetN_err _ (by rw [e3]; exact h1), e3]
theorem vgetN_go {n : Nat} {B : List UInt8} {out : List PVt} (h : gvE B out.getLast? = 0) : vgetN (n + 1) 0 B out = vgetN n 0 (gvB B).2.1 (out ++ [gvV B]) := by
  rw [vgetN_eq]
  by_cases h1 : (readUint 0 B).1 = 0
  · by_cases h2 : ∃ v, out.getLast? = some v ∧ (readUint 0 B).2.2 ≤ v.slot
    · rw [gvE_2 h1 h2] at h; cases h
    · rw [gvE_3 h1 h2] at h
      rw [if_neg (fun hc => h2 hc.2), h1]
      show vgetN n (gvB B).1 _ _ = _
      rw [h]
      rfl
  · rw [gvE_1 h1] at h
    exact absurd h h1
/-- What getVote tells. -/
def GVT (W : World) (g : Nat) (k : Option Nat) (B : List UInt8) (last : Option PVt) (e : Ending) (W' : World) : Prop :=
  ∃ (s b : Int) (A : Option Addr) (n c : Nat), e = .returned (.tuple #[.agg #[.int .u64 s, .int .u64 b, .slice A n c], .int .i64 (gvE B last)]) ∧ Mods (fun i => i = g) W W' ∧
    (gvE B last = 0 → s = ((gvV B).slot : Int) ∧ b = ((gvV B).bal : Int) ∧ n = (gvV B).val.length ∧ Sl W' A c (bts (gvV B).val) ∧ (bts (gvV B).val ≠ [] → ∀ a, A = some a → W.heap.size ≤ a.block ∧ a.block < W'.heap.size) ∧ IsReader W' g k 0 (gvB B).2.1)
set_option maxHeartbeats 3200000 in
theorem agetv_any {W : World} {g : Nat} {k : Option Nat} {B : List UInt8} (hr : IsReader W g k 0 B) (hk : ∀ q, k = some q → q < W.heap.size) (hB : B.length ≤ 140737488355328) {D : Nat → Prop} {A0 : Option Addr} {c0 n0 : Nat} {L : List VtP} (hp : PVs W D A0 c0 n0 L) (hD : ∀ i, D i → i ≠ g) (hn0 : n0 ≤ 1000000) :
    Calls Try.prog 32 #[.pointer (some ⟨g, 0, none⟩), .slice A0 n0 c0] W (GVT W g k B (L.map VtP.plain).getLast?) := by
  have m0 : Mods Nil W (W.alloc (.cells #[.int .u64 0, .int .u64 0, .slice none 0 0] 43)) := (Mods.refl _ _).alloc _
  have b0 := Blk.new W 43 #[.int .u64 0, .int .u64 0, .slice none 0 0]
  obtain ⟨W1, hW1⟩ : ∃ W1, W.alloc (.cells #[.int .u64 0, .int .u64 0, .slice none 0 0] 43) = W1 := ⟨_, rfl⟩
  rw [hW1] at m0 b0
  have hgl : g < W.heap.size := hr.lt
  have HR1 := Lib.hid (hr.mods m0 (fun h => h) (fun _ _ h => h))
  have HP1 := Lib.hid (hp.nil m0)
  have M0 := Lib.hid m0
  have B0 := Lib.hid b0
  have HGL := Lib.hid hgl
  obtain ⟨E1, hE1⟩ : ∃ E1, (readUint 0 B).1 = E1 := ⟨_, rfl⟩
  obtain ⟨B1, hB1⟩ : ∃ B1, (readUint 0 B).2.1 = B1 := ⟨_, rfl⟩
  obtain ⟨s, hs⟩ : ∃ s, (readUint 0 B).2.2 = s := ⟨_, rfl⟩
  have hsl : s < 18446744073709551616 := by rw [← hs]; exact valOf_lt64 B 0
  have HU1 : Hid (Calls Try.prog 31 #[.pointer (some ⟨g, 0, none⟩)] W1 fun e w' => e = .returned (.int .u64 (s : Int)) ∧ IsReader w' g k E1 B1 ∧ Mods (· = g) W1 w') := Lib.hid (by rw [← hs, ← hE1, ← hB1]; exact uint_any hB HR1.out)
  have hB1l : B1.length ≤ B.length := by rw [← hB1]; exact readUint_le B 0
  obtain ⟨last, hlast⟩ : ∃ last, (L.map VtP.plain).getLast? = last := ⟨_, rfl⟩
  rw [hlast]
  clear hr hp m0 b0 hgl
  by_cases h1 : E1 = 0
  · subst h1
    obtain ⟨G, hG⟩ : ∃ G : Bool, decide (∃ v, last = some v ∧ s ≤ v.slot) = G := ⟨_, rfl⟩
    cases G with
    | true =>
      have hG2 : ∃ v, last = some v ∧ s ≤ v.slot := by simpa using hG
      obtain ⟨v, hv, hsv⟩ := hG2
      have HG : Hid (gvE B last = 11) := Lib.hid (gvE_2 hE1 ⟨v, hv, by rw [hs]; exact hsv⟩)
      have hn : L ≠ [] := by rintro rfl; rw [← hlast] at hv; simp at hv
      have hlen := HP1.out.len
      have hn1 : 0 < L.length := List.length_pos_iff.2 hn
      obtain ⟨m, hm⟩ : ∃ m, n0 = m + 1 := ⟨n0 - 1, by omega⟩
      obtain ⟨q, hq⟩ : ∃ q, L[m]? = some q := ⟨_, List.getElem?_eq_getElem (by omega)⟩
      have hqv : q.plain = v := by
        rw [← hlast, List.getLast?_map, List.getLast?_eq_getElem?, show L.length - 1 = m by omega, hq] at hv
        simpa using hv
      obtain ⟨bb, oo, e0, hbb, _⟩ := HP1.out.cells hq
      subst e0
      have hz : ∀ w2, Mods (· = g) W1 w2 → w2.cell? ⟨bb, oo + m * 3, none⟩ = some (.int .u64 (q.slot : Int)) := fun w2 hm => by
        exact ((HP1.out.mods hm (fun i hi hd => hD i hd hi)).cell3 hq).1
      have HZ := Lib.hid hz
      have hmI : (n0 : Int) - 1 = (m : Int) := by omega
      have hd1 : decide ((0 : Int) < (n0 : Int)) = true := by simp; omega
      have hd2 : decide (0 < n0) = true := by simp; omega
      have hqs : s ≤ q.slot := by rw [← hqv] at hsv; exact hsv
      have hd3 : decide ((s : Int) ≤ (q.slot : Int)) = true := by simp; omega
      have hd4 : decide (s ≤ q.slot) = true := by simp; omega
      have hmn : (m : Int) < (n0 : Int) := by omega
      clear hE1 hB1 hs hG hv hsv hlast hn hlen hn1 hm hq hqv hz hqs
      go_enter Try.func32, Try.ntmps32
      go_wp2_with (first
        | (go_at_call 31; refine HU1.out.mono ?_; rintro e w2 ⟨rfl, r2, m2⟩; have R2 := Lib.hid r2; have M2 := Lib.hid m2; have z := HZ.out w2 m2; have B2 := Lib.hid (B0.out.mods m2 (fun h => by have := HGL.out; omega)); clear r2 m2)
        | (go_at_call 47; refine (err_any R2.out).mono ?_; rintro e w3 ⟨rfl, rfl⟩)
        | (refine wpList_store_mk rfl 43 (.tmp 4) (.tmp 32) rfl rfl W.heap.size rfl 43 #[.int .u64 0, .int .u64 0, .slice none 0 0] #[.int .u64 0, .int .u64 0, .slice none 0 0] rfl B2.out rfl (by simp [Value.oneCell']) infoVtP (by simp [Value.cells]) ?_; intro w4 b4 m4; have B4 := Lib.hid b4; have M4 := Lib.hid m4; clear b4 m4))
      refine bodyPost_ret (results_row_tmp rfl _ _ rfl rfl B4.out Try.underlying43 rfl infoVtP) rfl ⟨0, 0, none, 0, 0, (by rw [HG.out]; rfl), ?_, fun h => absurd (HG.out.symm.trans h) (by decide)⟩
      exact ((M0.out.mono (fun _ _ h => h.elim)).trans M2.out).trans2 M4.out (fun i h e => by omega)
    | false =>
      have hG2 : ¬ ∃ v, last = some v ∧ s ≤ v.slot := by simpa using hG
      have HG : Hid (gvE B last = (gvB B).1) := Lib.hid (gvE_3 hE1 (by rw [hs]; exact hG2))
      obtain ⟨E2, hE2⟩ : ∃ E2, (readUint 0 B1).1 = E2 := ⟨_, rfl⟩
      obtain ⟨B2, hB2⟩ : ∃ B2, (readUint 0 B1).2.1 = B2 := ⟨_, rfl⟩
      obtain ⟨bl, hbl⟩ : ∃ bl, (readUint 0 B1).2.2 = bl := ⟨_, rfl⟩
      obtain ⟨E3, hE3⟩ : ∃ E3, (gvB B).1 = E3 := ⟨_, rfl⟩
      obtain ⟨B3, hB3⟩ : ∃ B3, (gvB B).2.1 = B3 := ⟨_, rfl⟩
      obtain ⟨V3, hV3⟩ : ∃ V3, (gvB B).2.2 = V3 := ⟨_, rfl⟩
      obtain ⟨n3, hn3⟩ : ∃ n3, V3.length = n3 := ⟨_, rfl⟩
      have hgb : gvB B = readBytes E2 B2 32768 := by unfold gvB; rw [hB1, hE2, hB2]
      have hgv : gvV B = ⟨s, bl, V3⟩ := by unfold gvV; rw [hs, hB1, hbl, hV3]
      have hB2l : B2.length ≤ B1.length := by rw [← hB2]; exact readUint_le B1 0
      have HU2 : Hid (∀ w2, IsReader w2 g k 0 B1 → Calls Try.prog 31 #[.pointer (some ⟨g, 0, none⟩)] w2 fun e w' => e = .returned (.int .u64 (bl : Int)) ∧ IsReader w' g k E2 B2 ∧ Mods (· = g) w2 w') := Lib.hid (fun w2 h => by rw [← hbl, ← hE2, ← hB2]; exact uint_any (by omega) h)
      have HBY : Hid (∀ w2, IsReader w2 g k E2 B2 → Calls Try.prog 50 #[.pointer (some ⟨g, 0, none⟩), .int .i64 32768] w2 fun e w' => ∃ A c, e = .returned (.slice A n3 c) ∧ Sl w' A c (bts V3) ∧ Fresh w2 A (bts V3) ∧ IsReader w' g k E3 B3 ∧ Mods (· = g) w2 w') := Lib.hid (fun w2 h => by
        have := bytes_any 32768 (by omega) (by omega) h
        unfold Told at this
        rw [← hgb, hE3, hB3, hV3, hn3] at this
        exact this)
      rw [hE3] at HG
      have HGV := Lib.hid hgv
      have HB3 := Lib.hid hB3
      have HN3 := Lib.hid hn3
      have HG2 := Lib.hid hG2
      have HLA := Lib.hid hlast
      clear hE1 hB1 hs hG hG2 hE2 hB2 hbl hE3 hB3 hV3 hn3 hgb hgv hlast hB1l hB2l
      go_enter Try.func32, Try.ntmps32
      go_upto_region 6 with (first
        | (go_at_call 31; refine HU1.out.mono ?_; rintro e w2 ⟨rfl, r2, m2⟩; have R2 := Lib.hid r2; have M2 := Lib.hid m2; have B2' := Lib.hid (B0.out.mods m2 (fun h => by have := HGL.out; omega)); clear r2 m2)
        | (go_at_call 47; refine (err_any R2.out).mono ?_; rintro e w3 ⟨rfl, rfl⟩))
      go_cut [31] from 10 to 31 (fun s31 wx => s31 = .bool false ∧ wx = w2)
      case first =>
        rcases Nat.eq_zero_or_pos n0 with h0 | h0
        · subst h0
          go_wp2_with fail
          go_meet
          case rel => exact ⟨rfl, rfl⟩
        · have hlen := HP1.out.len
          obtain ⟨m, hm⟩ : ∃ m, n0 = m + 1 := ⟨n0 - 1, by omega⟩
          obtain ⟨q, hq⟩ : ∃ q, L[m]? = some q := ⟨_, List.getElem?_eq_getElem (by omega)⟩
          have hqs : ¬ s ≤ q.slot := fun hle => HG2.out ⟨q.plain, by rw [← HLA.out, List.getLast?_map, List.getLast?_eq_getElem?, show L.length - 1 = m by omega, hq]; rfl, hle⟩
          obtain ⟨bb, oo, e0, hbb, _⟩ := HP1.out.cells hq
          subst e0
          have z : w2.cell? ⟨bb, oo + m * 3, none⟩ = some (.int .u64 (q.slot : Int)) := ((HP1.out.mods M2.out (fun i hi hd => hD i hd hi)).cell3 hq).1
          have hmI : (n0 : Int) - 1 = (m : Int) := by omega
          have hd1 : decide ((0 : Int) < (n0 : Int)) = true := by simp; omega
          have hd2 : decide (0 < n0) = true := by simp; omega
          have hd3 : decide ((s : Int) ≤ (q.slot : Int)) = false := by simp; omega
          have hd4 : decide (s ≤ q.slot) = false := by simp; omega
          have hmn : (m : Int) < (n0 : Int) := by omega
          clear hlen hm hq hqs
          go_wp2_with fail
          go_meet
          case rel => exact ⟨rfl, rfl⟩
      case rest =>
        obtain ⟨rfl, hw⟩ := hcut
        have R2' : Hid (IsReader wc g k 0 B1) := Lib.hid (by rw [hw]; exact R2.out)
        have M2' : Hid (Mods (· = g) W1 wc) := Lib.hid (by rw [hw]; exact M2.out)
        have B2'' := Lib.hid (B0.out.mods M2'.out (fun h => by have := HGL.out; omega))
        clear hw R2 M2 B2'
        go_wp2_with (first
          | (go_at_call 31; refine (HU2.out _ R2'.out).mono ?_; rintro e w3 ⟨rfl, r3, m3⟩; have R3 := Lib.hid r3; have M3 := Lib.hid m3; clear r3 m3)
          | (go_at_call 50; refine (HBY.out _ R3.out).mono ?_; rintro e w4 ⟨A4, c4, rfl, s4, f4, r4, m4⟩; have S4 := Lib.hid s4; have F4 := Lib.hid f4; have R4 := Lib.hid r4; have M4 := Lib.hid m4; clear s4 f4 r4 m4))
        have mX : Mods Nil w4 (w4.alloc (.cells #[.int .u64 (s : Int), .int .u64 (bl : Int), .slice A4 n3 c4] 43)) := (Mods.refl _ _).alloc _
        have bX := Blk.new w4 43 #[.int .u64 (s : Int), .int .u64 (bl : Int), .slice A4 n3 c4]
        obtain ⟨w5, hw5⟩ : ∃ w5, w4.alloc (.cells #[.int .u64 (s : Int), .int .u64 (bl : Int), .slice A4 n3 c4] 43) = w5 := ⟨_, rfl⟩
        rw [hw5] at mX bX ⊢
        have hsz5 : w4.heap.size < w5.heap.size := bX.lt
        have x0 : ∀ V, Mods (fun i => i = W.heap.size) w5 V → V.cell? ⟨w4.heap.size, 0, none⟩ = some (.int .u64 (s : Int)) := fun V hV => (bX.mods hV (fun h => by have := B2''.out.lt; have := M3.out.size; have := M4.out.size; omega)).cell 0
        have x1 : ∀ V, Mods (fun i => i = W.heap.size) w5 V → V.cell? ⟨w4.heap.size, 1, none⟩ = some (.int .u64 (bl : Int)) := fun V hV => (bX.mods hV (fun h => by have := B2''.out.lt; have := M3.out.size; have := M4.out.size; omega)).cell 1
        have x2 : ∀ V, Mods (fun i => i = W.heap.size) w5 V → V.cell? ⟨w4.heap.size, 2, none⟩ = some (.slice A4 n3 c4) := fun V hV => (bX.mods hV (fun h => by have := B2''.out.lt; have := M3.out.size; have := M4.out.size; omega)).cell 2
        have B5 := Lib.hid (((B2''.out.mods M3.out (fun h => by have := HGL.out; omega)).mods M4.out (fun h => by have := HGL.out; omega)).mods mX (fun h => h))
        have R5 := Lib.hid (R4.out.mods mX (fun h => h) (fun _ _ h => h))
        have S5 := Lib.hid (S4.out.mods mX (fun _ _ h => h))
        have MX := Lib.hid mX
        clear bX mX hw5
        refine kt_region (S := fun V => Mods (fun i => i = W.heap.size) w5 V) (k := 4) 5 (by kernel_rfl) rfl ?_
        refine kt_take 0 4 rfl (by kernel_rfl) (by kernel_rfl) (by kernel_rfl) (by kernel_rfl) (by kernel_rfl) (fun _ _ _ _ h => h) (by rfl) ((Mods.refl _ _).drew) (v := ?_) ?_ ?_
        rotate_left
        · intro V hV
          have y0 := x0 V hV
          have y1 := x1 V hV
          have y2 := x2 V hV
          go_simp
          try with_reducible rfl
        simp only [List.getElem_toArray, List.getElem_cons_succ, List.getElem_cons_zero, Act.put, List.setIfInBounds_toArray, List.set_cons_zero, List.set_cons_succ]
        refine kt_take 1 3 rfl (by kernel_rfl) (by kernel_rfl) (by kernel_rfl) (by kernel_rfl) (by kernel_rfl) (fun _ _ _ _ h => h) (by rfl) ((Mods.refl _ _).drew) (v := ?_) ?_ ?_
        rotate_left
        · intro V hV
          go_simp
          try with_reducible rfl
        simp only [List.getElem_toArray, List.getElem_cons_succ, List.getElem_cons_zero, Act.put, List.setIfInBounds_toArray, List.set_cons_zero, List.set_cons_succ]
        refine kt_call 2 2 rfl (by kernel_rfl) (by kernel_rfl) 47 #[.pointer (some ⟨g, 0, none⟩)] (by go_simp) ?_
        refine (err_any (w := w5.drew) (R5.out.mods (Mods.refl Nil w5).drew (fun h => h) (fun _ _ h => h))).mono ?_
        rintro e w6 ⟨rfl, rfl⟩
        refine ⟨_, rfl, (Mods.refl _ _).drew, ?_⟩
        simp only [List.getElem_toArray, List.getElem_cons_succ, List.getElem_cons_zero, Act.put, List.setIfInBounds_toArray, List.set_cons_zero, List.set_cons_succ]
        have b6 : Blk w5.drew W.heap.size 43 #[.int .u64 0, .int .u64 0, .slice none 0 0] := B5.out.drew
        have hst := run_storeVar_blk (P := Try.prog) (ty := 43) (new := #[.int .u64 (s : Int), .int .u64 (bl : Int), .slice A4 n3 c4]) b6 rfl (by simp [Value.oneCell']) infoVtP (by simp [Value.cells])
        have b7 := b6.setRow #[.int .u64 (s : Int), .int .u64 (bl : Int), .slice A4 n3 c4]
        have m7 : Mods (fun i => i = W.heap.size) w5 (w5.drew.setRow W.heap.size #[.int .u64 (s : Int), .int .u64 (bl : Int), .slice A4 n3 c4]) := Mods.setRow (S := fun i => i = W.heap.size) (Mods.refl _ _).drew (fun _ => rfl) _
        obtain ⟨w7, hw7⟩ : ∃ w7, w5.drew.setRow W.heap.size #[.int .u64 (s : Int), .int .u64 (bl : Int), .slice A4 n3 c4] = w7 := ⟨_, rfl⟩
        rw [hw7] at hst b7 m7
        have B7 := Lib.hid b7
        have M7 := Lib.hid m7
        refine kt_put 3 1 rfl (by kernel_rfl) (by kernel_rfl) rfl (w' := w7) (by unfold execOp; simp only [Act.eval, List.getElem_toArray, List.getElem?_toArray, List.getElem_cons_succ, List.getElem_cons_zero, List.getElem?_cons_succ, List.getElem?_cons_zero, Option.getD_some, Array.getD_eq_getD_getElem?, Instr.storeAt, Instr.sureAddr, Sem.run_bind, Sem.run_pure, Result.andThen_ok, hst]) (fun _ => m7) ?_
        refine kt_makes 4 0 rfl (by kernel_rfl) (by kernel_rfl) (w' := w7) (v := .int .i64 E3) (by go_simp) m7 ?_
        simp only [List.getElem_toArray, List.getElem_cons_succ, List.getElem_cons_zero, Act.put, List.setIfInBounds_toArray, List.set_cons_zero, List.set_cons_succ]
        refine kt_done (by kernel_rfl) ?_
        clear hst b6 b7 m7 hw7
        go_wp2_with fail
        have hbig : bts V3 ≠ [] → ∀ a, A4 = some a → W.heap.size < a.block := fun hne a ha => by
          rcases F4.out with h | h
          · exact absurd h hne
          · have := h a ha
            have := B2''.out.lt
            have := M3.out.size
            omega
        refine bodyPost_ret (results_row_tmp rfl _ _ rfl rfl B7.out Try.underlying43 rfl infoVtP) rfl ⟨(s : Int), (bl : Int), A4, n3, c4, (by rw [HG.out]; rfl), ?_, fun hz => ?_⟩
        · exact (((M0.out.mono (fun _ _ h => h.elim)).trans (M2'.out.trans (M3.out.trans M4.out))).trans (MX.out.mono (fun _ _ h => h.elim))).trans2 M7.out (fun i h e => by omega)
        · have hz3 : E3 = 0 := HG.out.symm.trans hz
          subst hz3
          rw [HGV.out, HB3.out]
          refine ⟨rfl, rfl, HN3.out.symm, S5.out.mods' M7.out (fun hne a ha h => by have := hbig hne a ha; omega), fun hne a ha => ⟨by have := hbig hne a ha; omega, ?_⟩, R5.out.mods M7.out (fun h => by have := HGL.out; omega) (fun q hq h => by have := hk q hq; omega)⟩
          have hlen : 0 < (bts V3).length := List.length_pos_iff.2 hne
          obtain ⟨bb, oo, e, hb, _⟩ := S5.out.has.at_ hlen
          rw [ha] at e
          injection e with e
          subst e
          exact Nat.lt_of_lt_of_le hb M7.out.size
  · have h1b : (E1 != 0) = true := by simp [h1]
    have h1c : (E1 == 0) = false := by simp [h1]
    have HG : Hid (gvE B last = E1) := Lib.hid (by rw [← hE1]; exact gvE_1 (by rw [hE1]; exact h1))
    have H1 := Lib.hid h1
    clear hE1 hB1 hs h1
    go_enter Try.func32, Try.ntmps32
    go_wp2_with (first
      | (go_at_call 31; refine HU1.out.mono ?_; rintro e w2 ⟨rfl, r2, m2⟩; have R2 := Lib.hid r2; have M2 := Lib.hid m2; have B2 := Lib.hid (B0.out.mods m2 (fun h => by have := HGL.out; omega)); clear r2 m2)
      | (go_at_call 47; refine (err_any R2.out).mono ?_; rintro e w3 ⟨rfl, rfl⟩)
      | (refine wpList_store_mk rfl 43 (.tmp 4) (.tmp 16) rfl rfl W.heap.size rfl 43 #[.int .u64 0, .int .u64 0, .slice none 0 0] #[.int .u64 0, .int .u64 0, .slice none 0 0] rfl B2.out rfl (by simp [Value.oneCell']) infoVtP (by simp [Value.cells]) ?_; intro w4 b4 m4; have B4 := Lib.hid b4; have M4 := Lib.hid m4; clear b4 m4))
    refine bodyPost_ret (results_row_tmp rfl _ _ rfl rfl B4.out Try.underlying43 rfl infoVtP) rfl ⟨0, 0, none, 0, 0, (by rw [HG.out]; rfl), ?_, fun h => absurd (HG.out.symm.trans h) H1.out⟩
    exact ((M0.out.mono (fun _ _ h => h.elim)).trans M2.out).trans2 M4.out (fun i h e => by omega)
end Go.Proofs.Ythkejoabppocoaa
end

section
/- Package acceptor: Get. -/
namespace Go.Proofs.Ythkejoabppocoaa
set_option maxRecDepth 100000
open Go.RowKit
set_option linter.unusedVariables false
set_option linter.unusedSimpArgs false
theorem readUint_eats {B : List UInt8} (h : (readUint 0 B).1 = 0) : (readUint 0 B).2.1.length + 1 ≤ B.length := by
  unfold readUint at h ⊢
  rw [if_neg (by simp)] at h ⊢
  by_cases h2 : numErr B ≠ 0
  · rw [if_pos h2] at h; exact absurd h h2
  · rw [if_neg h2]
    obtain ⟨c, r, rfl, _, _⟩ := numErr_zero_inv (by simpa using h2)
    simp
theorem readUint_none {B : List UInt8} (h : (readUint 0 B).1 ≠ 0) : (readUint 0 B).2.2 = 0 := by
  unfold readUint at h ⊢
  rw [if_neg (by simp)] at h ⊢
  by_cases h2 : numErr B ≠ 0
  · rw [if_pos h2]
  · rw [if_neg h2] at h
    exact absurd rfl h
theorem readBytes_le (E : Int) (B : List UInt8) (m : Int) : (readBytes E B m).2.1.length ≤ B.length := by
  have h := readUint_le B E
  unfold readBytes
  split
  · exact h
  · split
    · simp
    · unfold readRaw
      rw [if_neg (by simp)]
      split
      · simp
      · split
        · simp
        · simp only [List.length_drop]; omega
theorem gvB_eats {B : List UInt8} {last : Option PVt} (h : gvE B last = 0) : (gvB B).2.1.length + 1 ≤ B.length := by
  have h1 : (readUint 0 B).1 = 0 := by
    by_cases h1 : (readUint 0 B).1 = 0
    · exact h1
    · rw [gvE_1 h1] at h; exact h
  have h2 := readUint_eats h1
  have h3 := readUint_le (readUint 0 B).2.1 0
  have h4 := readBytes_le (readUint 0 (readUint 0 B).2.1).1 (readUint 0 (readUint 0 B).2.1).2.1 32768
  unfold gvB
  omega
theorem gvV_ok (B : List UInt8) : (gvV B).slot < 18446744073709551616 ∧ (gvV B).bal < 18446744073709551616 := ⟨valOf_lt64 B 0, valOf_lt64 _ 0⟩
/-- Votes that were got, in memory of the call's own. -/
structure OwnG (base : Nat) (w : World) (v : Value) (l : List VtP) : Prop where
  own : w.ownsRow base 43 3 v l.length (pvc l)
  bys : ∀ q ∈ l, Sl w q.A q.c (bts q.val) ∧ (bts q.val ≠ [] → ∀ a, q.A = some a → base ≤ a.block ∧ a.block < w.heap.size ∧ v.ownBlock ≠ some a.block) ∧ q.slot < 18446744073709551616 ∧ q.bal < 18446744073709551616
theorem OwnG.none_ (base : Nat) (w : World) : OwnG base w (.slice none 0 0) [] := ⟨World.ownsRow_nil _ _ _ _, fun q h => by cases h⟩
theorem OwnG.mods {base : Nat} {w w' : World} {v : Value} {l : List VtP} {S : Nat → Prop} (h : OwnG base w v l) (hm : Mods S w w') (h1 : ∀ k, S k → k < base) : OwnG base w' v l :=
  ⟨own_mods h.own hm (fun k hk hs => by have := (h.own.lt k hk).1; have := h1 k hs; omega), fun q hq => by
    obtain ⟨a1, a2, a3⟩ := h.bys q hq
    exact ⟨a1.mods' hm (fun hne a ha hs => by have := (a2 hne a ha).1; have := h1 _ hs; omega), fun hne a ha => ⟨(a2 hne a ha).1, Nat.lt_of_lt_of_le (a2 hne a ha).2.1 hm.size, (a2 hne a ha).2.2⟩, a3⟩⟩
theorem OwnG.push {base : Nat} {w w1 : World} {v : Value} {g cap : Nat} {l : List VtP} {q : VtP} (h : OwnG base w v l) (hq : Sl w q.A q.c (bts q.val)) (hq2 : bts q.val ≠ [] → ∀ a, q.A = some a → base ≤ a.block ∧ a.block < w.heap.size ∧ v.ownBlock ≠ some a.block) (hq3 : q.slot < 18446744073709551616 ∧ q.bal < 18446744073709551616)
    (ho : w1.ownsRow base 43 3 (.slice (some ⟨g, 0, none⟩) (l.length + 1) cap) (l.length + 1) (pvc (l ++ [q]))) (hm : Mods (fun k => v.ownBlock = some k) w w1) (hg : v.ownBlock = some g ∨ w.heap.size ≤ g) : OwnG base w1 (.slice (some ⟨g, 0, none⟩) (l.length + 1) cap) (l ++ [q]) := by
  refine ⟨by simpa using ho, fun r hr => ?_⟩
  have hr1 : Sl w r.A r.c (bts r.val) ∧ (bts r.val ≠ [] → ∀ a, r.A = some a → base ≤ a.block ∧ a.block < w.heap.size ∧ v.ownBlock ≠ some a.block) ∧ r.slot < 18446744073709551616 ∧ r.bal < 18446744073709551616 := by
    rcases List.mem_append.1 hr with hr | hr
    · exact h.bys r hr
    · rw [List.mem_singleton.1 hr]; exact ⟨hq, hq2, hq3⟩
  obtain ⟨a1, a2, a3⟩ := hr1
  refine ⟨a1.mods' hm (fun hne a ha hs => (a2 hne a ha).2.2 hs), fun hne a ha => ⟨(a2 hne a ha).1, Nat.lt_of_lt_of_le (a2 hne a ha).2.1 hm.size, fun e => ?_⟩, a3⟩
  simp only [Value.ownBlock, Option.some.injEq] at e
  rcases hg with hg | hg
  · exact (a2 hne a ha).2.2 (by rw [hg, e])
  · have := (a2 hne a ha).2.1
    omega
theorem OwnG.pvs {base : Nat} {w : World} {v : Value} {l : List VtP} {D : Nat → Prop} (h : OwnG base w v l) (hD : ∀ k, base ≤ k → k < w.heap.size → D k) : ∃ A c, v = .slice A l.length c ∧ PVs w D A c l.length l :=
  pvs_own h.own rfl (fun k hk => hD k (h.own.lt k hk).1 (h.own.lt k hk).2) (fun q hq => by
    obtain ⟨a1, a2, a3⟩ := h.bys q hq
    exact ⟨a1, fun hne a ha => hD _ (a2 hne a ha).1 (a2 hne a ha).2.1, a3⟩)
/-- What Get tells. -/
def GetT (W : World) (xs : List UInt8) (e : Ending) (W' : World) : Prop :=
  ∃ A' c' m L, e = .returned (.tuple #[.slice A' m c', .int .i64 (vgetL xs).1]) ∧ L.map VtP.plain = (vgetL xs).2 ∧ PVs W' (fun k => W.heap.size ≤ k ∧ k < W'.heap.size) A' c' m L ∧ Mods Nil W W'
set_option maxHeartbeats 3200000 in
theorem aget_any (W : World) {A : Option Addr} {c n : Nat} {xs : List UInt8} (hn : xs.length = n) (hn2 : n ≤ 1000000) (hs : Sl W A c (bts xs)) :
    Calls Try.prog 22 #[.slice A n c] W (GetT W xs) := by
  obtain ⟨E0, hE0⟩ : ∃ E0, (readUint 0 xs).1 = E0 := ⟨_, rfl⟩
  obtain ⟨B0, hB0⟩ : ∃ B0, (readUint 0 xs).2.1 = B0 := ⟨_, rfl⟩
  obtain ⟨N, hN⟩ : ∃ N, (readUint 0 xs).2.2 = N := ⟨_, rfl⟩
  obtain ⟨R, hR⟩ : ∃ R, vgetL xs = R := ⟨_, rfl⟩
  have HR : Hid (vgetN N E0 B0 [] = R) := Lib.hid (by rw [← hN, ← hE0, ← hB0]; exact hR)
  have HN0 : Hid (E0 ≠ 0 → N = 0) := Lib.hid (fun h => by rw [← hN]; exact readUint_none (by rw [hE0]; exact h))
  have hN64 : N < 18446744073709551616 := by rw [← hN]; exact valOf_lt64 xs 0
  have hB0l : B0.length ≤ n := by rw [← hB0, ← hn]; exact readUint_le xs 0
  have HU : Hid (∀ w g k, IsReader w g k 0 xs → Calls Try.prog 31 #[.pointer (some ⟨g, 0, none⟩)] w fun e w' => e = .returned (.int .u64 (N : Int)) ∧ IsReader w' g k E0 B0 ∧ Mods (· = g) w w') := Lib.hid (fun w g k h => by rw [← hN, ← hE0, ← hB0]; exact uint_any (by omega) h)
  have HNR := Lib.hid (newReader_any (w := W) hn (by omega) hs)
  have HRT : Hid (∀ (e : Ending) (W' : World) A' c' m L, e = .returned (.tuple #[.slice A' m c', .int .i64 R.1]) → L.map VtP.plain = R.2 → PVs W' (fun k => W.heap.size ≤ k ∧ k < W'.heap.size) A' c' m L → Mods Nil W W' → GetT W xs e W') := Lib.hid (fun e W' A' c' m L h1 h2 h3 h4 => by
    unfold GetT
    rw [hR]
    exact ⟨A', c', m, L, h1, h2, h3, h4⟩)
  clear hE0 hB0 hN hR hs hn
  go_enter Try.func22, Try.ntmps22
  go_wp2_with (first
    | (go_at_call 30; refine HNR.out.mono ?_; rintro e w1 ⟨g, k, rfl, r1, hg1, hk1, m1⟩; have R1 := Lib.hid r1; have M1 := Lib.hid m1; have hg1l : g < w1.heap.size := r1.lt; have HG1 := Lib.hid hg1; have HK1 := Lib.hid hk1; have HG1L := Lib.hid hg1l; clear r1 m1 hg1 hk1 hg1l)
    | (go_at_call 31; refine (HU.out _ _ _ R1.out).mono ?_; rintro e w2 ⟨rfl, r2, m2⟩; have R2 := Lib.hid r2; have M2 := Lib.hid m2; clear r2 m2))
  have M02 : Hid (Mods Nil W w2) := Lib.hid (M1.out.nil_trans M2.out (fun i h => by have := HG1.out; omega))
  go_loopw [5, 13] (fun x y wr => ∃ (i : Nat) (l : List VtP) (E : Int) (B : List UInt8), y = .int .u64 (i : Int) ∧ i ≤ N ∧ Hid (E ≠ 0 → i = N) ∧ l.length + B.length ≤ n ∧ Hid (IsReader wr g k E B) ∧ Hid (OwnG w2.heap.size wr x l) ∧ Hid (vgetN (N - i) E B (l.map VtP.plain) = R) ∧ Hid (Mods (· = g) w2 wr)) (fun _ y _ => N - (intOf y).toNat)
  case atStart => exact ⟨0, [], E0, B0, rfl, Nat.zero_le _, Lib.hid (fun h => (HN0.out h).symm), by simpa using hB0l, R2, Lib.hid (OwnG.none_ _ _), Lib.hid (by simpa using HR.out), Lib.hid (Mods.refl _ _)⟩
  case round =>
    obtain ⟨i, l, E, B, rfl, hi, HEN, hlen, HRD, HO, HV, HM⟩ := hrel
    by_cases hlt : i < N
    · have hE : E = 0 := by
        by_cases hE : E = 0
        · exact hE
        · exact absurd (HEN.out hE) (by omega)
      subst hE
      have hltI : (i : Int) < (N : Int) := by omega
      have g12 : g < w2.heap.size := Nat.lt_of_lt_of_le HG1L.out M2.out.size
      have HG12 := Lib.hid g12
      obtain ⟨A9, c9, rfl, hpv⟩ := HO.out.pvs (D := fun k => w2.heap.size ≤ k) (fun k h1 h2 => h1)
      obtain ⟨GE, hGE⟩ : ∃ GE, gvE B (l.map VtP.plain).getLast? = GE := ⟨_, rfl⟩
      have HGV := Lib.hid (agetv_any HRD.out (fun q hq => Nat.lt_of_lt_of_le (HK1.out q hq).2 (Nat.le_trans M2.out.size HM.out.size)) (by omega) hpv (fun j hj => by omega) (by omega))
      obtain ⟨m, hm⟩ : ∃ m, N - i = m + 1 := ⟨N - i - 1, by omega⟩
      by_cases hG : GE = 0
      · subst hG
        obtain ⟨B', hB'⟩ : ∃ B', (gvB B).2.1 = B' := ⟨_, rfl⟩
        obtain ⟨y, hy⟩ : ∃ y, gvV B = y := ⟨_, rfl⟩
        have hyo : y.slot < 18446744073709551616 ∧ y.bal < 18446744073709551616 := by rw [← hy]; exact gvV_ok B
        have hle := gvB_eats hGE
        rw [hB'] at hle
        have HNX : Hid (vgetN (N - (i + 1)) 0 B' (l.map VtP.plain ++ [y]) = R) := Lib.hid (by
          have h1 := HV.out
          rw [hm, vgetN_go hGE, hB', hy] at h1
          rw [show N - (i + 1) = m by omega]
          exact h1)
        have HC : Hid (Calls Try.prog 32 #[.pointer (some ⟨g, 0, none⟩), .slice A9 l.length c9] wr fun e w' => ∃ (A : Option Addr) (n c : Nat), e = .returned (.tuple #[.agg #[.int .u64 (y.slot : Int), .int .u64 (y.bal : Int), .slice A n c], .int .i64 0]) ∧ Mods (fun i => i = g) wr w' ∧ y.val.length = n ∧ Sl w' A c (bts y.val) ∧ (bts y.val ≠ [] → ∀ a, A = some a → wr.heap.size ≤ a.block ∧ a.block < w'.heap.size) ∧ IsReader w' g k 0 B') := Lib.hid (HGV.out.mono (by
          rintro e w' ⟨s, b, A, n, c, rfl, hm, hc⟩
          obtain ⟨rfl, rfl, rfl, h4, h5, h6⟩ := hc hGE
          rw [hGE]
          rw [hy] at h4 h5 ⊢
          rw [hB'] at h6
          exact ⟨A, _, c, rfl, hm, rfl, h4, h5, h6⟩))
        have HLE := Lib.hid hle
        have HYO := Lib.hid hyo
        clear hGE HGV hm hB' hy hle hpv g12 hyo
        go_wp2_with (first
          | (go_at_call 32; refine HC.out.mono ?_; rintro e w3 ⟨A3, n3, c3, rfl, m3, hn3, s3, f3, r3⟩; have M3 := Lib.hid m3; have HN3 := Lib.hid hn3; have S3 := Lib.hid s3; have F3 := Lib.hid f3; have R3 := Lib.hid r3; have b4 := Blk.new w3 43 #[.int .u64 (y.slot : Int), .int .u64 (y.bal : Int), .slice A3 n3 c3]; have m4 : Mods Nil w3 (w3.alloc (.cells #[.int .u64 (y.slot : Int), .int .u64 (y.bal : Int), .slice A3 n3 c3] 43)) := (Mods.refl _ _).alloc _; obtain ⟨w4, hw4⟩ : ∃ w4, w3.alloc (.cells #[.int .u64 (y.slot : Int), .int .u64 (y.bal : Int), .slice A3 n3 c3] 43) = w4 := ⟨_, rfl⟩; rw [hw4] at b4 m4; have B4 := Lib.hid b4; have M4 := Lib.hid m4; clear b4 m4; have y0 := B4.out.cell 0; have y1 := B4.out.cell 1; have y2 := B4.out.cell 2; simp at y0 y1 y2; clear m3 hn3 s3 f3 r3)
          | (at_builtin; (refine push_pvm rfl _ _ rfl ⟨y.slot, y.bal, A3, c3, y.val⟩ HN3.out rfl ((HO.out.mods M3.out (fun j hj => by have := HG12.out; omega)).mods M4.out (fun j hj => hj.elim)).own rfl (by omega) (by have := HM.out.size; have := M3.out.size; have := M4.out.size; omega) ?_; intro g5 k5 w5 o5 m5 q5; have O5 := Lib.hid o5; have M5 := Lib.hid m5; have Q5 := Lib.hid q5; clear o5 m5 q5)))
        have o4 := (HO.out.mods M3.out (fun j hj => by have := HG12.out; omega)).mods M4.out (fun j hj => hj.elim)
        have hown : ∀ q, (Value.slice A9 l.length c9).ownBlock = some q → w2.heap.size ≤ q ∧ q < wr.heap.size := fun q hq => HO.out.own.lt q hq
        have hp := o4.push (q := ⟨y.slot, y.bal, A3, c3, y.val⟩) (S3.out.mods M4.out (fun _ _ h => h)) (fun hne a ha => by
          obtain ⟨f1, f2⟩ := F3.out hne a ha
          refine ⟨by have := HM.out.size; omega, Nat.lt_of_lt_of_le f2 M4.out.size, fun e => ?_⟩
          have := (hown _ e).2
          omega) HYO.out O5.out M5.out Q5.out
        refine ⟨⟨i + 1, l ++ [⟨y.slot, y.bal, A3, c3, y.val⟩], 0, B', by go_num, by omega, Lib.hid (fun h => absurd rfl h), by have := HLE.out; simp; omega, Lib.hid ?_, Lib.hid hp, Lib.hid ?_, Lib.hid ?_⟩, by simp [intOf]; omega⟩
        · refine (R3.out.mods M4.out (fun h => h) (fun _ _ h => h)).mods M5.out (fun h => ?_) (fun q hq h => ?_)
          · have := (hown _ h).1
            have := HG12.out
            omega
          · have := (hown _ h).1
            have := (HK1.out q hq).2
            have := M2.out.size
            omega
        · rw [List.map_append]
          exact HNX.out
        · exact ((HM.out.trans M3.out).trans (M4.out.mono (fun _ _ h => h.elim))).trans2 M5.out (fun q hq h => by have := (hown _ h).1; omega)
      · have hv2 : R = (GE, []) := by
          have h1 := HV.out
          rw [hm, vgetN_stop (by rw [hGE]; exact hG), hGE] at h1
          exact h1.symm
        have HV2 := Lib.hid hv2
        have hb1 : (GE != 0) = true := by simp [hG]
        have hb2 : (GE == 0) = false := by simp [hG]
        unfold GVT at HGV
        rw [hGE] at HGV
        have HC : Hid (Calls Try.prog 32 #[.pointer (some ⟨g, 0, none⟩), .slice A9 l.length c9] wr fun e w' => ∃ (s b : Int) (A : Option Addr) (n c : Nat), e = .returned (.tuple #[.agg #[.int .u64 s, .int .u64 b, .slice A n c], .int .i64 GE]) ∧ Mods (fun i => i = g) wr w') := Lib.hid (HGV.out.mono (by
          rintro e w' ⟨s, b, A, n, c, h1, h2, _⟩
          exact ⟨s, b, A, n, c, h1, h2⟩))
        clear hv2 hGE HGV hm hG hpv g12
        go_wp2_with (first
          | (go_at_call 32; refine HC.out.mono ?_; rintro e w3 ⟨s3, b3, A3, n3, c3, rfl, m3⟩; have M3 := Lib.hid m3; clear m3))
        go_ret2
        exact HRT.out _ _ none 0 0 [] (by rw [HV2.out]; rfl) (by rw [HV2.out]; rfl) (PVs.none_ _ _) (((M02.out.nil_trans HM.out (fun i h => by have := HG1.out; omega)).nil_trans M3.out (fun i h => by have := HG1.out; omega)).alloc _)
    · obtain rfl : N = i := by omega
      obtain ⟨F, hF⟩ : ∃ F, (if E = 0 then (if B = [] then (0 : Int) else 12) else E) = F := ⟨_, rfl⟩
      have HEND : Hid (Calls Try.prog 33 #[.pointer (some ⟨g, 0, none⟩)] wr fun e w' => e = .returned (.int .i64 F) ∧ wr = w') := Lib.hid (by rw [← hF]; exact end_any HRD.out)
      have mall : Mods Nil W wr := M02.out.nil_trans HM.out (fun i h => by have := HG1.out; omega)
      have MALL := Lib.hid mall
      have hv := HV.out
      rw [Nat.sub_self] at hv
      by_cases hF0 : F = 0
      · subst hF0
        have hE : E = 0 := by
          by_cases hE : E = 0
          · exact hE
          · rw [if_neg hE] at hF; exact hF
        subst hE
        have hB : B = [] := by
          by_cases hB : B = []
          · exact hB
          · rw [if_pos rfl, if_neg hB] at hF; cases hF
        subst hB
        have hv2 : R = (0, l.map VtP.plain) := by rw [← hv]; rfl
        have HV2 := Lib.hid hv2
        clear hF hv hv2 mall
        go_wp2_with (go_at_call 33; refine HEND.out.mono ?_; rintro e w3 ⟨rfl, rfl⟩)
        go_ret2
        obtain ⟨A9, c9, rfl, hpv⟩ := HO.out.pvs (D := fun k => W.heap.size ≤ k ∧ k < wr.heap.size) (fun k h1 h2 => ⟨by have := M02.out.size; omega, h2⟩)
        exact HRT.out _ _ A9 c9 l.length l (by rw [HV2.out]; rfl) (by rw [HV2.out]) hpv MALL.out
      · have hv2 : R = (F, []) := by
          rw [← hv, ← hF]
          unfold vgetN
          by_cases hE : E = 0
          · rw [if_neg (fun h => h hE), if_pos hE]
            by_cases hB : B = []
            · rw [hE, if_pos rfl, if_pos hB] at hF
              exact absurd hF.symm hF0
            · rw [if_neg hB, if_neg hB]
          · rw [if_pos hE, if_neg hE]
        have HV2 := Lib.hid hv2
        have hb1 : (F != 0) = true := by simp [hF0]
        have hb2 : (F == 0) = false := by simp [hF0]
        clear hF hv hv2 mall hF0
        go_wp2_with (go_at_call 33; refine HEND.out.mono ?_; rintro e w3 ⟨rfl, rfl⟩)
        go_ret2
        exact HRT.out _ _ none 0 0 [] (by rw [HV2.out]; rfl) (by rw [HV2.out]; rfl) (PVs.none_ _ _) MALL.out
end Go.Proofs.Ythkejoabppocoaa
end
