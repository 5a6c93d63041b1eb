/- Texts laid as one: Ldr6, LdrB, LdrC, LdrD, LdrE, LdrF, LdrI. -/
import Derived.Test.YtpabbhhaagfoeaaLdrM1
import Derived.Test.YtpabbhhaagfoeaaLdrM2

section
/- Package leader: note's walk. -/
namespace Go.Proofs.Ytpabbhhaagfoeaa
set_option maxRecDepth 100000
open Go.RowKit Go.Maps
set_option linter.unusedVariables false
set_option linter.unusedSimpArgs false
theorem PVs.bys_at {W : World} {D : Nat → Prop} {A : Option Addr} {c n : Nat} {L : List VtP} (h : PVs W D A c n L) {j : Nat} {q : VtP} (hq : L[j]? = some q) : Sl W q.A q.c (bts q.val) ∧ q.slot < 18446744073709551616 ∧ q.bal < 18446744073709551616 := by
  have := h.bys q (List.mem_of_getElem? hq)
  exact ⟨this.1, this.2.2.1, this.2.2.2⟩
theorem Sl.nil' {W W' : World} {A : Option Addr} {c : Nat} {xs : List Value} (h : Sl W A c xs) (hm : Mods Nil W W') : Sl W' A c xs := h.mods hm (fun _ _ h => h)
/-- What note leaves. -/
def NoteT (W0 W : World) (X : Nat → Prop) (lo : Nat) (L : List PVt) (T kb : Nat) (e : Ending) (W' : World) : Prop :=
  e = .returned (.tuple #[]) ∧ KnM W0 W' X lo L T kb ∧ Mods (fun k => k = kb) W W'
set_option maxHeartbeats 3200000 in
theorem lnote_any {W0 W : World} {X : Nat → Prop} {b lo T kb : Nat} {L : List PVt} {cs : Array Value} (h0 : W0.heap.size ≤ W.heap.size) (hX : ∀ k, X k → k < W.heap.size) (hb : Blk W b 90 cs) (e3 : cs[3]? = some (.int .u64 (lo : Int))) (e5 : cs[5]? = some (.map (some kb))) (hk : KnW W0 W X lo L T kb)
    {D : Nat → Prop} {A : Option Addr} {c n : Nat} {V : List VtP} (hv : PVs W D A c n V) (hD : ∀ k, k = kb → ¬ D k) (hT : T ≤ 1000000) (hn : n ≤ 100000) (hvl : ∀ q ∈ V, q.val.length ≤ 100000) :
    Calls Try.prog 40 #[.pointer (some ⟨b, 0, none⟩), .slice A n c] W (NoteT W0 W X lo (noteVs L (V.map VtP.plain)) (T + n) kb) := by
  have m1 : Mods Nil W (W.alloc (.cells #[.pointer (some ⟨b, 0, none⟩)] 24)) := (Mods.refl _ _).alloc _
  have bp := Blk.new W 24 #[.pointer (some ⟨b, 0, none⟩)]
  obtain ⟨W1, hW1⟩ : ∃ W1, W.alloc (.cells #[.pointer (some ⟨b, 0, none⟩)] 24) = W1 := ⟨_, rfl⟩
  have hsz1 : W1.heap.size = W.heap.size + 1 := by rw [← hW1]; simp
  rw [hW1] at m1 bp
  obtain ⟨pc, hpc⟩ : ∃ pc, W.heap.size = pc := ⟨_, rfl⟩
  rw [hpc] at bp hsz1
  have nkp : kb ≠ pc := map_ne_blk (hk.nil m1).isMap bp
  have nkb : kb ≠ b := map_ne_blk hk.isMap hb
  have BP := Lib.hid bp
  have BB := Lib.hid (hb.mods m1 (fun h => h))
  have HK := Lib.hid (hk.nil m1)
  have HV := Lib.hid (hv.nil m1)
  have M1 := Lib.hid m1
  have HPC := Lib.hid hpc
  have HSZ := Lib.hid hsz1
  have E3 := Lib.hid e3
  have E5 := Lib.hid e5
  have NKP := Lib.hid nkp
  have NKB := Lib.hid nkb
  have H0 := Lib.hid h0
  have HX := Lib.hid hX
  have HD := Lib.hid hD
  have HVL := Lib.hid hvl
  have HVN := Lib.hid hv.len
  clear m1 bp hb hk hv hpc e3 e5 nkp nkb h0 hX hD hvl hsz1
  go_enter Try.func40, Try.ntmps40
  go_wp2_with fail
  rw [HPC.out]
  clear hW1
  go_loopw [10] (fun x wr => ∃ (j : Nat), x = .int .i64 (j : Int) ∧ j ≤ n ∧ Hid (KnW W0 wr X lo (noteVs L ((V.take j).map VtP.plain)) (T + j) kb) ∧ Hid (Mods (fun k => k = kb) W1 wr)) (fun x _ => n - (intOf x).toNat)
  case atStart => exact ⟨0, rfl, Nat.zero_le _, Lib.hid HK.out, Lib.hid (Mods.refl _ _)⟩
  case round =>
    obtain ⟨j, rfl, hj, HKJ, HM⟩ := hrel
    by_cases hlt : j < n
    · have hltI : (j : Int) < (n : Int) := by omega
      obtain ⟨q, hq⟩ : ∃ q, V[j]? = some q := ⟨_, List.getElem?_eq_getElem (by rw [HVN.out]; exact hlt)⟩
      have hpv := HV.out.mods HM.out (fun k hk => HD.out k hk)
      obtain ⟨ab, ao, rfl, -, z0, z1, z2⟩ := hpv.cells hq
      obtain ⟨hqs, hq1, hq2⟩ := hpv.bys_at hq
      obtain ⟨m, hm⟩ : ∃ m, q.val.length = m := ⟨_, rfl⟩
      have hml : m ≤ 100000 := by rw [← hm]; exact HVL.out q (List.mem_of_getElem? hq)
      rw [hm] at z2
      have HTK : Hid (noteVs L ((V.take (j + 1)).map VtP.plain) = noteV (noteVs L ((V.take j).map VtP.plain)) q.plain) := Lib.hid (by
        rw [List.take_add_one, hq, List.map_append]
        exact noteVs_snoc _ _ _)
      have m2 : Mods Nil wr (wr.alloc (.cells #[.int .u64 (q.slot : Int), .int .u64 (q.bal : Int), .slice q.A m q.c] 49)) := (Mods.refl _ _).alloc _
      have b2 := Blk.new wr 49 #[.int .u64 (q.slot : Int), .int .u64 (q.bal : Int), .slice q.A m q.c]
      obtain ⟨W2, hW2⟩ : ∃ W2, wr.alloc (.cells #[.int .u64 (q.slot : Int), .int .u64 (q.bal : Int), .slice q.A m q.c] 49) = W2 := ⟨_, rfl⟩
      have hsz2 : W2.heap.size = wr.heap.size + 1 := by rw [← hW2]; simp
      rw [hW2] at m2 b2
      have k2 := HKJ.out.nil m2
      obtain ⟨o, y, ho, hy, hlk⟩ := k2.look hq1
      obtain ⟨ym, hym⟩ : ∃ ym, y.val.length = ym := ⟨_, rfl⟩
      obtain ⟨yb, hyb⟩ : ∃ yb, y.bal = yb := ⟨_, rfl⟩
      rw [hym, hyb] at hlk
      have HQ1 := Lib.hid hq1
      have hw1 := HM.out.trans (m2.mono (fun _ _ h => h.elim) : Mods (fun k => k = kb) wr W2)
      have bB2 := BB.out.mods hw1 (fun h => NKB.out h.symm)
      have bP2 := BP.out.mods hw1 (fun h => NKP.out h.symm)
      obtain ⟨nx5, hnx5⟩ : ∃ nx5, wr.heap.size = nx5 := ⟨_, rfl⟩
      rw [hnx5] at b2 hsz2
      have B2 := Lib.hid b2
      have BB2 := Lib.hid bB2
      have BP2 := Lib.hid bP2
      have K2 := Lib.hid k2
      have HO := Lib.hid ho
      have HY := Lib.hid hy
      have MW2 := Lib.hid hw1
      have HSZ2 := Lib.hid hsz2
      have HQS := Lib.hid (hqs.nil' m2)
      have x0 : ∀ V, Mods Nil W2 V → V.cell? ⟨pc, 0, none⟩ = some (.pointer (some ⟨b, 0, none⟩)) := fun V hV => (bP2.mods hV (fun h => h)).cell 0
      have x5 : ∀ V, Mods Nil W2 V → V.cell? ⟨b, 5, none⟩ = some (.map (some kb)) := fun V hV => ((bB2.mods hV (fun h => h)).cell 5).trans E5.out
      have y0 : ∀ V, Mods Nil W2 V → V.cell? ⟨nx5, 0, none⟩ = some (.int .u64 (q.slot : Int)) := fun V hV => (b2.mods hV (fun h => h)).cell 0
      have HMQ := Lib.hid hm
      have M2 := Lib.hid m2
      have HFR : Hid (∀ V k, wr.heap.size ≤ k → (∃ cs, Blk V k 5 cs) → LF W0 V X k) := Lib.hid (fun V k h1 h2 => ⟨by have := HSZ.out; have := HM.out.size; have := H0.out; have := HPC.out; omega, fun hx => (by have := HX.out k hx; have := HSZ.out; have := HM.out.size; have := HPC.out; omega), h2⟩)
      clear hpv hqs m2 b2 hsz2 k2 ho hw1 bB2 bP2 hym hm
      rcases o with _ | k
      · have HOC : Hid (Better none q.plain) := Lib.hid (.inl rfl)
        replace hlk : ∀ V, Mods Nil W2 V → (Instr.lookup 87 (.map (some kb)) (.int .u64 (q.slot : Int)) true).run Try.prog V = .ok (.tuple #[.agg #[.int .u64 (y.slot : Int), .int .u64 (yb : Int), .slice y.A ym y.c], .bool false]) V := hlk
        clear hy
        go_wp2_with fail
        go_region_held (fun V => Mods Nil W2 V) (first | assumption | exact (Mods.refl _ _).drew | exact ((Mods.refl _ _).drew.alloc _)) (fail)
        all_goals (
          change Exit.then _ _ _ _ ((W2.drew).alloc (.cells #[.int .u64 (y.slot : Int), .int .u64 (yb : Int), .slice y.A ym y.c] 49))
          have m3 : Mods Nil W2 ((W2.drew).alloc (.cells #[.int .u64 (y.slot : Int), .int .u64 (yb : Int), .slice y.A ym y.c] 49)) := (Mods.refl _ _).drew.alloc _
          have b3 := Blk.new (W2.drew) 49 #[.int .u64 (y.slot : Int), .int .u64 (yb : Int), .slice y.A ym y.c]
          obtain ⟨W3, hW3⟩ : ∃ W3, (W2.drew).alloc (.cells #[.int .u64 (y.slot : Int), .int .u64 (yb : Int), .slice y.A ym y.c] 49) = W3 := ⟨_, rfl⟩
          rw [hW3] at m3 b3 ⊢
          replace b3 : Blk W3 W2.heap.size 49 #[.int .u64 (y.slot : Int), .int .u64 (yb : Int), .slice y.A ym y.c] := b3
          have i1 : W3.cell? ⟨W2.heap.size, 1, none⟩ = some (.int .u64 (yb : Int)) := b3.cell 1
          have i2 : W3.cell? ⟨nx5, 1, none⟩ = some (.int .u64 (q.bal : Int)) := (B2.out.mods m3 (fun h => h)).cell 1
          have M3 := Lib.hid m3
          have NK2 : Hid (kb ≠ nx5) := Lib.hid (map_ne_blk K2.out.isMap B2.out)
          clear hW3 hW2 b3 m3 x0 x5 y0
          go_wp2_with fail
          have q1 : ∀ V, Mods (fun k => k = kb) W3 V → V.cell? ⟨pc, 0, none⟩ = some (.pointer (some ⟨b, 0, none⟩)) := fun V hV => ((BP2.out.mods M3.out (fun h => h)).mods hV (fun h => NKP.out h.symm)).cell 0
          have q2 : ∀ V, Mods (fun k => k = kb) W3 V → V.cell? ⟨b, 5, none⟩ = some (.map (some kb)) := fun V hV => (((BB2.out.mods M3.out (fun h => h)).mods hV (fun h => NKB.out h.symm)).cell 5).trans E5.out
          have q3 : ∀ V, Mods (fun k => k = kb) W3 V → V.cell? ⟨nx5, 0, none⟩ = some (.int .u64 (q.slot : Int)) := fun V hV => ((B2.out.mods M3.out (fun h => h)).mods hV (fun h => NK2.out h.symm)).cell 0
          have q4 : ∀ V, Mods (fun k => k = kb) W3 V → V.cell? ⟨nx5, 1, none⟩ = some (.int .u64 (q.bal : Int)) := fun V hV => ((B2.out.mods M3.out (fun h => h)).mods hV (fun h => NK2.out h.symm)).cell 1
          have q5 : ∀ V, Mods (fun k => k = kb) W3 V → V.cell? ⟨nx5, 2, none⟩ = some (.slice q.A m q.c) := fun V hV => ((B2.out.mods M3.out (fun h => h)).mods hV (fun h => NK2.out h.symm)).cell 2
          have HCP : Hid (Calls Try.prog 50 #[.agg #[.int .u64 (q.slot : Int), .int .u64 (q.bal : Int), .slice q.A m q.c]] W3.drew (CopT W3.drew (q.slot : Int) (q.bal : Int) q.val m)) := Lib.hid (lcopied_any _ _ HMQ.out (by omega) ((HQS.out.nil' M3.out).nil' (Mods.refl Nil W3).drew))
          have z5 : Mods (fun k => k = kb) W3 W3.drew := (Mods.refl _ W3).drew
          have K3 := Lib.hid (K2.out.nil M3.out)
          clear i1 i2
          go_region_held (fun V => Mods (fun k => k = kb) W3 V) (first | assumption) (first
            | (go_at_call 50; refine HCP.out.mono ?_; rintro e w6 ⟨A6, k6, rfl, s6, f6, m6⟩; have m36 : Mods Nil W3 w6 := (Mods.refl Nil W3).drew.trans m6; obtain ⟨W7, r7, h7, m7⟩ : ∃ W7, (Instr.mapUpdate 87 (.map (some kb)) (.int .u64 (q.slot : Int)) (.agg #[.int .u64 (q.slot : Int), .int .u64 (q.bal : Int), .slice A6 m k6])).run Try.prog w6 = .ok () W7 ∧ _ ∧ _ := (K3.out.nil m36).put (v := q.plain) HO.out HOC.out HQ1.out (by omega) HMQ.out hml s6 (fun hne ad had => HFR.out w6 ad.block (by have := (f6 hne ad had).1; have h9 : W3.drew.heap.size = W3.heap.size := rfl; have := M3.out.size; have := HSZ2.out; omega) (f6 hne ad had).2.2); have z6 : Mods (fun k => k = kb) W3 w6 := m36.mono (fun _ _ h => h.elim); have z7 : Mods (fun k => k = kb) W3 W7 := z6.trans m7; have H7 := Lib.hid h7; have M7 := Lib.hid z7; clear s6 f6 m6 h7 m7))
          go_wp2_with fail
          refine ⟨⟨j + 1, by go_num, by omega, Lib.hid (by rw [HTK.out]; exact H7.out), Lib.hid (HM.out.trans ((M2.out.mono (fun _ _ h => h.elim)).trans ((M3.out.mono (fun _ _ h => h.elim)).trans M7.out)))⟩, by simp [intOf]; omega⟩
)
      · have hkb : k.bal = yb := by rw [← hyb, ← hy k rfl]; rfl
        replace hlk : ∀ V, Mods Nil W2 V → (Instr.lookup 87 (.map (some kb)) (.int .u64 (q.slot : Int)) true).run Try.prog V = .ok (.tuple #[.agg #[.int .u64 (y.slot : Int), .int .u64 (yb : Int), .slice y.A ym y.c], .bool true]) V := hlk
        clear hy
        by_cases hbb : yb < q.bal
        · have HOC : Hid (Better (some k) q.plain) := Lib.hid (.inr ⟨k, rfl, by rw [hkb]; exact hbb⟩)
          have g1 : decide ((q.bal : Int) > (yb : Int)) = true := by simp; omega
          have g2 : decide (yb < q.bal) = true := by simp; omega
          clear hkb hyb
          go_wp2_with fail
          go_region_held (fun V => Mods Nil W2 V) (first | assumption | exact (Mods.refl _ _).drew | exact ((Mods.refl _ _).drew.alloc _)) (fail)
          all_goals (
            change Exit.then _ _ _ _ ((W2.drew).alloc (.cells #[.int .u64 (y.slot : Int), .int .u64 (yb : Int), .slice y.A ym y.c] 49))
            have m3 : Mods Nil W2 ((W2.drew).alloc (.cells #[.int .u64 (y.slot : Int), .int .u64 (yb : Int), .slice y.A ym y.c] 49)) := (Mods.refl _ _).drew.alloc _
            have b3 := Blk.new (W2.drew) 49 #[.int .u64 (y.slot : Int), .int .u64 (yb : Int), .slice y.A ym y.c]
            obtain ⟨W3, hW3⟩ : ∃ W3, (W2.drew).alloc (.cells #[.int .u64 (y.slot : Int), .int .u64 (yb : Int), .slice y.A ym y.c] 49) = W3 := ⟨_, rfl⟩
            rw [hW3] at m3 b3 ⊢
            replace b3 : Blk W3 W2.heap.size 49 #[.int .u64 (y.slot : Int), .int .u64 (yb : Int), .slice y.A ym y.c] := b3
            have i1 : W3.cell? ⟨W2.heap.size, 1, none⟩ = some (.int .u64 (yb : Int)) := b3.cell 1
            have i2 : W3.cell? ⟨nx5, 1, none⟩ = some (.int .u64 (q.bal : Int)) := (B2.out.mods m3 (fun h => h)).cell 1
            have M3 := Lib.hid m3
            have NK2 : Hid (kb ≠ nx5) := Lib.hid (map_ne_blk K2.out.isMap B2.out)
            clear hW3 hW2 b3 m3 x0 x5 y0
            go_wp2_with fail
            have q1 : ∀ V, Mods (fun k => k = kb) W3 V → V.cell? ⟨pc, 0, none⟩ = some (.pointer (some ⟨b, 0, none⟩)) := fun V hV => ((BP2.out.mods M3.out (fun h => h)).mods hV (fun h => NKP.out h.symm)).cell 0
            have q2 : ∀ V, Mods (fun k => k = kb) W3 V → V.cell? ⟨b, 5, none⟩ = some (.map (some kb)) := fun V hV => (((BB2.out.mods M3.out (fun h => h)).mods hV (fun h => NKB.out h.symm)).cell 5).trans E5.out
            have q3 : ∀ V, Mods (fun k => k = kb) W3 V → V.cell? ⟨nx5, 0, none⟩ = some (.int .u64 (q.slot : Int)) := fun V hV => ((B2.out.mods M3.out (fun h => h)).mods hV (fun h => NK2.out h.symm)).cell 0
            have q4 : ∀ V, Mods (fun k => k = kb) W3 V → V.cell? ⟨nx5, 1, none⟩ = some (.int .u64 (q.bal : Int)) := fun V hV => ((B2.out.mods M3.out (fun h => h)).mods hV (fun h => NK2.out h.symm)).cell 1
            have q5 : ∀ V, Mods (fun k => k = kb) W3 V → V.cell? ⟨nx5, 2, none⟩ = some (.slice q.A m q.c) := fun V hV => ((B2.out.mods M3.out (fun h => h)).mods hV (fun h => NK2.out h.symm)).cell 2
            have HCP : Hid (Calls Try.prog 50 #[.agg #[.int .u64 (q.slot : Int), .int .u64 (q.bal : Int), .slice q.A m q.c]] W3.drew (CopT W3.drew (q.slot : Int) (q.bal : Int) q.val m)) := Lib.hid (lcopied_any _ _ HMQ.out (by omega) ((HQS.out.nil' M3.out).nil' (Mods.refl Nil W3).drew))
            have z5 : Mods (fun k => k = kb) W3 W3.drew := (Mods.refl _ W3).drew
            have K3 := Lib.hid (K2.out.nil M3.out)
            clear i1 i2
            go_region_held (fun V => Mods (fun k => k = kb) W3 V) (first | assumption) (first
              | (go_at_call 50; refine HCP.out.mono ?_; rintro e w6 ⟨A6, k6, rfl, s6, f6, m6⟩; have m36 : Mods Nil W3 w6 := (Mods.refl Nil W3).drew.trans m6; obtain ⟨W7, r7, h7, m7⟩ : ∃ W7, (Instr.mapUpdate 87 (.map (some kb)) (.int .u64 (q.slot : Int)) (.agg #[.int .u64 (q.slot : Int), .int .u64 (q.bal : Int), .slice A6 m k6])).run Try.prog w6 = .ok () W7 ∧ _ ∧ _ := (K3.out.nil m36).put (v := q.plain) HO.out HOC.out HQ1.out (by omega) HMQ.out hml s6 (fun hne ad had => HFR.out w6 ad.block (by have := (f6 hne ad had).1; have h9 : W3.drew.heap.size = W3.heap.size := rfl; have := M3.out.size; have := HSZ2.out; omega) (f6 hne ad had).2.2); have z6 : Mods (fun k => k = kb) W3 w6 := m36.mono (fun _ _ h => h.elim); have z7 : Mods (fun k => k = kb) W3 W7 := z6.trans m7; have H7 := Lib.hid h7; have M7 := Lib.hid z7; clear s6 f6 m6 h7 m7))
            go_wp2_with fail
            refine ⟨⟨j + 1, by go_num, by omega, Lib.hid (by rw [HTK.out]; exact H7.out), Lib.hid (HM.out.trans ((M2.out.mono (fun _ _ h => h.elim)).trans ((M3.out.mono (fun _ _ h => h.elim)).trans M7.out)))⟩, by simp [intOf]; omega⟩
)
        · have HOB : Hid (¬ k.bal < q.plain.bal) := Lib.hid (by rw [hkb]; exact hbb)
          have g1 : decide ((q.bal : Int) > (yb : Int)) = false := by simp; omega
          have g2 : decide (yb < q.bal) = false := by simp; omega
          clear hkb hyb
          go_wp2_with fail
          go_region_held (fun V => Mods Nil W2 V) (first | assumption | exact (Mods.refl _ _).drew | exact ((Mods.refl _ _).drew.alloc _)) (fail)
          all_goals (
            change Exit.then _ _ _ _ ((W2.drew).alloc (.cells #[.int .u64 (y.slot : Int), .int .u64 (yb : Int), .slice y.A ym y.c] 49))
            have m3 : Mods Nil W2 ((W2.drew).alloc (.cells #[.int .u64 (y.slot : Int), .int .u64 (yb : Int), .slice y.A ym y.c] 49)) := (Mods.refl _ _).drew.alloc _
            have b3 := Blk.new (W2.drew) 49 #[.int .u64 (y.slot : Int), .int .u64 (yb : Int), .slice y.A ym y.c]
            obtain ⟨W3, hW3⟩ : ∃ W3, (W2.drew).alloc (.cells #[.int .u64 (y.slot : Int), .int .u64 (yb : Int), .slice y.A ym y.c] 49) = W3 := ⟨_, rfl⟩
            rw [hW3] at m3 b3 ⊢
            replace b3 : Blk W3 W2.heap.size 49 #[.int .u64 (y.slot : Int), .int .u64 (yb : Int), .slice y.A ym y.c] := b3
            have i1 : W3.cell? ⟨W2.heap.size, 1, none⟩ = some (.int .u64 (yb : Int)) := b3.cell 1
            have i2 : W3.cell? ⟨nx5, 1, none⟩ = some (.int .u64 (q.bal : Int)) := (B2.out.mods m3 (fun h => h)).cell 1
            have M3 := Lib.hid m3
            have NK2 : Hid (kb ≠ nx5) := Lib.hid (map_ne_blk K2.out.isMap B2.out)
            clear hW3 hW2 b3 m3 x0 x5 y0
            go_wp2_with fail
            refine ⟨⟨j + 1, by go_num, by omega, Lib.hid (by rw [HTK.out]; exact (K2.out.nil M3.out).skip HO.out rfl HOB.out), Lib.hid (HM.out.trans ((M2.out.mono (fun _ _ h => h.elim)).trans (M3.out.mono (fun _ _ h => h.elim))))⟩, by simp [intOf]; omega⟩
)
    · obtain rfl : n = j := by omega
      have x0 : wr.cell? ⟨pc, 0, none⟩ = some (.pointer (some ⟨b, 0, none⟩)) := (BP.out.mods HM.out (fun h => NKP.out h.symm)).cell 0
      have x5 : wr.cell? ⟨b, 5, none⟩ = some (.map (some kb)) := ((BB.out.mods HM.out (fun h => NKB.out h.symm)).cell 5).trans E5.out
      obtain ⟨n9, f9, k9, l9, s9, t9⟩ := HKJ.out.done
      have HDL := Lib.hid (ldel_any k9 (BP.out.mods HM.out (fun h => NKP.out h.symm)) rfl (BB.out.mods HM.out (fun h => NKB.out h.symm)) E3.out s9)
      have HT9 := Lib.hid t9
      clear k9 l9 s9 t9
      go_wp2_with (first
        | (go_at_call 53; refine HDL.out.mono ?_; rintro e w8 ⟨rfl, ⟨f8, n8, k8, l8, p8⟩, m8⟩; have K8 := Lib.hid (HT9.out w8 m8 f8 n8 k8 l8 p8); have M8 := Lib.hid m8; clear k8 l8 p8 m8))
      refine bodyPost_end (results_none rfl _ _ _) rfl ⟨rfl, ?_, (M1.out.mono (fun _ _ h => h.elim)).trans (HM.out.trans M8.out)⟩
      have := K8.out
      rwa [List.take_of_length_le (by rw [HVN.out]; exact Nat.le_refl _)] at this
end Go.Proofs.Ytpabbhhaagfoeaa
end

section
/- Package leader: Promise. -/
namespace Go.Proofs.Ytpabbhhaagfoeaa
set_option maxRecDepth 100000
open Go.RowKit Go.Maps
set_option linter.unusedVariables false
set_option linter.unusedSimpArgs false
/-- Votes that read as such lie in no map, and in no block of a leader's. -/
theorem PVs.apart {W : World} {D : Nat → Prop} {A : Option Addr} {c n b kb : Nat} {L : List VtP} {t : TypeId} {cs : Array Value} (h : PVs W D A c n L) (hb : Blk W b t cs) (h8 : ∀ (i : Nat) (z : Int), cs[i]? ≠ some (.int .u8 z)) (hs : ∀ (i : Nat) (A : Option Addr) (n c : Nat), cs[i]? ≠ some (.slice A n c)) (hm : ∃ es c, W.heap[kb]? = some (.map es c)) : PVs W (fun k => k ≠ b ∧ k ≠ kb) A c n L := by
  refine ⟨h.len, h.sl, fun hn a ha => ?_, fun q hq => ?_⟩
  · obtain ⟨q, hq⟩ : ∃ q, L[0]? = some q := ⟨_, List.getElem?_eq_getElem (by rw [h.len]; exact hn)⟩
    obtain ⟨blk, off, e, hlt, c0, c1, c2⟩ := h.cells hq
    rw [ha] at e
    injection e with e
    subst e
    refine ⟨fun e => ?_, fun e => ?_⟩
    · replace e : blk = b := e
      subst e
      rw [hb.cell] at c2
      exact hs _ _ _ _ c2
    · replace e : blk = kb := e
      subst e
      obtain ⟨es, cl, hm⟩ := hm
      simp [World.cell?, hm] at c0
  · obtain ⟨h1, h2, h3⟩ := h.bys q hq
    exact ⟨h1, fun hne a ha => ⟨sl_off_blk hb h8 h1 hne a ha, sl_off_map hm h1 hne a ha⟩, h3⟩
theorem ld_slices {n0 n1 n2 n3 n4 : Int} {kv ov : Option Nat} (i : Nat) (A : Option Addr) (n c : Nat) : (#[.int .i64 n0, .int .u64 n1, .int .i64 n2, .int .u64 n3, .int .u32 n4, .map kv, .map ov] : Array Value)[i]? ≠ some (.slice A n c) := by
  match i with
  | 0 => simp
  | 1 => simp
  | 2 => simp
  | 3 => simp
  | 4 => simp
  | 5 => simp
  | 6 => simp
  | k + 7 => simp
theorem prom_deaf {l : PLd} {node : Int} {b : Nat} (hd : l.deaf node b) (low : Nat) (vs : List PVt) : l.promise node b low vs = l ∧ l.promV node b low vs = [] ∧ l.promB node b low vs = false := by
  unfold PLd.promise PLd.promV PLd.promB
  rw [if_pos hd, if_pos hd, if_pos hd]
  exact ⟨rfl, rfl, rfl⟩
theorem prom_hears {l : PLd} {node : Int} {b : Nat} (hd : ¬ l.deaf node b) (low : Nat) (vs : List PVt) : l.promise node b low vs = (l.note node.toNat low vs).tally ∧ l.promV node b low vs = (l.note node.toNat low vs).tallyV ∧ l.promB node b low vs = (l.note node.toNat low vs).tallyB := by
  unfold PLd.promise PLd.promV PLd.promB
  rw [if_neg hd, if_neg hd, if_neg hd]
  exact ⟨rfl, rfl, rfl⟩
set_option maxHeartbeats 6400000 in
theorem LdS.promise {W0 W : World} {X : Nat → Prop} {b T : Nat} {l : PLd} (h : LdS W0 W X b l T) (hT : T ≤ 500000) {node : Int} (hn1 : -9223372036854775808 ≤ node) (hn2 : node ≤ 9223372036854775807) {x low : Nat} (hx : x < 18446744073709551616) (hl : low < 18446744073709551616) {D : Nat → Prop} {A : Option Addr} {c n : Nat} {L : List VtP} (hv : PVs W D A c n L) (hn : n ≤ 100000) (hvl : ∀ q ∈ L, q.val.length ≤ 100000) :
    Calls Try.prog 13 #[.pointer (some ⟨b, 0, none⟩), .int .i64 node, .int .u64 (x : Int), .int .u64 (low : Int), .slice A n c] W (PromT W0 W X b (l.promise node x low (L.map VtP.plain)) (T + n + 4096) (l.promV node x low (L.map VtP.plain)) (l.promB node x low (L.map VtP.plain))) := by
  have HH := Lib.hid (h.hears (s := 1) (.inl rfl) node (x := x) rfl)
  have H0 := Lib.hid h
  by_cases hd1 : l.stage ≠ 1 ∨ x ≠ l.bal ∨ node < 0 ∨ (l.many : Int) ≤ node
  · have hd : l.deaf node x := by
      unfold PLd.deaf
      rcases hd1 with h | h | h | h
      · exact .inl h
      · exact .inr (.inl h)
      · exact .inr (.inr (.inl h))
      · exact .inr (.inr (.inr (.inl h)))
    obtain ⟨r1, r2, r3⟩ := prom_deaf hd low (L.map VtP.plain)
    rw [r1, r2, r3]
    have e : decide (¬ (l.stage ≠ 1 ∨ x ≠ l.bal ∨ node < 0 ∨ (l.many : Int) ≤ node)) = false := decide_eq_false (fun h => h hd1)
    rw [e] at HH
    clear h hd1 hd r1 r2 r3 e hv hvl
    go_enter Try.func13, Try.ntmps13
    go_wp2_with (first
      | (go_at_call 37; refine HH.out.mono ?_; rintro e w1 ⟨rfl, rfl⟩))
    go_ret2
    exact PromT.none_ (H0.out.mono_T (by omega)) (Mods.refl _ _)
  · have e : decide (¬ (l.stage ≠ 1 ∨ x ≠ l.bal ∨ node < 0 ∨ (l.many : Int) ≤ node)) = true := decide_eq_true hd1
    rw [e] at HH
    have hst : l.stage = 1 := by omega
    obtain ⟨nd, rfl⟩ : ∃ nd : Nat, node = (nd : Int) := ⟨node.toNat, by omega⟩
    have hnm : nd < l.many := by omega
    have hm32 := h.good.many2
    obtain ⟨B, kb, ob, h1, hB, hko, hk, ho⟩ := h.at1 hst
    have HHAS := Lib.hid (lhas_p W hB (show nd < 32 by omega))
    obtain ⟨c0, c1, c2, c3, c4, c5, c6⟩ := seven_cells h1
    by_cases hin : nd ∈ l.prom
    · have hd : l.deaf (nd : Int) x := by
        unfold PLd.deaf
        exact .inr (.inr (.inr (.inr (by simpa using hin))))
      obtain ⟨r1, r2, r3⟩ := prom_deaf hd low (L.map VtP.plain)
      rw [r1, r2, r3]
      rw [decide_eq_true hin] at HHAS
      clear h hd1 hd r1 r2 r3 e hv hvl h1 hB hko hk ho hin hst hnm hm32
      go_enter Try.func13, Try.ntmps13
      go_wp2_with (first
        | (go_at_call 37; refine HH.out.mono ?_; rintro e w1 ⟨rfl, rfl⟩)
        | (go_at_call 38; refine HHAS.out.mono ?_; rintro e w1 ⟨rfl, rfl⟩))
      go_ret2
      exact PromT.none_ (H0.out.mono_T (by omega)) (Mods.refl _ _)
    · have hd : ¬ l.deaf (nd : Int) x := by
        unfold PLd.deaf
        rintro (h | h | h | h | h)
        · exact h hst
        · exact hd1 (.inr (.inl h))
        · omega
        · omega
        · exact hin (by simpa using h)
      obtain ⟨r1, r2, r3⟩ := prom_hears hd low (L.map VtP.plain)
      rw [r1, r2, r3]
      rw [decide_eq_false hin] at HHAS
      have hgn := h.good.note hd hl (vs := L.map VtP.plain) (fun v hvm => by
        obtain ⟨q, hq, rfl⟩ := List.mem_map.1 hvm
        exact ⟨(hv.bys q hq).2.2.1, (hv.bys q hq).2.2.2, hvl q hq⟩)
      rw [show (nd : Int).toNat = nd from by omega] at *
      obtain ⟨l', hl'⟩ : ∃ l', l.note nd low (L.map VtP.plain) = l' := ⟨_, rfl⟩
      rw [hl'] at hgn ⊢
      have HWI := Lib.hid (lwith_p W hB.1 (show nd < 32 by omega))
      have hB' := (mask_with hB (show nd < 32 by omega)).1
      obtain ⟨B', hBe⟩ : ∃ B', B ||| 2 ^ nd = B' := ⟨_, rfl⟩
      rw [hBe] at HWI hB'
      obtain ⟨F, hF⟩ : ∃ F, l.first = F := ⟨_, rfl⟩
      obtain ⟨F', hF'⟩ : ∃ F', max F low = F' := ⟨_, rfl⟩
      rw [hF] at c3
      have hmax : ∀ ts ty V, (Builtin.max_ ts ty #[.int .u64 (F : Int), .int .u64 (low : Int)]).run Try.prog V = .ok (.int .u64 (F' : Int)) V := by
        intro ts ty V
        rcases Nat.lt_or_ge F low with h | h
        · have e : (F : Int) < (low : Int) := by omega
          obtain rfl : F' = low := by omega
          simp [Builtin.max_, Builtin.max2, e]
        · have e : ¬ (F : Int) < (low : Int) := by omega
          obtain rfl : F' = F := by omega
          simp [Builtin.max_, Builtin.max2, e]
      have hml : low ≤ F' ∧ F ≤ F' := by omega
      -- the two stores
      have m2 : Mods (fun k => k = b) W ((W.setCell ⟨b, 4, none⟩ (.int .u32 (B' : Int))).setCell ⟨b, 3, none⟩ (.int .u64 (F' : Int))) := Mods.setCell (S := fun k => k = b) (Mods.setCell (S := fun k => k = b) (Mods.refl _ _) (fun _ => rfl) _) (fun _ => rfl) _
      have b2 := (h1.set_ 4 (.int .u32 (B' : Int))).set_ 3 (.int .u64 (F' : Int))
      have f4 := h1.frozen 4
      have f3 := h1.frozen 3
      obtain ⟨W2, hW2⟩ : ∃ W2, (W.setCell ⟨b, 4, none⟩ (.int .u32 (B' : Int))).setCell ⟨b, 3, none⟩ (.int .u64 (F' : Int)) = W2 := ⟨_, rfl⟩
      rw [hW2] at m2 b2
      replace b2 : Blk W2 b 90 #[.int .i64 (l.many : Int), .int .u64 (l.bal : Int), .int .i64 1, .int .u64 (F' : Int), .int .u32 (B' : Int), .map (some kb), .map (some ob)] := by simpa using b2
      have k2 : KnM W0 W2 X l.first l.known T kb := hk.move (S := fun k => k = b) ⟨m2, Nat.le_refl _, fun k hk => ⟨hk.ne_cells h1 (by decide), hk.2.1⟩⟩ ⟨map_ne_blk hk.isMap h1, hk.own.2⟩
      have o2 : OpM W0 W2 X [] T ob := ho.cell h1 (by decide) m2
      have hap := (hv.apart h1 ld_cells ld_slices hk.isMap).mods m2 (fun k e h => h.1 e)
      have HNT := Lib.hid (lnote_any (Nat.le_trans h.m.size m2.size) (fun k hk => Nat.lt_of_lt_of_le (h.old k hk) m2.size) b2 rfl rfl (k2.w (lo' := F') (by rw [hF]; exact hml.2)) hap (fun k e h => h.2 e) (by omega) hn hvl)
      have HMJ := Lib.hid (fun (V : World) => lmaj_p V hB'.1 hm32 rfl)
      have hpop := popc_all (n := 32) hB' (by
        have := hgn.prom.1
        rw [← hl'] at this
        exact this) (fun j hj => by
        have := hgn.prom.2 j
        rw [← hl'] at this
        have h2 := this hj
        have h3 : (l.note nd low (L.map VtP.plain)).many = l.many := rfl
        omega)
      obtain ⟨P, hP⟩ : ∃ P, popc B' 32 = P := ⟨_, rfl⟩
      obtain ⟨m2', hm2'⟩ : ∃ m, l.many / 2 = m := ⟨_, rfl⟩
      rw [hP, hm2'] at HMJ
      rw [hP] at hpop
      -- behind note
      have HLD : Hid (∀ W3, KnM W0 W3 X F' (noteVs l.known (L.map VtP.plain)) (T + n) kb → Mods (fun k => k = kb) W2 W3 → Blk W3 b 90 #[.int .i64 (l.many : Int), .int .u64 (l.bal : Int), .int .i64 1, .int .u64 (F' : Int), .int .u32 (B' : Int), .map (some kb), .map (some ob)] ∧ LdS W0 W3 X b l' (T + n) ∧ Mods (LDM W0 X) W W3) := Lib.hid (fun W3 k3 m3 => by
        have b3 := b2.mods m3 (fun e => map_ne_blk k2.isMap b2 e.symm)
        have hm : Mods (LDM W0 X) W W3 := (m2.mono (fun k _ e => by subst e; exact ⟨h.lo, h.nx⟩)).trans (m3.mono (fun k _ e => by subst e; exact k2.own))
        have o3 : OpM W0 W3 X [] T ob := o2.move (S := fun k => k = kb) ⟨m3, Nat.le_refl _, fun k hk => ⟨hk.ne_map k2.isMap, hk.2.1⟩⟩ ⟨fun e => hko e.symm, o2.own.2⟩
        subst hl'
        refine ⟨b3, ⟨h.ldm hm, hgn, fun k hk => Nat.lt_of_lt_of_le (h.old k hk) hm.size, h.lo, h.nx, F', B', .map (some kb), .map (some ob), ?_, .inr (.inl ⟨hst, kb, ob, rfl, rfl, hko, ?_, hB', ?_, o3.mono_T (by omega)⟩)⟩, hm⟩
        · show Blk W3 b _ #[.int .i64 (l.many : Int), .int .u64 (l.bal : Int), .int .i64 (l.stage : Int), .int .u64 (F' : Int), .int .u32 (B' : Int), .map (some kb), .map (some ob)]
          rw [hst]
          exact b3
        · show F' = max l.first low
          rw [hF, hF']
        · show KnM W0 W3 X (max l.first low) (noteVs l.known (L.map VtP.plain)) (T + n) kb
          rw [hF, hF']
          exact k3)
      have HPL : Hid (l'.prom.length = P ∧ l'.many = l.many ∧ l'.stage = 1) := Lib.hid ⟨by rw [hpop, ← hl']; rfl, by rw [← hl']; rfl, by rw [← hl']; exact hst⟩
      have HM2 := Lib.hid hm2'
      have HL2 : Hid (l'.many / 2 = m2') := Lib.hid (by rw [HPL.out.2.1]; exact HM2.out)
      clear h hd1 hd e hv hvl h1 hB hko hk ho hin hst hnm hm32 r1 r2 r3 hgn hl' hB' hBe hF hF' hml m2 b2 k2 o2 hap hpop hP hm2'
      go_enter Try.func13, Try.ntmps13
      go_wp2_with (first
        | (go_at_call 37; refine HH.out.mono ?_; rintro e w1 ⟨rfl, rfl⟩)
        | (go_at_call 38; refine HHAS.out.mono ?_; rintro e w1 ⟨rfl, rfl⟩)
        | (go_at_call 39; refine HWI.out.mono ?_; rintro e w1 ⟨rfl, rfl⟩)
        | (go_at_call 40; refine HNT.out.mono ?_; rintro e w3 ⟨rfl, k3, m3⟩; obtain ⟨b3, l3, m03⟩ := HLD.out w3 k3 m3; have B3 := Lib.hid b3; have L3 := Lib.hid l3; have M3 := Lib.hid m03; clear k3 m3 b3 l3 m03))
      by_cases hmaj : m2' < P
      · have hdm : decide (m2' < P) = true := by simpa using hmaj
        have hno : ¬ l'.prom.length ≤ l'.many / 2 := by rw [HPL.out.1, HL2.out]; omega
        have HT : Hid (l'.tally = (if l'.tooFar then l'.stop else l'.lead) ∧ l'.tallyV = (if l'.tooFar then [] else l'.props) ∧ l'.tallyB = (if l'.tooFar then false else true)) := Lib.hid ⟨if_neg hno, if_neg hno, if_neg hno⟩
        clear hmaj hno
        have HMV : ∀ V, Mods Nil w3 V → Calls Try.prog 41 #[.int .u32 (B' : Int), .int .i64 (l.many : Int)] V fun e V' => e = .returned (.bool true) ∧ Mods Nil w3 V' := fun V hV => (HMJ.out V).mono fun e V' ⟨h1, h2⟩ => ⟨by rw [h1, hdm], hV.trans h2⟩
        have HMVH := Lib.hid HMV
        have z4 : ∀ V, Mods Nil w3 V → V.cell? ⟨b, 4, none⟩ = some (.int .u32 (B' : Int)) := fun V hV => (B3.out.mods hV (fun h => h)).cell 4
        have z0 : ∀ V, Mods Nil w3 V → V.cell? ⟨b, 0, none⟩ = some (.int .i64 (l.many : Int)) := fun V hV => (B3.out.mods hV (fun h => h)).cell 0
        clear HMV hdm
        refine gq_region (by kernel_rfl) (by kernel_rfl) ?_
        repeat (first
          | go_big_quiet_skip
          | (go_big_quiet_want; first
              | (refine gq_call HMVH.out ?_ ?_; (focus (intro V; go_simp; done)); go_big_quiet_on)
              | (refine gq_op (v := ?_) ?_ ?_; rotate_left; (focus (intro V hV; go_simp; try with_reducible rfl)); go_big_quiet_on))
            simp only [Act.put, List.setIfInBounds_toArray, List.set_cons_zero, List.set_cons_succ])
        intro V hV
        have MV := Lib.hid hV
        clear hV z4 z0
        have HLEAD := Lib.hid ((L3.out.nil MV.out).lead0 (by omega) HPL.out.2.2)
        obtain ⟨rb, hrb⟩ : ∃ rb, (if l'.tooFar then false else true) = rb := ⟨_, rfl⟩
        obtain ⟨rs, hrs⟩ : ∃ rs, (if l'.tooFar then l'.stop else l'.lead) = rs := ⟨_, rfl⟩
        obtain ⟨rv, hrv⟩ : ∃ rv, (if l'.tooFar then [] else l'.props) = rv := ⟨_, rfl⟩
        rw [hrb, hrs, hrv] at HLEAD HT
        clear hrb hrs hrv
        go_wp2_with (first
          | (go_at_call 42; refine HLEAD.out.mono ?_; rintro e w5 ⟨A5, n5, c5', L5, X5, rfl, g1, g2, g3, g4, g5, g6⟩; have G1 := Lib.hid g1; have G2 := Lib.hid g2; have G3 := Lib.hid g3; have G4 := Lib.hid g4; have G5 := Lib.hid g5; have G6 := Lib.hid g6; clear g1 g2 g3 g4 g5 g6))
        go_ret2
        rw [HT.out.1, HT.out.2.1, HT.out.2.2]
        have hs : W.heap.size ≤ V.heap.size := Nat.le_trans M3.out.size MV.out.size
        have hl : ∀ k, NEW V w5 k → NEW W w5 k := fun k hk => ⟨by have := hk.1; omega, hk.2⟩
        exact ⟨A5, n5, c5', L5, X5, rfl, G1.out, G2.out.sub (fun k hk => ⟨hl k hk.1, hk.2⟩), G3.out, fun k hk => (G4.out k hk).imp id (hl k), G5.out, (M3.out.trans (MV.out.mono (fun _ _ h => h.elim))).trans G6.out⟩
      · have hdm : decide (m2' < P) = false := by simpa using hmaj
        have hno : l'.prom.length ≤ l'.many / 2 := by rw [HPL.out.1, HL2.out]; omega
        have HT : Hid (l'.tally = l' ∧ l'.tallyV = [] ∧ l'.tallyB = false) := Lib.hid ⟨if_pos hno, if_pos hno, if_pos hno⟩
        clear hmaj hno
        have HMV : ∀ V, Mods Nil w3 V → Calls Try.prog 41 #[.int .u32 (B' : Int), .int .i64 (l.many : Int)] V fun e V' => e = .returned (.bool false) ∧ Mods Nil w3 V' := fun V hV => (HMJ.out V).mono fun e V' ⟨h1, h2⟩ => ⟨by rw [h1, hdm], hV.trans h2⟩
        have HMVH := Lib.hid HMV
        have z4 : ∀ V, Mods Nil w3 V → V.cell? ⟨b, 4, none⟩ = some (.int .u32 (B' : Int)) := fun V hV => (B3.out.mods hV (fun h => h)).cell 4
        have z0 : ∀ V, Mods Nil w3 V → V.cell? ⟨b, 0, none⟩ = some (.int .i64 (l.many : Int)) := fun V hV => (B3.out.mods hV (fun h => h)).cell 0
        clear HMV hdm
        refine gq_region (by kernel_rfl) (by kernel_rfl) ?_
        repeat (first
          | go_big_quiet_skip
          | (go_big_quiet_want; first
              | (refine gq_call HMVH.out ?_ ?_; (focus (intro V; go_simp; done)); go_big_quiet_on)
              | (refine gq_op (v := ?_) ?_ ?_; rotate_left; (focus (intro V hV; go_simp; try with_reducible rfl)); go_big_quiet_on))
            simp only [Act.put, List.setIfInBounds_toArray, List.set_cons_zero, List.set_cons_succ])
        intro V hV
        have MV := Lib.hid hV
        clear hV z4 z0
        go_wp2_with fail
        go_ret2
        rw [HT.out.1, HT.out.2.1, HT.out.2.2]
        exact PromT.none_ ((L3.out.nil MV.out).mono_T (by omega)) (M3.out.trans (MV.out.mono (fun _ _ h => h.elim)))
end Go.Proofs.Ytpabbhhaagfoeaa
end

section
/- Package leader: Propose; what a vote makes of what is open. -/
namespace Go.Proofs.Ytpabbhhaagfoeaa
set_option maxRecDepth 100000
open Go.RowKit Go.Maps
set_option linter.unusedVariables false
set_option linter.unusedSimpArgs false
/-- What Propose tells. -/
def PropT (W0 W : World) (X : Nat → Prop) (b : Nat) (l' : PLd) (T : Nat) (v : PVt) (E : Nat) (e : Ending) (W' : World) : Prop :=
  ∃ A n c, ∃ X' : Nat → Prop, e = .returned (.tuple #[.agg #[.int .u64 (v.slot : Int), .int .u64 (v.bal : Int), .slice A n c], .int .i64 (E : Int)]) ∧ v.val.length = n ∧ Sl W' A c (bts v.val) ∧ (bts v.val ≠ [] → ∀ a, A = some a → NEW W W' a.block ∧ X' a.block) ∧ (∀ k, X k → X' k) ∧ (∀ k, X' k → LDN X W W' k) ∧ LdS W0 W' X' b l' T ∧ Mods (LDM W0 X) W W'
set_option maxHeartbeats 3200000 in
theorem LdS.propose {W0 W : World} {X : Nat → Prop} {b T : Nat} {l : PLd} (h : LdS W0 W X b l T) (hT : T ≤ 500000) {v : List UInt8} {n c : Nat} {A : Option Addr} (hn : v.length = n) (hn2 : n ≤ 100000) (hv : Sl W A c (bts v)) :
    Calls Try.prog 17 #[.pointer (some ⟨b, 0, none⟩), .slice A n c] W (PropT W0 W X b (l.propose v) (T + 1) (l.propX v) l.propE) := by
  obtain ⟨nx, B, kv, ov, h1, h2⟩ := h.blk
  have m1 : Mods Nil W (W.alloc (.cells #[.int .u64 0, .int .u64 0, .slice none 0 0] 49)) := (Mods.refl _ _).alloc _
  have bR := Blk.new W 49 #[.int .u64 0, .int .u64 0, .slice none 0 0]
  obtain ⟨W1, hW1⟩ : ∃ W1, W.alloc (.cells #[.int .u64 0, .int .u64 0, .slice none 0 0] 49) = W1 := ⟨_, rfl⟩
  have hsz : W1.heap.size = W.heap.size + 1 := by rw [← hW1]; simp
  rw [hW1] at m1 bR
  obtain ⟨x0, x1, x2, x3, -, -, -⟩ := seven_cells (h1.mods m1 (fun h => h))
  obtain ⟨st, hst⟩ : ∃ st, l.stage = st := ⟨_, rfl⟩
  rw [hst] at x2
  have BR := Lib.hid bR
  have M1 := Lib.hid m1
  have H1 := Lib.hid (h.nil m1)
  have H0 := Lib.hid h
  have HSZ := Lib.hid hsz
  have HIDLE : Hid (∀ (E : Nat) (e : Ending) (W9 : World), e = .returned (.tuple #[.agg #[.int .u64 0, .int .u64 0, .slice none 0 0], .int .i64 (E : Int)]) → l.propose v = l → l.propX v = ⟨0, 0, []⟩ → l.propE = E → Mods (fun k => k = W.heap.size) W1 W9 → PropT W0 W X b (l.propose v) (T + 1) (l.propX v) l.propE e W9) := Lib.hid (fun E e W9 e0 e1 e2 e3 m9 => by
    rw [e0, e1, e2, e3]
    have m : Mods Nil W W9 := M1.out.nil_trans m9 (fun i h => by omega)
    exact ⟨none, 0, 0, X, rfl, rfl, Sl.none_ _, fun h => absurd rfl h, fun _ h => h, fun _ h => .inl h, (H0.out.nil m).mono_T (by omega), m.mono (fun _ _ h => h.elim)⟩)
  by_cases hs2 : st = 2
  · subst hs2
    obtain ⟨NX, hNX⟩ : ∃ NX, l.next = NX := ⟨_, rfl⟩
    have hnx : nx = NX := by
      rcases h2 with ⟨e, _⟩ | ⟨e, _⟩ | ⟨-, ob, -, -, e, -⟩
      · rw [hst] at e; cases e
      · rw [hst] at e; cases e
      · rw [e, hNX]
    subst hnx
    by_cases hlast : nx = 18446744073709551615
    · have g1 : ((nx : Int) == 18446744073709551615) = true := by rw [hlast]; rfl
      have g1n : (nx == 18446744073709551615) = true := by rw [hlast]; rfl
      have HE : Hid (l.propE = 37 ∧ l.propose v = l ∧ l.propX v = ⟨0, 0, []⟩) := Lib.hid (by
        have e : l.propE = 37 := by
          unfold PLd.propE
          rw [if_neg (fun h => h hst), if_pos (by rw [hNX, hlast])]
        refine ⟨e, ?_, ?_⟩
        · unfold PLd.propose; rw [if_neg (by rw [e]; omega)]
        · unfold PLd.propX; rw [if_neg (by rw [e]; omega)])
      clear h h1 h2 m1 bR hsz hst hlast hNX hv hn
      go_enter Try.func17, Try.ntmps17
      go_wp2_with (refine wpList_store_mk rfl 49 (.tmp 4) (.tmp 20) rfl rfl W.heap.size rfl 49 #[.int .u64 0, .int .u64 0, .slice none 0 0] #[.int .u64 0, .int .u64 0, .slice none 0 0] rfl BR.out rfl (by simp [Value.oneCell']) infoVtL (by simp [Value.cells]) ?_; intro w4 b4 m4; have B4 := Lib.hid b4; have M4 := Lib.hid m4; clear b4 m4)
      exact bodyPost_ret (results_row_tmp rfl _ _ rfl rfl B4.out Try.underlying49 rfl infoVtL) rfl (HIDLE.out 37 _ _ rfl HE.out.2.1 HE.out.2.2 HE.out.1 M4.out)
    · have g1 : ((nx : Int) == 18446744073709551615) = false := by rw [beq_eq_false_iff_ne]; omega
      have g1n : (nx == 18446744073709551615) = false := by rw [beq_eq_false_iff_ne]; exact hlast
      have HE : Hid (l.propE = 0 ∧ l.propX v = ⟨nx, l.bal, v⟩) := Lib.hid (by
        have e : l.propE = 0 := by
          unfold PLd.propE
          rw [if_neg (fun h => h hst), if_neg (by rw [hNX]; exact hlast)]
        refine ⟨e, ?_⟩
        unfold PLd.propX
        rw [if_pos e, hNX])
      have HP := Lib.hid ((h.more m1 (Y := fun k => X k ∨ k = W.heap.size) (fun k hk => hk.imp id (fun e => ⟨by omega, by omega⟩))).propose0 (by omega) hst (by rw [hNX]; exact hlast) hn hn2 (hv.mods m1 (fun _ _ h => h)))
      rw [hNX] at HP
      obtain ⟨BL, hBL⟩ : ∃ BL, l.bal = BL := ⟨_, rfl⟩
      rw [hBL] at HP HE
      have HN := Lib.hid hn
      clear h h1 h2 m1 bR hsz hst hlast hNX hv hn hBL x0 x1
      go_enter Try.func17, Try.ntmps17
      go_wp2_with (first
        | (go_at_call 45; refine HP.out.mono ?_; rintro e w2 ⟨A2, c2, rfl, s2, f2, l2, m2⟩; have S2 := Lib.hid s2; have F2 := Lib.hid f2; have L2 := Lib.hid l2; have M2 := Lib.hid m2; have BR2 := Lib.hid (BR.out.mods m2 (fun h => h.2 (.inr rfl))); clear s2 f2 l2 m2)
        | (refine wpList_store_mk rfl 49 (.tmp 4) (.tmp 23) rfl rfl W.heap.size rfl 49 #[.int .u64 0, .int .u64 0, .slice none 0 0] #[.int .u64 (nx : Int), .int .u64 (BL : Int), .slice A2 n c2] rfl BR2.out rfl (by simp [Value.oneCell']) infoVtL (by simp [Value.cells]) ?_; intro w4 b4 m4; have B4 := Lib.hid b4; have M4 := Lib.hid m4; clear b4 m4))
      have hg : W.heap.size < W1.heap.size := BR.out.lt
      have hs4 : Sl w4 A2 c2 (bts v) := S2.out.mods' M4.out (fun hne a ha e => by have := (F2.out hne a ha).1.1; omega)
      have m24 : Mods (LDM W0 X) W1 w4 := (M2.out.mono (fun k _ h => ⟨h.1, fun hx => h.2 (.inl hx)⟩)).trans (M4.out.mono (fun k hk e => by subst e; exact ⟨H0.out.m.size, fun hx => by have := H0.out.old _ hx; omega⟩))
      have mall : Mods (LDM W0 X) W w4 := (M1.out.mono (fun _ _ h => h.elim)).trans m24
      have l4 := L2.out.keep M4.out (fun k e => by subst e; exact ⟨.inl (.inr rfl), H0.out.m.size⟩)
      refine bodyPost_ret (results_row_tmp rfl _ _ rfl rfl B4.out Try.underlying49 rfl infoVtL) rfl ?_
      rw [HE.out.1, HE.out.2]
      refine ⟨A2, n, c2, fun k => X k ∨ (bts v ≠ [] ∧ ∃ a, A2 = some a ∧ k = a.block), rfl, HN.out, hs4, fun hne a ha => ⟨⟨?_, ?_⟩, .inr ⟨hne, a, ha, rfl⟩⟩, fun k hk => .inl hk, ?_, l4.more (Mods.refl _ _) (fun k hk => .inl ?_), mall⟩
      · have := (F2.out hne a ha).1.1
        have := M1.out.size
        omega
      · have := (F2.out hne a ha).1.2
        have := M4.out.size
        omega
      · rintro k (hk | ⟨hne, a, ha, rfl⟩)
        · exact .inl hk
        · obtain ⟨g1, g2⟩ := (F2.out hne a ha).1
          have := M1.out.size
          have := M4.out.size
          exact .inr ⟨by omega, by omega⟩
      · rcases hk with hk | hk
        · exact .inl (.inl hk)
        · exact .inr hk
  · have g1 : ((st : Int) != 2) = true := by simp; omega
    have g1n : (st != 2) = true := by simp; omega
    have HE : Hid (l.propE = 33 ∧ l.propose v = l ∧ l.propX v = ⟨0, 0, []⟩) := Lib.hid (by
      have e : l.propE = 33 := by
        unfold PLd.propE
        rw [if_pos (by rw [hst]; exact hs2)]
      refine ⟨e, ?_, ?_⟩
      · unfold PLd.propose; rw [if_neg (by rw [e]; omega)]
      · unfold PLd.propX; rw [if_neg (by rw [e]; omega)])
    clear h h1 h2 m1 bR hsz hst hs2 hv hn
    go_enter Try.func17, Try.ntmps17
    go_wp2_with (refine wpList_store_mk rfl 49 (.tmp 4) (.tmp 14) rfl rfl W.heap.size rfl 49 #[.int .u64 0, .int .u64 0, .slice none 0 0] #[.int .u64 0, .int .u64 0, .slice none 0 0] rfl BR.out rfl (by simp [Value.oneCell']) infoVtL (by simp [Value.cells]) ?_; intro w4 b4 m4; have B4 := Lib.hid b4; have M4 := Lib.hid m4; clear b4 m4)
    exact bodyPost_ret (results_row_tmp rfl _ _ rfl rfl B4.out Try.underlying49 rfl infoVtL) rfl (HIDLE.out 33 _ _ rfl HE.out.2.1 HE.out.2.2 HE.out.1 M4.out)
end Go.Proofs.Ytpabbhhaagfoeaa
end

section
/- Package leader: what a vote makes of what is open, in plain lists and in the map. -/
namespace Go.Proofs.Ytpabbhhaagfoeaa
set_option maxRecDepth 100000
open Go.RowKit Go.Maps
set_option linter.unusedVariables false
set_option linter.unusedSimpArgs false
theorem lookO_nil (s : Nat) : lookO [] s = none := rfl
theorem lookO_cons (x : POp) (l : List POp) (s : Nat) : lookO (x :: l) s = if x.v.slot = s then some x else lookO l s := by
  unfold lookO
  rw [List.find?_cons]
  by_cases h : x.v.slot = s <;> simp [h]
def riseO (O : List POp) : Prop := O.Pairwise (fun x y => x.v.slot < y.v.slot)
theorem lookO_vote {many node s : Nat} (t : Nat) : ∀ {O : List POp}, riseO O → lookO (O.filterMap (voteO many node s)) t = if t = s then (lookO O s).bind (voteO many node s) else lookO O t
  | [], _ => by simp [lookO_nil]
  | x :: O, h => by
    have hp := List.pairwise_cons.1 h
    have ih := lookO_vote (many := many) (node := node) (s := s) t hp.2
    rw [List.filterMap_cons, lookO_cons, lookO_cons]
    by_cases hx : x.v.slot = s
    · have hno : lookO O s = none := lookO_none.2 (fun y hy => by have := hp.1 y hy; omega)
      rw [if_pos hx]
      by_cases ht : t = s
      · subst ht
        rw [if_pos rfl]
        rw [if_pos rfl, hno] at ih
        cases hv : voteO many node t x with
        | none => simpa [hv] using ih
        | some y =>
          simp only [lookO_cons, (voteO_some hv).1, hx, if_true, Option.bind_some, hv]
      · rw [if_neg ht, if_neg (by omega)]
        rw [if_neg ht] at ih
        cases hv : voteO many node s x with
        | none => exact ih
        | some y =>
          simp only [lookO_cons, (voteO_some hv).1, hx]
          rw [if_neg (by omega)]
          exact ih
    · have hv : voteO many node s x = some x := if_pos hx
      rw [hv, if_neg hx]
      simp only [lookO_cons]
      by_cases ht : t = s
      · subst ht
        rw [if_neg hx, if_pos rfl]
        rw [if_pos rfl] at ih
        exact ih
      · rw [if_neg ht]
        rw [if_neg ht] at ih
        by_cases hxt : x.v.slot = t
        · rw [if_pos hxt, if_pos hxt]
        · rw [if_neg hxt, if_neg hxt]
          exact ih
theorem chosenO_look {many node s : Nat} : ∀ {O : List POp}, riseO O → chosenO many node s O = (lookO O s).bind (fun x => if many / 2 < (addW x.who node).length then some x.v else none)
  | [], _ => rfl
  | x :: O, h => by
    have hp := List.pairwise_cons.1 h
    have ih := chosenO_look (many := many) (node := node) (s := s) hp.2
    rw [lookO_cons]
    simp only [chosenO]
    by_cases hx : x.v.slot = s
    · have hno : lookO O s = none := lookO_none.2 (fun y hy => by have := hp.1 y hy; omega)
      rw [hno] at ih
      rw [ih]
      simp [hx]
    · rw [ih]
      rw [if_neg hx]
      simp only [hx, false_and, if_false]
      cases (lookO O s).bind (fun x => if many / 2 < (addW x.who node).length then some x.v else none) <;> rfl
theorem zeroPr (w : World) : (zeroValue 103).run Try.prog w = .ok (.agg #[.int .u64 0, .int .u64 0, .slice none 0 0, .int .u32 0]) w := by kernel_rfl
section
variable {W0 W W' : World} {X S : Nat → Prop} {T ob : Nat} {O : List POp}
theorem OpM.miss (h : OpM W0 W X O T ob) {s : Nat} (hs : s < 18446744073709551616) (hl : lookO O s = none) : ∀ V, Mods Nil W V → (Instr.lookup 88 (.map (some ob)) (.int .u64 (s : Int)) true).run Try.prog V = .ok (.tuple #[.agg #[.int .u64 0, .int .u64 0, .slice none 0 0, .int .u32 0], .bool false]) V := by
  obtain ⟨n, f, h1, h2, h3, h4, h5⟩ := h
  exact fun V hV => (h1.mods hV (fun h => h)).miss (int_keyed Try.underlying28) Try.underlying88 (keyUL Try.underlying28 hs) ((h5 s hs).none_ hl) (zeroPr V)
theorem OpM.look (h : OpM W0 W X O T ob) {s : Nat} (hs : s < 18446744073709551616) {x : POp} (hl : lookO O s = some x) : ∃ (A : Option Addr) (c B : Nat), (∀ V, Mods Nil W V → (Instr.lookup 88 (.map (some ob)) (.int .u64 (s : Int)) true).run Try.prog V = .ok (.tuple #[.agg #[.int .u64 (x.v.slot : Int), .int .u64 (x.v.bal : Int), .slice A x.v.val.length c, .int .u32 (B : Int)], .bool true]) V ∧ (Instr.lookup 88 (.map (some ob)) (.int .u64 (s : Int)) false).run Try.prog V = .ok (.agg #[.int .u64 (x.v.slot : Int), .int .u64 (x.v.bal : Int), .slice A x.v.val.length c, .int .u32 (B : Int)]) V) ∧ Sl W A c (bts x.v.val) ∧ (bts x.v.val ≠ [] → ∀ a, A = some a → LF W0 W X a.block) ∧ x.v.val.length ≤ 100000 ∧ isMask B x.who := by
  obtain ⟨n, f, h1, h2, h3, h4, h5⟩ := h
  obtain ⟨A, c, B, e, g1, g2, g3, g4⟩ := (h5 s hs).some_ x hl
  exact ⟨A, c, B, fun V hV => (h1.mods hV (fun h => h)).look (int_keyed Try.underlying28) Try.underlying88 (keyUL Try.underlying28 hs) e (zeroPr V), g1, g2, g3, g4⟩
/-- A vote that makes no majority. -/
theorem OpM.voted (h : OpM W0 W X O T ob) (hr : riseO O) {many node s B : Nat} (hs : s < 18446744073709551616) {x : POp} (hl : lookO O s = some x) (hno : ¬ many / 2 < (addW x.who node).length) (hT : T ≤ 2000000) {A : Option Addr} {c n : Nat} (hn : x.v.val.length = n) (hn2 : n ≤ 100000) (hsl : Sl W A c (bts x.v.val)) (hA : bts x.v.val ≠ [] → ∀ a, A = some a → LF W0 W X a.block) (hB : isMask B (addW x.who node)) :
    ∃ W', (Instr.mapUpdate 88 (.map (some ob)) (.int .u64 (s : Int)) (.agg #[.int .u64 (x.v.slot : Int), .int .u64 (x.v.bal : Int), .slice A n c, .int .u32 (B : Int)])).run Try.prog W = .ok () W' ∧ OpM W0 W' X (O.filterMap (voteO many node s)) T ob ∧ Mods (fun i => i = ob) W W' := by
  subst hn
  have hmap := h.isMap
  obtain ⟨m, f, h1, h2, h3, h4, h5⟩ := h
  obtain ⟨_, _, _, e0, _⟩ := (h5 s hs).some_ x hl
  obtain ⟨W', r, k1, hm⟩ := h1.put_n (int_keyed Try.underlying28) Try.underlying88 (keyUL Try.underlying28 hs) (by unfold maxLen; omega) (.agg #[.int .u64 (x.v.slot : Int), .int .u64 (x.v.bal : Int), .slice A x.v.val.length c, .int .u32 (B : Int)])
  rw [e0] at k1
  have hmv : LMb W0 W W0 W' X X (fun i => i = ob) := ⟨hm, Nat.le_refl _, fun k hk => ⟨fun e => hk.ne_map hmap e, hk.2.1⟩⟩
  refine ⟨W', r, ⟨_, _, k1, by simpa using h2, h3, h4, fun t ht => ?_⟩, hm⟩
  rw [lookO_vote t hr, hl]
  by_cases he : t = s
  · subst he
    rw [if_pos rfl]
    have hv : voteO many node t x = some ⟨x.v, addW x.who node⟩ := by
      unfold voteO
      rw [if_neg (fun h => h (lookO_some hl).2), if_neg hno]
    simp only [Option.bind_some, hv]
    refine ⟨fun h => (by cases h), fun u hu => ?_⟩
    injection hu with hu
    subst hu
    exact ⟨A, c, B, updK_same _ _ _, hsl.mods' hm (fun hne a ha h => (hA hne a ha).ne_map hmap h), fun hne a ha => (hA hne a ha).move hmv, hn2, hB⟩
  · rw [if_neg he]
    have hne : (Value.int .u64 (t : Int)) ≠ .int .u64 (s : Int) := fun e => by injection e with _ e; exact he (by omega)
    rw [updK_ne hne]
    exact (h5 t ht).move hmv
/-- A vote that makes one. -/
theorem OpM.chosen (h : OpM W0 W X O T ob) (hr : riseO O) {many node s : Nat} (hs : s < 18446744073709551616) {x : POp} (hl : lookO O s = some x) (hmaj : many / 2 < (addW x.who node).length) (ty : TypeId) :
    ∃ W', (Builtin.delete_ #[88, 28] ty #[.map (some ob), .int .u64 (s : Int)]).run Try.prog W = .ok (.tuple #[]) W' ∧ OpM W0 W' X (O.filterMap (voteO many node s)) T ob ∧ Mods (fun i => i = ob) W W' := by
  have hmap := h.isMap
  obtain ⟨m, f, h1, h2, h3, h4, h5⟩ := h
  obtain ⟨W', r, ⟨k, k1, k2⟩, hm⟩ := h1.del (int_keyed Try.underlying28) Try.underlying88 (keyUL Try.underlying28 hs) ty
  have hmv : LMb W0 W W0 W' X X (fun i => i = ob) := ⟨hm, Nat.le_refl _, fun k hk => ⟨fun e => hk.ne_map hmap e, hk.2.1⟩⟩
  refine ⟨W', r, ⟨_, _, k1, by omega, h3, h4, fun t ht => ?_⟩, hm⟩
  rw [lookO_vote t hr, hl]
  by_cases he : t = s
  · subst he
    rw [if_pos rfl]
    have hv : voteO many node t x = none := by
      unfold voteO
      rw [if_neg (fun h => h (lookO_some hl).2), if_pos hmaj]
    simp only [Option.bind_some, hv]
    exact ⟨fun _ => delK_same _ _, fun u hu => (by cases hu)⟩
  · rw [if_neg he]
    have hne : (Value.int .u64 (t : Int)) ≠ .int .u64 (s : Int) := fun e => by injection e with _ e; exact he (by omega)
    rw [delK_ne hne]
    exact (h5 t ht).move hmv
end
end Go.Proofs.Ytpabbhhaagfoeaa
end

section
/- Package leader: Accepted. -/
namespace Go.Proofs.Ytpabbhhaagfoeaa
set_option maxRecDepth 100000
open Go.RowKit Go.Maps
set_option linter.unusedVariables false
set_option linter.unusedSimpArgs false
/-- What Accepted tells. -/
def AccdT (W0 W : World) (X : Nat → Prop) (b : Nat) (l' : PLd) (T : Nat) (v : Option PVt) (e : Ending) (W' : World) : Prop :=
  ∃ A n c, e = .returned (.tuple #[.agg #[.int .u64 ((orZ v).slot : Int), .int .u64 ((orZ v).bal : Int), .slice A n c], .bool v.isSome]) ∧ (orZ v).val.length = n ∧ Sl W' A c (bts (orZ v).val) ∧ (bts (orZ v).val ≠ [] → ∀ a, A = some a → LDM W0 X a.block) ∧ LdS W0 W' (LDN X W W') b l' T ∧ Mods (LDM W0 X) W W'
theorem accd_mute {l : PLd} {node : Int} {b : Nat} (hm : l.mute node b) (s : Nat) : l.accept node b s = l ∧ l.chosen node b s = none := by
  unfold PLd.accept PLd.chosen
  rw [if_pos hm, if_pos hm]
  exact ⟨rfl, rfl⟩
theorem accd_hears {l : PLd} {node : Int} {b : Nat} (hm : ¬ l.mute node b) (s : Nat) : l.accept node b s = { l with opn := l.opn.filterMap (voteO l.many node.toNat s) } ∧ l.chosen node b s = chosenO l.many node.toNat s l.opn := by
  unfold PLd.accept PLd.chosen
  rw [if_neg hm, if_neg hm]
  exact ⟨rfl, rfl⟩
theorem filter_none {many node s : Nat} : ∀ {O : List POp}, (∀ x ∈ O, x.v.slot ≠ s) → O.filterMap (voteO many node s) = O
  | [], _ => rfl
  | x :: O, h => by
    have hv : voteO many node s x = some x := if_pos (h x (by simp))
    rw [List.filterMap_cons, hv, filter_none (fun y hy => h y (by simp [hy]))]
theorem infoPr : (Try.prog.info? 103).map (·.size) = some 4 := by kernel_rfl
set_option maxHeartbeats 6400000 in
theorem LdS.accepted {W0 W : World} {X : Nat → Prop} {b T : Nat} {l : PLd} (h : LdS W0 W X b l T) (hT : T ≤ 500000) {node : Int} (hn1 : -9223372036854775808 ≤ node) (hn2 : node ≤ 9223372036854775807) {x s : Nat} (hx : x < 18446744073709551616) (hs : s < 18446744073709551616) :
    Calls Try.prog 20 #[.pointer (some ⟨b, 0, none⟩), .int .i64 node, .int .u64 (x : Int), .int .u64 (s : Int)] W (AccdT W0 W X b (l.accept node x s) T (l.chosen node x s)) := by
  have m1 : Mods Nil W (W.alloc (.cells #[.int .u64 0, .int .u64 0, .slice none 0 0] 49)) := (Mods.refl _ _).alloc _
  have bR := Blk.new W 49 #[.int .u64 0, .int .u64 0, .slice none 0 0]
  obtain ⟨W1, hW1⟩ : ∃ W1, W.alloc (.cells #[.int .u64 0, .int .u64 0, .slice none 0 0] 49) = W1 := ⟨_, rfl⟩
  have hsz : W1.heap.size = W.heap.size + 1 := by rw [← hW1]; simp
  rw [hW1] at m1 bR
  have HH := Lib.hid ((h.nil m1).hears (s := 2) (.inr rfl) node (x := x) rfl)
  have BR := Lib.hid bR
  have M1 := Lib.hid m1
  have H0 := Lib.hid h
  have HSZ := Lib.hid hsz
  have HNONE : Hid (∀ (e : Ending) (W9 : World), e = .returned (.tuple #[.agg #[.int .u64 0, .int .u64 0, .slice none 0 0], .bool false]) → l.accept node x s = l → l.chosen node x s = none → ∀ S : Nat → Prop, Mods S W1 W9 → (∀ k, S k → W.heap.size ≤ k) → AccdT W0 W X b (l.accept node x s) T (l.chosen node x s) e W9) := Lib.hid (fun e W9 e0 e1 e2 S m9 hS => by
    rw [e0, e1, e2]
    have m : Mods Nil W W9 := M1.out.nil_trans m9 (fun i h => hS i h)
    exact ⟨none, 0, 0, rfl, rfl, Sl.none_ _, fun h => absurd rfl h, H0.out.more m (fun _ h => h), m.mono (fun _ _ h => h.elim)⟩)
  by_cases hd1 : l.stage ≠ 2 ∨ x ≠ l.bal ∨ node < 0 ∨ (l.many : Int) ≤ node
  · have e : decide (¬ (l.stage ≠ 2 ∨ x ≠ l.bal ∨ node < 0 ∨ (l.many : Int) ≤ node)) = false := decide_eq_false (fun h => h hd1)
    rw [e] at HH
    have HE := Lib.hid (accd_mute (l := l) (node := node) (b := x) hd1 s)
    clear h e hd1 m1 bR hsz
    go_enter Try.func20, Try.ntmps20
    go_wp2_with (first
      | (go_at_call 37; refine HH.out.mono ?_; rintro e w1 ⟨rfl, rfl⟩)
      | (refine wpList_store_mk rfl 49 (.tmp 8) (.tmp 17) rfl rfl W.heap.size rfl 49 #[.int .u64 0, .int .u64 0, .slice none 0 0] #[.int .u64 0, .int .u64 0, .slice none 0 0] rfl BR.out rfl (by simp [Value.oneCell']) infoVtL (by simp [Value.cells]) ?_; intro w4 b4 m4; have B4 := Lib.hid b4; have M4 := Lib.hid m4; clear b4 m4))
    exact bodyPost_ret (results_row_tmp rfl _ _ rfl rfl B4.out Try.underlying49 rfl infoVtL) rfl (HNONE.out _ _ rfl HE.out.1 HE.out.2 _ M4.out (fun k e => by omega))
  · have e : decide (¬ (l.stage ≠ 2 ∨ x ≠ l.bal ∨ node < 0 ∨ (l.many : Int) ≤ node)) = true := decide_eq_true hd1
    rw [e] at HH
    have hst : l.stage = 2 := by omega
    obtain ⟨nd, rfl⟩ : ∃ nd : Nat, node = (nd : Int) := ⟨node.toNat, by omega⟩
    have hnm : nd < l.many := by omega
    have hm32 := h.good.many2
    obtain ⟨ea, ec⟩ := accd_hears (l := l) (node := (nd : Int)) (b := x) hd1 s
    rw [show (nd : Int).toNat = nd from by omega] at ea ec
    have hrise : riseO l.opn := h.good.opn.1
    rw [chosenO_look hrise] at ec
    obtain ⟨B, ob, h1, ho⟩ := h.at2 hst
    have ho1 : OpM W0 W (fun k => X k ∨ W.heap.size ≤ k) l.opn T ob := ho.move (S := Nil) ⟨Mods.refl _ _, Nat.le_refl _, fun k hk => ⟨fun h => h, by
      rintro (h | h)
      · exact hk.2.1 h
      · have := hk.lt; omega⟩⟩ ⟨fun h => h, by
      rintro (h | h)
      · exact ho.own.2 h
      · have := ho.lt; omega⟩
    have h11 := h1.mods m1 (fun h => h)
    have ho11 := ho1.nil m1
    have x6 : W1.cell? ⟨b, 6, none⟩ = some (.map (some ob)) := h11.cell 6
    cases hlk : lookO l.opn s with
    | none =>
      rw [hlk] at ec
      have HEA : Hid (l.accept (nd : Int) x s = l) := Lib.hid (by rw [ea, filter_none (lookO_none.1 hlk)])
      have HEC : Hid (l.chosen (nd : Int) x s = none) := Lib.hid ec
      have r1 := ho11.miss hs hlk W1 (Mods.refl _ _)
      clear h e hd1 m1 bR hsz h1 ho ho1 h11 ho11 ea ec hlk
      go_enter Try.func20, Try.ntmps20
      go_wp2_with (first
        | (go_at_call 37; refine HH.out.mono ?_; rintro e w1 ⟨rfl, rfl⟩)
        | (refine wpList_store_mk rfl 49 (.tmp 8) (.tmp 29) rfl rfl W.heap.size rfl 49 #[.int .u64 0, .int .u64 0, .slice none 0 0] #[.int .u64 0, .int .u64 0, .slice none 0 0] rfl (BR.out.alloc _) rfl (by simp [Value.oneCell']) infoVtL (by simp [Value.cells]) ?_; intro w4 b4 m4; have B4 := Lib.hid b4; have M4 := Lib.hid m4; clear b4 m4))
      exact bodyPost_ret (results_row_tmp rfl _ _ rfl rfl B4.out Try.underlying49 rfl infoVtL) rfl (HNONE.out _ _ rfl HEA.out HEC.out (fun k => k = W.heap.size) ((((Mods.refl Nil W1).alloc _).mono (fun _ _ h => h.elim)).trans M4.out) (fun k e => by omega))
    | some y =>
      rw [hlk] at ec
      simp only [Option.bind_some] at ec
      obtain ⟨A, c, M, r1, hsl, hloc, hle, hM⟩ := ho11.look hs hlk
      obtain ⟨n, hn⟩ : ∃ n, y.v.val.length = n := ⟨_, rfl⟩
      obtain ⟨ys, hys⟩ : ∃ ys, y.v.slot = ys := ⟨_, rfl⟩
      obtain ⟨yb, hyb⟩ : ∃ yb, y.v.bal = yb := ⟨_, rfl⟩
      rw [hn, hys, hyb] at r1
      have rr1 := (r1 W1 (Mods.refl _ _)).1
      have HWI := Lib.hid (fun (V : World) => lwith_v V hM.1 (show nd < 32 by omega))
      have hM' := (mask_with hM (show nd < 32 by omega)).2
      obtain ⟨M', hMe⟩ : ∃ M', M ||| 2 ^ nd = M' := ⟨_, rfl⟩
      rw [hMe] at HWI hM'
      obtain ⟨mm, hmm⟩ : ∃ mm, l.many / 2 = mm := ⟨_, rfl⟩
      have hgo := h.good.opn.2 y (lookO_some hlk).1
      have hpop := popc_all (n := 32) hM' (addW_nodup hgo.2.2.2.1 nd) (fun j hj => by
        rcases addW_mem hj with hj | rfl
        · have := hgo.2.2.2.2.1 j hj; omega
        · omega)
      have HMJ := Lib.hid (fun (V : World) => lmaj_v V hM'.1 hm32 hmm)
      obtain ⟨P, hP⟩ : ∃ P, popc M' 32 = P := ⟨_, rfl⟩
      rw [hP] at hpop HMJ
      -- the box of what was looked up, with one more voter
      have m2 : Mods Nil W1 (W1.alloc (.cells #[.int .u64 (ys : Int), .int .u64 (yb : Int), .slice A n c, .int .u32 (M : Int)] 103)) := (Mods.refl _ _).alloc _
      have b2 := Blk.new W1 103 #[.int .u64 (ys : Int), .int .u64 (yb : Int), .slice A n c, .int .u32 (M : Int)]
      obtain ⟨W2, hW2⟩ : ∃ W2, W1.alloc (.cells #[.int .u64 (ys : Int), .int .u64 (yb : Int), .slice A n c, .int .u32 (M : Int)] 103) = W2 := ⟨_, rfl⟩
      have hs2 : W2.heap.size = W1.heap.size + 1 := by rw [← hW2]; simp
      rw [hW2] at m2 b2
      obtain ⟨gp, hgp⟩ : ∃ gp, W1.heap.size = gp := ⟨_, rfl⟩
      rw [hgp] at b2 hs2
      have m3 : Mods (fun k => k = gp) W2 (W2.setCell ⟨gp, 3, none⟩ (.int .u32 (M' : Int))) := Mods.setCell (S := fun k => k = gp) (Mods.refl _ _) (fun _ => rfl) _
      have b3 := b2.set_ 3 (.int .u32 (M' : Int))
      have y3 : W2.cell? ⟨gp, 3, none⟩ = some (.int .u32 (M : Int)) := b2.cell 3
      have f3 := b2.frozen 3
      obtain ⟨W3, hW3⟩ : ∃ W3, W2.setCell ⟨gp, 3, none⟩ (.int .u32 (M' : Int)) = W3 := ⟨_, rfl⟩
      rw [hW3] at m3 b3
      replace b3 : Blk W3 gp 103 #[.int .u64 (ys : Int), .int .u64 (yb : Int), .slice A n c, .int .u32 (M' : Int)] := by simpa using b3
      have l3 := (h11.mods m2 (fun h => h)).mods m3 (fun e => by have := h11.lt; omega)
      have r3 := (bR.mods m2 (fun h => h)).mods m3 (fun e => by have := bR.lt; omega)
      have o2 := ho11.nil m2
      have o3 : OpM W0 W3 (fun k => X k ∨ W.heap.size ≤ k) l.opn T ob := o2.cell b2 (by decide) m3
      have hloc2 : bts y.v.val ≠ [] → ∀ a, A = some a → LF W0 W3 (fun k => X k ∨ W.heap.size ≤ k) a.block := fun hne a ha => ((hloc hne a ha).move (W1 := W0) (Y := fun k => X k ∨ W.heap.size ≤ k) (S := Nil) ⟨m2, Nat.le_refl _, fun k hk => ⟨fun h => h, hk.2.1⟩⟩).move ⟨m3, Nat.le_refl _, fun k hk => ⟨hk.ne_cells b2 (by decide), hk.2.1⟩⟩
      have hsl3 : Sl W3 A c (bts y.v.val) := (hsl.mods m2 (fun _ _ h => h)).mods' m3 (fun hne a ha e => by
        have := (hloc hne a ha).lt
        omega)
      have m03 : Mods (fun k => k = gp) W1 W3 := (m2.mono (fun _ _ h => h.elim)).trans m3
      have HEA := Lib.hid ea
      have HEC := Lib.hid ec
      have HST := Lib.hid hst
      have HG := Lib.hid (h.good.accept (nd : Int) x s)
      have HLK := Lib.hid hlk
      have HN := Lib.hid hn
      have HYS := Lib.hid hys
      have HYB := Lib.hid hyb
      have HMM := Lib.hid hmm
      have HMK := Lib.hid hM'
      have HPP := Lib.hid hpop
      have HRI := Lib.hid hrise
      have HLOC := Lib.hid hloc2
      have HLE := Lib.hid hle
      have B3 := Lib.hid b3
      have L3 := Lib.hid l3
      have R3 := Lib.hid r3
      have O3 := Lib.hid o3
      have SL3 := Lib.hid hsl3
      have M03 := Lib.hid m03
      have HGP := Lib.hid hgp
      have HBL := Lib.hid h1.lt
      -- what is left behind the change of the map
      have HFIN : Hid (∀ W9 : World, OpM W0 W9 (fun k => X k ∨ W.heap.size ≤ k) (l.opn.filterMap (voteO l.many nd s)) T ob → Mods (fun k => k = ob ∨ W.heap.size ≤ k) W1 W9 → Blk W9 b 90 #[.int .i64 (l.many : Int), .int .u64 (l.bal : Int), .int .i64 2, .int .u64 (l.next : Int), .int .u32 (B : Int), .map none, .map (some ob)] → LdS W0 W9 (LDN X W W9) b (l.accept (nd : Int) x s) T ∧ Mods (LDM W0 X) W W9) := Lib.hid (fun W9 o9 m9 b9 => by
        have hm : Mods (LDM W0 X) W W9 := (M1.out.mono (fun _ _ h => h.elim)).trans2 m9 (fun k hk e => by
          rcases e with rfl | e
          · exact ⟨ho.own.1, ho.own.2⟩
          · omega)
        refine ⟨⟨H0.out.ldm hm, HG.out, ?_, H0.out.lo, ?_, l.next, B, .map none, .map (some ob), ?_, .inr (.inr ⟨?_, ob, rfl, rfl, ?_, ?_⟩)⟩, hm⟩
        · rintro k (hk | hk)
          · exact Nat.lt_of_lt_of_le (H0.out.old k hk) hm.size
          · exact hk.2
        · rintro (hk | hk)
          · exact H0.out.nx hk
          · have := hk.1; have := HBL.out; omega
        · rw [HEA.out]
          show Blk W9 b _ #[.int .i64 (l.many : Int), .int .u64 (l.bal : Int), .int .i64 (l.stage : Int), .int .u64 (l.next : Int), .int .u32 (B : Int), .map none, .map (some ob)]
          rw [HST.out]
          exact b9
        · rw [HEA.out]; exact HST.out
        · rw [HEA.out]
        · rw [HEA.out]
          have hle : ∀ k, LDN X W W9 k → X k ∨ W.heap.size ≤ k := fun k hk => hk.imp id (fun h => h.1)
          exact o9.move (S := Nil) ⟨Mods.refl _ _, Nat.le_refl _, fun k hk => ⟨fun h => h, fun h2 => hk.2.1 (hle k h2)⟩⟩ ⟨fun h => h, fun h2 => o9.own.2 (hle ob h2)⟩)
      have NL : Hid (ob ≠ b) := Lib.hid (map_ne_blk ho.isMap h1)
      clear h e hd1 m1 bR hsz h1 ho ho1 h11 ho11 ea ec hlk r1 hsl hloc hle hM hn hys hyb hM' hMe hmm hgo hpop hP m2 b2 hs2 m3 b3 l3 r3 o2 o3 hloc2 hsl3 m03 hrise hst hnm hm32
      go_enter Try.func20, Try.ntmps20
      go_wp2_with (first
        | (go_at_call 37; refine HH.out.mono ?_; rintro e w1 ⟨rfl, rfl⟩)
        | (go_at_call 46; refine (HWI.out _).mono ?_; rintro e w1 ⟨rfl, rfl⟩))
      by_cases hmaj : mm < P
      · have hdm : decide (mm < P) = true := by simpa using hmaj
        have HYE : Hid (l.many / 2 < (addW y.who nd).length) := Lib.hid (by rw [HMM.out, ← HPP.out]; exact hmaj)
        have HCH : Hid ((if l.many / 2 < (addW y.who nd).length then some y.v else none) = some y.v) := Lib.hid (if_pos HYE.out)
        clear hmaj
        have HMVH : Hid (∀ V, Mods Nil W3 V → Calls Try.prog 47 #[.int .u32 (M' : Int), .int .i64 (l.many : Int)] V fun e V' => e = .returned (.bool true) ∧ Mods Nil W3 V') := Lib.hid (fun V hV => (HMJ.out V).mono fun e V' ⟨h1, h2⟩ => ⟨by rw [h1, hdm], hV.trans h2⟩)
        have z4 : ∀ V, Mods Nil W3 V → V.cell? ⟨gp, 3, none⟩ = some (.int .u32 (M' : Int)) := fun V hV => (B3.out.mods hV (fun h => h)).cell 3
        have z0 : ∀ V, Mods Nil W3 V → V.cell? ⟨b, 0, none⟩ = some (.int .i64 (l.many : Int)) := fun V hV => (L3.out.mods hV (fun h => h)).cell 0
        clear hdm
        refine gq_region (by kernel_rfl) (by kernel_rfl) ?_
        repeat (first
          | go_big_quiet_skip
          | (go_big_quiet_want; first
              | (refine gq_call HMVH.out ?_ ?_; (focus (intro V; go_simp; done)); go_big_quiet_on)
              | (refine gq_op (v := ?_) ?_ ?_; rotate_left; (focus (intro V hV; go_simp; try with_reducible rfl)); go_big_quiet_on))
            simp only [Act.put, List.setIfInBounds_toArray, List.set_cons_zero, List.set_cons_succ])
        intro V hV
        have MV := Lib.hid hV
        clear hV z4 z0
        have LV := Lib.hid (L3.out.mods MV.out (fun h => h))
        have PV := Lib.hid (B3.out.mods MV.out (fun h => h))
        have RV := Lib.hid (R3.out.mods MV.out (fun h => h))
        have OV := Lib.hid (O3.out.nil MV.out)
        have NPO : Hid (ob ≠ gp) := Lib.hid (map_ne_blk OV.out.isMap PV.out)
        have NRO : Hid (ob ≠ W.heap.size) := Lib.hid (map_ne_blk OV.out.isMap RV.out)
        have hlocV : bts y.v.val ≠ [] → ∀ a, A = some a → LF W0 V (fun k => X k ∨ W.heap.size ≤ k) a.block := fun hne a ha => (HLOC.out hne a ha).move (W1 := W0) (S := Nil) ⟨MV.out, Nat.le_refl _, fun k hk => ⟨fun h => h, hk.2.1⟩⟩
        have HLV := Lib.hid hlocV
        have MWV : Hid (Mods (fun k => k = ob ∨ W.heap.size ≤ k) W1 V) := Lib.hid ((M03.out.mono (fun k _ e => .inr (by have := HGP.out; have := HSZ.out; omega))).trans (MV.out.mono (fun _ _ h => h.elim)))
        clear hlocV
        have hdel := fun ty => OV.out.chosen (many := l.many) (node := nd) HRI.out hs HLK.out HYE.out ty
        obtain ⟨W7, r70, o7, m7⟩ := hdel 0
        have r7 : ∀ ty, (Builtin.delete_ #[88, 28] ty #[.map (some ob), .int .u64 (s : Int)]).run Try.prog V = .ok (.tuple #[]) W7 := fun ty => r70
        have O7 := Lib.hid o7
        have M7 := Lib.hid m7
        have x6 : V.cell? ⟨b, 6, none⟩ = some (.map (some ob)) := LV.out.cell 6
        have p7 := PV.out.mods m7 (fun h => NPO.out h.symm)
        have q0 : W7.cell? ⟨gp, 0, none⟩ = some (.int .u64 (ys : Int)) := p7.cell 0
        have q1 : W7.cell? ⟨gp, 1, none⟩ = some (.int .u64 (yb : Int)) := p7.cell 1
        have q2 : W7.cell? ⟨gp, 2, none⟩ = some (.slice A n c) := p7.cell 2
        have RV7 := Lib.hid (RV.out.mods M7.out (fun h => NRO.out h.symm))
        have SL7 := Lib.hid ((SL3.out.mods MV.out (fun _ _ h => h)).mods' M7.out (fun hne a ha e => (HLV.out hne a ha).ne_map OV.out.isMap e))
        clear hdel r70 o7 m7 p7
        go_wp2_with (refine wpList_store_mk rfl 49 (.tmp 8) (.tmp 56) rfl rfl W.heap.size rfl 49 #[.int .u64 0, .int .u64 0, .slice none 0 0] #[.int .u64 (ys : Int), .int .u64 (yb : Int), .slice A n c] rfl RV7.out rfl (by simp [Value.oneCell']) infoVtL (by simp [Value.cells]) ?_; intro w9 b9 m9; have B9 := Lib.hid b9; have M9 := Lib.hid m9; clear b9 m9)
        obtain ⟨hl9, hm9⟩ := HFIN.out w9 (O7.out.cell RV7.out (by decide) M9.out) ((MWV.out.trans (M7.out.mono (fun k _ e => .inl e))).trans (M9.out.mono (fun k _ e => .inr (by omega)))) ((LV.out.mods M7.out (fun h => NL.out h.symm)).mods M9.out (fun e => by have := HBL.out; omega))
        have hsl9 := SL7.out.mods' M9.out (fun hne a ha e => (HLV.out hne a ha).2.1 (.inr (by omega)))
        refine bodyPost_ret (results_row_tmp rfl _ _ rfl rfl B9.out Try.underlying49 rfl infoVtL) rfl ?_
        rw [HEC.out, HCH.out] at *
        refine ⟨A, n, c, ?_, HN.out, hsl9, fun hne a ha => ⟨(HLV.out hne a ha).1, fun hx => (HLV.out hne a ha).2.1 (.inl hx)⟩, hl9, hm9⟩
        show _ = Ending.returned (.tuple #[.agg #[.int .u64 (y.v.slot : Int), .int .u64 (y.v.bal : Int), .slice A n c], .bool true])
        rw [HYS.out, HYB.out]
        rfl
      · have hdm : decide (mm < P) = false := by simpa using hmaj
        have HNO : Hid (¬ l.many / 2 < (addW y.who nd).length) := Lib.hid (by rw [HMM.out, ← HPP.out]; exact hmaj)
        have HCH : Hid ((if l.many / 2 < (addW y.who nd).length then some y.v else none) = none) := Lib.hid (if_neg HNO.out)
        clear hmaj
        have HMVH : Hid (∀ V, Mods Nil W3 V → Calls Try.prog 47 #[.int .u32 (M' : Int), .int .i64 (l.many : Int)] V fun e V' => e = .returned (.bool false) ∧ Mods Nil W3 V') := Lib.hid (fun V hV => (HMJ.out V).mono fun e V' ⟨h1, h2⟩ => ⟨by rw [h1, hdm], hV.trans h2⟩)
        have z4 : ∀ V, Mods Nil W3 V → V.cell? ⟨gp, 3, none⟩ = some (.int .u32 (M' : Int)) := fun V hV => (B3.out.mods hV (fun h => h)).cell 3
        have z0 : ∀ V, Mods Nil W3 V → V.cell? ⟨b, 0, none⟩ = some (.int .i64 (l.many : Int)) := fun V hV => (L3.out.mods hV (fun h => h)).cell 0
        clear hdm
        refine gq_region (by kernel_rfl) (by kernel_rfl) ?_
        repeat (first
          | go_big_quiet_skip
          | (go_big_quiet_want; first
              | (refine gq_call HMVH.out ?_ ?_; (focus (intro V; go_simp; done)); go_big_quiet_on)
              | (refine gq_op (v := ?_) ?_ ?_; rotate_left; (focus (intro V hV; go_simp; try with_reducible rfl)); go_big_quiet_on))
            simp only [Act.put, List.setIfInBounds_toArray, List.set_cons_zero, List.set_cons_succ])
        intro V hV
        have MV := Lib.hid hV
        clear hV z4 z0
        have LV := Lib.hid (L3.out.mods MV.out (fun h => h))
        have PV := Lib.hid (B3.out.mods MV.out (fun h => h))
        have RV := Lib.hid (R3.out.mods MV.out (fun h => h))
        have OV := Lib.hid (O3.out.nil MV.out)
        have NPO : Hid (ob ≠ gp) := Lib.hid (map_ne_blk OV.out.isMap PV.out)
        have NRO : Hid (ob ≠ W.heap.size) := Lib.hid (map_ne_blk OV.out.isMap RV.out)
        have hlocV : bts y.v.val ≠ [] → ∀ a, A = some a → LF W0 V (fun k => X k ∨ W.heap.size ≤ k) a.block := fun hne a ha => (HLOC.out hne a ha).move (W1 := W0) (S := Nil) ⟨MV.out, Nat.le_refl _, fun k hk => ⟨fun h => h, hk.2.1⟩⟩
        have HLV := Lib.hid hlocV
        have MWV : Hid (Mods (fun k => k = ob ∨ W.heap.size ≤ k) W1 V) := Lib.hid ((M03.out.mono (fun k _ e => .inr (by have := HGP.out; have := HSZ.out; omega))).trans (MV.out.mono (fun _ _ h => h.elim)))
        clear hlocV
        obtain ⟨W7, r7, o7, m7⟩ : ∃ W7, (Instr.mapUpdate 88 (.map (some ob)) (.int .u64 (s : Int)) (.agg #[.int .u64 (ys : Int), .int .u64 (yb : Int), .slice A n c, .int .u32 (M' : Int)])).run Try.prog V.drew = .ok () W7 ∧ OpM W0 W7 (fun k => X k ∨ W.heap.size ≤ k) (l.opn.filterMap (voteO l.many nd s)) T ob ∧ Mods (fun i => i = ob) V.drew W7 := by
          have := (OV.out.nil (Mods.refl Nil V).drew).voted (many := l.many) (node := nd) HRI.out hs HLK.out HNO.out (by omega) HN.out (by rw [← HN.out]; exact HLE.out) ((SL3.out.mods MV.out (fun _ _ h => h)).mods (Mods.refl Nil V).drew (fun _ _ h => h)) (fun hne a ha => (HLV.out hne a ha).move (W1 := W0) (S := Nil) ⟨(Mods.refl Nil V).drew, Nat.le_refl _, fun k hk => ⟨fun h => h, hk.2.1⟩⟩) HMK.out
          rw [HYS.out, HYB.out] at this
          exact this
        have O7 := Lib.hid o7
        have M7 : Hid (Mods (fun i => i = ob) V W7) := Lib.hid (Mods.trans ((Mods.refl _ V).drew) m7)
        have q6 : ∀ U, Mods (fun k => k = ob) V U → U.cell? ⟨b, 6, none⟩ = some (.map (some ob)) := fun U hU => (LV.out.mods hU (fun h => NL.out h.symm)).cell 6
        have q0 : ∀ U, Mods (fun k => k = ob) V U → U.cell? ⟨gp, 0, none⟩ = some (.int .u64 (ys : Int)) := fun U hU => (PV.out.mods hU (fun h => NPO.out h.symm)).cell 0
        have q1 : ∀ U, Mods (fun k => k = ob) V U → U.cell? ⟨gp, 1, none⟩ = some (.int .u64 (yb : Int)) := fun U hU => (PV.out.mods hU (fun h => NPO.out h.symm)).cell 1
        have q2 : ∀ U, Mods (fun k => k = ob) V U → U.cell? ⟨gp, 2, none⟩ = some (.slice A n c) := fun U hU => (PV.out.mods hU (fun h => NPO.out h.symm)).cell 2
        have q3 : ∀ U, Mods (fun k => k = ob) V U → U.cell? ⟨gp, 3, none⟩ = some (.int .u32 (M' : Int)) := fun U hU => (PV.out.mods hU (fun h => NPO.out h.symm)).cell 3
        have z5 : Mods (fun k => k = ob) V V.drew := (Mods.refl _ V).drew
        have z7 : Mods (fun k => k = ob) V W7 := M7.out
        have RV7 := Lib.hid (RV.out.mods M7.out (fun h => NRO.out h.symm))
        clear o7 m7
        go_wp2_with fail
        go_region_held (fun U => Mods (fun k => k = ob) V U) (first | assumption) (fail)
        go_wp2_with (refine wpList_store_mk rfl 49 (.tmp 8) (.tmp 49) rfl rfl W.heap.size rfl 49 #[.int .u64 0, .int .u64 0, .slice none 0 0] #[.int .u64 0, .int .u64 0, .slice none 0 0] rfl RV7.out rfl (by simp [Value.oneCell']) infoVtL (by simp [Value.cells]) ?_; intro w9 b9 m9; have B9 := Lib.hid b9; have M9 := Lib.hid m9; clear b9 m9)
        obtain ⟨hl9, hm9⟩ := HFIN.out w9 (O7.out.cell RV7.out (by decide) M9.out) ((MWV.out.trans (M7.out.mono (fun k _ e => .inl e))).trans (M9.out.mono (fun k _ e => .inr (by omega)))) ((LV.out.mods M7.out (fun h => NL.out h.symm)).mods M9.out (fun e => by have := HBL.out; omega))
        refine bodyPost_ret (results_row_tmp rfl _ _ rfl rfl B9.out Try.underlying49 rfl infoVtL) rfl ?_
        rw [HEC.out, HCH.out] at *
        exact ⟨none, 0, 0, rfl, rfl, Sl.none_ _, fun h => absurd rfl h, hl9, hm9⟩
end Go.Proofs.Ytpabbhhaagfoeaa
end

section
/- Package leader: Open. -/
namespace Go.Proofs.Ytpabbhhaagfoeaa
set_option maxRecDepth 100000
open Go.RowKit Go.Maps Go.Shelf
set_option linter.unusedVariables false
set_option linter.unusedSimpArgs false
/-- What Open tells. -/
def OpenT (W0 W : World) (X : Nat → Prop) (b : Nat) (l : PLd) (T : Nat) (e : Ending) (W' : World) : Prop :=
  ∃ A n c L, e = .returned (.slice A n c) ∧ L.map VtP.plain = l.opens ∧ PVs W' (NEW W W') A c n L ∧ LdS W0 W' (LDN X W W') b l T ∧ Mods Nil W W'
def slotsO (O : List POp) : List Int := O.map fun x => (x.v.slot : Int)
theorem keysO_of {W0 W : World} {X : Nat → Prop} {O : List POp} {f : Value → Option Value} (hok : ∀ x ∈ O, x.v.slot < 18446744073709551616) (hr : riseO O) (h : ∀ s : Nat, s < 18446744073709551616 → OpAt W0 W X (lookO O s) (f (.int .u64 (s : Int)))) {ss : List Int} (hs : Keys f ss) : ss.mergeSort (fun x y => decide (x ≤ y)) = slotsO O := by
  refine sort_same (List.pairwise_map.2 (hr.imp (fun {a b} h => by omega))) hs.1 (fun x => ?_)
  rw [hs.2 x]
  constructor
  · rintro ⟨⟨h1, h2⟩, h3⟩
    obtain ⟨s, rfl⟩ : ∃ s : Nat, x = (s : Int) := ⟨x.toNat, by omega⟩
    cases hl : lookO O s with
    | none => rw [(h s (by omega)).none_ hl] at h3; cases h3
    | some v =>
      obtain ⟨hv, rfl⟩ := lookO_some hl
      exact List.mem_map.2 ⟨v, hv, rfl⟩
  · intro hx
    obtain ⟨v, hv, rfl⟩ := List.mem_map.1 hx
    have hvs := hok v hv
    cases hl : lookO O v.v.slot with
    | none => exact absurd rfl (lookO_none.1 hl v hv)
    | some u =>
      obtain ⟨A, c, B, e, _⟩ := (h v.v.slot hvs).some_ u hl
      exact ⟨⟨by omega, by omega⟩, by rw [e]; rfl⟩
theorem lookO_of {O : List POp} (h : riseO O) {x : POp} (hx : x ∈ O) : lookO O x.v.slot = some x := by
  induction O with
  | nil => cases hx
  | cons y O ih =>
    have hp := List.pairwise_cons.1 h
    rw [lookO_cons]
    rcases List.mem_cons.1 hx with rfl | hx
    · rw [if_pos rfl]
    · have := hp.1 x hx
      rw [if_neg (by omega)]
      exact ih hp.2 hx
theorem pfield0 (w : World) (s b : Int) (A : Option Addr) (n c : Nat) (m : Int) : (Instr.field 103 (.agg #[.int .u64 s, .int .u64 b, .slice A n c, .int .u32 m]) 0).run Try.prog w = .ok (.agg #[.int .u64 s, .int .u64 b, .slice A n c]) w := by kernel_rfl
attribute [local go_sem] pfield0
theorem LdS.omap {W0 W : World} {X : Nat → Prop} {b T : Nat} {l : PLd} (h : LdS W0 W X b l T) : ∃ mo nx B kv, Blk W b 90 (ldCs l nx B kv (.map mo)) ∧ ((mo = none ∧ l.opn = []) ∨ ∃ ob, mo = some ob ∧ OpM W0 W X l.opn T ob) := by
  obtain ⟨nx, B, kv, ov, h1, h2⟩ := h.blk
  rcases h2 with ⟨e, rfl, rfl⟩ | ⟨e, kb, ob, rfl, rfl, _, _, _, _, ho⟩ | ⟨e, ob, rfl, rfl, _, ho⟩
  · exact ⟨none, nx, B, _, h1, .inl ⟨rfl, h.good.idle (by omega)⟩⟩
  · exact ⟨some ob, nx, B, _, h1, .inr ⟨ob, rfl, by rw [h.good.idle (by omega)]; exact ho⟩⟩
  · exact ⟨some ob, nx, B, _, h1, .inr ⟨ob, rfl, ho⟩⟩
set_option maxHeartbeats 3200000 in
theorem LdS.open_ {W0 W : World} {X : Nat → Prop} {b T : Nat} {l : PLd} (h : LdS W0 W X b l T) (hT : T ≤ 1000000) : Calls Try.prog 26 #[.pointer (some ⟨b, 0, none⟩)] W (OpenT W0 W X b l T) := by
  obtain ⟨mo, nx, B, kv, h1, h2⟩ := h.omap
  have c6 : W.cell? ⟨b, 6, none⟩ = some (.map mo) := h1.cell 6
  obtain ⟨N, hN⟩ : ∃ N, l.opn.length = N := ⟨_, rfl⟩
  have HSORT : Hid (Calls Try.prog 48 #[.func (.func 59) #[] #[.pointer (some ⟨W.heap.size, 0, none⟩)]] (W.alloc (.cells #[.map mo] 88)) fun e w' => ∃ v, e = .returned v ∧ w'.ownsRow (W.heap.size + 1) 28 1 v N ((slotsO l.opn).map nU) ∧ N ≤ 1000000 ∧ Mods Nil W w') := Lib.hid (by
    rcases h2 with ⟨rfl, e⟩ | ⟨ob, rfl, n, f, k1, k2, k3, k4, k5⟩
    · rw [e] at hN
      subst hN
      rw [e]
      exact (sorted_op0 W).mono fun e w' ⟨v, g1, g2, g3⟩ => ⟨v, g1, g2, Nat.zero_le _, g3⟩
    · refine (sorted_op k1 (by omega)).mono fun e w' ⟨v, ss, g1, g2, g3, g4, g5⟩ => ?_
      have e2 := keysO_of (fun x hx => by have := (h.good.opn.2 x hx).1; have := h.good.next; omega) h.good.opn.1 k5 g2
      rw [e2] at g4
      have e3 : ss.length = N := by
        have := congrArg List.length e2
        rw [List.length_mergeSort] at this
        rw [this, ← hN]
        simp [slotsO]
      rw [e3] at g3 g4
      exact ⟨v, g1, g4, by omega, g5⟩)
  have HLK : Hid (∀ j, j < N → ∃ (x : POp) (q : VtP) (B : Nat), l.opn[j]? = some x ∧ q.plain = x.v ∧ q.val.length ≤ 100000 ∧ Sl W q.A q.c (bts q.val) ∧ x.v.slot < 18446744073709551616 ∧ x.v.bal < 18446744073709551616 ∧ ∀ V, Mods Nil W V → (Instr.lookup 88 (.map mo) (.int .u64 (x.v.slot : Int)) false).run Try.prog V = .ok (.agg #[.int .u64 (q.slot : Int), .int .u64 (q.bal : Int), .slice q.A q.val.length q.c, .int .u32 (B : Int)]) V) := Lib.hid (fun j hj => by
    rcases h2 with ⟨rfl, e⟩ | ⟨ob, rfl, ho⟩
    · rw [e] at hN; simp at hN; omega
    · obtain ⟨x, hx⟩ : ∃ x, l.opn[j]? = some x := ⟨_, List.getElem?_eq_getElem (by omega)⟩
      have hm := List.mem_of_getElem? hx
      have hg := h.good.opn.2 x hm
      have hs : x.v.slot < 18446744073709551616 := by have := h.good.next; omega
      obtain ⟨A, c, B, r, g1, g2, g3, g4⟩ := ho.look hs (lookO_of h.good.opn.1 hm)
      exact ⟨x, ⟨x.v.slot, x.v.bal, A, c, x.v.val⟩, B, hx, rfl, g3, g1, hs, by rw [hg.2.1]; exact h.good.bal, fun V hV => (r V hV).2⟩)
  have H0 := Lib.hid h
  have B1 := Lib.hid h1
  have HN := Lib.hid hN
  clear h h1 h2 hN
  go_enter Try.func26, Try.ntmps26
  go_wp2_with (first
    | (go_at_call 49; refine (skeysO_any _ _).mono ?_; rintro e w1 ⟨rfl, rfl⟩)
    | (go_at_call 48; refine HSORT.out.mono ?_; rintro e w2 ⟨v, rfl, o2, hN6, m2⟩; obtain ⟨A2, c2, rfl⟩ : ∃ A c, v = .slice A N c := own_formU o2; have O2 := Lib.hid o2; have M2 := Lib.hid m2; clear o2 m2))
  go_loopw [3, 15] (fun x y wr => ∃ (j : Nat) (L : List VtP), j ≤ N ∧ y = .int .i64 (j : Int) ∧ L.length = j ∧ Hid (L.map VtP.plain = (l.opn.take j).map POp.v) ∧ Hid (OwnV w2.heap.size wr x L) ∧ Hid (Mods Nil w2 wr)) (fun _ y _ => N - (intOf y).toNat)
  case atStart => exact ⟨0, [], Nat.zero_le _, rfl, rfl, Lib.hid rfl, Lib.hid (OwnV.none_ _ _), Lib.hid (Mods.refl _ _)⟩
  case round =>
    obtain ⟨j, L, hj, rfl, hL, HP, HO, HM⟩ := hrel
    by_cases hlt : j < N
    · have hltI : (j : Int) < (N : Int) := by omega
      obtain ⟨x, q, Bq, hx, hqv, hqn, hqs, hxs, hxb, hqk⟩ := HLK.out j hlt
      have HTK : Hid ((l.opn.take (j + 1)).map POp.v = (l.opn.take j).map POp.v ++ [x.v]) := Lib.hid (by rw [List.take_add_one, hx]; simp)
      obtain ⟨g2, cap2, cur2, e2, hb2, hg2, -, -, -, -, -, hcell2, -⟩ := own_place O2.out (by omega)
      injection e2 with e2 e3 e4
      subst e2
      have z0 : wr.cell? ⟨g2, j, none⟩ = some (.int .u64 (x.v.slot : Int)) := (World.cell?_of_block (HM.out.block g2 hg2 (fun h => h))).trans (hcell2 j _ (by rw [List.getElem?_map]; simp [slotsO, hx]))
      have MW : Hid (Mods Nil W wr) := Lib.hid (M2.out.trans HM.out)
      have z2 : wr.cell? ⟨b, 6, none⟩ = some (.map mo) := (B1.out.mods MW.out (fun h => h)).cell 6
      obtain ⟨n, hn⟩ : ∃ n, q.val.length = n := ⟨_, rfl⟩
      have zl := hqk wr MW.out
      rw [hn] at zl
      have HCP := Lib.hid (lcopied_any (w := wr) (q.slot : Int) (q.bal : Int) hn (by omega) (hqs.mods MW.out (fun _ _ h => h)))
      have HNQ := Lib.hid hn
      have HQV := Lib.hid hqv
      have HVS := Lib.hid (And.intro hxs hxb)
      have HLL := Lib.hid hL
      clear hx hqv hqn hqs hqk e3 e4 hcell2 hb2 hg2 hn hL hxs hxb
      go_wp2_with (first
        | (go_at_call 50; refine HCP.out.mono ?_; rintro e w3 ⟨A3, k3, rfl, s3, f3, m3⟩; have S3 := Lib.hid s3; have F3 := Lib.hid f3; have M3 := Lib.hid m3; clear s3 f3 m3)
        | (at_builtin; refine push_pv rfl _ _ rfl ⟨q.slot, q.bal, A3, k3, q.val⟩ HNQ.out rfl (HO.out.nil M3.out).own rfl (by have := HLL.out; omega) (by have := HM.out.size; have := M3.out.size; omega) ?_; intro v' w4 ho4 m4; have O4 := Lib.hid ho4; have M4 := Lib.hid m4; clear ho4 m4))
      refine ⟨⟨j + 1, L ++ [⟨q.slot, q.bal, A3, k3, q.val⟩], by omega, by go_num, by have := HLL.out; simp; omega, Lib.hid ?_, Lib.hid ((HO.out.nil M3.out).push ⟨S3.out, fun hne ad had => ⟨by have := (F3.out hne ad had).1; have := HM.out.size; omega, (F3.out hne ad had).2.2⟩, ?_, ?_⟩ O4.out M4.out), Lib.hid ((HM.out.trans M3.out).nil_trans M4.out (fun i h => (HO.out.own.lt i h).1))⟩, by simp [intOf]; omega⟩
      · rw [HTK.out, List.map_append, HP.out, ← HQV.out]
        rfl
      · have := HVS.out.1
        rw [← HQV.out] at this
        exact this
      · have := HVS.out.2
        rw [← HQV.out] at this
        exact this
    · obtain rfl : N = j := by omega
      go_wp2_with fail
      go_ret
      have hall : l.opn.take N = l.opn := List.take_of_length_le (by rw [HN.out]; exact Nat.le_refl _)
      have mall : Mods Nil W wr := M2.out.trans HM.out
      obtain ⟨A9, c9, rfl, hpv⟩ := HO.out.pvs (D := NEW W wr) (fun k h1 h2 => ⟨by have := M2.out.size; omega, h2⟩)
      exact ⟨A9, L.length, c9, L, rfl, by rw [HP.out, hall]; rfl, hpv, H0.out.more mall (fun _ h => h), mall⟩
end Go.Proofs.Ytpabbhhaagfoeaa
end

section
/- Package leader as the statements meet it: New, Begin, Promise, Propose, Accepted, Open, Leads, Ballot, Stop; of nil. -/
end
