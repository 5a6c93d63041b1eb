/- Package net: Take, Twice. -/
import Derived.Test.YtglaenoaeiendaaNet3
namespace Go.Proofs.Ytglaenoaeiendaa
set_option maxRecDepth 100000
open Go.RowKit
set_option linter.unusedVariables false

/-- What Take leaves. -/
def Took (w : World) (base nb nodes : Nat) (v : Value) (l : List Pk) (i : Nat) (e : Ending) (w' : World) : Prop :=
  ∃ q, l[i]? = some q ∧ e = .returned (.tuple #[q.agg, .bool true]) ∧ q.ok base w' ∧ ∃ v', NetAt w' base nb nodes v' (l.eraseIdx i) ∧ Mods (NS nb v) w w' ∧ (∀ k, v'.ownBlock = some k → v.ownBlock = some k ∨ w.heap.size ≤ k)

/-- Three cells of a block set. -/
theorem set_three {w : World} {g : Nat} {t : TypeId} {a b c : Value} (h : Blk w g t #[a, b, c]) (x y z : Value) : Blk (((w.setCell ⟨g, 0, none⟩ x).setCell ⟨g, 1, none⟩ y).setCell ⟨g, 2, none⟩ z) g t #[x, y, z] := by
  have := ((h.set_ 0 x).set_ 1 y).set_ 2 z
  simpa using this

set_option maxHeartbeats 3200000 in
theorem ntake_any {w : World} {base nb nodes i : Nat} {v : Value} {l : List Pk} (h : NetAt w base nb nodes v l) (hl : l.length ≤ 4096) (hi : i < l.length) :
    Calls Try.prog 10 #[.pointer (some ⟨nb, 0, none⟩), .int .i64 (i : Int)] w (Took w base nb nodes v l i) := by
  obtain ⟨A, cap, rfl, hlc, hcm, hpl⟩ := h.place
  obtain ⟨g, rfl, hgl, hgn, hcell, hfz⟩ := hpl (by omega)
  obtain ⟨n, hn⟩ : ∃ n, l.length = n := ⟨_, rfl⟩
  obtain ⟨n1, hn1⟩ : ∃ n1, n = n1 + 1 := ⟨n - 1, by omega⟩
  obtain ⟨q, hq⟩ : ∃ q, l[i] = q := ⟨_, rfl⟩
  have hqi : l[i]? = some q := by rw [← hq]; exact List.getElem?_eq_getElem hi
  obtain ⟨p0, p1, p2⟩ := pks_at l i hi
  rw [hq] at p0 p1 p2
  have hqok := h.oks q (by rw [← hq]; exact List.getElem_mem hi)
  obtain ⟨m, hm⟩ : ∃ m, q.xs.length = m := ⟨_, rfl⟩
  obtain ⟨f, hf⟩ : ∃ f, q.f = f := ⟨_, rfl⟩
  obtain ⟨t, ht⟩ : ∃ t, q.t = t := ⟨_, rfl⟩
  obtain ⟨qA, hqA⟩ : ∃ qA, q.A = qA := ⟨_, rfl⟩
  obtain ⟨qc, hqc⟩ : ∃ qc, q.c = qc := ⟨_, rfl⟩
  have hagg : q.agg = .agg #[.int .i64 f, .int .i64 t, .slice qA m qc] := by unfold Pk.agg; rw [hf, ht, hqA, hm, hqc]
  rw [hf] at p0
  rw [ht] at p1
  rw [hqA, hm, hqc] at p2
  have hnb := h.blk.lt
  have mA : Mods Nil w (w.alloc (.cells #[.int .i64 0, .int .i64 0, .slice none 0 0] 32)) := (Mods.refl _ _).alloc _
  have hA := h.nil mA
  have c1 := hA.cells.2.1
  have cg : ∀ j u, (pks l)[j]? = some u → (w.alloc (.cells #[.int .i64 0, .int .i64 0, .slice none 0 0] 32)).cell? ⟨g, j, none⟩ = some u := fun j u hu => (World.cell?_of_block (mA.block g hgl (fun h => h))).trans (hcell j u hu)
  have e0 := cg _ _ p0
  have e1 := cg _ _ p1
  have e2 := cg _ _ p2
  have mB : Mods Nil w ((w.alloc (.cells #[.int .i64 0, .int .i64 0, .slice none 0 0] 32)).alloc (.cells #[.int .i64 f, .int .i64 t, .slice qA m qc] 32)) := mA.alloc _
  have hB := h.nil mB
  have bR := (Blk.new w 32 #[.int .i64 0, .int .i64 0, .slice none 0 0]).alloc (.cells #[.int .i64 f, .int .i64 t, .slice qA m qc] 32)
  have bP := Blk.new (w.alloc (.cells #[.int .i64 0, .int .i64 0, .slice none 0 0] 32)) 32 #[.int .i64 f, .int .i64 t, .slice qA m qc]
  rw [World.size_alloc] at bP
  have c2 := hB.cells.2.1
  have hown := hB.own
  rw [hn] at hown c1 c2
  have HD := Lib.hid (ndel_any (i := i) hown hn1 (by omega) (by omega) (by omega))
  have HB := Lib.hid hB
  have MB := Lib.hid mB
  have BR := Lib.hid bR
  have BP := Lib.hid bP
  have HQ := Lib.hid hqi
  have HOK := Lib.hid hqok
  have HAGG := Lib.hid hagg
  have HN := Lib.hid hn
  have H := Lib.hid h
  have hiI : (i : Int) < (n : Int) := by omega
  have hin : i < n := by omega
  have hnI : (n : Int) ≤ 4096 := by omega
  have hlen1 : (l.eraseIdx i).length = n1 := by rw [List.length_eraseIdx]; simp [hi]; omega
  have HL1 := Lib.hid hlen1
  have hg1 : g ≠ w.heap.size := by omega
  have hg2 : g ≠ w.heap.size + 1 := by omega
  have hn1' : nb ≠ w.heap.size := by omega
  have hn2 : nb ≠ w.heap.size + 1 := by omega
  clear h hqi hqok hq hagg hn hn1 p0 p1 p2 hf ht hqA hqc hm mA hA cg mB hB bR bP hown hcell hfz hlc hcm hpl hlen1 hl hi
  go_enter Try.func10, Try.ntmps10
  go_wp2_with (first
    | (go_at_call 17; refine (nhas_yes c1 hin).mono ?_; rintro e w1 ⟨rfl, rfl⟩)
    | (go_at_call 18; refine (HD.out).mono ?_; rintro e w3 ⟨rfl, o3, m3⟩; have b3 := HB.out.blk.mods m3 (fun e => hgn e.symm); have d1 := b3.two.2.1; have d3 := b3.two.2.2.2; have r3 := BR.out.mods m3 (fun e => hg1 e.symm); have p3 := BP.out.mods m3 (fun e => hg2 e.symm); have r4 := r3.far (p := ⟨nb, 1, none⟩) (fun e => hn1' e.symm) (.slice (some ⟨g, 0, none⟩) n1 cap); have p4 := p3.far (p := ⟨nb, 1, none⟩) (fun e => hn2 e.symm) (.slice (some ⟨g, 0, none⟩) n1 cap); obtain ⟨r40, r41, r42, r4f0, r4f1, r4f2⟩ := r4.three; obtain ⟨p40, p41, p42, -, -, -⟩ := p4.three; obtain ⟨s50, s51, s52, -, -, -⟩ := (set_three r4 (.int .i64 f) (.int .i64 t) (.slice qA m qc)).three; have R4 := Lib.hid r4; have M3 := Lib.hid m3; have O3 := Lib.hid o3; have B3 := Lib.hid b3; clear o3 m3 b3 r3 p3 r4 p4))
  have hfin : Took w base nb nodes (.slice (some ⟨g, 0, none⟩) n cap) l i (.returned (.tuple #[.agg #[.int .i64 f, .int .i64 t, .slice qA m qc], .bool true])) ((((w3.setCell ⟨nb, 1, none⟩ (.slice (some ⟨g, 0, none⟩) n1 cap)).setCell ⟨w.heap.size, 0, none⟩ (.int .i64 f)).setCell ⟨w.heap.size, 1, none⟩ (.int .i64 t)).setCell ⟨w.heap.size, 2, none⟩ (.slice qA m qc)) := by
    have mS : Mods (fun k => k = w.heap.size) (w3.setCell ⟨nb, 1, none⟩ (.slice (some ⟨g, 0, none⟩) n1 cap)) ((((w3.setCell ⟨nb, 1, none⟩ (.slice (some ⟨g, 0, none⟩) n1 cap)).setCell ⟨w.heap.size, 0, none⟩ (.int .i64 f)).setCell ⟨w.heap.size, 1, none⟩ (.int .i64 t)).setCell ⟨w.heap.size, 2, none⟩ (.slice qA m qc)) :=
      Mods.setCell (S := fun k => k = w.heap.size) (Mods.setCell (S := fun k => k = w.heap.size) (Mods.setCell (S := fun k => k = w.heap.size) (Mods.refl _ _) (fun _ => rfl) _) (fun _ => rfl) _) (fun _ => rfl) _
    have mN : Mods (fun k => k = nb) w3 (w3.setCell ⟨nb, 1, none⟩ (.slice (some ⟨g, 0, none⟩) n1 cap)) := Mods.setCell (S := fun k => k = nb) (Mods.refl _ _) (fun _ => rfl) _
    have m34 : Mods (NS nb (.slice (some ⟨g, 0, none⟩) n cap)) ((w.alloc (.cells #[.int .i64 0, .int .i64 0, .slice none 0 0] 32)).alloc (.cells #[.int .i64 f, .int .i64 t, .slice qA m qc] 32)) (w3.setCell ⟨nb, 1, none⟩ (.slice (some ⟨g, 0, none⟩) n1 cap)) :=
      (M3.out.mono (fun i _ h => by rw [h]; exact .inr rfl)).trans (mN.mono (fun i _ h => .inl h))
    have m4 : Mods (NS nb (.slice (some ⟨g, 0, none⟩) n cap)) w (w3.setCell ⟨nb, 1, none⟩ (.slice (some ⟨g, 0, none⟩) n1 cap)) := (MB.out.mono (fun _ _ h => h.elim)).trans m34
    have m5 := m4.trans2 mS (fun i hi e => by omega)
    have hb1 : base ≤ w.heap.size := by have := H.out.le; omega
    have n4 : NetAt (w3.setCell ⟨nb, 1, none⟩ (.slice (some ⟨g, 0, none⟩) n1 cap)) base nb nodes (.slice (some ⟨g, 0, none⟩) n1 cap) (l.eraseIdx i) := by
      refine ⟨?_, ?_, fun p hp => ?_, H.out.le⟩
      · have := B3.out.set_ 1 (.slice (some ⟨g, 0, none⟩) n1 cap)
        simpa using this
      · rw [HL1.out]
        exact own_mods O3.out mN (fun k hk e => hgn (by simp [Value.ownBlock] at hk; omega))
      · have := HB.out.ok_ns (HB.out.oks p (List.mem_of_mem_eraseIdx hp)) (by rw [HN.out]; exact m34)
        exact this
    have n5 := n4.mods mS (fun k hk hlt => ?_)
    refine ⟨q, HQ.out, by rw [HAGG.out], ?_, _, n5, m5, fun k hk => .inl hk⟩
    · refine (H.out.ok_ns HOK.out (by rw [HN.out]; exact m4)).mods mS (fun hx a ha e => ?_)
      obtain ⟨cs, hcs⟩ := (HOK.out.2 hx a ha).2
      have := hcs.lt
      omega
    · subst hk
      refine ⟨fun hs => ?_, fun p hp hx a ha e => ?_⟩
      · rcases hs with e | e
        · omega
        · simp [Value.ownBlock] at e; omega
      · obtain ⟨cs, hcs⟩ := ((H.out.oks p (List.mem_of_mem_eraseIdx hp)).2 hx a ha).2
        have := hcs.lt
        omega
  have HFIN := Lib.hid hfin
  clear hfin
  rw [HN.out]
  exact bodyPost_ret (v := .tuple #[.agg #[.int .i64 f, .int .i64 t, .slice qA m qc], .bool true]) (by simp [results, Try.results10, go_sem, s50, s51, s52]) rfl HFIN.out
end Go.Proofs.Ytglaenoaeiendaa
