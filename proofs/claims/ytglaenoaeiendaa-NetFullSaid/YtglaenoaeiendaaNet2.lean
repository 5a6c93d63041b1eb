/- Package net: add, Send. -/
import Derived.Test.YtglaenoaeiendaaNet1
import Derived.Deep.RegionLaw
namespace Go.Proofs.Ytglaenoaeiendaa
set_option maxRecDepth 100000
open Go.RowKit
set_option linter.unusedVariables false

/-- One packet more, with a copy of its bytes. -/
def Added (w : World) (base nb nodes : Nat) (v : Value) (l : List Pk) (p : Pk) (e : Ending) (w' : World) : Prop :=
  e = .returned (.int .i64 0) ∧ ∃ v' q, NetAt w' base nb nodes v' (l ++ [q]) ∧ q.core = p.core ∧ (q.xs ≠ [] → ∀ a, q.A = some a → w.heap.size ≤ a.block) ∧ Mods (NS nb v) w w' ∧ (∀ k, v'.ownBlock = some k → v.ownBlock = some k ∨ w.heap.size ≤ k)

theorem added_mk {w w3 w4 : World} {base nb nodes : Nat} {v v4 : Value} {l : List Pk} {p : Pk} {A2 : Option Addr} {c2 g : Nat} {o : Obj} (h : NetAt w base nb nodes v l) (m3 : Mods Nil w w3)
    (s3 : Sl w3 A2 c2 (bts p.xs)) (f3 : p.xs ≠ [] → ∀ a, A2 = some a → w.heap.size ≤ a.block ∧ ∃ cs, Blk w3 a.block 5 cs)
    (own4 : w4.ownsRow base 32 3 v4 (l.length + 1) (pks l ++ [.int .i64 p.f, .int .i64 p.t, .slice A2 p.xs.length c2])) (grown : (w3.alloc o).grownBy w4 v.ownBlock)
    (hv4 : v4.ownBlock = some g) (hg : v.ownBlock = some g ∨ (w3.alloc o).heap.size ≤ g) : Added w base nb nodes v l p (.returned (.int .i64 0)) (w4.setCell ⟨nb, 1, none⟩ v4) := by
  have h3 := h.nil m3
  have m34 : Mods (NS nb v) w3 w4 := ((Mods.refl _ w3).alloc o).grown grown (fun k hk _ => .inr hk)
  have m35 : Mods (NS nb v) w3 (w4.setCell ⟨nb, 1, none⟩ v4) := m34.setCell (fun _ => .inl rfl) v4
  have bN : Blk w4 nb 46 #[.int .i64 (nodes : Int), v] := (h3.blk.alloc o).grown grown (fun e => h.ne e.symm)
  have hb : base ≤ w.heap.size := by have := h.le; have := h.blk.lt; omega
  refine ⟨rfl, v4, ⟨p.f, p.t, A2, c2, p.xs⟩, ⟨?_, ?_, ?_, h.le⟩, rfl, fun hx a ha => (f3 hx a ha).1, (m3.mono (fun _ _ h => h.elim)).trans m35, fun k hk => ?_⟩
  · have := bN.set_ 1 v4
    simpa using this
  · have hne := own_blk_ne own4 bN (by decide)
    have := own_mods own4 (Mods.setCell (S := fun k => k = nb) (p := ⟨nb, 1, none⟩) (Mods.refl _ w4) (fun _ => rfl) v4) (fun k hk e => hne (by rw [hk, e]))
    rw [List.length_append, pks_append]
    exact this
  · intro q hq
    rcases List.mem_append.1 hq with hq | hq
    · exact h3.ok_ns (h3.oks q hq) m35
    · obtain rfl : q = _ := by simpa using hq
      exact h3.ok_ns (p := ⟨p.f, p.t, A2, c2, p.xs⟩) ⟨s3, fun hx a ha => ⟨by have := (f3 hx a ha).1; omega, (f3 hx a ha).2⟩⟩ m35
  · rw [hv4] at hk
    injection hk with hk
    subst hk
    rcases hg with hg | hg
    · exact .inl hg
    · have := m3.size
      simp at hg
      exact .inr (by omega)
theorem three_new {w : World} {t : TypeId} {x y z : Value} : ∀ j u, [x, y, z][j]? = some u → (w.alloc (.cells #[x, y, z] t)).cell? ((⟨w.heap.size, 0, none⟩ : Addr).add j) = some u := by
  intro j u hu
  rw [Addr.add_lit, World.cell?_alloc_mark]
  match j, hu with
  | 0, hu => simpa using hu
  | 1, hu => simpa using hu
  | 2, hu => simpa using hu
theorem Blk.three {w : World} {g : Nat} {t : TypeId} {a b c : Value} (h : Blk w g t #[a, b, c]) : w.cell? ⟨g, 0, none⟩ = some a ∧ w.cell? ⟨g, 1, none⟩ = some b ∧ w.cell? ⟨g, 2, none⟩ = some c ∧ w.frozen? ⟨g, 0, none⟩ = false ∧ w.frozen? ⟨g, 1, none⟩ = false ∧ w.frozen? ⟨g, 2, none⟩ = false :=
  ⟨by simpa using h.cell 0, by simpa using h.cell 1, by simpa using h.cell 2, h.frozen 0, h.frozen 1, h.frozen 2⟩

set_option maxHeartbeats 3200000 in
theorem nadd_any {w : World} {base nb nodes : Nat} {v : Value} {l : List Pk} (h : NetAt w base nb nodes v l) (hl : l.length < 4096) {p : Pk} {m : Nat} (hm : p.xs.length = m) (hlim : m ≤ 140737488355328) (hs : Sl w p.A p.c (bts p.xs)) :
    Calls Try.prog 16 #[.pointer (some ⟨nb, 0, none⟩), .agg #[.int .i64 p.f, .int .i64 p.t, .slice p.A m p.c]] w (Added w base nb nodes v l p) := by
  obtain ⟨i0, hi, hz0, hz1, hz2⟩ := info_parts infoPacket
  obtain ⟨A, c, rfl, hlc, hcm, hpl⟩ := h.place
  obtain ⟨n, hn⟩ : ∃ n, l.length = n := ⟨_, rfl⟩
  have hnb := h.blk.lt
  have hbase : base ≤ w.heap.size := by have := h.le; omega
  have bA := Blk.new w 32 #[.int .i64 p.f, .int .i64 p.t, .slice p.A m p.c]
  have c1 : (w.alloc (.cells #[.int .i64 p.f, .int .i64 p.t, .slice p.A m p.c] 32)).cell? ⟨nb, 1, none⟩ = some (.slice A l.length c) := (h.nil ((Mods.refl _ _).alloc _)).cells.2.1
  have H := Lib.hid h
  have HN := Lib.hid hn
  have HM := Lib.hid hm
  have HS := Lib.hid hs
  have BA := Lib.hid bA
  rw [hn] at c1
  have hlI : (n : Int) < 4096 := by omega
  have hlN : n < 4096 := by omega
  rw [hn]
  obtain ⟨f, hf⟩ : ∃ f, p.f = f := ⟨_, rfl⟩
  obtain ⟨t, ht⟩ : ∃ t, p.t = t := ⟨_, rfl⟩
  obtain ⟨pA, hpA⟩ : ∃ pA, p.A = pA := ⟨_, rfl⟩
  obtain ⟨pc, hpc⟩ : ∃ pc, p.c = pc := ⟨_, rfl⟩
  rw [hf, ht, hpA, hpc] at BA c1 ⊢
  rw [hpA, hpc] at HS
  have HF := Lib.hid hf
  have HT := Lib.hid ht
  have hne : nb ≠ w.heap.size := by omega
  clear h hs bA hn hlc hcm hpl hm hl hf ht hpA hpc
  go_enter Try.func16, Try.ntmps16
  go_wp2_with (first
    | (go_at_call 11; refine (nlen_any c1).mono ?_; rintro e w1 ⟨rfl, rfl⟩)
    | (go_at_call 23; refine (clone_any HM.out hlim (HS.out.alloc _)).mono ?_; rintro e w2 ⟨A2, c2, rfl, s2, m2, f2⟩; have b2 := BA.out.mods m2 (fun h => h); obtain ⟨d0, d1, d2, d3, d4, d5⟩ := b2.three; have b3 := b2.set_ 2 (.slice A2 m c2); simp only [List.setIfInBounds_toArray, List.set_cons_succ, List.set_cons_zero] at b3; obtain ⟨e0, e1, e2, e3, e4, e5⟩ := b3.three; have M3 := Lib.hid ((((Mods.refl Nil w).alloc (.cells #[.int .i64 f, .int .i64 t, .slice pA m pc] 32)).trans m2).setNew (p := ⟨w.heap.size, 2, none⟩) (Nat.le_refl _) (.slice A2 m c2)); have h3 := (H.out.nil M3.out).cells; have g1 := h3.2.1; have g3 := h3.2.2.2; rw [HN.out] at g1; have mS : Mods (fun k => k = w.heap.size) w2 (w2.setCell ⟨w.heap.size, 2, none⟩ (.slice A2 m c2)) := Mods.setCell (S := fun k => k = w.heap.size) (Mods.refl _ _) (fun _ => rfl) _; have S3 := Lib.hid (s2.mods' mS (fun hx a ha hk => by have := (f2 hx a ha).1; simp at this; omega)); have F3 : Hid (p.xs ≠ [] → ∀ a, A2 = some a → w.heap.size ≤ a.block ∧ ∃ cs, Blk (w2.setCell ⟨w.heap.size, 2, none⟩ (.slice A2 m c2)) a.block 5 cs) := (fun hx a ha => by obtain ⟨k1, cs, k2⟩ := f2 (bts_ne.2 hx) a ha; simp at k1; exact ⟨by omega, cs, k2.mods mS (by omega)⟩); clear s2 m2 f2 b2 b3 h3 mS c1))
  have hbW : base ≤ ((w2.setCell ⟨w.heap.size, 2, none⟩ (.slice A2 m c2)).alloc (.cells #[.int .i64 f, .int .i64 t, .slice A2 m c2] 32)).heap.size := by have := M3.out.size; simp at this ⊢; omega
  have o3 := (H.out.nil M3.out).own
  rw [HN.out] at o3
  have O3 := Lib.hid o3
  clear o3
  have hnI : n + 1 ≤ 4096 := by omega
  have NEW := Lib.hid (three_new (w := w2.setCell ⟨w.heap.size, 2, none⟩ (.slice A2 m c2)) (t := 32) (x := .int .i64 f) (y := .int .i64 t) (z := .slice A2 m c2))
  have g1' : ((w2.setCell ⟨w.heap.size, 2, none⟩ (.slice A2 m c2)).alloc (.cells #[.int .i64 f, .int .i64 t, .slice A2 m c2] 32)).cell? ⟨nb, 1, none⟩ = some (.slice A n c) := by have := ((H.out.nil M3.out).nil ((Mods.refl _ _).alloc (.cells #[.int .i64 f, .int .i64 t, .slice A2 m c2] 32))).cells.2.1; rw [HN.out] at this; exact this
  go_region_law (refine step_append_rows _ rfl _ _ 44 rfl base 32 i0 (.agg #[.int .i64 0, .int .i64 0, .slice none 0 0]) 3 40 Try.underlying44 hi hz0 hz1 hz2 rfl (by decide) (.slice A n c) n (pks l) rfl (by exact (O3.out.alloc _).drew) ⟨w2.heap.size, 0, none⟩ 1 1 [.int .i64 f, .int .i64 t, .slice A2 m c2] rfl rfl (by decide) (by have := NEW.out; simp only [World.size_setCell] at this; exact this) (by simp [Value.oneCell']) (by omega) (by unfold maxLen; omega) (by exact hbW) ?_; intro g4 cap4 w4 hown hgrow hblk; have hb4 : Blk w4 nb 46 #[.int .i64 (nodes : Int), .slice A n c] := (by have := (((H.out.nil M3.out).blk.alloc (.cells #[.int .i64 f, .int .i64 t, .slice A2 m c2] 32)).grown (grown_of_drew hgrow) (by rw [← HN.out]; exact fun e => H.out.ne e.symm)); rw [HN.out] at this; exact this); have k1 := hb4.two.2.1; have k3 := hb4.two.2.2.2; have HA : Hid (Added w base nb nodes (.slice A n c) l p (.returned (.int .i64 0)) (w4.setCell ⟨nb, 1, none⟩ (.slice (some ⟨g4, 0, none⟩) (n + 1) cap4))) := (by rw [← HN.out]; exact added_mk (o := .cells #[.int .i64 f, .int .i64 t, .slice A2 m c2] 32) H.out M3.out S3.out F3.out (by rw [HF.out, HT.out, HM.out, HN.out]; exact hown) (by rw [HN.out]; exact grown_of_drew hgrow) rfl (by rw [HN.out]; exact hblk)); clear hown hgrow hblk hb4)
  all_goals
    go_wp2
    go_ret
    exact HA.out
theorem nadd_full {w : World} {base nb nodes : Nat} {v : Value} {l : List Pk} (h : NetAt w base nb nodes v l) (hl : l.length = 4096) (f t : Int) (A2 : Option Addr) (m2 c2 : Nat) :
    Calls Try.prog 16 #[.pointer (some ⟨nb, 0, none⟩), .agg #[.int .i64 f, .int .i64 t, .slice A2 m2 c2]] w fun e w' => e = .returned (.int .i64 13) ∧ Mods Nil w w' := by
  obtain ⟨A, c, rfl, hlc, hcm, hpl⟩ := h.place
  have c1 : (w.alloc (.cells #[.int .i64 f, .int .i64 t, .slice A2 m2 c2] 32)).cell? ⟨nb, 1, none⟩ = some (.slice A l.length c) := (h.nil ((Mods.refl _ _).alloc _)).cells.2.1
  have M := Lib.hid ((Mods.refl Nil w).alloc (.cells #[.int .i64 f, .int .i64 t, .slice A2 m2 c2] 32))
  rw [hl] at c1
  clear h hl hlc hcm hpl
  go_enter Try.func16, Try.ntmps16
  go_wp2_with (go_at_call 11; refine (nlen_any c1).mono ?_; rintro e w1 ⟨rfl, rfl⟩)
  go_ret
  exact ⟨rfl, M.out⟩

/-- Send of a packet between two nodes that there are. -/
theorem nsend_any {w : World} {base nb nodes : Nat} {v : Value} {l : List Pk} (h : NetAt w base nb nodes v l) (hl : l.length < 4096) {p : Pk} {f t : Nat} (hpf : p.f = (f : Int)) (hpt : p.t = (t : Int)) (hf : f < nodes) (ht : t < nodes) {m : Nat} (hm : p.xs.length = m) (hlim : m ≤ 140737488355328) (hs : Sl w p.A p.c (bts p.xs)) :
    Calls Try.prog 9 #[.pointer (some ⟨nb, 0, none⟩), .agg #[.int .i64 (f : Int), .int .i64 (t : Int), .slice p.A m p.c]] w (Added w base nb nodes v l p) := by
  have m1 : Mods Nil w (w.alloc (.cells #[.int .i64 (f : Int), .int .i64 (t : Int), .slice p.A m p.c] 32)) := (Mods.refl Nil w).alloc _
  have h1 := h.nil m1
  have c0 := h1.cells.1
  obtain ⟨d0, d1, d2, d3, d4, d5⟩ := (Blk.new w 32 #[.int .i64 (f : Int), .int .i64 (t : Int), .slice p.A m p.c]).three
  have hadd := nadd_any h1 hl hm hlim (hs.alloc (.cells #[.int .i64 (f : Int), .int .i64 (t : Int), .slice p.A m p.c] 32))
  rw [hpf, hpt] at hadd
  have HADD := Lib.hid hadd
  have M1 := Lib.hid m1
  have H1 := Lib.hid h1
  clear h hl hpf hpt hm hlim hs m1 h1 hadd
  go_enter Try.func9, Try.ntmps9
  go_wp2_with (first
    | (go_at_call_of 15 (Value.int .i64 (f : Int)); refine (nnode_yes c0 hf).mono ?_; rintro e w1 ⟨rfl, rfl⟩)
    | (go_at_call_of 15 (Value.int .i64 (t : Int)); refine (nnode_yes c0 ht).mono ?_; rintro e w1 ⟨rfl, rfl⟩)
    | (go_at_call 16; refine (HADD.out).mono ?_; rintro e w2 ⟨rfl, v', q, k1, k2, k3, k4, k5⟩; have K1 := Lib.hid k1; have K2 := Lib.hid k2; have K3 := Lib.hid k3; have K4 := Lib.hid k4; have K5 := Lib.hid k5; clear k1 k2 k3 k4 k5))
  go_ret
  refine ⟨rfl, v', q, K1.out, K2.out, fun hx a ha => ?_, (M1.out.mono (fun _ _ h => h.elim)).trans K4.out, fun k hk => ?_⟩
  · have := K3.out hx a ha; simp at this; omega
  · rcases K5.out k hk with hk | hk
    · exact .inl hk
    · simp at hk; exact .inr (by omega)
theorem nsend_full {w : World} {base nb nodes : Nat} {v : Value} {l : List Pk} (h : NetAt w base nb nodes v l) (hl : l.length = 4096) {f t : Nat} (hf : f < nodes) (ht : t < nodes) (A2 : Option Addr) (m2 c2 : Nat) :
    Calls Try.prog 9 #[.pointer (some ⟨nb, 0, none⟩), .agg #[.int .i64 (f : Int), .int .i64 (t : Int), .slice A2 m2 c2]] w fun e w' => e = .returned (.int .i64 13) ∧ Mods Nil w w' := by
  have m1 : Mods Nil w (w.alloc (.cells #[.int .i64 (f : Int), .int .i64 (t : Int), .slice A2 m2 c2] 32)) := (Mods.refl Nil w).alloc _
  have h1 := h.nil m1
  have c0 := h1.cells.1
  obtain ⟨d0, d1, d2, d3, d4, d5⟩ := (Blk.new w 32 #[.int .i64 (f : Int), .int .i64 (t : Int), .slice A2 m2 c2]).three
  have HADD := Lib.hid (nadd_full h1 hl (f : Int) (t : Int) A2 m2 c2)
  have M1 := Lib.hid m1
  clear h hl m1 h1
  go_enter Try.func9, Try.ntmps9
  go_wp2_with (first
    | (go_at_call_of 15 (Value.int .i64 (f : Int)); refine (nnode_yes c0 hf).mono ?_; rintro e w1 ⟨rfl, rfl⟩)
    | (go_at_call_of 15 (Value.int .i64 (t : Int)); refine (nnode_yes c0 ht).mono ?_; rintro e w1 ⟨rfl, rfl⟩)
    | (go_at_call 16; refine (HADD.out).mono ?_; rintro e w2 ⟨rfl, k4⟩; have K4 := Lib.hid k4; clear k4))
  go_ret
  exact ⟨rfl, M1.out.trans K4.out⟩
end Go.Proofs.Ytglaenoaeiendaa
