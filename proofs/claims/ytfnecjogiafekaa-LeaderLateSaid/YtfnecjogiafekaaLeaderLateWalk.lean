/- LeaderLate: a promise that comes late, twice, of another ballot, or of a stranger, changes nothing. -/
import Derived.Test.YtfnecjogiafekaaLawM15
namespace Go.Proofs.Ytfnecjogiafekaa
set_option maxRecDepth 1000000
open Go.RowKit
set_option linter.unusedVariables false
set_option linter.unusedSimpArgs false
def la2 : PLd := { many := 3, stage := 1, bal := 5, prom := [1] }
def la3 : PLd := { many := 3, stage := 2, bal := 5, prom := [1, 0] }
theorem la_p1 : aw1.promise 1 5 0 [] = la2 ∧ aw1.promV 1 5 0 [] = [] ∧ aw1.promB 1 5 0 [] = false :=
  promise_few (deaf_not rfl rfl (by decide) (by decide) (by decide)) (by decide) 0 []
theorem la_p2 (vs : List PVt) : la2.promise 1 5 0 vs = la2 ∧ la2.promV 1 5 0 vs = [] ∧ la2.promB 1 5 0 vs = false :=
  promise_deaf (.inr (.inr (.inr (.inr (by decide))))) 0 vs
theorem la_p3 {node : Int} {x : Nat} (h : node < 0 ∨ 2 < node ∨ x ≠ 5) (vs : List PVt) : la2.promise node x 0 vs = la2 ∧ la2.promV node x 0 vs = [] ∧ la2.promB node x 0 vs = false :=
  promise_deaf (by
    rcases h with h | h | h
    · exact .inr (.inr (.inl h))
    · exact .inr (.inr (.inr (.inl (by show (3 : Int) ≤ node; omega))))
    · exact .inr (.inl h)) 0 vs
theorem la_p4 : la2.promise 0 5 0 [] = la3 ∧ la2.promV 0 5 0 [] = [] ∧ la2.promB 0 5 0 [] = true := by
  obtain ⟨h1, h2, h3⟩ := promise_lead (l := la2) (node := 0) (b := 5) (low := 0) (vs := []) (deaf_not rfl rfl (by decide) (by decide) (by decide)) (by decide) (fun v hv => by cases hv)
  exact ⟨h1.trans rfl, h2.trans rfl, h3⟩
theorem la_p5 (vs : List PVt) : la3.promise 2 5 0 vs = la3 ∧ la3.promV 2 5 0 vs = [] ∧ la3.promB 2 5 0 vs = false :=
  promise_deaf (.inl (by decide)) 0 vs
theorem la_x : la3.propX [120] = ⟨0, 5, [120]⟩ ∧ la3.propE = 0 := (propose_ok rfl (by simp [la3]) [120]).2
set_option maxHeartbeats 6400000 in
theorem leaderLate_walk (w : World) {node : Int} (wn : (Lit.int .i64 node).wf = true) {bi : Int} (wb : (Lit.int .u8 bi).wf = true) {A : Option Addr} {c n : Nat} {xs : List UInt8} (hn : xs.length = n) (hs : Sl w A c (bts xs)) :
    Calls Try.prog 8 #[.int .i64 node, .int .u8 bi, .slice A n c] w fun e w' => e = .returned (.bool true) ∧ Mods Nil w w' := by
  have hb0 := u8_of_wf wb
  have hn0 := i64_of_wf15 wn
  obtain ⟨x, rfl⟩ : ∃ s : Nat, bi = (s : Int) := ⟨bi.toNat, by omega⟩
  have hw0 : IntKind.u64.wrap (x : Int) = (x : Int) := by rw [IntKind.wrap_u64]; omega
  have hx2 : x < 256 := by omega
  have HNO := Lib.hid hn0
  have hcv := fun (w : World) (C : Array Value) (n c : Nat) => Lib.run_convert_bytes_const (P := Try.prog) w 34 5 C n c Try.underlying34 Try.underlying5
  have HS := Lib.hid hs
  have HN := Lib.hid hn
  have HB1 : Hid (∀ (V W : World) g, LdS V W (fun _ => False) g aw0 0 → Calls Try.prog 12 #[.pointer (some ⟨g, 0, none⟩), .int .u64 5, .int .u64 0] W fun e W' => e = .returned (.int .i64 0) ∧ LdS V W' (fun _ => False) g aw1 0) := Lib.hid (fun V W b h => (h.begin' (x := 5) (f := 0) (by omega) (by omega) aw_begin.1 aw_begin.2).mono fun e W' ⟨h1, h2, _⟩ => ⟨h1, h2⟩)
  have HX : Hid (∀ (V W : World) X g T A c, T ≤ 100000 → LdS V W X g la3 T → Sl W A c (bts [120]) → Calls Try.prog 18 #[.pointer (some ⟨g, 0, none⟩), .slice A 1 c] W fun e W' => ∃ A' c', e = .returned (.tuple #[.agg #[.int .u64 0, .int .u64 5, .slice A' 1 c'], .int .i64 0]) ∧ Mods Nil V W') := Lib.hid (fun V W X g T A c hT h hv => (h.propose2 (by omega) (v := [120]) (n := 1) rfl (by omega) hv rfl la_x.1 la_x.2).mono fun e W' ⟨A', n, c', h1, h2, h3, h4⟩ => by
    obtain rfl : n = 1 := h2.1.symm
    exact ⟨A', c', h1, h3.m⟩)
  clear wb hb0 wn hn0 hs hn
  by_cases h10 : 10 < n
  · have h10I : (10 : Int) < (n : Int) := by omega
    go_enter Try.func8, Try.ntmps8
    go_wp2_with (first
      | (go_at_call 9; refine (awake15_any _).mono ?_; rintro e w1 ⟨rfl, m1⟩; have M1 := Lib.hid m1; clear m1))
    go_ret
    exact ⟨rfl, M1.out⟩
  · have h10I : ¬ (10 : Int) < (n : Int) := by omega
    have hn10 : n ≤ 10 := by omega
    go_enter Try.func8, Try.ntmps8
    go_wp2_with (first
      | (go_at_call 12; refine (HB1.out _ _ _ S2.out).mono ?_; rintro e w3 ⟨rfl, s3⟩; have S3 := Lib.hid s3; clear s3 S2)
      | (go_at_call 10; refine (ldr_new _ (many := 3) (by omega) (by omega)).mono ?_; rintro e w2 ⟨g, rfl, s2⟩; have S2 := Lib.hid s2; clear s2)
      | (go_at_call 9; refine (awake15_any _).mono ?_; rintro e w1 ⟨rfl, m1⟩; have M1 := Lib.hid m1; clear m1))
    go_loopw [10, 11] (fun v y wr => ∃ (i : Nat) (l : List VtP), i ≤ n ∧ y = .int .i64 (i : Int) ∧ l.length = i ∧ (∀ q ∈ l, q.val.length ≤ 1) ∧ Hid (OwnV15 w3.heap.size wr v l) ∧ Hid (Mods Nil w3 wr)) (fun _ y _ => n - (intOf y).toNat)
    case atStart => exact ⟨0, [], Nat.zero_le _, rfl, rfl, (fun q hq => by cases hq), Lib.hid (OwnV15.none_ _ _), Lib.hid (Mods.refl _ _)⟩
    case round =>
      obtain ⟨i, l, hi, rfl, hl, hq1, HO, HM⟩ := hrel
      have HL := Lib.hid hl
      have HQ1 := Lib.hid hq1
      clear hl hq1
      by_cases hlt : i < n
      · have hltI : (i : Int) < (n : Int) := by omega
        have hix : i < xs.length := by rw [HN.out]; exact hlt
        obtain ⟨bb, oo, hA, hbl, hc⟩ := sl_byte15 HS.out hix
        subst hA
        obtain ⟨z, hz⟩ : ∃ z, xs[i] = z := ⟨_, rfl⟩
        rw [hz] at hc
        have hc2 : wr.cell? ⟨bb, oo + i, none⟩ = some (.int .u8 (z.toNat : Int)) := (World.cell?_of_block ((M1.out.trans (S3.out.m.trans HM.out)).block bb hbl (fun h => h))).trans hc
        have hwi : IntKind.u64.wrap (i : Int) = (i : Int) := by rw [IntKind.wrap_u64]; omega
        have hnb := new_bytes15 wr [z] (n := 1) rfl (by omega)
        have HNB : Hid (Sl (wr.alloc (.cells #[.int .u8 (z.toNat : Int)] 5)) (some ⟨wr.heap.size, 0, none⟩) 1 (bts [z])) := Lib.hid hnb
        clear hc hz hix hnb hbl
        go_wp2_with (at_builtin; refine push_pv rfl _ _ rfl (W := wr.alloc (.cells #[.int .u8 (z.toNat : Int)] 5)) (m := i) (l := l) ⟨i, 4, some ⟨wr.heap.size, 0, none⟩, 1, [z]⟩ (n := 1) rfl rfl (by have := (HO.out.nil ((Mods.refl Nil wr).alloc (.cells #[.int .u8 (z.toNat : Int)] 5))).own; rw [HL.out] at this; exact this) (by show Value.slice (some ⟨wr.heap.size + 1, 0, none⟩) 1 1 = .slice (some ⟨(wr.alloc (.cells #[.int .u8 (z.toNat : Int)] 5)).heap.size, 0, none⟩) 1 1; simp) (by omega) (by have := HM.out.size; simp; omega) ?_; intro v' w4 ho4 m4; have O4 := Lib.hid ho4; have M4 := Lib.hid m4; clear ho4 m4)
        have mA : Mods Nil wr (wr.alloc (.cells #[.int .u8 (z.toNat : Int)] 5)) := (Mods.refl _ _).alloc _
        refine ⟨⟨i + 1, l ++ [⟨i, 4, some ⟨wr.heap.size, 0, none⟩, 1, [z]⟩], by omega, by go_num, by simp [HL.out], fun q hq => ?_, Lib.hid ((HO.out.nil mA).push ⟨HNB.out, fun _ a ha => ?_, by show i < _; omega, by show 4 < 18446744073709551616; omega⟩ (by rw [HL.out]; exact O4.out) M4.out), Lib.hid ((HM.out.trans mA).nil_trans M4.out (fun k h => ((HO.out.nil mA).own.lt k h).1))⟩, by simp [intOf]; omega⟩
        · rcases List.mem_append.1 hq with hq | hq
          · exact HQ1.out q hq
          · rw [List.mem_singleton.1 hq]; simp
        · injection ha with ha
          subst ha
          exact ⟨HM.out.size, _, Blk.new wr 5 #[.int .u8 (z.toNat : Int)]⟩
      · obtain rfl : n = i := by omega
        obtain ⟨A4, c4, rfl, p4⟩ := HO.out.pvs (D := NEW w3 wr) (fun k h1 h2 => ⟨h1, h2⟩)
        rw [HL.out] at p4 ⊢
        have P4 := Lib.hid p4
        have S4 := Lib.hid (S3.out.more HM.out (Y := NEW w3 wr) (fun k hk => .inr hk))
        have HQ : Hid (∀ q ∈ l, q.val.length ≤ 100000) := Lib.hid (fun q hq => by have := HQ1.out q hq; omega)
        clear p4
        by_cases c1 : node < 0
        · have HBAD : Hid (node < 0 ∨ 2 < node ∨ x ≠ 5) := Lib.hid (.inl c1)
          have c1d : decide (node < 0) = true := by simp [c1]
          go_wp2_with (first
            | (go_at_call 18; refine (HX.out _ _ _ _ _ _ _ (by omega) (S10.out.nil ((Mods.refl Nil w10).alloc _)) (build_at (n := 1) rfl rfl rfl (by simp [maxLen]))).mono ?_; rintro e w11 ⟨A11, c11, rfl, m11⟩; have M11 := Lib.hid m11; clear m11)
            | (go_at_call 14; have hx := S9.out; clear hx; refine (S9.out.promN (by omega) (node := 2) (x := 5) (by omega) (by omega) (by omega) (P9.out) (by omega) (HQ.out) (la_p5 _)).mono ?_; rintro e w10 ⟨Aw10, cw10, rfl, s, m⟩; have S10 := Lib.hid s; have P10 := Lib.hid (P9.out.held m (fun k hk => hk)); clear s m S9 P9)
            | (go_at_call 14; have hx := S8.out; clear hx; refine (S8.out.promN (by omega) (node := 0) (x := 5) (by omega) (by omega) (by omega) (PVs.none_ _ (fun _ => False)) (by omega) (fun q hq => by cases hq) la_p4).mono ?_; rintro e w9 ⟨Aw9, cw9, rfl, s, m⟩; have S9 := Lib.hid s; have P9 := Lib.hid (P8.out.held m (fun k hk => hk)); clear s m S8 P8)
            | (go_at_call 25; have hx := S7.out; clear hx; refine (S7.out.leads).mono ?_; rintro e w8 ⟨he, m8⟩; replace he : e = .returned (.bool false) := he; subst he; have S8 := Lib.hid (S7.out.nil m8); have P8 := Lib.hid (P7.out.nil m8); clear m8 S7 P7)
            | (go_at_call 14; have hx := S6.out; clear hx; refine (S6.out.promN (by omega) (node := node) (x := x) (by have := HNO.out; omega) (by have := HNO.out; omega) (by omega) (P6.out) (by omega) (HQ.out) (la_p3 HBAD.out _)).mono ?_; rintro e w7 ⟨Aw7, cw7, rfl, s, m⟩; have S7 := Lib.hid s; have P7 := Lib.hid (P6.out.held m (fun k hk => hk)); clear s m S6 P6)
            | (go_at_call 14; have hx := S5.out; clear hx; refine (S5.out.promN (by omega) (node := 1) (x := 5) (by omega) (by omega) (by omega) (P5.out) (by omega) (HQ.out) (la_p2 _)).mono ?_; rintro e w6 ⟨Aw6, cw6, rfl, s, m⟩; have S6 := Lib.hid s; have P6 := Lib.hid (P5.out.held m (fun k hk => hk)); clear s m S5 P5)
            | (go_at_call 14; refine (S4.out.promN (by omega) (node := 1) (x := 5) (by omega) (by omega) (by omega) (PVs.none_ _ (fun _ => False)) (by omega) (fun q hq => by cases hq) la_p1).mono ?_; rintro e w5 ⟨Aw5, cw5, rfl, s, m⟩; have S5 := Lib.hid s; have P5 := Lib.hid (P4.out.held m (fun k hk => hk)); clear s m S4 P4))
          go_ret
          exact ⟨rfl, M1.out.trans (M11.out.alloc _)⟩
        · have c1d : decide (node < 0) = false := by simp [c1]
          by_cases c2 : 2 < node
          · have HBAD : Hid (node < 0 ∨ 2 < node ∨ x ≠ 5) := Lib.hid (.inr (.inl c2))
            have c2d : decide (2 < node) = true := by simp [c2]
            go_wp2_with (first
              | (go_at_call 18; refine (HX.out _ _ _ _ _ _ _ (by omega) (S10.out.nil ((Mods.refl Nil w10).alloc _)) (build_at (n := 1) rfl rfl rfl (by simp [maxLen]))).mono ?_; rintro e w11 ⟨A11, c11, rfl, m11⟩; have M11 := Lib.hid m11; clear m11)
              | (go_at_call 14; have hx := S9.out; clear hx; refine (S9.out.promN (by omega) (node := 2) (x := 5) (by omega) (by omega) (by omega) (P9.out) (by omega) (HQ.out) (la_p5 _)).mono ?_; rintro e w10 ⟨Aw10, cw10, rfl, s, m⟩; have S10 := Lib.hid s; have P10 := Lib.hid (P9.out.held m (fun k hk => hk)); clear s m S9 P9)
              | (go_at_call 14; have hx := S8.out; clear hx; refine (S8.out.promN (by omega) (node := 0) (x := 5) (by omega) (by omega) (by omega) (PVs.none_ _ (fun _ => False)) (by omega) (fun q hq => by cases hq) la_p4).mono ?_; rintro e w9 ⟨Aw9, cw9, rfl, s, m⟩; have S9 := Lib.hid s; have P9 := Lib.hid (P8.out.held m (fun k hk => hk)); clear s m S8 P8)
              | (go_at_call 25; have hx := S7.out; clear hx; refine (S7.out.leads).mono ?_; rintro e w8 ⟨he, m8⟩; replace he : e = .returned (.bool false) := he; subst he; have S8 := Lib.hid (S7.out.nil m8); have P8 := Lib.hid (P7.out.nil m8); clear m8 S7 P7)
              | (go_at_call 14; have hx := S6.out; clear hx; refine (S6.out.promN (by omega) (node := node) (x := x) (by have := HNO.out; omega) (by have := HNO.out; omega) (by omega) (P6.out) (by omega) (HQ.out) (la_p3 HBAD.out _)).mono ?_; rintro e w7 ⟨Aw7, cw7, rfl, s, m⟩; have S7 := Lib.hid s; have P7 := Lib.hid (P6.out.held m (fun k hk => hk)); clear s m S6 P6)
              | (go_at_call 14; have hx := S5.out; clear hx; refine (S5.out.promN (by omega) (node := 1) (x := 5) (by omega) (by omega) (by omega) (P5.out) (by omega) (HQ.out) (la_p2 _)).mono ?_; rintro e w6 ⟨Aw6, cw6, rfl, s, m⟩; have S6 := Lib.hid s; have P6 := Lib.hid (P5.out.held m (fun k hk => hk)); clear s m S5 P5)
              | (go_at_call 14; refine (S4.out.promN (by omega) (node := 1) (x := 5) (by omega) (by omega) (by omega) (PVs.none_ _ (fun _ => False)) (by omega) (fun q hq => by cases hq) la_p1).mono ?_; rintro e w5 ⟨Aw5, cw5, rfl, s, m⟩; have S5 := Lib.hid s; have P5 := Lib.hid (P4.out.held m (fun k hk => hk)); clear s m S4 P4))
            go_ret
            exact ⟨rfl, M1.out.trans (M11.out.alloc _)⟩
          · have c2d : decide (2 < node) = false := by simp [c2]
            by_cases c3 : x = 5
            · have c3d : ((x : Int) != 5) = false := by subst c3; rfl
              go_wp2_with (first
                | (go_at_call 18; refine (HX.out _ _ _ _ _ _ _ (by omega) (S10.out.nil ((Mods.refl Nil w10).alloc _)) (build_at (n := 1) rfl rfl rfl (by simp [maxLen]))).mono ?_; rintro e w11 ⟨A11, c11, rfl, m11⟩; have M11 := Lib.hid m11; clear m11)
                | (go_at_call 14; have hx := S9.out; clear hx; refine (S9.out.promN (by omega) (node := 2) (x := 5) (by omega) (by omega) (by omega) (P9.out) (by omega) (HQ.out) (la_p5 _)).mono ?_; rintro e w10 ⟨Aw10, cw10, rfl, s, m⟩; have S10 := Lib.hid s; have P10 := Lib.hid (P9.out.held m (fun k hk => hk)); clear s m S9 P9)
                | (go_at_call 14; have hx := S6.out; clear hx; refine (S6.out.promN (by omega) (node := 0) (x := 5) (by omega) (by omega) (by omega) (PVs.none_ _ (fun _ => False)) (by omega) (fun q hq => by cases hq) la_p4).mono ?_; rintro e w9 ⟨Aw9, cw9, rfl, s, m⟩; have S9 := Lib.hid s; have P9 := Lib.hid (P6.out.held m (fun k hk => hk)); clear s m S6 P6)
                | (go_at_call 14; have hx := S5.out; clear hx; refine (S5.out.promN (by omega) (node := 1) (x := 5) (by omega) (by omega) (by omega) (P5.out) (by omega) (HQ.out) (la_p2 _)).mono ?_; rintro e w6 ⟨Aw6, cw6, rfl, s, m⟩; have S6 := Lib.hid s; have P6 := Lib.hid (P5.out.held m (fun k hk => hk)); clear s m S5 P5)
                | (go_at_call 14; refine (S4.out.promN (by omega) (node := 1) (x := 5) (by omega) (by omega) (by omega) (PVs.none_ _ (fun _ => False)) (by omega) (fun q hq => by cases hq) la_p1).mono ?_; rintro e w5 ⟨Aw5, cw5, rfl, s, m⟩; have S5 := Lib.hid s; have P5 := Lib.hid (P4.out.held m (fun k hk => hk)); clear s m S4 P4))
              go_ret
              exact ⟨rfl, M1.out.trans (M11.out.alloc _)⟩
            · have HBAD : Hid (node < 0 ∨ 2 < node ∨ x ≠ 5) := Lib.hid (.inr (.inr c3))
              have c3d : ((x : Int) != 5) = true := by simp; omega
              go_wp2_with (first
                | (go_at_call 18; refine (HX.out _ _ _ _ _ _ _ (by omega) (S10.out.nil ((Mods.refl Nil w10).alloc _)) (build_at (n := 1) rfl rfl rfl (by simp [maxLen]))).mono ?_; rintro e w11 ⟨A11, c11, rfl, m11⟩; have M11 := Lib.hid m11; clear m11)
                | (go_at_call 14; have hx := S9.out; clear hx; refine (S9.out.promN (by omega) (node := 2) (x := 5) (by omega) (by omega) (by omega) (P9.out) (by omega) (HQ.out) (la_p5 _)).mono ?_; rintro e w10 ⟨Aw10, cw10, rfl, s, m⟩; have S10 := Lib.hid s; have P10 := Lib.hid (P9.out.held m (fun k hk => hk)); clear s m S9 P9)
                | (go_at_call 14; have hx := S8.out; clear hx; refine (S8.out.promN (by omega) (node := 0) (x := 5) (by omega) (by omega) (by omega) (PVs.none_ _ (fun _ => False)) (by omega) (fun q hq => by cases hq) la_p4).mono ?_; rintro e w9 ⟨Aw9, cw9, rfl, s, m⟩; have S9 := Lib.hid s; have P9 := Lib.hid (P8.out.held m (fun k hk => hk)); clear s m S8 P8)
                | (go_at_call 25; have hx := S7.out; clear hx; refine (S7.out.leads).mono ?_; rintro e w8 ⟨he, m8⟩; replace he : e = .returned (.bool false) := he; subst he; have S8 := Lib.hid (S7.out.nil m8); have P8 := Lib.hid (P7.out.nil m8); clear m8 S7 P7)
                | (go_at_call 14; have hx := S6.out; clear hx; refine (S6.out.promN (by omega) (node := node) (x := x) (by have := HNO.out; omega) (by have := HNO.out; omega) (by omega) (P6.out) (by omega) (HQ.out) (la_p3 HBAD.out _)).mono ?_; rintro e w7 ⟨Aw7, cw7, rfl, s, m⟩; have S7 := Lib.hid s; have P7 := Lib.hid (P6.out.held m (fun k hk => hk)); clear s m S6 P6)
                | (go_at_call 14; have hx := S5.out; clear hx; refine (S5.out.promN (by omega) (node := 1) (x := 5) (by omega) (by omega) (by omega) (P5.out) (by omega) (HQ.out) (la_p2 _)).mono ?_; rintro e w6 ⟨Aw6, cw6, rfl, s, m⟩; have S6 := Lib.hid s; have P6 := Lib.hid (P5.out.held m (fun k hk => hk)); clear s m S5 P5)
                | (go_at_call 14; refine (S4.out.promN (by omega) (node := 1) (x := 5) (by omega) (by omega) (by omega) (PVs.none_ _ (fun _ => False)) (by omega) (fun q hq => by cases hq) la_p1).mono ?_; rintro e w5 ⟨Aw5, cw5, rfl, s, m⟩; have S5 := Lib.hid s; have P5 := Lib.hid (P4.out.held m (fun k hk => hk)); clear s m S4 P4))
              go_ret
              exact ⟨rfl, M1.out.trans (M11.out.alloc _)⟩
end Go.Proofs.Ytfnecjogiafekaa
