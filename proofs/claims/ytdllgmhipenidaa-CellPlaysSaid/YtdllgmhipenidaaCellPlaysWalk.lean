/- CellPlays' walk. -/
import Derived.Test.YtdllgmhipenidaaPlays8
import Derived.Test.YtdllgmhipenidaaAwake08
namespace Go.Proofs.Ytdllgmhipenidaa
set_option maxRecDepth 1000000
open Go.RowKit
set_option linter.unusedVariables false
set_option linter.unusedSimpArgs false

/-- A conversion that is known. -/
theorem gw_conv8 {P : Program} {ops : Array Oper} {rest : List Oper} {o : Oper} {a : Act} {w w' : World} {Q : Exit → Act → World → Prop} {v v' : Value} (ty1 ty2 : TypeId) (x : Operand) (ho : o.op = .convert ty1 ty2 x) (hg : o.guard = none) (hx : a.eval x = v)
    (hr : (convert ty1 ty2 v).run P w = .ok v' w') (h : wpList P ops Q rest (a.put o.dst v') w') : wpList P ops Q (o :: rest) a w := by
  refine wpList_plain hg fun K hK => ?_
  have := hK _ _ h
  unfold Oper.wp execOp
  simp only [ho, hx, Sem.run_bind, hr, Result.andThen_ok, Sem.run_pure]
  exact this
set_option maxHeartbeats 12800000 in
theorem cellPlays_main (w : World) {N at_ : Nat} (h8 : N ≤ 8) (ha : at_ + 1 < N) {A : Option Addr} {c n : Nat} {l : List (List Fv)} (h : Acts w A n c [.int .i64, .int .i64, .bytes, .int .u64] l) :
    Calls Try.prog 4 #[.int .i64 (N : Int), .int .i64 (at_ : Int), .slice A n c] w fun e w' => e = .returned (.bool true) ∧ Mods Nil w w' := by
  have h8I : decide ((8 : Int) < (N : Int)) = false := by simp; omega
  have h1I : decide ((N : Int) < 1) = false := by simp; omega
  have HA := Lib.hid h
  have HR := Lib.hid (fun W : World => rnew_any W (n := N) (by omega) (by omega))
  have hat0 : (live (List.replicate N zeros64) []).at_ (at_ : Int) = 0 := live_at (by omega) (by simp; omega)
  have hat1 : (live (List.replicate N zeros64) []).at_ ((at_ : Int) + 1) = 0 := live_at (by omega) (by simp; omega)
  have HOP : Hid (∀ (W : World) db, DiskAt W w.heap.size db (live (List.replicate N zeros64) []) → w.heap.size ≤ W.heap.size → Calls Try.prog 34 #[.pointer (some ⟨db, 0, none⟩), .int .i64 (at_ : Int)] W fun e w' => ∃ cb, e = .returned (.tuple #[.pointer (some ⟨cb, 0, none⟩), .int .i64 0]) ∧ CellAt w' w.heap.size cb db (live (List.replicate N zeros64) []) (cellOpen (live (List.replicate N zeros64) []) at_) ∧ Mods Nil W w') := Lib.hid (fun W db hd hb => copen_ok hd hb (by simp [live]; omega) hat0 hat1)
  have HRO : Hid (∀ (W : World) A c, (live (List.replicate N zeros64) []).Ok → RdAt W A c none 0 (live (List.replicate N zeros64) []) → Calls Try.prog 35 #[.agg #[.slice A N c, .slice none 0 0, .int .i64 (-1), .bool false], .int .i64 (at_ : Int)] W fun z w' => z = .returned (.tuple #[.agg #[.int .i64 ((cellOpen (live (List.replicate N zeros64) []) at_).at_ : Int), .int .i64 (nowC (cellOpen (live (List.replicate N zeros64) []) at_)), .int .u64 ((cellOpen (live (List.replicate N zeros64) []) at_).turn : Int), .int .u64 ((cellOpen (live (List.replicate N zeros64) []) at_).great : Int), .string (strOf (cellOpen (live (List.replicate N zeros64) []) at_).data), .int .i64 (cellOpen (live (List.replicate N zeros64) []) at_).err], .int .i64 0]) ∧ Mods Nil W w') := Lib.hid (fun W A c hok hr => Q8.ropen hok (by simp [live]) (by omega) rfl hat0 hat1 W hr)
  have HZ0 : Hid ((cellOpen (live (List.replicate N zeros64) []) at_).turn = 0 → (cellOpen (live (List.replicate N zeros64) []) at_).spare = 0) := Lib.hid op_zero
  obtain ⟨p0, hp0⟩ : ∃ p0, cellOpen (live (List.replicate N zeros64) []) at_ = p0 := ⟨_, rfl⟩
  rw [hp0] at HOP HRO HZ0
  clear h hat0 hat1 hp0
  go_enter Try.func4, Try.ntmps4
  go_wp2_with (first
    | (go_at_call 33; refine (awake8_any _).mono ?_; rintro e w1 ⟨rfl, m1⟩; have M1 := Lib.hid m1; clear m1)
    | (go_at_call 13; refine (lnew w1 (base := w.heap.size) (n := N) M1.out.size rfl (by omega) (by omega)).mono ?_; rintro e w2 ⟨db, rfl, d2, m2⟩; have D2 := Lib.hid d2; have M2 := Lib.hid (M1.out.trans m2); clear d2 m2)
    | (go_at_call 14; refine (HR.out _).mono ?_; rintro e w3 ⟨A3, c3, rfl, s3, m3, t3⟩; have D3 := Lib.hid (D2.out.nil m3); have M3 := Lib.hid (M2.out.trans m3); have S3 := Lib.hid s3; have T3 := Lib.hid t3; clear s3 t3 m3)
    | (go_at_call 34; refine (HOP.out _ _ (D3.out.nil ((Mods.refl Nil w3).alloc (.cells #[.slice A3 N c3, .slice none 0 0, .int .i64 (-1), .bool false] 31))) (by simp; have := M3.out.size; omega)).mono ?_; rintro e w4 ⟨cb, rfl, ca, m4⟩; have CA := Lib.hid ca; have B4 := Lib.hid ((Blk.new w3 31 #[.slice A3 N c3, .slice none 0 0, .int .i64 (-1), .bool false]).mods m4 (fun h => h)); have M34 := ((Mods.refl Nil w3).alloc (.cells #[.slice A3 N c3, .slice none 0 0, .int .i64 (-1), .bool false] 31)).trans m4; have M4 := Lib.hid (M3.out.trans M34); have R4 : Hid (RdAt w4 A3 c3 none 0 (live (List.replicate N zeros64) [])) := Lib.hid ⟨S3.out.mods M34 (fun _ _ h => h), Sl2.none_ _, T3.out.mods M34 (fun _ _ h => h), Ty6.none_ _ _⟩; obtain ⟨⟨z0, z1, z2, z3⟩, -⟩ := B4.out.four6; clear ca m4 M34)
    | (go_at_call 35; refine (HRO.out _ _ _ CA.out.1.ok8 R4.out).mono ?_; rintro e w5 ⟨rfl, m5⟩; have M5 := Lib.hid m5; clear m5 z0 z1 z2 z3))
  have P0 : Hid (Q8 w (w5.alloc (.cells #[.int .i64 (p0.at_ : Int), .int .i64 (nowC p0), .int .u64 (p0.turn : Int), .int .u64 (p0.great : Int), .string (strOf p0.data), .int .i64 p0.err] 71)) db cb w3.heap.size w5.heap.size N A3 c3 none 0 (live (List.replicate N zeros64) []) p0 (live (List.replicate N zeros64) []) p0) := by
    have m6 := M5.out.trans ((Mods.refl Nil w5).alloc (.cells #[.int .i64 (p0.at_ : Int), .int .i64 (nowC p0), .int .u64 (p0.turn : Int), .int .u64 (p0.great : Int), .string (strOf p0.data), .int .i64 p0.err] 71))
    have hs := B4.out.lt
    have hs2 := M5.out.size
    exact Lib.hid ⟨CA.out.nil m6, B4.out.mods m6 (fun h => h), Blk.new _ _ _, ⟨M3.out.size, (M4.out.trans M5.out).size, by omega⟩, R4.out.mods m6, by simp [live], M4.out.trans m6⟩
  obtain ⟨g, hg⟩ : ∃ g, w3.heap.size = g := ⟨_, rfl⟩
  obtain ⟨hh, hhh⟩ : ∃ hh, w5.heap.size = hh := ⟨_, rfl⟩
  rw [hg, hhh] at P0
  rw [hg, hhh]
  clear D2 D3 M1 M2 M3 S3 T3 HR HOP HRO CA B4 M4 R4 M5 hg hhh h8I h1I
  go_loopw [12, 16] (fun x y wr => ∃ (j : Nat) (d : PD) (p : PCell) (cb : Nat) (A1 : Option Addr) (c1 : Nat) (B1 : Option Addr) (k1 : Nat), j ≤ n ∧ j ≤ 30 ∧ x = .pointer (some ⟨cb, 0, none⟩) ∧ y = .int .i64 (j : Int) ∧ Q8 w wr db cb g hh N A1 c1 B1 k1 d p d p ∧ d.W.length ≤ j ∧ (p.turn = 0 → p.spare = 0)) (fun _ y _ => n - (intOf y).toNat)
  case atStart => exact ⟨0, _, _, _, _, _, _, _, Nat.zero_le _, by omega, rfl, rfl, P0.out, Nat.le_refl _, HZ0.out⟩
  case round =>
    obtain ⟨j, d, p, cb, A1, c1, B1, k1, hj, hj30, rfl, rfl, hpl, hw, hzr⟩ := hrel
    clear P0 HZ0
    have HP := Lib.hid hpl
    have HW := Lib.hid hw
    have HZ := Lib.hid hzr
    clear hpl hw hzr
    by_cases hlt : j < n
    · have hltI : (j : Int) < (n : Int) := by omega
      by_cases hl4 : j < 30
      · have hl4I : (j : Int) < 30 := by omega
        obtain ⟨bA, off, kd, z, A2, c2, xs, q, t, rfl, y0, y1, y2, y3, hxs, hs0, ht⟩ := HA.out.act_at8 hlt
        have HS0 := Lib.hid hs0
        have hbl := HP.out.mods.block bA (World.block_lt_of_cell? w _ y0) (fun h => h)
        rw [← World.cell?_of_block hbl] at y0 y1 y2 y3
        clear hs0 hbl
        by_cases h80 : 60 < q
        · have h80I : (60 : Int) < (q : Int) := by omega
          clear hxs ht
          go_wp2_with fail
          go_ret
          exact ⟨rfl, HP.out.mods.alloc _⟩
        · have h80I : decide ((60 : Int) < (q : Int)) = false := by simp; omega
          have hand : bits .and .i64 kd 7 = kd % 8 := i64_and7c kd
          obtain ⟨r, hr⟩ : ∃ r, kd % 8 = r := ⟨_, rfl⟩
          rw [hr] at hand
          have hr0 : 0 ≤ r ∧ r < 8 := by omega
          have HLO := Lib.hid HP.out.all.1.lo8
          have HOK := Lib.hid HP.out.all.1.ok8
          have HPO := Lib.hid HP.out.all.2.ok
          have hW9 : d.W.length ≤ 900 := by have := HW.out; omega
          have HXS := Lib.hid hxs
          have HLEN := Lib.hid HP.out.len
          clear hr hxs
          have h800 : q ≤ 60 := by omega
          by_cases hrw : r < 4
          · clear ht
            have HWR := Lib.hid (fun (W : World) (h : Q8 w W db cb g hh N A1 c1 B1 k1 d p d p) => h.set hW9 (HS0.out.mods h.mods (fun _ _ h => h)) HXS.out)
            have HRW := Lib.hid (fun (W : World) (h : RdAt W A1 c1 B1 k1 d) => Q8.rset HOK.out HLO.out hW9 HLEN.out (by omega) HPO.out HZ.out HXS.out W h)
            have HLN : Hid ((p.set d xs).1.L.length = d.L.length ∧ (p.set d xs).1.W.length ≤ d.W.length + 1) := Lib.hid set_len
            have HZN := Lib.hid (set_zero (s := xs) (d := d) HZ.out HPO.out.great)
            obtain ⟨X, hX⟩ : ∃ X, p.set d xs = X := ⟨_, rfl⟩
            rw [hX] at HRW HWR HLN HZN
            obtain ⟨d', p', er⟩ := X
            dsimp only at HRW HWR HLN HZN
            clear hX
            have P4 := Lib.hid (HP.out.nil ((Mods.refl Nil wr).alloc (.cells #[.int .i64 kd, .int .i64 z, .slice A2 q c2, .int .u64 (t : Int)] 75)))
            have AB4 := Lib.hid (Blk.new wr 75 #[.int .i64 kd, .int .i64 z, .slice A2 q c2, .int .u64 (t : Int)])
            have AB4' := AB4.out
            obtain ⟨⟨a0, a1, a2, a3⟩, -⟩ := AB4'.four6
            clear AB4'
            obtain rfl | rfl | rfl | rfl : r = 0 ∨ r = 1 ∨ r = 2 ∨ r = 3 := by omega
            all_goals as_aux_lemma =>
              go_wp2_with (first
                | (go_at_call 36; refine (HWR.out _ P4.out).mono ?_; rintro e w6 ⟨rfl, p6, m6⟩; have P6 := Lib.hid p6; clear a0 a1 a2 a3; obtain ⟨⟨a0, a1, a2, a3⟩, -⟩ := (AB4.out.cm m6 (by decide)).four6; have cv6 := conv8 HXS.out (HS0.out.mods p6.mods (fun _ _ h => h)); obtain ⟨⟨z0, z1, z2, z3⟩, -⟩ := p6.box.four6; have hc6 : Blk _ hh 71 #[.int .i64 (p.at_ : Int), .int .i64 (nowC p), .int .u64 (p.turn : Int), .int .u64 (p.great : Int), .string (strOf p.data), .int .i64 p.err] := p6.cbox; obtain ⟨⟨y0, y1, y2, y3, y4, y5⟩, -⟩ := hc6.sixC; clear hc6; clear p6 m6)
                | (go_at_call 37; refine (HRW.out _ P6.out.ref).mono ?_; rintro e w7 ⟨A7, c7, B7, k7, rfl, r7, m7⟩; have P7 := Lib.hid (P6.out.nil m7); have R7 := Lib.hid r7; clear r7 m7 a0 a1 a2 a3 cv6; clear z0 z1 z2 z3 y0 y1 y2 y3 y4 y5)
                | (refine wpList_store_mk rfl 31 (.tmp 10) (.tmp 127) rfl rfl g rfl 31 #[.slice A1 N c1, .slice B1 d.W.length k1, .int .i64 d.left, .bool d.down] #[.slice A7 N c7, .slice B7 d'.W.length k7, .int .i64 d'.left, .bool d'.down] rfl P7.out.box rfl (by simp [Value.oneCell']) rd_info (by simp [Value.cells]) ?_; intro w8a b8 m8; have P8a := Lib.hid (P7.out.setD R7.out (HLN.out.1.trans HLEN.out) b8 m8); clear b8 m8)
                | (refine wpList_store_mk rfl 71 (.tmp 14) (.tmp 128) rfl rfl hh rfl 71 #[.int .i64 (p.at_ : Int), .int .i64 (nowC p), .int .u64 (p.turn : Int), .int .u64 (p.great : Int), .string (strOf p.data), .int .i64 p.err] #[.int .i64 (p'.at_ : Int), .int .i64 (nowC p'), .int .u64 (p'.turn : Int), .int .u64 (p'.great : Int), .string (strOf p'.data), .int .i64 p'.err] rfl P8a.out.cbox rfl (by simp [Value.oneCell']) rc_info (by simp [Value.cells]) ?_; intro w8 b9 m9; have P8 := Lib.hid (P8a.out.setC (r' := p') b9 m9); clear b9 m9))
              have zz0 : ∀ V, Mods Nil w8 V → V.cell? ⟨g, 0, none⟩ = some (.slice A7 N c7) := fun V hV => (P8.out.nil hV).box.four6.1.1
              have zz1 : ∀ V, Mods Nil w8 V → V.cell? ⟨g, 1, none⟩ = some (.slice B7 d'.W.length k7) := fun V hV => (P8.out.nil hV).box.four6.1.2.1
              have zz2 : ∀ V, Mods Nil w8 V → V.cell? ⟨g, 2, none⟩ = some (.int .i64 d'.left) := fun V hV => (P8.out.nil hV).box.four6.1.2.2.1
              have zz3 : ∀ V, Mods Nil w8 V → V.cell? ⟨g, 3, none⟩ = some (.bool d'.down) := fun V hV => (P8.out.nil hV).box.four6.1.2.2.2
              have yy2 : ∀ V, Mods Nil w8 V → V.cell? ⟨hh, 2, none⟩ = some (.int .u64 (p'.turn : Int)) := fun V hV => (show Blk V hh 71 #[.int .i64 (p'.at_ : Int), .int .i64 (nowC p'), .int .u64 (p'.turn : Int), .int .u64 (p'.great : Int), .string (strOf p'.data), .int .i64 p'.err] from (P8.out.nil hV).cbox).sixC.1.2.2.1
              have yy4 : ∀ V, Mods Nil w8 V → V.cell? ⟨hh, 4, none⟩ = some (.string (strOf p'.data)) := fun V hV => (show Blk V hh 71 #[.int .i64 (p'.at_ : Int), .int .i64 (nowC p'), .int .u64 (p'.turn : Int), .int .u64 (p'.great : Int), .string (strOf p'.data), .int .i64 p'.err] from (P8.out.nil hV).cbox).sixC.1.2.2.2.2.1
              obtain ⟨nd, hnd⟩ : ∃ nd, p'.data.length = nd := ⟨_, rfl⟩
              obtain ⟨tn, htn⟩ : ∃ tn, p'.turn = tn := ⟨_, rfl⟩
              have HND := Lib.hid hnd
              have HAL := Lib.hid (fun (V : World) (hV : Mods Nil w8 V) => (P8.out.nil hV).alike (by omega))
              have HGT := Lib.hid (fun (V : World) (hV : Mods Nil w8 V) => cget_any (P8.out.nil hV).all.2 hnd)
              have HTN := Lib.hid (fun (V : World) (hV : Mods Nil w8 V) => cturnof_any (P8.out.nil hV).all.2 htn)
              rw [htn] at yy2
              clear hnd htn
              refine wp_region_held_drew (S := (fun V => Mods Nil w8 V)) (by kernel_rfl) ((Mods.refl Nil w8).drew) (fun hS => ?_)
              refine takeL (i := 0) (v := ?_) rfl (by kernel_rfl) (by kernel_rfl) (by kernel_rfl) (fun _ _ _ h => h) (Or.inl ⟨by rfl, ?_⟩) hS ?_
              rotate_left
              · intro V hV
                go_simp
                try with_reducible rfl
              simp only [Act.put, List.setIfInBounds_toArray, List.set_cons_zero, List.set_cons_succ]
              refine takeL (i := 1) (v := ?_) rfl (by kernel_rfl) (by kernel_rfl) (by kernel_rfl) (fun _ _ _ h => h) (Or.inl ⟨by rfl, ?_⟩) hS ?_
              rotate_left
              · intro V hV
                go_simp
                try with_reducible rfl
              simp only [Act.put, List.setIfInBounds_toArray, List.set_cons_zero, List.set_cons_succ]
              refine takeL (i := 2) (v := ?_) rfl (by kernel_rfl) (by kernel_rfl) (by kernel_rfl) (fun _ _ _ h => h) (Or.inl ⟨by rfl, ?_⟩) hS ?_
              rotate_left
              · intro V hV
                go_simp
                try with_reducible rfl
              simp only [Act.put, List.setIfInBounds_toArray, List.set_cons_zero, List.set_cons_succ]
              refine takeL (i := 3) (v := ?_) rfl (by kernel_rfl) (by kernel_rfl) (by kernel_rfl) (fun _ _ _ h => h) (Or.inl ⟨by rfl, ?_⟩) hS ?_
              rotate_left
              · intro V hV
                go_simp
                try with_reducible rfl
              simp only [Act.put, List.setIfInBounds_toArray, List.set_cons_zero, List.set_cons_succ]
              refine takeL (i := 4) (v := ?_) rfl (by kernel_rfl) (by kernel_rfl) (by kernel_rfl) (fun _ _ _ h => h) (Or.inl ⟨by rfl, ?_⟩) hS ?_
              rotate_left
              · intro V hV
                go_simp
                try with_reducible rfl
              simp only [Act.put, List.setIfInBounds_toArray, List.set_cons_zero, List.set_cons_succ]
              refine takeL (i := 5) (v := ?_) rfl (by kernel_rfl) (by kernel_rfl) (by kernel_rfl) (fun _ _ _ h => h) (Or.inl ⟨by rfl, ?_⟩) hS ?_
              rotate_left
              · intro V hV
                go_simp
                try with_reducible rfl
              simp only [Act.put, List.setIfInBounds_toArray, List.set_cons_zero, List.set_cons_succ]
              refine wpAnyH_ready (rs := [6]) (by kernel_rfl) (by simp) (readyL rfl ?_ AllReadyH.nil)
              intro K' hK
              rw [if_pos (by rfl)]
              refine wpH_call _ _ ?_ ((HAL.out _ hS).mono ?_)
              · go_simp
              rintro e w9 ⟨rfl, m9⟩
              refine ⟨_, rfl, ?_⟩
              refine hK.out _ _ (Mods.trans hS m9) (fun hS => ?_)
              clear hK K'
              simp only [Act.put, List.setIfInBounds_toArray, List.set_cons_zero, List.set_cons_succ]
              refine takeL (i := 7) (v := ?_) rfl (by kernel_rfl) (by kernel_rfl) (by kernel_rfl) (fun _ _ _ h => h) (Or.inl ⟨by rfl, ?_⟩) hS ?_
              rotate_left
              · intro V hV
                go_simp
                try with_reducible rfl
              simp only [Act.put, List.setIfInBounds_toArray, List.set_cons_zero, List.set_cons_succ]
              refine takeL (i := 8) (v := ?_) rfl (by kernel_rfl) (by kernel_rfl) (by kernel_rfl) (fun _ _ _ h => h) (Or.inl ⟨by rfl, ?_⟩) hS ?_
              rotate_left
              · intro V hV
                go_simp
                try with_reducible rfl
              simp only [Act.put, List.setIfInBounds_toArray, List.set_cons_zero, List.set_cons_succ]
              refine takeL (i := 9) (v := ?_) rfl (by kernel_rfl) (by kernel_rfl) (by kernel_rfl) (fun _ _ _ h => h) (Or.inl ⟨by rfl, ?_⟩) hS ?_
              rotate_left
              · intro V hV
                go_simp
                try with_reducible rfl
              simp only [Act.put, List.setIfInBounds_toArray, List.set_cons_zero, List.set_cons_succ]
              refine takeL (i := 10) (v := ?_) rfl (by kernel_rfl) (by kernel_rfl) (by kernel_rfl) (fun _ _ _ h => h) (Or.inl ⟨by rfl, ?_⟩) hS ?_
              rotate_left
              · intro V hV
                go_simp
                try with_reducible rfl
              simp only [Act.put, List.setIfInBounds_toArray, List.set_cons_zero, List.set_cons_succ]
              refine takeL (i := 11) (v := ?_) rfl (by kernel_rfl) (by kernel_rfl) (by kernel_rfl) (fun _ _ _ h => h) (Or.inl ⟨by rfl, ?_⟩) hS ?_
              rotate_left
              · intro V hV
                go_simp
                try with_reducible rfl
              simp only [Act.put, List.setIfInBounds_toArray, List.set_cons_zero, List.set_cons_succ]
              refine takeL (i := 12) (v := ?_) rfl (by kernel_rfl) (by kernel_rfl) (by kernel_rfl) (fun _ _ _ h => h) (Or.inl ⟨by rfl, ?_⟩) hS ?_
              rotate_left
              · intro V hV
                go_simp
                try with_reducible rfl
              simp only [Act.put, List.setIfInBounds_toArray, List.set_cons_zero, List.set_cons_succ]
              refine takeL (i := 13) (v := ?_) rfl (by kernel_rfl) (by kernel_rfl) (by kernel_rfl) (fun _ _ _ h => h) (Or.inl ⟨by rfl, ?_⟩) hS ?_
              rotate_left
              · intro V hV
                go_simp
                try with_reducible rfl
              simp only [Act.put, List.setIfInBounds_toArray, List.set_cons_zero, List.set_cons_succ]
              refine takeL (i := 16) (v := ?_) rfl (by kernel_rfl) (by kernel_rfl) (by kernel_rfl) (fun _ _ _ h => h) (Or.inl ⟨by rfl, ?_⟩) hS ?_
              rotate_left
              · intro V hV
                go_simp
                try with_reducible rfl
              simp only [Act.put, List.setIfInBounds_toArray, List.set_cons_zero, List.set_cons_succ]
              refine takeL (i := 17) (v := ?_) rfl (by kernel_rfl) (by kernel_rfl) (by kernel_rfl) (fun _ _ _ h => h) (Or.inl ⟨by rfl, ?_⟩) hS ?_
              rotate_left
              · intro V hV
                go_simp
                try with_reducible rfl
              simp only [Act.put, List.setIfInBounds_toArray, List.set_cons_zero, List.set_cons_succ]
              refine wpAnyH_ready (rs := [14]) (by kernel_rfl) (by simp) (readyL rfl ?_ AllReadyH.nil)
              intro K' hK
              rw [if_pos (by rfl)]
              refine wpH_call _ _ ?_ ((HGT.out _ hS).mono ?_)
              · go_simp
              rintro e w10 ⟨A10, c10, rfl, s10, m10⟩
              have cv10 := conv8 HND.out s10
              refine ⟨_, rfl, ?_⟩
              refine hK.out _ _ (Mods.trans hS m10) (fun hS => ?_)
              clear hK K'
              simp only [Act.put, List.setIfInBounds_toArray, List.set_cons_zero, List.set_cons_succ]
              refine wpAnyH_ready (rs := [15]) (by kernel_rfl) (by simp) (readyL rfl ?_ AllReadyH.nil)
              intro K' hK
              rw [if_pos (by rfl)]
              refine wpH_value (v := ?_) ?_ ?_
              rotate_left
              · go_simp
                try with_reducible rfl
              refine hK.out _ _ hS (fun hS => ?_)
              clear hK K'
              simp only [Act.put, List.setIfInBounds_toArray, List.set_cons_zero, List.set_cons_succ]
              refine takeL (i := 18) (v := ?_) rfl (by kernel_rfl) (by kernel_rfl) (by kernel_rfl) (fun _ _ _ h => h) (Or.inl ⟨by rfl, ?_⟩) hS ?_
              rotate_left
              · intro V hV
                go_simp
                try with_reducible rfl
              simp only [Act.put, List.setIfInBounds_toArray, List.set_cons_zero, List.set_cons_succ]
              refine takeL (i := 19) (v := ?_) rfl (by kernel_rfl) (by kernel_rfl) (by kernel_rfl) (fun _ _ _ h => h) (Or.inl ⟨by rfl, ?_⟩) hS ?_
              rotate_left
              · intro V hV
                go_simp
                try with_reducible rfl
              simp only [Act.put, List.setIfInBounds_toArray, List.set_cons_zero, List.set_cons_succ]
              refine takeL (i := 20) (v := ?_) rfl (by kernel_rfl) (by kernel_rfl) (by kernel_rfl) (fun _ _ _ h => h) (Or.inl ⟨by rfl, ?_⟩) hS ?_
              rotate_left
              · intro V hV
                go_simp
                try with_reducible rfl
              simp only [Act.put, List.setIfInBounds_toArray, List.set_cons_zero, List.set_cons_succ]
              refine takeL (i := 22) (v := ?_) rfl (by kernel_rfl) (by kernel_rfl) (by kernel_rfl) (fun _ _ _ h => h) (Or.inl ⟨by rfl, ?_⟩) hS ?_
              rotate_left
              · intro V hV
                go_simp
                try with_reducible rfl
              simp only [Act.put, List.setIfInBounds_toArray, List.set_cons_zero, List.set_cons_succ]
              refine takeL (i := 23) (v := ?_) rfl (by kernel_rfl) (by kernel_rfl) (by kernel_rfl) (fun _ _ _ h => h) (Or.inl ⟨by rfl, ?_⟩) hS ?_
              rotate_left
              · intro V hV
                go_simp
                try with_reducible rfl
              simp only [Act.put, List.setIfInBounds_toArray, List.set_cons_zero, List.set_cons_succ]
              refine wpAnyH_ready (rs := [21]) (by kernel_rfl) (by simp) (readyL rfl ?_ AllReadyH.nil)
              intro K' hK
              rw [if_pos (by rfl)]
              refine wpH_call _ _ ?_ ((HTN.out _ hS).mono ?_)
              · go_simp
              rintro e w11 ⟨rfl, m11⟩
              refine ⟨_, rfl, ?_⟩
              refine hK.out _ _ (Mods.trans hS m11) (fun hS => ?_)
              clear hK K'
              simp only [Act.put, List.setIfInBounds_toArray, List.set_cons_zero, List.set_cons_succ]
              refine takeL (i := 24) (v := ?_) rfl (by kernel_rfl) (by kernel_rfl) (by kernel_rfl) (fun _ _ _ h => h) (Or.inl ⟨by rfl, ?_⟩) hS ?_
              rotate_left
              · intro V hV
                go_simp
                try with_reducible rfl
              simp only [Act.put, List.setIfInBounds_toArray, List.set_cons_zero, List.set_cons_succ]
              refine takeL (i := 25) (v := ?_) rfl (by kernel_rfl) (by kernel_rfl) (by kernel_rfl) (fun _ _ _ h => h) (Or.inl ⟨by rfl, ?_⟩) hS ?_
              rotate_left
              · intro V hV
                go_simp
                try with_reducible rfl
              simp only [Act.put, List.setIfInBounds_toArray, List.set_cons_zero, List.set_cons_succ]
              refine takeL (i := 26) (v := ?_) rfl (by kernel_rfl) (by kernel_rfl) (by kernel_rfl) (fun _ _ _ h => h) (Or.inl ⟨by rfl, ?_⟩) hS ?_
              rotate_left
              · intro V hV
                go_simp
                try with_reducible rfl
              simp only [Act.put, List.setIfInBounds_toArray, List.set_cons_zero, List.set_cons_succ]
              refine takeL (i := 27) (v := ?_) rfl (by kernel_rfl) (by kernel_rfl) (by kernel_rfl) (fun _ _ _ h => h) (Or.inl ⟨by rfl, ?_⟩) hS ?_
              rotate_left
              · intro V hV
                go_simp
                try with_reducible rfl
              simp only [Act.put, List.setIfInBounds_toArray, List.set_cons_zero, List.set_cons_succ]
              refine wpAnyH_done (by kernel_rfl) ?_ _
              clear zz0 zz1 zz2 zz3 yy2 yy4
              go_wp2_with fail
              exact ⟨⟨j + 1, d', p', cb, A7, c7, B7, k7, by omega, by omega, rfl, by go_num, P8.out.nil hS, by have := HLN.out.2; have := HW.out; omega, HZN.out⟩, by simp [intOf]; omega⟩
          · by_cases hr4 : r = 4
            · clear ht
              as_aux_lemma =>
                have h34 : bits .and .i64 z 3 = z % 4 := i64_and3c z
                have hz4 : z % 4 ≤ 9223372036854775807 := by omega
                obtain ⟨z4, hz4e⟩ : ∃ z4, z % 4 = z4 := ⟨_, rfl⟩
                rw [hz4e] at h34 hz4
                have HWR := Lib.hid (fun (W : World) (h : Q8 w W db cb g hh N A1 c1 B1 k1 d p d p) => h.stop hz4)
                have HRW := Lib.hid (fun (W : World) (h : RdAt W A1 c1 B1 k1 d) => Q8.rstop (n := N) z4 W h)
                have HLN : Hid ((d.stop z4).L.length = d.L.length ∧ (d.stop z4).W.length ≤ d.W.length) := Lib.hid ⟨rfl, Nat.le_refl _⟩
                obtain ⟨d', hd'⟩ : ∃ d', d.stop z4 = d' := ⟨_, rfl⟩
                rw [hd'] at HRW HWR HLN
                clear hd' hz4e hz4
                have P4 := Lib.hid (HP.out.nil ((Mods.refl Nil wr).alloc (.cells #[.int .i64 kd, .int .i64 z, .slice A2 q c2, .int .u64 (t : Int)] 75)))
                have AB4 := Lib.hid (Blk.new wr 75 #[.int .i64 kd, .int .i64 z, .slice A2 q c2, .int .u64 (t : Int)])
                have AB4' := AB4.out
                obtain ⟨⟨a0, a1, a2, a3⟩, -⟩ := AB4'.four6
                clear AB4'
                obtain rfl : r = 4 := by omega
                go_wp2_with (first
                  | (go_at_call 24; refine (HWR.out _ P4.out).mono ?_; rintro e w6 ⟨rfl, p6, m6⟩; have P6 := Lib.hid p6; clear a0 a1 a2 a3; obtain ⟨⟨a0, a1, a2, a3⟩, -⟩ := (AB4.out.dm m6 (by decide)).four6; obtain ⟨⟨z0, z1, z2, z3⟩, -⟩ := p6.box.four6; have hc6 : Blk _ hh 71 #[.int .i64 (p.at_ : Int), .int .i64 (nowC p), .int .u64 (p.turn : Int), .int .u64 (p.great : Int), .string (strOf p.data), .int .i64 p.err] := p6.cbox; obtain ⟨⟨y0, y1, y2, y3, y4, y5⟩, -⟩ := hc6.sixC; clear hc6; clear p6 m6)
                  | (go_at_call 25; refine (HRW.out _ P6.out.ref).mono ?_; rintro e w7 ⟨A7, c7, B7, k7, rfl, r7, m7⟩; have P7 := Lib.hid (P6.out.nil m7); have R7 := Lib.hid r7; clear r7 m7 a0 a1 a2 a3; clear z0 z1 z2 z3 y0 y1 y2 y3 y4 y5)
                  | (refine wpList_store_mk rfl 31 (.tmp 10) (.tmp 141) rfl rfl g rfl 31 #[.slice A1 N c1, .slice B1 d.W.length k1, .int .i64 d.left, .bool d.down] #[.slice A7 N c7, .slice B7 d'.W.length k7, .int .i64 d'.left, .bool d'.down] rfl P7.out.box rfl (by simp [Value.oneCell']) rd_info (by simp [Value.cells]) ?_; intro w8 b8 m8; have P8 := Lib.hid (P7.out.setD R7.out (HLN.out.1.trans HLEN.out) b8 m8); clear b8 m8))
                have zz0 : ∀ V, Mods Nil w8 V → V.cell? ⟨g, 0, none⟩ = some (.slice A7 N c7) := fun V hV => (P8.out.nil hV).box.four6.1.1
                have zz1 : ∀ V, Mods Nil w8 V → V.cell? ⟨g, 1, none⟩ = some (.slice B7 d'.W.length k7) := fun V hV => (P8.out.nil hV).box.four6.1.2.1
                have zz2 : ∀ V, Mods Nil w8 V → V.cell? ⟨g, 2, none⟩ = some (.int .i64 d'.left) := fun V hV => (P8.out.nil hV).box.four6.1.2.2.1
                have zz3 : ∀ V, Mods Nil w8 V → V.cell? ⟨g, 3, none⟩ = some (.bool d'.down) := fun V hV => (P8.out.nil hV).box.four6.1.2.2.2
                have yy2 : ∀ V, Mods Nil w8 V → V.cell? ⟨hh, 2, none⟩ = some (.int .u64 (p.turn : Int)) := fun V hV => (show Blk V hh 71 #[.int .i64 (p.at_ : Int), .int .i64 (nowC p), .int .u64 (p.turn : Int), .int .u64 (p.great : Int), .string (strOf p.data), .int .i64 p.err] from (P8.out.nil hV).cbox).sixC.1.2.2.1
                have yy4 : ∀ V, Mods Nil w8 V → V.cell? ⟨hh, 4, none⟩ = some (.string (strOf p.data)) := fun V hV => (show Blk V hh 71 #[.int .i64 (p.at_ : Int), .int .i64 (nowC p), .int .u64 (p.turn : Int), .int .u64 (p.great : Int), .string (strOf p.data), .int .i64 p.err] from (P8.out.nil hV).cbox).sixC.1.2.2.2.2.1
                obtain ⟨nd, hnd⟩ : ∃ nd, p.data.length = nd := ⟨_, rfl⟩
                obtain ⟨tn, htn⟩ : ∃ tn, p.turn = tn := ⟨_, rfl⟩
                have HND := Lib.hid hnd
                have HAL := Lib.hid (fun (V : World) (hV : Mods Nil w8 V) => (P8.out.nil hV).alike (by omega))
                have HGT := Lib.hid (fun (V : World) (hV : Mods Nil w8 V) => cget_any (P8.out.nil hV).all.2 hnd)
                have HTN := Lib.hid (fun (V : World) (hV : Mods Nil w8 V) => cturnof_any (P8.out.nil hV).all.2 htn)
                rw [htn] at yy2
                clear hnd htn
                refine wp_region_held_drew (S := (fun V => Mods Nil w8 V)) (by kernel_rfl) ((Mods.refl Nil w8).drew) (fun hS => ?_)
                refine takeL (i := 0) (v := ?_) rfl (by kernel_rfl) (by kernel_rfl) (by kernel_rfl) (fun _ _ _ h => h) (Or.inl ⟨by rfl, ?_⟩) hS ?_
                rotate_left
                · intro V hV
                  go_simp
                  try with_reducible rfl
                simp only [Act.put, List.setIfInBounds_toArray, List.set_cons_zero, List.set_cons_succ]
                refine takeL (i := 1) (v := ?_) rfl (by kernel_rfl) (by kernel_rfl) (by kernel_rfl) (fun _ _ _ h => h) (Or.inl ⟨by rfl, ?_⟩) hS ?_
                rotate_left
                · intro V hV
                  go_simp
                  try with_reducible rfl
                simp only [Act.put, List.setIfInBounds_toArray, List.set_cons_zero, List.set_cons_succ]
                refine takeL (i := 2) (v := ?_) rfl (by kernel_rfl) (by kernel_rfl) (by kernel_rfl) (fun _ _ _ h => h) (Or.inl ⟨by rfl, ?_⟩) hS ?_
                rotate_left
                · intro V hV
                  go_simp
                  try with_reducible rfl
                simp only [Act.put, List.setIfInBounds_toArray, List.set_cons_zero, List.set_cons_succ]
                refine takeL (i := 3) (v := ?_) rfl (by kernel_rfl) (by kernel_rfl) (by kernel_rfl) (fun _ _ _ h => h) (Or.inl ⟨by rfl, ?_⟩) hS ?_
                rotate_left
                · intro V hV
                  go_simp
                  try with_reducible rfl
                simp only [Act.put, List.setIfInBounds_toArray, List.set_cons_zero, List.set_cons_succ]
                refine takeL (i := 4) (v := ?_) rfl (by kernel_rfl) (by kernel_rfl) (by kernel_rfl) (fun _ _ _ h => h) (Or.inl ⟨by rfl, ?_⟩) hS ?_
                rotate_left
                · intro V hV
                  go_simp
                  try with_reducible rfl
                simp only [Act.put, List.setIfInBounds_toArray, List.set_cons_zero, List.set_cons_succ]
                refine takeL (i := 5) (v := ?_) rfl (by kernel_rfl) (by kernel_rfl) (by kernel_rfl) (fun _ _ _ h => h) (Or.inl ⟨by rfl, ?_⟩) hS ?_
                rotate_left
                · intro V hV
                  go_simp
                  try with_reducible rfl
                simp only [Act.put, List.setIfInBounds_toArray, List.set_cons_zero, List.set_cons_succ]
                refine wpAnyH_ready (rs := [6]) (by kernel_rfl) (by simp) (readyL rfl ?_ AllReadyH.nil)
                intro K' hK
                rw [if_pos (by rfl)]
                refine wpH_call _ _ ?_ ((HAL.out _ hS).mono ?_)
                · go_simp
                rintro e w9 ⟨rfl, m9⟩
                refine ⟨_, rfl, ?_⟩
                refine hK.out _ _ (Mods.trans hS m9) (fun hS => ?_)
                clear hK K'
                simp only [Act.put, List.setIfInBounds_toArray, List.set_cons_zero, List.set_cons_succ]
                refine takeL (i := 7) (v := ?_) rfl (by kernel_rfl) (by kernel_rfl) (by kernel_rfl) (fun _ _ _ h => h) (Or.inl ⟨by rfl, ?_⟩) hS ?_
                rotate_left
                · intro V hV
                  go_simp
                  try with_reducible rfl
                simp only [Act.put, List.setIfInBounds_toArray, List.set_cons_zero, List.set_cons_succ]
                refine takeL (i := 8) (v := ?_) rfl (by kernel_rfl) (by kernel_rfl) (by kernel_rfl) (fun _ _ _ h => h) (Or.inl ⟨by rfl, ?_⟩) hS ?_
                rotate_left
                · intro V hV
                  go_simp
                  try with_reducible rfl
                simp only [Act.put, List.setIfInBounds_toArray, List.set_cons_zero, List.set_cons_succ]
                refine takeL (i := 9) (v := ?_) rfl (by kernel_rfl) (by kernel_rfl) (by kernel_rfl) (fun _ _ _ h => h) (Or.inl ⟨by rfl, ?_⟩) hS ?_
                rotate_left
                · intro V hV
                  go_simp
                  try with_reducible rfl
                simp only [Act.put, List.setIfInBounds_toArray, List.set_cons_zero, List.set_cons_succ]
                refine takeL (i := 10) (v := ?_) rfl (by kernel_rfl) (by kernel_rfl) (by kernel_rfl) (fun _ _ _ h => h) (Or.inl ⟨by rfl, ?_⟩) hS ?_
                rotate_left
                · intro V hV
                  go_simp
                  try with_reducible rfl
                simp only [Act.put, List.setIfInBounds_toArray, List.set_cons_zero, List.set_cons_succ]
                refine takeL (i := 11) (v := ?_) rfl (by kernel_rfl) (by kernel_rfl) (by kernel_rfl) (fun _ _ _ h => h) (Or.inl ⟨by rfl, ?_⟩) hS ?_
                rotate_left
                · intro V hV
                  go_simp
                  try with_reducible rfl
                simp only [Act.put, List.setIfInBounds_toArray, List.set_cons_zero, List.set_cons_succ]
                refine takeL (i := 12) (v := ?_) rfl (by kernel_rfl) (by kernel_rfl) (by kernel_rfl) (fun _ _ _ h => h) (Or.inl ⟨by rfl, ?_⟩) hS ?_
                rotate_left
                · intro V hV
                  go_simp
                  try with_reducible rfl
                simp only [Act.put, List.setIfInBounds_toArray, List.set_cons_zero, List.set_cons_succ]
                refine takeL (i := 13) (v := ?_) rfl (by kernel_rfl) (by kernel_rfl) (by kernel_rfl) (fun _ _ _ h => h) (Or.inl ⟨by rfl, ?_⟩) hS ?_
                rotate_left
                · intro V hV
                  go_simp
                  try with_reducible rfl
                simp only [Act.put, List.setIfInBounds_toArray, List.set_cons_zero, List.set_cons_succ]
                refine takeL (i := 16) (v := ?_) rfl (by kernel_rfl) (by kernel_rfl) (by kernel_rfl) (fun _ _ _ h => h) (Or.inl ⟨by rfl, ?_⟩) hS ?_
                rotate_left
                · intro V hV
                  go_simp
                  try with_reducible rfl
                simp only [Act.put, List.setIfInBounds_toArray, List.set_cons_zero, List.set_cons_succ]
                refine takeL (i := 17) (v := ?_) rfl (by kernel_rfl) (by kernel_rfl) (by kernel_rfl) (fun _ _ _ h => h) (Or.inl ⟨by rfl, ?_⟩) hS ?_
                rotate_left
                · intro V hV
                  go_simp
                  try with_reducible rfl
                simp only [Act.put, List.setIfInBounds_toArray, List.set_cons_zero, List.set_cons_succ]
                refine wpAnyH_ready (rs := [14]) (by kernel_rfl) (by simp) (readyL rfl ?_ AllReadyH.nil)
                intro K' hK
                rw [if_pos (by rfl)]
                refine wpH_call _ _ ?_ ((HGT.out _ hS).mono ?_)
                · go_simp
                rintro e w10 ⟨A10, c10, rfl, s10, m10⟩
                have cv10 := conv8 HND.out s10
                refine ⟨_, rfl, ?_⟩
                refine hK.out _ _ (Mods.trans hS m10) (fun hS => ?_)
                clear hK K'
                simp only [Act.put, List.setIfInBounds_toArray, List.set_cons_zero, List.set_cons_succ]
                refine wpAnyH_ready (rs := [15]) (by kernel_rfl) (by simp) (readyL rfl ?_ AllReadyH.nil)
                intro K' hK
                rw [if_pos (by rfl)]
                refine wpH_value (v := ?_) ?_ ?_
                rotate_left
                · go_simp
                  try with_reducible rfl
                refine hK.out _ _ hS (fun hS => ?_)
                clear hK K'
                simp only [Act.put, List.setIfInBounds_toArray, List.set_cons_zero, List.set_cons_succ]
                refine takeL (i := 18) (v := ?_) rfl (by kernel_rfl) (by kernel_rfl) (by kernel_rfl) (fun _ _ _ h => h) (Or.inl ⟨by rfl, ?_⟩) hS ?_
                rotate_left
                · intro V hV
                  go_simp
                  try with_reducible rfl
                simp only [Act.put, List.setIfInBounds_toArray, List.set_cons_zero, List.set_cons_succ]
                refine takeL (i := 19) (v := ?_) rfl (by kernel_rfl) (by kernel_rfl) (by kernel_rfl) (fun _ _ _ h => h) (Or.inl ⟨by rfl, ?_⟩) hS ?_
                rotate_left
                · intro V hV
                  go_simp
                  try with_reducible rfl
                simp only [Act.put, List.setIfInBounds_toArray, List.set_cons_zero, List.set_cons_succ]
                refine takeL (i := 20) (v := ?_) rfl (by kernel_rfl) (by kernel_rfl) (by kernel_rfl) (fun _ _ _ h => h) (Or.inl ⟨by rfl, ?_⟩) hS ?_
                rotate_left
                · intro V hV
                  go_simp
                  try with_reducible rfl
                simp only [Act.put, List.setIfInBounds_toArray, List.set_cons_zero, List.set_cons_succ]
                refine takeL (i := 22) (v := ?_) rfl (by kernel_rfl) (by kernel_rfl) (by kernel_rfl) (fun _ _ _ h => h) (Or.inl ⟨by rfl, ?_⟩) hS ?_
                rotate_left
                · intro V hV
                  go_simp
                  try with_reducible rfl
                simp only [Act.put, List.setIfInBounds_toArray, List.set_cons_zero, List.set_cons_succ]
                refine takeL (i := 23) (v := ?_) rfl (by kernel_rfl) (by kernel_rfl) (by kernel_rfl) (fun _ _ _ h => h) (Or.inl ⟨by rfl, ?_⟩) hS ?_
                rotate_left
                · intro V hV
                  go_simp
                  try with_reducible rfl
                simp only [Act.put, List.setIfInBounds_toArray, List.set_cons_zero, List.set_cons_succ]
                refine wpAnyH_ready (rs := [21]) (by kernel_rfl) (by simp) (readyL rfl ?_ AllReadyH.nil)
                intro K' hK
                rw [if_pos (by rfl)]
                refine wpH_call _ _ ?_ ((HTN.out _ hS).mono ?_)
                · go_simp
                rintro e w11 ⟨rfl, m11⟩
                refine ⟨_, rfl, ?_⟩
                refine hK.out _ _ (Mods.trans hS m11) (fun hS => ?_)
                clear hK K'
                simp only [Act.put, List.setIfInBounds_toArray, List.set_cons_zero, List.set_cons_succ]
                refine takeL (i := 24) (v := ?_) rfl (by kernel_rfl) (by kernel_rfl) (by kernel_rfl) (fun _ _ _ h => h) (Or.inl ⟨by rfl, ?_⟩) hS ?_
                rotate_left
                · intro V hV
                  go_simp
                  try with_reducible rfl
                simp only [Act.put, List.setIfInBounds_toArray, List.set_cons_zero, List.set_cons_succ]
                refine takeL (i := 25) (v := ?_) rfl (by kernel_rfl) (by kernel_rfl) (by kernel_rfl) (fun _ _ _ h => h) (Or.inl ⟨by rfl, ?_⟩) hS ?_
                rotate_left
                · intro V hV
                  go_simp
                  try with_reducible rfl
                simp only [Act.put, List.setIfInBounds_toArray, List.set_cons_zero, List.set_cons_succ]
                refine takeL (i := 26) (v := ?_) rfl (by kernel_rfl) (by kernel_rfl) (by kernel_rfl) (fun _ _ _ h => h) (Or.inl ⟨by rfl, ?_⟩) hS ?_
                rotate_left
                · intro V hV
                  go_simp
                  try with_reducible rfl
                simp only [Act.put, List.setIfInBounds_toArray, List.set_cons_zero, List.set_cons_succ]
                refine takeL (i := 27) (v := ?_) rfl (by kernel_rfl) (by kernel_rfl) (by kernel_rfl) (fun _ _ _ h => h) (Or.inl ⟨by rfl, ?_⟩) hS ?_
                rotate_left
                · intro V hV
                  go_simp
                  try with_reducible rfl
                simp only [Act.put, List.setIfInBounds_toArray, List.set_cons_zero, List.set_cons_succ]
                refine wpAnyH_done (by kernel_rfl) ?_ _
                clear zz0 zz1 zz2 zz3 yy2 yy4
                go_wp2_with fail
                exact ⟨⟨j + 1, d', p, cb, A7, c7, B7, k7, by omega, by omega, rfl, by go_num, P8.out.nil hS, by have := HLN.out.2; have := HW.out; omega, HZ.out⟩, by simp [intOf]; omega⟩
            · by_cases hr5 : r = 5
              · by_cases hq44 : q < 44
                · as_aux_lemma =>
                    have h34 : bits .and .i64 z 1 = z % 2 := i64_and1d z
                    obtain ⟨z2, hz2e⟩ : ∃ z2, z % 2 = z2 := ⟨_, rfl⟩
                    have hz20 : 0 ≤ z2 ∧ z2 ≤ 1 := by omega
                    rw [hz2e] at h34
                    obtain ⟨i, hi⟩ : ∃ i, (at_ : Int) + z2 = i := ⟨_, rfl⟩
                    have hwi : IntKind.i64.wrap i = i := by rw [IntKind.wrap_i64]; omega
                    have h44 : decide ((q : Int) < 44) = true := by simp; omega
                    have HBL := Lib.hid (fun W => r8block_any W HXS.out (by omega) ht)
                    have HFL := Lib.hid (layC_length (t := t) (s := xs) (by have := HXS.out; omega))
                    obtain ⟨F, hF⟩ : ∃ F, layC t xs = F := ⟨_, rfl⟩
                    rw [hF] at HBL HFL
                    clear hF ht
                    have HWR := Lib.hid (fun (W : World) (cF : Nat) (AF : Option Addr) (h : Q8 w W db cb g hh N A1 c1 B1 k1 d p d p) (hs : ∀ V, DM w.heap.size W V → Sl V AF cF (bts F)) => h.write (F := F) (q := 64) (by omega) i hs HFL.out)
                    have HRW : Hid (∀ (W : World), RdAt W A1 c1 B1 k1 d → Calls Try.prog 28 #[.agg #[.slice A1 N c1, .slice B1 d.W.length k1, .int .i64 d.left, .bool d.down], .int .i64 i, .string (strOf F)] W (RTo8 W N (d.write i F).1 (d.write i F).2)) := Lib.hid (fun (W : World) (h : RdAt W A1 c1 B1 k1 d) => by
                      have h5 := Q8.rwrite (F := F) (q := 64) HLO.out (by omega) HLEN.out i HFL.out W h
                      exact h5)
                    have HLN := Lib.hid (write_len8 d i F)
                    obtain ⟨X, hX⟩ : ∃ X, d.write i F = X := ⟨_, rfl⟩
                    rw [hX] at HRW HWR HLN
                    obtain ⟨d', er⟩ := X
                    dsimp only at HRW HWR HLN
                    clear hX hz20 hz2e hr0
                    obtain rfl : r = 5 := hr5
                    have P4 := Lib.hid (HP.out.nil ((Mods.refl Nil wr).alloc (.cells #[.int .i64 kd, .int .i64 z, .slice A2 q c2, .int .u64 (t : Int)] 75)))
                    have AB4 := Lib.hid (Blk.new wr 75 #[.int .i64 kd, .int .i64 z, .slice A2 q c2, .int .u64 (t : Int)])
                    have AB4' := AB4.out
                    obtain ⟨⟨a0, a1, a2, a3⟩, -⟩ := AB4'.four6
                    clear AB4'
                    have cv4 := conv8 HXS.out (HS0.out.mods P4.out.mods (fun _ _ h => h))
                    go_wp2_with (first
                      | (go_at_call 38; refine (HBL.out _).mono ?_; rintro e w5 ⟨rfl, m5⟩; have P5 := Lib.hid (P4.out.nil m5); have AB5 := Lib.hid (AB4.out.mods m5 (fun h => h)); clear a0 a1 a2 a3 cv4; obtain ⟨⟨a0, a1, a2, a3⟩, -⟩ := AB5.out.four6; obtain ⟨cF, w5b, KF, sF, mF⟩ := conv_bytes8 w5 w.heap.size HFL.out (by omega); have SF := Lib.hid sF; have MF := Lib.hid mF; have b0 := (AB5.out.mods mF (fun h => h)); clear a0 a1 a2 a3; have a0 := AB5.out.four6.1.1; have a1 := AB5.out.four6.1.2.1; have a2 := AB5.out.four6.1.2.2.1; have a3 := AB5.out.four6.1.2.2.2; clear b0 sF mF m5)
                      | (go_at_call 27; refine (HWR.out _ _ _ (P5.out.nil MF.out) (fun V hV => SF.out _ V (Mods.refl Nil _) hV)).mono ?_; rintro e w6 ⟨rfl, p6, m6⟩; have P6 := Lib.hid p6; clear a0 a1 a2 a3; obtain ⟨⟨a0, a1, a2, a3⟩, -⟩ := ((AB5.out.mods MF.out (fun h => h)).dm m6 (by decide)).four6; obtain ⟨⟨z0, z1, z2, z3⟩, -⟩ := p6.box.four6; have hc6 : Blk _ hh 71 #[.int .i64 (p.at_ : Int), .int .i64 (nowC p), .int .u64 (p.turn : Int), .int .u64 (p.great : Int), .string (strOf p.data), .int .i64 p.err] := p6.cbox; obtain ⟨⟨y0, y1, y2, y3, y4, y5⟩, -⟩ := hc6.sixC; clear hc6; clear p6 m6)
                      | (go_at_call 28; refine (HRW.out _ P6.out.ref).mono ?_; rintro e w7 ⟨A7, c7, B7, k7, rfl, r7, m7⟩; have P7 := Lib.hid (P6.out.nil m7); have R7 := Lib.hid r7; clear r7 m7 a0 a1 a2 a3 KF; clear z0 z1 z2 z3 y0 y1 y2 y3 y4 y5)
                      | (refine wpList_store_mk rfl 31 (.tmp 10) (.tmp 172) rfl rfl g rfl 31 #[.slice A1 N c1, .slice B1 d.W.length k1, .int .i64 d.left, .bool d.down] #[.slice A7 N c7, .slice B7 d'.W.length k7, .int .i64 d'.left, .bool d'.down] rfl P7.out.box rfl (by simp [Value.oneCell']) rd_info (by simp [Value.cells]) ?_; intro w8 b8 m8; have P8 := Lib.hid (P7.out.setD R7.out (HLN.out.1.trans HLEN.out) b8 m8); clear b8 m8))
                    have zz0 : ∀ V, Mods Nil w8 V → V.cell? ⟨g, 0, none⟩ = some (.slice A7 N c7) := fun V hV => (P8.out.nil hV).box.four6.1.1
                    have zz1 : ∀ V, Mods Nil w8 V → V.cell? ⟨g, 1, none⟩ = some (.slice B7 d'.W.length k7) := fun V hV => (P8.out.nil hV).box.four6.1.2.1
                    have zz2 : ∀ V, Mods Nil w8 V → V.cell? ⟨g, 2, none⟩ = some (.int .i64 d'.left) := fun V hV => (P8.out.nil hV).box.four6.1.2.2.1
                    have zz3 : ∀ V, Mods Nil w8 V → V.cell? ⟨g, 3, none⟩ = some (.bool d'.down) := fun V hV => (P8.out.nil hV).box.four6.1.2.2.2
                    have yy2 : ∀ V, Mods Nil w8 V → V.cell? ⟨hh, 2, none⟩ = some (.int .u64 (p.turn : Int)) := fun V hV => (show Blk V hh 71 #[.int .i64 (p.at_ : Int), .int .i64 (nowC p), .int .u64 (p.turn : Int), .int .u64 (p.great : Int), .string (strOf p.data), .int .i64 p.err] from (P8.out.nil hV).cbox).sixC.1.2.2.1
                    have yy4 : ∀ V, Mods Nil w8 V → V.cell? ⟨hh, 4, none⟩ = some (.string (strOf p.data)) := fun V hV => (show Blk V hh 71 #[.int .i64 (p.at_ : Int), .int .i64 (nowC p), .int .u64 (p.turn : Int), .int .u64 (p.great : Int), .string (strOf p.data), .int .i64 p.err] from (P8.out.nil hV).cbox).sixC.1.2.2.2.2.1
                    obtain ⟨nd, hnd⟩ : ∃ nd, p.data.length = nd := ⟨_, rfl⟩
                    obtain ⟨tn, htn⟩ : ∃ tn, p.turn = tn := ⟨_, rfl⟩
                    have HND := Lib.hid hnd
                    have HAL := Lib.hid (fun (V : World) (hV : Mods Nil w8 V) => (P8.out.nil hV).alike (by omega))
                    have HGT := Lib.hid (fun (V : World) (hV : Mods Nil w8 V) => cget_any (P8.out.nil hV).all.2 hnd)
                    have HTN := Lib.hid (fun (V : World) (hV : Mods Nil w8 V) => cturnof_any (P8.out.nil hV).all.2 htn)
                    rw [htn] at yy2
                    clear hnd htn
                    refine wp_region_held_drew (S := (fun V => Mods Nil w8 V)) (by kernel_rfl) ((Mods.refl Nil w8).drew) (fun hS => ?_)
                    refine takeL (i := 0) (v := ?_) rfl (by kernel_rfl) (by kernel_rfl) (by kernel_rfl) (fun _ _ _ h => h) (Or.inl ⟨by rfl, ?_⟩) hS ?_
                    rotate_left
                    · intro V hV
                      go_simp
                      try with_reducible rfl
                    simp only [Act.put, List.setIfInBounds_toArray, List.set_cons_zero, List.set_cons_succ]
                    refine takeL (i := 1) (v := ?_) rfl (by kernel_rfl) (by kernel_rfl) (by kernel_rfl) (fun _ _ _ h => h) (Or.inl ⟨by rfl, ?_⟩) hS ?_
                    rotate_left
                    · intro V hV
                      go_simp
                      try with_reducible rfl
                    simp only [Act.put, List.setIfInBounds_toArray, List.set_cons_zero, List.set_cons_succ]
                    refine takeL (i := 2) (v := ?_) rfl (by kernel_rfl) (by kernel_rfl) (by kernel_rfl) (fun _ _ _ h => h) (Or.inl ⟨by rfl, ?_⟩) hS ?_
                    rotate_left
                    · intro V hV
                      go_simp
                      try with_reducible rfl
                    simp only [Act.put, List.setIfInBounds_toArray, List.set_cons_zero, List.set_cons_succ]
                    refine takeL (i := 3) (v := ?_) rfl (by kernel_rfl) (by kernel_rfl) (by kernel_rfl) (fun _ _ _ h => h) (Or.inl ⟨by rfl, ?_⟩) hS ?_
                    rotate_left
                    · intro V hV
                      go_simp
                      try with_reducible rfl
                    simp only [Act.put, List.setIfInBounds_toArray, List.set_cons_zero, List.set_cons_succ]
                    refine takeL (i := 4) (v := ?_) rfl (by kernel_rfl) (by kernel_rfl) (by kernel_rfl) (fun _ _ _ h => h) (Or.inl ⟨by rfl, ?_⟩) hS ?_
                    rotate_left
                    · intro V hV
                      go_simp
                      try with_reducible rfl
                    simp only [Act.put, List.setIfInBounds_toArray, List.set_cons_zero, List.set_cons_succ]
                    refine takeL (i := 5) (v := ?_) rfl (by kernel_rfl) (by kernel_rfl) (by kernel_rfl) (fun _ _ _ h => h) (Or.inl ⟨by rfl, ?_⟩) hS ?_
                    rotate_left
                    · intro V hV
                      go_simp
                      try with_reducible rfl
                    simp only [Act.put, List.setIfInBounds_toArray, List.set_cons_zero, List.set_cons_succ]
                    refine wpAnyH_ready (rs := [6]) (by kernel_rfl) (by simp) (readyL rfl ?_ AllReadyH.nil)
                    intro K' hK
                    rw [if_pos (by rfl)]
                    refine wpH_call _ _ ?_ ((HAL.out _ hS).mono ?_)
                    · go_simp
                    rintro e w9 ⟨rfl, m9⟩
                    refine ⟨_, rfl, ?_⟩
                    refine hK.out _ _ (Mods.trans hS m9) (fun hS => ?_)
                    clear hK K'
                    simp only [Act.put, List.setIfInBounds_toArray, List.set_cons_zero, List.set_cons_succ]
                    refine takeL (i := 7) (v := ?_) rfl (by kernel_rfl) (by kernel_rfl) (by kernel_rfl) (fun _ _ _ h => h) (Or.inl ⟨by rfl, ?_⟩) hS ?_
                    rotate_left
                    · intro V hV
                      go_simp
                      try with_reducible rfl
                    simp only [Act.put, List.setIfInBounds_toArray, List.set_cons_zero, List.set_cons_succ]
                    refine takeL (i := 8) (v := ?_) rfl (by kernel_rfl) (by kernel_rfl) (by kernel_rfl) (fun _ _ _ h => h) (Or.inl ⟨by rfl, ?_⟩) hS ?_
                    rotate_left
                    · intro V hV
                      go_simp
                      try with_reducible rfl
                    simp only [Act.put, List.setIfInBounds_toArray, List.set_cons_zero, List.set_cons_succ]
                    refine takeL (i := 9) (v := ?_) rfl (by kernel_rfl) (by kernel_rfl) (by kernel_rfl) (fun _ _ _ h => h) (Or.inl ⟨by rfl, ?_⟩) hS ?_
                    rotate_left
                    · intro V hV
                      go_simp
                      try with_reducible rfl
                    simp only [Act.put, List.setIfInBounds_toArray, List.set_cons_zero, List.set_cons_succ]
                    refine takeL (i := 10) (v := ?_) rfl (by kernel_rfl) (by kernel_rfl) (by kernel_rfl) (fun _ _ _ h => h) (Or.inl ⟨by rfl, ?_⟩) hS ?_
                    rotate_left
                    · intro V hV
                      go_simp
                      try with_reducible rfl
                    simp only [Act.put, List.setIfInBounds_toArray, List.set_cons_zero, List.set_cons_succ]
                    refine takeL (i := 11) (v := ?_) rfl (by kernel_rfl) (by kernel_rfl) (by kernel_rfl) (fun _ _ _ h => h) (Or.inl ⟨by rfl, ?_⟩) hS ?_
                    rotate_left
                    · intro V hV
                      go_simp
                      try with_reducible rfl
                    simp only [Act.put, List.setIfInBounds_toArray, List.set_cons_zero, List.set_cons_succ]
                    refine takeL (i := 12) (v := ?_) rfl (by kernel_rfl) (by kernel_rfl) (by kernel_rfl) (fun _ _ _ h => h) (Or.inl ⟨by rfl, ?_⟩) hS ?_
                    rotate_left
                    · intro V hV
                      go_simp
                      try with_reducible rfl
                    simp only [Act.put, List.setIfInBounds_toArray, List.set_cons_zero, List.set_cons_succ]
                    refine takeL (i := 13) (v := ?_) rfl (by kernel_rfl) (by kernel_rfl) (by kernel_rfl) (fun _ _ _ h => h) (Or.inl ⟨by rfl, ?_⟩) hS ?_
                    rotate_left
                    · intro V hV
                      go_simp
                      try with_reducible rfl
                    simp only [Act.put, List.setIfInBounds_toArray, List.set_cons_zero, List.set_cons_succ]
                    refine takeL (i := 16) (v := ?_) rfl (by kernel_rfl) (by kernel_rfl) (by kernel_rfl) (fun _ _ _ h => h) (Or.inl ⟨by rfl, ?_⟩) hS ?_
                    rotate_left
                    · intro V hV
                      go_simp
                      try with_reducible rfl
                    simp only [Act.put, List.setIfInBounds_toArray, List.set_cons_zero, List.set_cons_succ]
                    refine takeL (i := 17) (v := ?_) rfl (by kernel_rfl) (by kernel_rfl) (by kernel_rfl) (fun _ _ _ h => h) (Or.inl ⟨by rfl, ?_⟩) hS ?_
                    rotate_left
                    · intro V hV
                      go_simp
                      try with_reducible rfl
                    simp only [Act.put, List.setIfInBounds_toArray, List.set_cons_zero, List.set_cons_succ]
                    refine wpAnyH_ready (rs := [14]) (by kernel_rfl) (by simp) (readyL rfl ?_ AllReadyH.nil)
                    intro K' hK
                    rw [if_pos (by rfl)]
                    refine wpH_call _ _ ?_ ((HGT.out _ hS).mono ?_)
                    · go_simp
                    rintro e w10 ⟨A10, c10, rfl, s10, m10⟩
                    have cv10 := conv8 HND.out s10
                    refine ⟨_, rfl, ?_⟩
                    refine hK.out _ _ (Mods.trans hS m10) (fun hS => ?_)
                    clear hK K'
                    simp only [Act.put, List.setIfInBounds_toArray, List.set_cons_zero, List.set_cons_succ]
                    refine wpAnyH_ready (rs := [15]) (by kernel_rfl) (by simp) (readyL rfl ?_ AllReadyH.nil)
                    intro K' hK
                    rw [if_pos (by rfl)]
                    refine wpH_value (v := ?_) ?_ ?_
                    rotate_left
                    · go_simp
                      try with_reducible rfl
                    refine hK.out _ _ hS (fun hS => ?_)
                    clear hK K'
                    simp only [Act.put, List.setIfInBounds_toArray, List.set_cons_zero, List.set_cons_succ]
                    refine takeL (i := 18) (v := ?_) rfl (by kernel_rfl) (by kernel_rfl) (by kernel_rfl) (fun _ _ _ h => h) (Or.inl ⟨by rfl, ?_⟩) hS ?_
                    rotate_left
                    · intro V hV
                      go_simp
                      try with_reducible rfl
                    simp only [Act.put, List.setIfInBounds_toArray, List.set_cons_zero, List.set_cons_succ]
                    refine takeL (i := 19) (v := ?_) rfl (by kernel_rfl) (by kernel_rfl) (by kernel_rfl) (fun _ _ _ h => h) (Or.inl ⟨by rfl, ?_⟩) hS ?_
                    rotate_left
                    · intro V hV
                      go_simp
                      try with_reducible rfl
                    simp only [Act.put, List.setIfInBounds_toArray, List.set_cons_zero, List.set_cons_succ]
                    refine takeL (i := 20) (v := ?_) rfl (by kernel_rfl) (by kernel_rfl) (by kernel_rfl) (fun _ _ _ h => h) (Or.inl ⟨by rfl, ?_⟩) hS ?_
                    rotate_left
                    · intro V hV
                      go_simp
                      try with_reducible rfl
                    simp only [Act.put, List.setIfInBounds_toArray, List.set_cons_zero, List.set_cons_succ]
                    refine takeL (i := 22) (v := ?_) rfl (by kernel_rfl) (by kernel_rfl) (by kernel_rfl) (fun _ _ _ h => h) (Or.inl ⟨by rfl, ?_⟩) hS ?_
                    rotate_left
                    · intro V hV
                      go_simp
                      try with_reducible rfl
                    simp only [Act.put, List.setIfInBounds_toArray, List.set_cons_zero, List.set_cons_succ]
                    refine takeL (i := 23) (v := ?_) rfl (by kernel_rfl) (by kernel_rfl) (by kernel_rfl) (fun _ _ _ h => h) (Or.inl ⟨by rfl, ?_⟩) hS ?_
                    rotate_left
                    · intro V hV
                      go_simp
                      try with_reducible rfl
                    simp only [Act.put, List.setIfInBounds_toArray, List.set_cons_zero, List.set_cons_succ]
                    refine wpAnyH_ready (rs := [21]) (by kernel_rfl) (by simp) (readyL rfl ?_ AllReadyH.nil)
                    intro K' hK
                    rw [if_pos (by rfl)]
                    refine wpH_call _ _ ?_ ((HTN.out _ hS).mono ?_)
                    · go_simp
                    rintro e w11 ⟨rfl, m11⟩
                    refine ⟨_, rfl, ?_⟩
                    refine hK.out _ _ (Mods.trans hS m11) (fun hS => ?_)
                    clear hK K'
                    simp only [Act.put, List.setIfInBounds_toArray, List.set_cons_zero, List.set_cons_succ]
                    refine takeL (i := 24) (v := ?_) rfl (by kernel_rfl) (by kernel_rfl) (by kernel_rfl) (fun _ _ _ h => h) (Or.inl ⟨by rfl, ?_⟩) hS ?_
                    rotate_left
                    · intro V hV
                      go_simp
                      try with_reducible rfl
                    simp only [Act.put, List.setIfInBounds_toArray, List.set_cons_zero, List.set_cons_succ]
                    refine takeL (i := 25) (v := ?_) rfl (by kernel_rfl) (by kernel_rfl) (by kernel_rfl) (fun _ _ _ h => h) (Or.inl ⟨by rfl, ?_⟩) hS ?_
                    rotate_left
                    · intro V hV
                      go_simp
                      try with_reducible rfl
                    simp only [Act.put, List.setIfInBounds_toArray, List.set_cons_zero, List.set_cons_succ]
                    refine takeL (i := 26) (v := ?_) rfl (by kernel_rfl) (by kernel_rfl) (by kernel_rfl) (fun _ _ _ h => h) (Or.inl ⟨by rfl, ?_⟩) hS ?_
                    rotate_left
                    · intro V hV
                      go_simp
                      try with_reducible rfl
                    simp only [Act.put, List.setIfInBounds_toArray, List.set_cons_zero, List.set_cons_succ]
                    refine takeL (i := 27) (v := ?_) rfl (by kernel_rfl) (by kernel_rfl) (by kernel_rfl) (fun _ _ _ h => h) (Or.inl ⟨by rfl, ?_⟩) hS ?_
                    rotate_left
                    · intro V hV
                      go_simp
                      try with_reducible rfl
                    simp only [Act.put, List.setIfInBounds_toArray, List.set_cons_zero, List.set_cons_succ]
                    refine wpAnyH_done (by kernel_rfl) ?_ _
                    clear zz0 zz1 zz2 zz3 yy2 yy4
                    go_wp2_with fail
                    exact ⟨⟨j + 1, d', p, cb, A7, c7, B7, k7, by omega, by omega, rfl, by go_num, P8.out.nil hS, by have := HLN.out.2; have := HW.out; omega, HZ.out⟩, by simp [intOf]; omega⟩
                · as_aux_lemma =>
                    have h34 : bits .and .i64 z 1 = z % 2 := i64_and1d z
                    obtain ⟨z2, hz2e⟩ : ∃ z2, z % 2 = z2 := ⟨_, rfl⟩
                    have hz20 : 0 ≤ z2 ∧ z2 ≤ 1 := by omega
                    rw [hz2e] at h34
                    obtain ⟨i, hi⟩ : ∃ i, (at_ : Int) + z2 = i := ⟨_, rfl⟩
                    have hwi : IntKind.i64.wrap i = i := by rw [IntKind.wrap_i64]; omega
                    have h44 : decide ((q : Int) < 44) = false := by simp; omega
                    obtain ⟨E0, hE8⟩ : ∃ E : ByteArray, (⟨#[]⟩ : ByteArray) = E := ⟨_, rfl⟩
                    have hE9 : strOf [] = E0 := hE8
                    clear ht
                    have HWR := Lib.hid (fun (W : World) (cF : Nat) (AF : Option Addr) (h : Q8 w W db cb g hh N A1 c1 B1 k1 d p d p) (hs : ∀ V, DM w.heap.size W V → Sl V AF cF (bts [])) => h.write (F := []) (q := 0) (by omega) i hs rfl)
                    have HRW : Hid (∀ (W : World), RdAt W A1 c1 B1 k1 d → Calls Try.prog 28 #[.agg #[.slice A1 N c1, .slice B1 d.W.length k1, .int .i64 d.left, .bool d.down], .int .i64 i, .string E0] W (RTo8 W N (d.write i []).1 (d.write i []).2)) := Lib.hid (fun (W : World) (h : RdAt W A1 c1 B1 k1 d) => by
                      have h5 := Q8.rwrite (F := []) (q := 0) HLO.out (by omega) HLEN.out i rfl W h
                      rw [hE9] at h5
                      exact h5)
                    have HLN := Lib.hid (write_len8 d i [])
                    obtain ⟨X, hX⟩ : ∃ X, d.write i [] = X := ⟨_, rfl⟩
                    rw [hX] at HRW HWR HLN
                    obtain ⟨d', er⟩ := X
                    dsimp only at HRW HWR HLN
                    clear hX hz20 hz2e hr0
                    obtain rfl : r = 5 := hr5
                    have P4 := Lib.hid (HP.out.nil ((Mods.refl Nil wr).alloc (.cells #[.int .i64 kd, .int .i64 z, .slice A2 q c2, .int .u64 (t : Int)] 75)))
                    have AB4 := Lib.hid (Blk.new wr 75 #[.int .i64 kd, .int .i64 z, .slice A2 q c2, .int .u64 (t : Int)])
                    have AB4' := AB4.out
                    obtain ⟨⟨a0, a1, a2, a3⟩, -⟩ := AB4'.four6
                    clear AB4'
                    obtain ⟨cF, w5b, KF, sF, mF⟩ := conv_bytes8 (wr.alloc (.cells #[.int .i64 kd, .int .i64 z, .slice A2 q c2, .int .u64 (t : Int)] 75)) w.heap.size (zs := []) (q := 0) rfl (by omega)
                    rw [hE9] at KF
                    have hsz8 : (wr.alloc (.cells #[.int .i64 kd, .int .i64 z, .slice A2 q c2, .int .u64 (t : Int)] 75)).heap.size = wr.heap.size + 1 := by simp
                    rw [hsz8] at KF sF
                    clear hsz8
                    have SF := Lib.hid sF
                    have MF := Lib.hid mF
                    have P5 := P4
                    have AB5 := AB4
                    clear sF mF hE9
                    go_wp2_with (first
                      | (go_at_call 27; refine (HWR.out _ _ _ (P5.out.nil MF.out) (fun V hV => SF.out _ V (Mods.refl Nil _) hV)).mono ?_; rintro e w6 ⟨rfl, p6, m6⟩; have P6 := Lib.hid p6; clear a0 a1 a2 a3; obtain ⟨⟨a0, a1, a2, a3⟩, -⟩ := ((AB5.out.mods MF.out (fun h => h)).dm m6 (by decide)).four6; obtain ⟨⟨z0, z1, z2, z3⟩, -⟩ := p6.box.four6; have hc6 : Blk _ hh 71 #[.int .i64 (p.at_ : Int), .int .i64 (nowC p), .int .u64 (p.turn : Int), .int .u64 (p.great : Int), .string (strOf p.data), .int .i64 p.err] := p6.cbox; obtain ⟨⟨y0, y1, y2, y3, y4, y5⟩, -⟩ := hc6.sixC; clear hc6; clear p6 m6)
                      | (go_at_call 28; refine (HRW.out _ P6.out.ref).mono ?_; rintro e w7 ⟨A7, c7, B7, k7, rfl, r7, m7⟩; have P7 := Lib.hid (P6.out.nil m7); have R7 := Lib.hid r7; clear r7 m7 a0 a1 a2 a3 KF; clear z0 z1 z2 z3 y0 y1 y2 y3 y4 y5)
                      | (refine wpList_store_mk rfl 31 (.tmp 10) (.tmp 172) rfl rfl g rfl 31 #[.slice A1 N c1, .slice B1 d.W.length k1, .int .i64 d.left, .bool d.down] #[.slice A7 N c7, .slice B7 d'.W.length k7, .int .i64 d'.left, .bool d'.down] rfl P7.out.box rfl (by simp [Value.oneCell']) rd_info (by simp [Value.cells]) ?_; intro w8 b8 m8; have P8 := Lib.hid (P7.out.setD R7.out (HLN.out.1.trans HLEN.out) b8 m8); clear b8 m8))
                    have zz0 : ∀ V, Mods Nil w8 V → V.cell? ⟨g, 0, none⟩ = some (.slice A7 N c7) := fun V hV => (P8.out.nil hV).box.four6.1.1
                    have zz1 : ∀ V, Mods Nil w8 V → V.cell? ⟨g, 1, none⟩ = some (.slice B7 d'.W.length k7) := fun V hV => (P8.out.nil hV).box.four6.1.2.1
                    have zz2 : ∀ V, Mods Nil w8 V → V.cell? ⟨g, 2, none⟩ = some (.int .i64 d'.left) := fun V hV => (P8.out.nil hV).box.four6.1.2.2.1
                    have zz3 : ∀ V, Mods Nil w8 V → V.cell? ⟨g, 3, none⟩ = some (.bool d'.down) := fun V hV => (P8.out.nil hV).box.four6.1.2.2.2
                    have yy2 : ∀ V, Mods Nil w8 V → V.cell? ⟨hh, 2, none⟩ = some (.int .u64 (p.turn : Int)) := fun V hV => (show Blk V hh 71 #[.int .i64 (p.at_ : Int), .int .i64 (nowC p), .int .u64 (p.turn : Int), .int .u64 (p.great : Int), .string (strOf p.data), .int .i64 p.err] from (P8.out.nil hV).cbox).sixC.1.2.2.1
                    have yy4 : ∀ V, Mods Nil w8 V → V.cell? ⟨hh, 4, none⟩ = some (.string (strOf p.data)) := fun V hV => (show Blk V hh 71 #[.int .i64 (p.at_ : Int), .int .i64 (nowC p), .int .u64 (p.turn : Int), .int .u64 (p.great : Int), .string (strOf p.data), .int .i64 p.err] from (P8.out.nil hV).cbox).sixC.1.2.2.2.2.1
                    obtain ⟨nd, hnd⟩ : ∃ nd, p.data.length = nd := ⟨_, rfl⟩
                    obtain ⟨tn, htn⟩ : ∃ tn, p.turn = tn := ⟨_, rfl⟩
                    have HND := Lib.hid hnd
                    have HAL := Lib.hid (fun (V : World) (hV : Mods Nil w8 V) => (P8.out.nil hV).alike (by omega))
                    have HGT := Lib.hid (fun (V : World) (hV : Mods Nil w8 V) => cget_any (P8.out.nil hV).all.2 hnd)
                    have HTN := Lib.hid (fun (V : World) (hV : Mods Nil w8 V) => cturnof_any (P8.out.nil hV).all.2 htn)
                    rw [htn] at yy2
                    clear hnd htn
                    refine wp_region_held_drew (S := (fun V => Mods Nil w8 V)) (by kernel_rfl) ((Mods.refl Nil w8).drew) (fun hS => ?_)
                    refine takeL (i := 0) (v := ?_) rfl (by kernel_rfl) (by kernel_rfl) (by kernel_rfl) (fun _ _ _ h => h) (Or.inl ⟨by rfl, ?_⟩) hS ?_
                    rotate_left
                    · intro V hV
                      go_simp
                      try with_reducible rfl
                    simp only [Act.put, List.setIfInBounds_toArray, List.set_cons_zero, List.set_cons_succ]
                    refine takeL (i := 1) (v := ?_) rfl (by kernel_rfl) (by kernel_rfl) (by kernel_rfl) (fun _ _ _ h => h) (Or.inl ⟨by rfl, ?_⟩) hS ?_
                    rotate_left
                    · intro V hV
                      go_simp
                      try with_reducible rfl
                    simp only [Act.put, List.setIfInBounds_toArray, List.set_cons_zero, List.set_cons_succ]
                    refine takeL (i := 2) (v := ?_) rfl (by kernel_rfl) (by kernel_rfl) (by kernel_rfl) (fun _ _ _ h => h) (Or.inl ⟨by rfl, ?_⟩) hS ?_
                    rotate_left
                    · intro V hV
                      go_simp
                      try with_reducible rfl
                    simp only [Act.put, List.setIfInBounds_toArray, List.set_cons_zero, List.set_cons_succ]
                    refine takeL (i := 3) (v := ?_) rfl (by kernel_rfl) (by kernel_rfl) (by kernel_rfl) (fun _ _ _ h => h) (Or.inl ⟨by rfl, ?_⟩) hS ?_
                    rotate_left
                    · intro V hV
                      go_simp
                      try with_reducible rfl
                    simp only [Act.put, List.setIfInBounds_toArray, List.set_cons_zero, List.set_cons_succ]
                    refine takeL (i := 4) (v := ?_) rfl (by kernel_rfl) (by kernel_rfl) (by kernel_rfl) (fun _ _ _ h => h) (Or.inl ⟨by rfl, ?_⟩) hS ?_
                    rotate_left
                    · intro V hV
                      go_simp
                      try with_reducible rfl
                    simp only [Act.put, List.setIfInBounds_toArray, List.set_cons_zero, List.set_cons_succ]
                    refine takeL (i := 5) (v := ?_) rfl (by kernel_rfl) (by kernel_rfl) (by kernel_rfl) (fun _ _ _ h => h) (Or.inl ⟨by rfl, ?_⟩) hS ?_
                    rotate_left
                    · intro V hV
                      go_simp
                      try with_reducible rfl
                    simp only [Act.put, List.setIfInBounds_toArray, List.set_cons_zero, List.set_cons_succ]
                    refine wpAnyH_ready (rs := [6]) (by kernel_rfl) (by simp) (readyL rfl ?_ AllReadyH.nil)
                    intro K' hK
                    rw [if_pos (by rfl)]
                    refine wpH_call _ _ ?_ ((HAL.out _ hS).mono ?_)
                    · go_simp
                    rintro e w9 ⟨rfl, m9⟩
                    refine ⟨_, rfl, ?_⟩
                    refine hK.out _ _ (Mods.trans hS m9) (fun hS => ?_)
                    clear hK K'
                    simp only [Act.put, List.setIfInBounds_toArray, List.set_cons_zero, List.set_cons_succ]
                    refine takeL (i := 7) (v := ?_) rfl (by kernel_rfl) (by kernel_rfl) (by kernel_rfl) (fun _ _ _ h => h) (Or.inl ⟨by rfl, ?_⟩) hS ?_
                    rotate_left
                    · intro V hV
                      go_simp
                      try with_reducible rfl
                    simp only [Act.put, List.setIfInBounds_toArray, List.set_cons_zero, List.set_cons_succ]
                    refine takeL (i := 8) (v := ?_) rfl (by kernel_rfl) (by kernel_rfl) (by kernel_rfl) (fun _ _ _ h => h) (Or.inl ⟨by rfl, ?_⟩) hS ?_
                    rotate_left
                    · intro V hV
                      go_simp
                      try with_reducible rfl
                    simp only [Act.put, List.setIfInBounds_toArray, List.set_cons_zero, List.set_cons_succ]
                    refine takeL (i := 9) (v := ?_) rfl (by kernel_rfl) (by kernel_rfl) (by kernel_rfl) (fun _ _ _ h => h) (Or.inl ⟨by rfl, ?_⟩) hS ?_
                    rotate_left
                    · intro V hV
                      go_simp
                      try with_reducible rfl
                    simp only [Act.put, List.setIfInBounds_toArray, List.set_cons_zero, List.set_cons_succ]
                    refine takeL (i := 10) (v := ?_) rfl (by kernel_rfl) (by kernel_rfl) (by kernel_rfl) (fun _ _ _ h => h) (Or.inl ⟨by rfl, ?_⟩) hS ?_
                    rotate_left
                    · intro V hV
                      go_simp
                      try with_reducible rfl
                    simp only [Act.put, List.setIfInBounds_toArray, List.set_cons_zero, List.set_cons_succ]
                    refine takeL (i := 11) (v := ?_) rfl (by kernel_rfl) (by kernel_rfl) (by kernel_rfl) (fun _ _ _ h => h) (Or.inl ⟨by rfl, ?_⟩) hS ?_
                    rotate_left
                    · intro V hV
                      go_simp
                      try with_reducible rfl
                    simp only [Act.put, List.setIfInBounds_toArray, List.set_cons_zero, List.set_cons_succ]
                    refine takeL (i := 12) (v := ?_) rfl (by kernel_rfl) (by kernel_rfl) (by kernel_rfl) (fun _ _ _ h => h) (Or.inl ⟨by rfl, ?_⟩) hS ?_
                    rotate_left
                    · intro V hV
                      go_simp
                      try with_reducible rfl
                    simp only [Act.put, List.setIfInBounds_toArray, List.set_cons_zero, List.set_cons_succ]
                    refine takeL (i := 13) (v := ?_) rfl (by kernel_rfl) (by kernel_rfl) (by kernel_rfl) (fun _ _ _ h => h) (Or.inl ⟨by rfl, ?_⟩) hS ?_
                    rotate_left
                    · intro V hV
                      go_simp
                      try with_reducible rfl
                    simp only [Act.put, List.setIfInBounds_toArray, List.set_cons_zero, List.set_cons_succ]
                    refine takeL (i := 16) (v := ?_) rfl (by kernel_rfl) (by kernel_rfl) (by kernel_rfl) (fun _ _ _ h => h) (Or.inl ⟨by rfl, ?_⟩) hS ?_
                    rotate_left
                    · intro V hV
                      go_simp
                      try with_reducible rfl
                    simp only [Act.put, List.setIfInBounds_toArray, List.set_cons_zero, List.set_cons_succ]
                    refine takeL (i := 17) (v := ?_) rfl (by kernel_rfl) (by kernel_rfl) (by kernel_rfl) (fun _ _ _ h => h) (Or.inl ⟨by rfl, ?_⟩) hS ?_
                    rotate_left
                    · intro V hV
                      go_simp
                      try with_reducible rfl
                    simp only [Act.put, List.setIfInBounds_toArray, List.set_cons_zero, List.set_cons_succ]
                    refine wpAnyH_ready (rs := [14]) (by kernel_rfl) (by simp) (readyL rfl ?_ AllReadyH.nil)
                    intro K' hK
                    rw [if_pos (by rfl)]
                    refine wpH_call _ _ ?_ ((HGT.out _ hS).mono ?_)
                    · go_simp
                    rintro e w10 ⟨A10, c10, rfl, s10, m10⟩
                    have cv10 := conv8 HND.out s10
                    refine ⟨_, rfl, ?_⟩
                    refine hK.out _ _ (Mods.trans hS m10) (fun hS => ?_)
                    clear hK K'
                    simp only [Act.put, List.setIfInBounds_toArray, List.set_cons_zero, List.set_cons_succ]
                    refine wpAnyH_ready (rs := [15]) (by kernel_rfl) (by simp) (readyL rfl ?_ AllReadyH.nil)
                    intro K' hK
                    rw [if_pos (by rfl)]
                    refine wpH_value (v := ?_) ?_ ?_
                    rotate_left
                    · go_simp
                      try with_reducible rfl
                    refine hK.out _ _ hS (fun hS => ?_)
                    clear hK K'
                    simp only [Act.put, List.setIfInBounds_toArray, List.set_cons_zero, List.set_cons_succ]
                    refine takeL (i := 18) (v := ?_) rfl (by kernel_rfl) (by kernel_rfl) (by kernel_rfl) (fun _ _ _ h => h) (Or.inl ⟨by rfl, ?_⟩) hS ?_
                    rotate_left
                    · intro V hV
                      go_simp
                      try with_reducible rfl
                    simp only [Act.put, List.setIfInBounds_toArray, List.set_cons_zero, List.set_cons_succ]
                    refine takeL (i := 19) (v := ?_) rfl (by kernel_rfl) (by kernel_rfl) (by kernel_rfl) (fun _ _ _ h => h) (Or.inl ⟨by rfl, ?_⟩) hS ?_
                    rotate_left
                    · intro V hV
                      go_simp
                      try with_reducible rfl
                    simp only [Act.put, List.setIfInBounds_toArray, List.set_cons_zero, List.set_cons_succ]
                    refine takeL (i := 20) (v := ?_) rfl (by kernel_rfl) (by kernel_rfl) (by kernel_rfl) (fun _ _ _ h => h) (Or.inl ⟨by rfl, ?_⟩) hS ?_
                    rotate_left
                    · intro V hV
                      go_simp
                      try with_reducible rfl
                    simp only [Act.put, List.setIfInBounds_toArray, List.set_cons_zero, List.set_cons_succ]
                    refine takeL (i := 22) (v := ?_) rfl (by kernel_rfl) (by kernel_rfl) (by kernel_rfl) (fun _ _ _ h => h) (Or.inl ⟨by rfl, ?_⟩) hS ?_
                    rotate_left
                    · intro V hV
                      go_simp
                      try with_reducible rfl
                    simp only [Act.put, List.setIfInBounds_toArray, List.set_cons_zero, List.set_cons_succ]
                    refine takeL (i := 23) (v := ?_) rfl (by kernel_rfl) (by kernel_rfl) (by kernel_rfl) (fun _ _ _ h => h) (Or.inl ⟨by rfl, ?_⟩) hS ?_
                    rotate_left
                    · intro V hV
                      go_simp
                      try with_reducible rfl
                    simp only [Act.put, List.setIfInBounds_toArray, List.set_cons_zero, List.set_cons_succ]
                    refine wpAnyH_ready (rs := [21]) (by kernel_rfl) (by simp) (readyL rfl ?_ AllReadyH.nil)
                    intro K' hK
                    rw [if_pos (by rfl)]
                    refine wpH_call _ _ ?_ ((HTN.out _ hS).mono ?_)
                    · go_simp
                    rintro e w11 ⟨rfl, m11⟩
                    refine ⟨_, rfl, ?_⟩
                    refine hK.out _ _ (Mods.trans hS m11) (fun hS => ?_)
                    clear hK K'
                    simp only [Act.put, List.setIfInBounds_toArray, List.set_cons_zero, List.set_cons_succ]
                    refine takeL (i := 24) (v := ?_) rfl (by kernel_rfl) (by kernel_rfl) (by kernel_rfl) (fun _ _ _ h => h) (Or.inl ⟨by rfl, ?_⟩) hS ?_
                    rotate_left
                    · intro V hV
                      go_simp
                      try with_reducible rfl
                    simp only [Act.put, List.setIfInBounds_toArray, List.set_cons_zero, List.set_cons_succ]
                    refine takeL (i := 25) (v := ?_) rfl (by kernel_rfl) (by kernel_rfl) (by kernel_rfl) (fun _ _ _ h => h) (Or.inl ⟨by rfl, ?_⟩) hS ?_
                    rotate_left
                    · intro V hV
                      go_simp
                      try with_reducible rfl
                    simp only [Act.put, List.setIfInBounds_toArray, List.set_cons_zero, List.set_cons_succ]
                    refine takeL (i := 26) (v := ?_) rfl (by kernel_rfl) (by kernel_rfl) (by kernel_rfl) (fun _ _ _ h => h) (Or.inl ⟨by rfl, ?_⟩) hS ?_
                    rotate_left
                    · intro V hV
                      go_simp
                      try with_reducible rfl
                    simp only [Act.put, List.setIfInBounds_toArray, List.set_cons_zero, List.set_cons_succ]
                    refine takeL (i := 27) (v := ?_) rfl (by kernel_rfl) (by kernel_rfl) (by kernel_rfl) (fun _ _ _ h => h) (Or.inl ⟨by rfl, ?_⟩) hS ?_
                    rotate_left
                    · intro V hV
                      go_simp
                      try with_reducible rfl
                    simp only [Act.put, List.setIfInBounds_toArray, List.set_cons_zero, List.set_cons_succ]
                    refine wpAnyH_done (by kernel_rfl) ?_ _
                    clear zz0 zz1 zz2 zz3 yy2 yy4
                    go_wp2_with fail
                    exact ⟨⟨j + 1, d', p, cb, A7, c7, B7, k7, by omega, by omega, rfl, by go_num, P8.out.nil hS, by have := HLN.out.2; have := HW.out; omega, HZ.out⟩, by simp [intOf]; omega⟩
              · clear ht
                as_aux_lemma =>
                  have HBS := Lib.hid (Bs.arg (base := w.heap.size) (w := w) (HS0.out) (Nat.le_refl _))
                  have HWR := Lib.hid (fun (W : World) (h : Q8 w W db cb g hh N A1 c1 B1 k1 d p d p) => h.crash (HBS.out.nil h.mods) HXS.out)
                  have HRW := Lib.hid (fun (W : World) (h : RdAt W A1 c1 B1 k1 d) => Q8.rcrash HOK.out (by omega) HLEN.out (by omega) HXS.out (by omega) W h)
                  have HLN : Hid ((d.crash xs).L.length = d.L.length ∧ (d.crash xs).W.length ≤ d.W.length) := Lib.hid ⟨crashL_length _ _ _, Nat.zero_le _⟩
                  have hdn : (d.crash xs).down = false := rfl
                  have hokc : (d.crash xs).Ok := HOK.out.crash xs
                  obtain ⟨d', hd'⟩ : ∃ d', d.crash xs = d' := ⟨_, rfl⟩
                  rw [hd'] at HRW HWR HLN hdn hokc
                  have hln : d'.L.length = N := HLN.out.1.trans HLEN.out
                  have hat : ∀ i : Int, 0 ≤ i → i < (N : Int) → d'.at_ i = 0 := fun i h0 h1 => by unfold PD.at_; rw [hdn, if_neg (by simp), if_neg (by omega)]
                  have HOP := Lib.hid (fun (W : World) (A7 : Option Addr) (c7 : Nat) (B7 : Option Addr) (k7 : Nat) (h : Q8 w W db cb g hh N A7 c7 B7 k7 d' p d' p) => h.open_ (by omega) (hat (at_ : Int) (by omega) (by omega)) (hat ((at_ : Int) + 1) (by omega) (by omega)))
                  have HRO := Lib.hid (fun (W : World) (A7 : Option Addr) (c7 : Nat) (B7 : Option Addr) (k7 : Nat) (h : RdAt W A7 c7 B7 k7 d') => Q8.ropen hokc hln (by omega) hdn (hat (at_ : Int) (by omega) (by omega)) (hat ((at_ : Int) + 1) (by omega) (by omega)) W h)
                  have HZN : Hid ((cellOpen d' at_).turn = 0 → (cellOpen d' at_).spare = 0) := Lib.hid op_zero
                  obtain ⟨p', hp'⟩ : ∃ p', cellOpen d' at_ = p' := ⟨_, rfl⟩
                  rw [hp'] at HOP HRO HZN
                  have HLN2 := Lib.hid hln
                  clear hd' hp' hdn hokc hln hat
                  have P4 := Lib.hid (HP.out.nil ((Mods.refl Nil wr).alloc (.cells #[.int .i64 kd, .int .i64 z, .slice A2 q c2, .int .u64 (t : Int)] 75)))
                  have AB4 := Lib.hid (Blk.new wr 75 #[.int .i64 kd, .int .i64 z, .slice A2 q c2, .int .u64 (t : Int)])
                  have AB4' := AB4.out
                  obtain ⟨⟨a0, a1, a2, a3⟩, -⟩ := AB4'.four6
                  clear AB4'
                  obtain rfl | rfl : r = 6 ∨ r = 7 := by omega
                  all_goals
                    go_wp2_with (first
                      | (go_at_call 29; refine (HWR.out _ P4.out).mono ?_; rintro e w6 ⟨rfl, p6, m6⟩; have P6 := Lib.hid p6; clear a0 a1 a2 a3; obtain ⟨⟨a0, a1, a2, a3⟩, -⟩ := (AB4.out.dm m6 (by decide)).four6; have cv6 := conv8 HXS.out (HBS.out.nil p6.mods).1; obtain ⟨⟨z0, z1, z2, z3⟩, -⟩ := p6.box.four6; have hc6 : Blk _ hh 71 #[.int .i64 (p.at_ : Int), .int .i64 (nowC p), .int .u64 (p.turn : Int), .int .u64 (p.great : Int), .string (strOf p.data), .int .i64 p.err] := p6.cbox; obtain ⟨⟨y0, y1, y2, y3, y4, y5⟩, -⟩ := hc6.sixC; clear hc6; clear p6 m6)
                      | (go_at_call 30; refine (HRW.out _ P6.out.ref).mono ?_; rintro e w7 ⟨A7, c7, B7, k7, rfl, r7, m7⟩; have P7 := Lib.hid (P6.out.nil m7); have R7 := Lib.hid r7; clear r7 m7 a0 a1 a2 a3 cv6; clear z0 z1 z2 z3 y0 y1 y2 y3 y4 y5)
                      | (refine wpList_store_mk rfl 31 (.tmp 10) (.tmp 93) rfl rfl g rfl 31 #[.slice A1 N c1, .slice B1 d.W.length k1, .int .i64 d.left, .bool d.down] #[.slice A7 N c7, .slice B7 d'.W.length k7, .int .i64 d'.left, .bool d'.down] rfl P7.out.box rfl (by simp [Value.oneCell']) rd_info (by simp [Value.cells]) ?_; intro w8a b8 m8; have P8a := Lib.hid (P7.out.setD R7.out HLN2.out b8 m8); clear b8 m8)
                      | (go_at_call 34; refine (HOP.out _ _ _ _ _ P8a.out).mono ?_; rintro e w8b ⟨cb9, rfl, p9, m9⟩; have P9 := Lib.hid p9; obtain ⟨⟨z0, z1, z2, z3⟩, -⟩ := p9.box.four6; have hc6 : Blk _ hh 71 #[.int .i64 (p.at_ : Int), .int .i64 (nowC p), .int .u64 (p.turn : Int), .int .u64 (p.great : Int), .string (strOf p.data), .int .i64 p.err] := p9.cbox; obtain ⟨⟨y0, y1, y2, y3, y4, y5⟩, -⟩ := hc6.sixC; clear hc6; clear p9 m9)
                      | (go_at_call 35; refine (HRO.out _ _ _ _ _ P9.out.ref).mono ?_; rintro e w8c ⟨rfl, m9⟩; have P10 := Lib.hid (P9.out.nil m9); clear m9; clear z0 z1 z2 z3 y0 y1 y2 y3 y4 y5)
                      | (refine wpList_store_mk rfl 71 (.tmp 14) (.tmp 104) rfl rfl hh rfl 71 #[.int .i64 (p.at_ : Int), .int .i64 (nowC p), .int .u64 (p.turn : Int), .int .u64 (p.great : Int), .string (strOf p.data), .int .i64 p.err] #[.int .i64 (p'.at_ : Int), .int .i64 (nowC p'), .int .u64 (p'.turn : Int), .int .u64 (p'.great : Int), .string (strOf p'.data), .int .i64 p'.err] rfl P10.out.cbox rfl (by simp [Value.oneCell']) rc_info (by simp [Value.cells]) ?_; intro w8 b9 m9; have P8 := Lib.hid (P10.out.setC (r' := p') b9 m9); clear b9 m9))
                    have zz0 : ∀ V, Mods Nil w8 V → V.cell? ⟨g, 0, none⟩ = some (.slice A7 N c7) := fun V hV => (P8.out.nil hV).box.four6.1.1
                    have zz1 : ∀ V, Mods Nil w8 V → V.cell? ⟨g, 1, none⟩ = some (.slice B7 d'.W.length k7) := fun V hV => (P8.out.nil hV).box.four6.1.2.1
                    have zz2 : ∀ V, Mods Nil w8 V → V.cell? ⟨g, 2, none⟩ = some (.int .i64 d'.left) := fun V hV => (P8.out.nil hV).box.four6.1.2.2.1
                    have zz3 : ∀ V, Mods Nil w8 V → V.cell? ⟨g, 3, none⟩ = some (.bool d'.down) := fun V hV => (P8.out.nil hV).box.four6.1.2.2.2
                    have yy2 : ∀ V, Mods Nil w8 V → V.cell? ⟨hh, 2, none⟩ = some (.int .u64 (p'.turn : Int)) := fun V hV => (show Blk V hh 71 #[.int .i64 (p'.at_ : Int), .int .i64 (nowC p'), .int .u64 (p'.turn : Int), .int .u64 (p'.great : Int), .string (strOf p'.data), .int .i64 p'.err] from (P8.out.nil hV).cbox).sixC.1.2.2.1
                    have yy4 : ∀ V, Mods Nil w8 V → V.cell? ⟨hh, 4, none⟩ = some (.string (strOf p'.data)) := fun V hV => (show Blk V hh 71 #[.int .i64 (p'.at_ : Int), .int .i64 (nowC p'), .int .u64 (p'.turn : Int), .int .u64 (p'.great : Int), .string (strOf p'.data), .int .i64 p'.err] from (P8.out.nil hV).cbox).sixC.1.2.2.2.2.1
                    obtain ⟨nd, hnd⟩ : ∃ nd, p'.data.length = nd := ⟨_, rfl⟩
                    obtain ⟨tn, htn⟩ : ∃ tn, p'.turn = tn := ⟨_, rfl⟩
                    have HND := Lib.hid hnd
                    have HAL := Lib.hid (fun (V : World) (hV : Mods Nil w8 V) => (P8.out.nil hV).alike (by omega))
                    have HGT := Lib.hid (fun (V : World) (hV : Mods Nil w8 V) => cget_any (P8.out.nil hV).all.2 hnd)
                    have HTN := Lib.hid (fun (V : World) (hV : Mods Nil w8 V) => cturnof_any (P8.out.nil hV).all.2 htn)
                    rw [htn] at yy2
                    clear hnd htn
                    refine wp_region_held_drew (S := (fun V => Mods Nil w8 V)) (by kernel_rfl) ((Mods.refl Nil w8).drew) (fun hS => ?_)
                    refine takeL (i := 0) (v := ?_) rfl (by kernel_rfl) (by kernel_rfl) (by kernel_rfl) (fun _ _ _ h => h) (Or.inl ⟨by rfl, ?_⟩) hS ?_
                    rotate_left
                    · intro V hV
                      go_simp
                      try with_reducible rfl
                    simp only [Act.put, List.setIfInBounds_toArray, List.set_cons_zero, List.set_cons_succ]
                    refine takeL (i := 1) (v := ?_) rfl (by kernel_rfl) (by kernel_rfl) (by kernel_rfl) (fun _ _ _ h => h) (Or.inl ⟨by rfl, ?_⟩) hS ?_
                    rotate_left
                    · intro V hV
                      go_simp
                      try with_reducible rfl
                    simp only [Act.put, List.setIfInBounds_toArray, List.set_cons_zero, List.set_cons_succ]
                    refine takeL (i := 2) (v := ?_) rfl (by kernel_rfl) (by kernel_rfl) (by kernel_rfl) (fun _ _ _ h => h) (Or.inl ⟨by rfl, ?_⟩) hS ?_
                    rotate_left
                    · intro V hV
                      go_simp
                      try with_reducible rfl
                    simp only [Act.put, List.setIfInBounds_toArray, List.set_cons_zero, List.set_cons_succ]
                    refine takeL (i := 3) (v := ?_) rfl (by kernel_rfl) (by kernel_rfl) (by kernel_rfl) (fun _ _ _ h => h) (Or.inl ⟨by rfl, ?_⟩) hS ?_
                    rotate_left
                    · intro V hV
                      go_simp
                      try with_reducible rfl
                    simp only [Act.put, List.setIfInBounds_toArray, List.set_cons_zero, List.set_cons_succ]
                    refine takeL (i := 4) (v := ?_) rfl (by kernel_rfl) (by kernel_rfl) (by kernel_rfl) (fun _ _ _ h => h) (Or.inl ⟨by rfl, ?_⟩) hS ?_
                    rotate_left
                    · intro V hV
                      go_simp
                      try with_reducible rfl
                    simp only [Act.put, List.setIfInBounds_toArray, List.set_cons_zero, List.set_cons_succ]
                    refine takeL (i := 5) (v := ?_) rfl (by kernel_rfl) (by kernel_rfl) (by kernel_rfl) (fun _ _ _ h => h) (Or.inl ⟨by rfl, ?_⟩) hS ?_
                    rotate_left
                    · intro V hV
                      go_simp
                      try with_reducible rfl
                    simp only [Act.put, List.setIfInBounds_toArray, List.set_cons_zero, List.set_cons_succ]
                    refine wpAnyH_ready (rs := [6]) (by kernel_rfl) (by simp) (readyL rfl ?_ AllReadyH.nil)
                    intro K' hK
                    rw [if_pos (by rfl)]
                    refine wpH_call _ _ ?_ ((HAL.out _ hS).mono ?_)
                    · go_simp
                    rintro e w9 ⟨rfl, m9⟩
                    refine ⟨_, rfl, ?_⟩
                    refine hK.out _ _ (Mods.trans hS m9) (fun hS => ?_)
                    clear hK K'
                    simp only [Act.put, List.setIfInBounds_toArray, List.set_cons_zero, List.set_cons_succ]
                    refine takeL (i := 7) (v := ?_) rfl (by kernel_rfl) (by kernel_rfl) (by kernel_rfl) (fun _ _ _ h => h) (Or.inl ⟨by rfl, ?_⟩) hS ?_
                    rotate_left
                    · intro V hV
                      go_simp
                      try with_reducible rfl
                    simp only [Act.put, List.setIfInBounds_toArray, List.set_cons_zero, List.set_cons_succ]
                    refine takeL (i := 8) (v := ?_) rfl (by kernel_rfl) (by kernel_rfl) (by kernel_rfl) (fun _ _ _ h => h) (Or.inl ⟨by rfl, ?_⟩) hS ?_
                    rotate_left
                    · intro V hV
                      go_simp
                      try with_reducible rfl
                    simp only [Act.put, List.setIfInBounds_toArray, List.set_cons_zero, List.set_cons_succ]
                    refine takeL (i := 9) (v := ?_) rfl (by kernel_rfl) (by kernel_rfl) (by kernel_rfl) (fun _ _ _ h => h) (Or.inl ⟨by rfl, ?_⟩) hS ?_
                    rotate_left
                    · intro V hV
                      go_simp
                      try with_reducible rfl
                    simp only [Act.put, List.setIfInBounds_toArray, List.set_cons_zero, List.set_cons_succ]
                    refine takeL (i := 10) (v := ?_) rfl (by kernel_rfl) (by kernel_rfl) (by kernel_rfl) (fun _ _ _ h => h) (Or.inl ⟨by rfl, ?_⟩) hS ?_
                    rotate_left
                    · intro V hV
                      go_simp
                      try with_reducible rfl
                    simp only [Act.put, List.setIfInBounds_toArray, List.set_cons_zero, List.set_cons_succ]
                    refine takeL (i := 11) (v := ?_) rfl (by kernel_rfl) (by kernel_rfl) (by kernel_rfl) (fun _ _ _ h => h) (Or.inl ⟨by rfl, ?_⟩) hS ?_
                    rotate_left
                    · intro V hV
                      go_simp
                      try with_reducible rfl
                    simp only [Act.put, List.setIfInBounds_toArray, List.set_cons_zero, List.set_cons_succ]
                    refine takeL (i := 12) (v := ?_) rfl (by kernel_rfl) (by kernel_rfl) (by kernel_rfl) (fun _ _ _ h => h) (Or.inl ⟨by rfl, ?_⟩) hS ?_
                    rotate_left
                    · intro V hV
                      go_simp
                      try with_reducible rfl
                    simp only [Act.put, List.setIfInBounds_toArray, List.set_cons_zero, List.set_cons_succ]
                    refine takeL (i := 13) (v := ?_) rfl (by kernel_rfl) (by kernel_rfl) (by kernel_rfl) (fun _ _ _ h => h) (Or.inl ⟨by rfl, ?_⟩) hS ?_
                    rotate_left
                    · intro V hV
                      go_simp
                      try with_reducible rfl
                    simp only [Act.put, List.setIfInBounds_toArray, List.set_cons_zero, List.set_cons_succ]
                    refine takeL (i := 16) (v := ?_) rfl (by kernel_rfl) (by kernel_rfl) (by kernel_rfl) (fun _ _ _ h => h) (Or.inl ⟨by rfl, ?_⟩) hS ?_
                    rotate_left
                    · intro V hV
                      go_simp
                      try with_reducible rfl
                    simp only [Act.put, List.setIfInBounds_toArray, List.set_cons_zero, List.set_cons_succ]
                    refine takeL (i := 17) (v := ?_) rfl (by kernel_rfl) (by kernel_rfl) (by kernel_rfl) (fun _ _ _ h => h) (Or.inl ⟨by rfl, ?_⟩) hS ?_
                    rotate_left
                    · intro V hV
                      go_simp
                      try with_reducible rfl
                    simp only [Act.put, List.setIfInBounds_toArray, List.set_cons_zero, List.set_cons_succ]
                    refine wpAnyH_ready (rs := [14]) (by kernel_rfl) (by simp) (readyL rfl ?_ AllReadyH.nil)
                    intro K' hK
                    rw [if_pos (by rfl)]
                    refine wpH_call _ _ ?_ ((HGT.out _ hS).mono ?_)
                    · go_simp
                    rintro e w10 ⟨A10, c10, rfl, s10, m10⟩
                    have cv10 := conv8 HND.out s10
                    refine ⟨_, rfl, ?_⟩
                    refine hK.out _ _ (Mods.trans hS m10) (fun hS => ?_)
                    clear hK K'
                    simp only [Act.put, List.setIfInBounds_toArray, List.set_cons_zero, List.set_cons_succ]
                    refine wpAnyH_ready (rs := [15]) (by kernel_rfl) (by simp) (readyL rfl ?_ AllReadyH.nil)
                    intro K' hK
                    rw [if_pos (by rfl)]
                    refine wpH_value (v := ?_) ?_ ?_
                    rotate_left
                    · go_simp
                      try with_reducible rfl
                    refine hK.out _ _ hS (fun hS => ?_)
                    clear hK K'
                    simp only [Act.put, List.setIfInBounds_toArray, List.set_cons_zero, List.set_cons_succ]
                    refine takeL (i := 18) (v := ?_) rfl (by kernel_rfl) (by kernel_rfl) (by kernel_rfl) (fun _ _ _ h => h) (Or.inl ⟨by rfl, ?_⟩) hS ?_
                    rotate_left
                    · intro V hV
                      go_simp
                      try with_reducible rfl
                    simp only [Act.put, List.setIfInBounds_toArray, List.set_cons_zero, List.set_cons_succ]
                    refine takeL (i := 19) (v := ?_) rfl (by kernel_rfl) (by kernel_rfl) (by kernel_rfl) (fun _ _ _ h => h) (Or.inl ⟨by rfl, ?_⟩) hS ?_
                    rotate_left
                    · intro V hV
                      go_simp
                      try with_reducible rfl
                    simp only [Act.put, List.setIfInBounds_toArray, List.set_cons_zero, List.set_cons_succ]
                    refine takeL (i := 20) (v := ?_) rfl (by kernel_rfl) (by kernel_rfl) (by kernel_rfl) (fun _ _ _ h => h) (Or.inl ⟨by rfl, ?_⟩) hS ?_
                    rotate_left
                    · intro V hV
                      go_simp
                      try with_reducible rfl
                    simp only [Act.put, List.setIfInBounds_toArray, List.set_cons_zero, List.set_cons_succ]
                    refine takeL (i := 22) (v := ?_) rfl (by kernel_rfl) (by kernel_rfl) (by kernel_rfl) (fun _ _ _ h => h) (Or.inl ⟨by rfl, ?_⟩) hS ?_
                    rotate_left
                    · intro V hV
                      go_simp
                      try with_reducible rfl
                    simp only [Act.put, List.setIfInBounds_toArray, List.set_cons_zero, List.set_cons_succ]
                    refine takeL (i := 23) (v := ?_) rfl (by kernel_rfl) (by kernel_rfl) (by kernel_rfl) (fun _ _ _ h => h) (Or.inl ⟨by rfl, ?_⟩) hS ?_
                    rotate_left
                    · intro V hV
                      go_simp
                      try with_reducible rfl
                    simp only [Act.put, List.setIfInBounds_toArray, List.set_cons_zero, List.set_cons_succ]
                    refine wpAnyH_ready (rs := [21]) (by kernel_rfl) (by simp) (readyL rfl ?_ AllReadyH.nil)
                    intro K' hK
                    rw [if_pos (by rfl)]
                    refine wpH_call _ _ ?_ ((HTN.out _ hS).mono ?_)
                    · go_simp
                    rintro e w11 ⟨rfl, m11⟩
                    refine ⟨_, rfl, ?_⟩
                    refine hK.out _ _ (Mods.trans hS m11) (fun hS => ?_)
                    clear hK K'
                    simp only [Act.put, List.setIfInBounds_toArray, List.set_cons_zero, List.set_cons_succ]
                    refine takeL (i := 24) (v := ?_) rfl (by kernel_rfl) (by kernel_rfl) (by kernel_rfl) (fun _ _ _ h => h) (Or.inl ⟨by rfl, ?_⟩) hS ?_
                    rotate_left
                    · intro V hV
                      go_simp
                      try with_reducible rfl
                    simp only [Act.put, List.setIfInBounds_toArray, List.set_cons_zero, List.set_cons_succ]
                    refine takeL (i := 25) (v := ?_) rfl (by kernel_rfl) (by kernel_rfl) (by kernel_rfl) (fun _ _ _ h => h) (Or.inl ⟨by rfl, ?_⟩) hS ?_
                    rotate_left
                    · intro V hV
                      go_simp
                      try with_reducible rfl
                    simp only [Act.put, List.setIfInBounds_toArray, List.set_cons_zero, List.set_cons_succ]
                    refine takeL (i := 26) (v := ?_) rfl (by kernel_rfl) (by kernel_rfl) (by kernel_rfl) (fun _ _ _ h => h) (Or.inl ⟨by rfl, ?_⟩) hS ?_
                    rotate_left
                    · intro V hV
                      go_simp
                      try with_reducible rfl
                    simp only [Act.put, List.setIfInBounds_toArray, List.set_cons_zero, List.set_cons_succ]
                    refine takeL (i := 27) (v := ?_) rfl (by kernel_rfl) (by kernel_rfl) (by kernel_rfl) (fun _ _ _ h => h) (Or.inl ⟨by rfl, ?_⟩) hS ?_
                    rotate_left
                    · intro V hV
                      go_simp
                      try with_reducible rfl
                    simp only [Act.put, List.setIfInBounds_toArray, List.set_cons_zero, List.set_cons_succ]
                    refine wpAnyH_done (by kernel_rfl) ?_ _
                    clear zz0 zz1 zz2 zz3 yy2 yy4
                    go_wp2_with fail
                    exact ⟨⟨j + 1, d', p', cb9, A7, c7, B7, k7, by omega, by omega, rfl, by go_num, P8.out.nil hS, by have := HLN.out.2; have := HW.out; omega, HZN.out⟩, by simp [intOf]; omega⟩
      · have hl4I : (30 : Int) ≤ (j : Int) := by omega
        go_wp2_with fail
        go_ret
        exact ⟨rfl, HP.out.mods⟩
    · have hltI : (n : Int) ≤ (j : Int) := by omega
      go_wp2_with fail
      go_ret
      exact ⟨rfl, HP.out.mods⟩
set_option maxHeartbeats 6400000 in
theorem cellPlays_walk (w : World) {a0 : Int} (wf : (Lit.int .i64 a0).wf = true) {a1 : Int} (wf1 : (Lit.int .i64 a1).wf = true) {A : Option Addr} {c n : Nat} {l : List (List Fv)} (h : Acts w A n c [.int .i64, .int .i64, .bytes, .int .u64] l) :
    Calls Try.prog 4 #[.int .i64 a0, .int .i64 a1, .slice A n c] w fun e w' => e = .returned (.bool true) ∧ Mods Nil w w' := by
  by_cases h1 : a0 < 1
  · have h1I : decide (a0 < 1) = true := by simpa using h1
    clear h wf wf1 h1
    go_enter Try.func4, Try.ntmps4
    go_wp2_with (go_at_call 33; refine (awake8_any _).mono ?_; rintro e w1 ⟨rfl, m1⟩; have M1 := Lib.hid m1; clear m1)
    go_ret
    exact ⟨rfl, M1.out⟩
  have h1I : decide (a0 < 1) = false := by simpa using h1
  by_cases h8 : 8 < a0
  · have h8I : decide ((8 : Int) < a0) = true := by simpa using h8
    clear h wf wf1 h1 h8
    go_enter Try.func4, Try.ntmps4
    go_wp2_with (go_at_call 33; refine (awake8_any _).mono ?_; rintro e w1 ⟨rfl, m1⟩; have M1 := Lib.hid m1; clear m1)
    go_ret
    exact ⟨rfl, M1.out⟩
  have h8I : decide ((8 : Int) < a0) = false := by simpa using h8
  obtain ⟨N, rfl⟩ : ∃ N : Nat, a0 = (N : Int) := ⟨a0.toNat, by omega⟩
  have hN1 : 1 ≤ N := by omega
  have hN8 : N ≤ 8 := by omega
  by_cases hin : 0 ≤ a1 ∧ a1 + 1 < (N : Int)
  · obtain ⟨at_, rfl⟩ : ∃ at_ : Nat, a1 = (at_ : Int) := ⟨a1.toNat, by omega⟩
    exact cellPlays_main w hN8 (by omega) h
  · have hbad : a1 < 0 ∨ (N : Int) - 1 ≤ a1 := by omega
    have HR := Lib.hid (fun W : World => rnew_any W (n := N) hN1 (by omega))
    have HOP : Hid (∀ (W : World) db, DiskAt W w.heap.size db (live (List.replicate N zeros64) []) → Calls Try.prog 34 #[.pointer (some ⟨db, 0, none⟩), .int .i64 a1] W fun e w' => e = .returned (.tuple #[.pointer none, .int .i64 1]) ∧ Mods Nil W w') := Lib.hid (fun W db hd => copen_bad hd (by simp [live]; omega) a1 (by simpa [live] using hbad))
    have HRO := Lib.hid (fun (W : World) (A3 : Option Addr) (c3 : Nat) => r8open_bad W (A := A3) (c := c3) (B := none) (m := 0) (k := 0) (left := -1) (n := N) (i := a1) (by omega) hbad)
    clear h wf wf1 h1 h8 hin hbad
    go_enter Try.func4, Try.ntmps4
    go_wp2_with (first
      | (go_at_call 33; refine (awake8_any _).mono ?_; rintro e w1 ⟨rfl, m1⟩; have M1 := Lib.hid m1; clear m1)
      | (go_at_call 13; refine (lnew w1 (base := w.heap.size) (n := N) M1.out.size rfl hN1 (by omega)).mono ?_; rintro e w2 ⟨db, rfl, d2, m2⟩; have D2 := Lib.hid d2; have M2 := Lib.hid (M1.out.trans m2); clear d2 m2)
      | (go_at_call 14; refine (HR.out _).mono ?_; rintro e w3 ⟨A3, c3, rfl, s3, m3, t3⟩; have D3 := Lib.hid (D2.out.nil m3); have M3 := Lib.hid (M2.out.trans m3); clear s3 t3 m3)
      | (go_at_call 34; refine (HOP.out _ _ (D3.out.nil ((Mods.refl Nil w3).alloc (.cells #[.slice A3 N c3, .slice none 0 0, .int .i64 (-1), .bool false] 31)))).mono ?_; rintro e w4 ⟨rfl, m4⟩; have B4 := Lib.hid ((Blk.new w3 31 #[.slice A3 N c3, .slice none 0 0, .int .i64 (-1), .bool false]).mods m4 (fun h => h)); have M4 := Lib.hid (M3.out.trans (((Mods.refl Nil w3).alloc _).trans m4)); obtain ⟨⟨z0, z1, z2, z3⟩, -⟩ := B4.out.four6; clear m4)
      | (go_at_call 35; refine (HRO.out _ _ _).mono ?_; rintro e w5 ⟨rfl, m5⟩; have M5 := Lib.hid (M4.out.trans m5); clear m5 z0 z1 z2 z3))
    go_loopw [12, 16] (fun x y wr => x = .pointer none ∧ y = .int .i64 0 ∧ Mods Nil w wr) (fun _ _ _ => 0)
    case atStart => exact ⟨rfl, rfl, by first | exact M5.out.alloc _ | exact (M5.out.alloc _).drew⟩
    case round =>
      obtain ⟨rfl, rfl, hmo⟩ := hrel
      have HMO := Lib.hid hmo
      clear hmo
      by_cases hz : n = 0
      · subst hz
        go_wp2_with fail
        go_ret
        exact ⟨rfl, HMO.out⟩
      · have hzI : (0 : Int) < (n : Int) := by omega
        go_wp2_with fail
        go_ret
        exact ⟨rfl, HMO.out⟩
end Go.Proofs.Ytdllgmhipenidaa
