/- The reference of layer 6: Write. -/
import Derived.Test.YtahahnapnfalcaaRef06c
namespace Go.Proofs.Ytahahnapnfalcaa
set_option maxRecDepth 100000
open Go.RowKit
set_option linter.unusedVariables false

section
variable {P : Program}
theorem run_append_v (w : World) (base : Nat) (t ty e : TypeId) (i : TypeInfo) (z : Value) (bytes : Nat) (ht : P.underlying t = some (.slice e)) (hi : P.info? e = some i) (hz : i.zero = some z)
    (hsize : i.size = 2) (hby : i.bytes = bytes) (hzs : z.cells.size = 2)
    (v : Value) (n : Nat) (V : List (Nat × List UInt8)) (hown : w.ownsRow base e 2 v n (vCs V))
    (A : Option Addr) (m c : Nat) (W : List (Nat × List UInt8)) (hm : W.length = m) (hsl : Sl2 w A c W)
    (hbytes : (n + m) * bytes ≤ 140737488355328) (h63 : n + m ≤ maxLen) (hbase : base ≤ w.heap.size) :
    ∃ v' w', (Builtin.append_ #[t, t] ty #[v, .slice A m c]).run P w = .ok v' w' ∧ w'.ownsRow base e 2 v' (n + m) (vCs (V ++ W)) ∧ w.grownBy w' v.ownBlock := by
  subst hm
  have ev : vCs (V ++ W) = vCs V ++ vCs W := by simp [vCs]
  rw [ev]
  cases A with
  | none =>
    have hc := hsl.nil rfl
    have hle := hsl.le
    have hW : W = [] := List.eq_nil_of_length_eq_zero (by omega)
    subst hW
    subst hc
    have hrun := run_append_owned_none (P := P) (w := w) base t ty e i 2 ht hi v n (vCs V) hown
    exact ⟨v, w, hrun, by simpa [vCs] using hown, ⟨rfl, rfl, rfl, Nat.le_refl _, fun _ _ _ => rfl⟩⟩
  | some a =>
    obtain ⟨v', w', h1, h2, h3, -⟩ := run_append_own (P := P) w base t ty e i z 2 bytes ht hi hz hsize hby hzs (by omega) v n (vCs V) hown a W.length c (vCs W) (vCs_length W) (fun j u hu => by
      rcases hsl.has with rfl | ⟨b, off, hA, hc⟩
      · simp [vCs] at hu
      · injection hA with hA
        subst hA
        rw [Addr.add_lit]
        exact hc j u hu) (vCs_one W) h63 hbytes hbase
    exact ⟨v', w', h1, h2, h3⟩
theorem wpList_append_v (w : World) {ops : Array Oper} {rest : List Oper} {o : Oper} {a : Act} {Q : Exit → Act → World → Prop}
    (hg : o.guard = none) (s x : Operand) (t : TypeId) (hop : o.op = Op.call { callee := Callee.builtin Builtin.append, args := #[s, x], argTypes := #[t, t] })
    (base : Nat) (e : TypeId) (i : TypeInfo) (z : Value) (bytes : Nat) (ht : P.underlying t = some (.slice e)) (hi : P.info? e = some i) (hz : i.zero = some z)
    (hsize : i.size = 2) (hby : i.bytes = bytes) (hzs : z.cells.size = 2)
    (v : Value) (n : Nat) (V : List (Nat × List UInt8)) (hs : a.eval s = v) (hown : w.ownsRow base e 2 v n (vCs V))
    (A : Option Addr) (m c : Nat) (W : List (Nat × List UInt8)) (hx : a.eval x = .slice A m c) (hm : W.length = m) (hsl : Sl2 w A c W)
    (hbytes : (n + m) * bytes ≤ 140737488355328) (h63 : n + m ≤ maxLen) (hbase : base ≤ w.heap.size)
    (hK : ∀ A' c' w', w'.ownsRow base e 2 (.slice A' (n + m) c') (n + m) (vCs (V ++ W)) → Sl2 w' A' c' (V ++ W) → w.grownBy w' v.ownBlock → wpList P ops Q rest (a.put o.dst (.slice A' (n + m) c')) w') :
    wpList P ops Q (o :: rest) a w := by
  refine wpList_plain hg fun K hK' => ?_
  obtain ⟨v', w', hrun, h2, h3⟩ := run_append_v (P := P) w base t o.type e i z bytes ht hi hz hsize hby hzs v n V hown A m c W hm hsl hbytes h63 hbase
  obtain ⟨A', c', rfl, hs2⟩ := own2_at h2
  unfold Oper.wp
  simp [execOp, hop, resolve, invoke, builtin, hs, hx, hrun, Result.andThen]
  exact hK' _ _ (hK A' c' w' h2 hs2 h3)
end
/-- A disk by value, and an error, told. -/
def RTold6 (w : World) (d : PD) (err : Int) (e : Ending) (w' : World) : Prop :=
  ∃ A c B k, e = .returned (.tuple #[.agg #[.slice A d.L.length c, .slice B d.W.length k, .int .i64 d.left, .bool d.down], .int .i64 err]) ∧ RdAt w' A c B k d ∧ Mods Nil w w'
theorem two_rd {w w' : World} {a b c e : Value} (hm : Mods Nil ((w.alloc (.cells #[a, b, c, e] 31)).alloc (.cells #[.slice none 0 0, .slice none 0 0, .int .i64 0, .bool false] 31)) w') :
    Blk w' w.heap.size 31 #[a, b, c, e] ∧ Blk w' (w.heap.size + 1) 31 #[.slice none 0 0, .slice none 0 0, .int .i64 0, .bool false] := by
  have h1 := ((Blk.new w 31 #[a, b, c, e]).alloc (.cells #[.slice none 0 0, .slice none 0 0, .int .i64 0, .bool false] 31)).mods hm (fun h => h)
  have h2 := (Blk.new (w.alloc (.cells #[a, b, c, e] 31)) 31 #[.slice none 0 0, .slice none 0 0, .int .i64 0, .bool false]).mods hm (fun h => h)
  simp at h2
  exact ⟨h1, h2⟩

theorem one_v (w : World) {i : Int} (hi : i = (i.toNat : Int)) (b : List UInt8) : Sl2 (w.alloc (.cells #[.int .i64 i, .string (strOf b)] 70)) (some ⟨w.heap.size, 0, none⟩) 1 [(i.toNat, b)] := by
  refine ⟨by simp, by simp [maxLen], (fun h => by cases h), .inr ⟨w.heap.size, 0, rfl, fun j u hu => ?_⟩⟩
  have hb := (Blk.new w 70 #[.int .i64 i, .string (strOf b)]).cell (0 + j)
  rw [hb, Nat.zero_add]
  simp only [vCs, List.flatMap_cons, List.flatMap_nil, List.append_nil, vC] at hu
  rw [← hi] at hu
  simpa using hu
set_option maxHeartbeats 3200000 in
theorem r6write_any (w : World) {A B : Option Addr} {n c m k : Nat} {left : Int} {down : Bool} {d : PD} (h : RdAt w A c B k d) (hn : d.L.length = n) (hm : d.W.length = m) (hl : d.left = left) (hd : d.down = down) (hlim : m ≤ 1000) (h0 : -1 ≤ left) (h1 : left ≤ 9223372036854775807) (i : Int) {b : List UInt8} {q : Nat} (hq : b.length = q) (hi : d.at_ i = 0 → i = (i.toNat : Int)) :
    Calls Try.prog 14 #[.agg #[.slice A n c, .slice B m k, .int .i64 left, .bool down], .int .i64 i, .string (strOf b)] w (RTold6 w (d.write i b).1 (d.write i b).2) := by
  obtain ⟨i0, hi0, hz0, hz1, hz2⟩ := info_parts infoV
  have M1 := Lib.hid (((Mods.refl Nil w).alloc (.cells #[.slice A n c, .slice B m k, .int .i64 left, .bool down] 31)).alloc (.cells #[.slice none 0 0, .slice none 0 0, .int .i64 0, .bool false] 31))
  have HA := Lib.hid (fun W => rat_any W (A := A) (B := B) (c := c) (m := m) (k := k) (left := left) hn hd i)
  have HC := Lib.hid (fun W => rcount_any W (A := A) (B := B) (n := n) (c := c) (m := m) (k := k) hl hd h0 h1)
  have H := Lib.hid h
  have HN := Lib.hid hn
  have HMM := Lib.hid hm
  have hsz : (strOf b).size = q := by simp [hq]
  by_cases ha : d.at_ i = 0
  · rw [ha] at HA
    by_cases hb : q = 64
    · subst hb
      by_cases hc : d.count.2 = 0
      · have e : d.write i b = ({ d.count.1 with W := d.W ++ [(i.toNat, b)] }, 0) := by unfold PD.write; rw [if_neg (by simp [ha]), if_neg (by simp [hq]), if_neg (by simp [hc])]
        rw [e]
        rw [hc] at HC
        have CL := d.count_L
        have HII := Lib.hid (hi ha)
        obtain ⟨left2, hl2⟩ : ∃ x, d.count.1.left = x := ⟨_, rfl⟩
        obtain ⟨down2, hd2⟩ : ∃ x, d.count.1.down = x := ⟨_, rfl⟩
        rw [hl2, hd2] at HC
        have HL2 := Lib.hid hl2
        have HD2 := Lib.hid hd2
        have HCL := Lib.hid CL
        clear h hn hm hl hd ha hc e h0 h1 hi CL hl2 hd2
        go_enter Try.func14, Try.ntmps14
        obtain ⟨b1, z1⟩ := two_rd (w := w) (a := .slice A n c) (b := .slice B m k) (c := .int .i64 left) (e := .bool down) (Mods.refl Nil _)
        obtain ⟨⟨x0, x1, x2, x3⟩, -⟩ := b1.four6
        have B1 := Lib.hid b1
        have Z1 := Lib.hid z1
        clear b1 z1
        go_wp2_with (first
          | (go_at_call 29; refine (HA.out _).mono ?_; rintro e w2 ⟨rfl, m2⟩; have M2 := Lib.hid (M1.out.trans m2); have B2 := Lib.hid (B1.out.mods m2 (fun h => h)); have Z2 := Lib.hid (Z1.out.mods m2 (fun h => h)); obtain ⟨⟨y0, y1, y2, y3⟩, -⟩ := B2.out.four6; clear m2)
          | (go_at_call 30; refine (HC.out _).mono ?_; rintro e w3 ⟨rfl, m3⟩; have M3 := Lib.hid (M2.out.trans m3); have B3 := Lib.hid (B2.out.mods m3 (fun h => h)); have Z3 := Lib.hid (Z2.out.mods m3 (fun h => h)); clear m3)
          | (refine wpList_store_mk rfl 31 (.tmp 3) (.tmp 24) rfl rfl w.heap.size rfl 31 #[.slice A n c, .slice B m k, .int .i64 left, .bool down] #[.slice A n c, .slice B m k, .int .i64 left2, .bool down2] rfl B3.out rfl (by simp [Value.oneCell']) rd_info (by simp [Value.cells]) ?_; intro w4 b4 m4; have B4 := Lib.hid b4; have Z4 := Lib.hid (Z3.out.mods m4 (by omega)); have M4 := Lib.hid (M3.out.trans2 m4 (fun i hi e => by subst e; exact Nat.lt_irrefl _ hi)); obtain ⟨⟨s0, s1, s2, s3⟩, -⟩ := b4.four6; clear b4 m4)
          | (at_builtin; refine wpList_append_v _ rfl (.tmp 30) (.tmp 32) 29 rfl w.heap.size 70 i0 (.agg #[.int .i64 0, .string ⟨#[]⟩]) 24 Try.underlying29 hi0 hz0 hz1 hz2 rfl (.slice none 0 0) 0 [] rfl (World.ownsRow_nil _ _ _ _) B m k d.W rfl HMM.out ((H.out.waits).mods M4.out) (by omega) (by unfold maxLen; omega) M4.out.size ?_; intro A5 c5 w5 o5 s5 g5; simp only [Nat.zero_add, List.nil_append] at o5 s5 ⊢; have m45 : Mods Nil w4 w5 := (Mods.refl Nil w4).grown g5 (fun k hk => by simp [Value.ownBlock] at hk); have B5 := Lib.hid (B4.out.mods m45 (fun h => h)); have Z5 := Lib.hid (Z4.out.mods m45 (fun h => h)); have M5 := Lib.hid (M4.out.trans m45); have O5 := Lib.hid o5; have NEW := Lib.hid (one_v w5 HII.out b); have O55 := Lib.hid (own_mods O5.out ((Mods.refl Nil w5).alloc (.cells #[.int .i64 i, .string (strOf b)] 70)) (fun _ _ h => h)); clear o5 s5 g5 m45)
          | (at_builtin; refine wpList_append_v _ rfl (.tmp 34) (.tmp 38) 29 rfl w.heap.size 70 i0 (.agg #[.int .i64 0, .string ⟨#[]⟩]) 24 Try.underlying29 hi0 hz0 hz1 hz2 rfl (.slice A5 m c5) m d.W rfl O55.out (some ⟨w5.heap.size, 0, none⟩) 1 1 [(i.toNat, b)] rfl rfl NEW.out (by omega) (by unfold maxLen; omega) (by have := M5.out.size; simp; omega) ?_; intro A6 c6 w6 o6 s6 g6; have b6 := (B5.out.alloc (.cells #[.int .i64 i, .string (strOf b)] 70)).grown g6 (fun e => own_blk_ne O5.out B5.out (by decide) e.symm); have z6 := (Z5.out.alloc (.cells #[.int .i64 i, .string (strOf b)] 70)).grown g6 (fun e => own_blk_ne O5.out Z5.out (by decide) e.symm); have M6 := Lib.hid ((M5.out.alloc (.cells #[.int .i64 i, .string (strOf b)] 70)).grown g6 (fun k hk hlt => absurd hlt (by have := (O5.out.lt k hk).1; omega))); obtain ⟨⟨t0, t1, t2, t3⟩, u0, u1, u2, u3⟩ := b6.four6; have hset : Mods (fun k => k = w.heap.size) w6 (w6.setCell ⟨w.heap.size, 1, none⟩ (.slice A6 (m + 1) c6)) := Mods.setCell (S := fun k => k = w.heap.size) (p := ⟨w.heap.size, 1, none⟩) (Mods.refl _ _) (fun _ => rfl) _; have O7 := Lib.hid (own_mods o6 hset (fun k hk e => own_blk_ne o6 b6 (by decide) (by rw [hk, e]))); have b7 := b6.set_ 1 (.slice A6 (m + 1) c6); simp only [List.setIfInBounds_toArray, List.set_cons_succ, List.set_cons_zero] at b7; obtain ⟨⟨v0, v1, v2, v3⟩, -⟩ := b7.four6; have Z7 := Lib.hid (z6.mods hset (by omega)); have M7 := Lib.hid (M6.out.setNew (p := ⟨w.heap.size, 1, none⟩) (Nat.le_refl _) (.slice A6 (m + 1) c6)); clear o6 s6 g6 b6 z6 hset b7)
          | (refine wpList_store_mk rfl 31 (.tmp 6) (.tmp 41) rfl rfl (w.heap.size + 1) rfl 31 #[.slice none 0 0, .slice none 0 0, .int .i64 0, .bool false] #[.slice A n c, .slice A6 (m + 1) c6, .int .i64 left2, .bool down2] rfl Z7.out rfl (by simp [Value.oneCell']) rd_info (by simp [Value.cells]) ?_; intro w8 b8 m8; obtain ⟨⟨s0, s1, s2, s3⟩, -⟩ := b8.four6; have O8 := Lib.hid (own_mods O7.out m8 (fun k hk e => own_blk_ne O7.out Z7.out (by decide) (by rw [hk, e]))); have M8 := Lib.hid (M7.out.trans2 m8 (fun i hi e => by subst e; omega)); clear b8 m8))
        obtain ⟨A9, c9, hv9, s9⟩ := own2_at O8.out
        injection hv9 with e1 e2 e3
        subst e1; subst e3
        refine bodyPost_ret (v := .tuple #[.agg #[.slice A n c, .slice A6 (m + 1) c6, .int .i64 left2, .bool down2], .int .i64 0]) (by simp [results, Try.results14, go_sem, s0, s1, s2, s3]) rfl ?_
        refine ⟨A, c, A6, c6, ?_, ⟨?_, s9, H.out.tyA.mods M8.out (fun _ _ h => h), own_ty6 O8.out⟩, M8.out⟩
        · simp only [List.length_append, List.length_cons, List.length_nil, Nat.zero_add, HCL.out.1, HN.out, HMM.out, HL2.out, HD2.out]
        · show Sl w8 A c (strs d.count.1.L)
          rw [HCL.out.1]
          exact H.out.sure.mods M8.out (fun _ _ h => h)
      · have e : d.write i b = d.count := by unfold PD.write; rw [if_neg (by simp [ha]), if_neg (by simp [hq]), if_pos hc]
        rw [e]
        have hc' : (d.count.2 != 0) = true := by simpa using hc
        have CL := d.count_L
        obtain ⟨left2, hl2⟩ : ∃ x, d.count.1.left = x := ⟨_, rfl⟩
        obtain ⟨down2, hd2⟩ : ∃ x, d.count.1.down = x := ⟨_, rfl⟩
        obtain ⟨err, herr⟩ : ∃ x, d.count.2 = x := ⟨_, rfl⟩
        rw [herr] at hc' HC ⊢
        rw [hl2, hd2] at HC
        have HL2 := Lib.hid hl2
        have HD2 := Lib.hid hd2
        have HCL := Lib.hid CL
        clear h hn hm hl hd ha hc e h0 h1 hi CL hl2 hd2 herr
        go_enter Try.func14, Try.ntmps14
        obtain ⟨b1, z1⟩ := two_rd (w := w) (a := .slice A n c) (b := .slice B m k) (c := .int .i64 left) (e := .bool down) (Mods.refl Nil _)
        obtain ⟨⟨x0, x1, x2, x3⟩, -⟩ := b1.four6
        have B1 := Lib.hid b1
        have Z1 := Lib.hid z1
        clear b1 z1
        go_wp2_with (first
          | (go_at_call 29; refine (HA.out _).mono ?_; rintro e w2 ⟨rfl, m2⟩; have M2 := Lib.hid (M1.out.trans m2); have B2 := Lib.hid (B1.out.mods m2 (fun h => h)); have Z2 := Lib.hid (Z1.out.mods m2 (fun h => h)); obtain ⟨⟨y0, y1, y2, y3⟩, -⟩ := B2.out.four6; clear m2)
          | (go_at_call 30; refine (HC.out _).mono ?_; rintro e w3 ⟨rfl, m3⟩; have M3 := Lib.hid (M2.out.trans m3); have B3 := Lib.hid (B2.out.mods m3 (fun h => h)); have Z3 := Lib.hid (Z2.out.mods m3 (fun h => h)); clear m3)
          | (refine wpList_store_mk rfl 31 (.tmp 3) (.tmp 24) rfl rfl w.heap.size rfl 31 #[.slice A n c, .slice B m k, .int .i64 left, .bool down] #[.slice A n c, .slice B m k, .int .i64 left2, .bool down2] rfl B3.out rfl (by simp [Value.oneCell']) rd_info (by simp [Value.cells]) ?_; intro w4 b4 m4; have B4 := Lib.hid b4; have Z4 := Lib.hid (Z3.out.mods m4 (by omega)); have M4 := Lib.hid (M3.out.trans2 m4 (fun i hi e => by subst e; exact Nat.lt_irrefl _ hi)); obtain ⟨⟨t0, t1, t2, t3⟩, -⟩ := b4.four6; clear b4 m4)
          | (refine wpList_store_mk rfl 31 (.tmp 6) (.tmp 28) rfl rfl (w.heap.size + 1) rfl 31 #[.slice none 0 0, .slice none 0 0, .int .i64 0, .bool false] #[.slice A n c, .slice B m k, .int .i64 left2, .bool down2] rfl Z4.out rfl (by simp [Value.oneCell']) rd_info (by simp [Value.cells]) ?_; intro w8 b8 m8; obtain ⟨⟨s0, s1, s2, s3⟩, -⟩ := b8.four6; have M8 := Lib.hid (M4.out.trans2 m8 (fun i hi e => by subst e; omega)); clear b8 m8))
        refine bodyPost_ret (v := .tuple #[.agg #[.slice A n c, .slice B m k, .int .i64 left2, .bool down2], .int .i64 err]) (by simp [results, Try.results14, go_sem, s0, s1, s2, s3]) rfl ?_
        refine ⟨A, c, B, k, by simp only [HCL.out.1, HCL.out.2, HN.out, HMM.out, HL2.out, HD2.out], (H.out.of HCL.out.1 HCL.out.2).mods M8.out, M8.out⟩
    · have e : d.write i b = (d, 1) := by unfold PD.write; rw [if_neg (by simp [ha]), if_pos (by omega)]
      rw [e]
      have hbI : decide ((q : Int) = 64) = false := by simp; omega
      have HL := Lib.hid hl
      have HD := Lib.hid hd
      clear h hn hm hl hd ha e h0 h1 hi HC
      go_enter Try.func14, Try.ntmps14
      obtain ⟨b1, z1⟩ := two_rd (w := w) (a := .slice A n c) (b := .slice B m k) (c := .int .i64 left) (e := .bool down) (Mods.refl Nil _)
      obtain ⟨⟨x0, x1, x2, x3⟩, -⟩ := b1.four6
      have B1 := Lib.hid b1
      have Z1 := Lib.hid z1
      clear b1 z1
      go_wp2_with (first
        | (go_at_call 29; refine (HA.out _).mono ?_; rintro e w2 ⟨rfl, m2⟩; have M2 := Lib.hid (M1.out.trans m2); have B2 := Lib.hid (B1.out.mods m2 (fun h => h)); have Z2 := Lib.hid (Z1.out.mods m2 (fun h => h)); obtain ⟨⟨y0, y1, y2, y3⟩, -⟩ := B2.out.four6; clear m2)
        | (refine wpList_store_mk rfl 31 (.tmp 6) (.tmp 20) rfl rfl (w.heap.size + 1) rfl 31 #[.slice none 0 0, .slice none 0 0, .int .i64 0, .bool false] #[.slice A n c, .slice B m k, .int .i64 left, .bool down] rfl Z2.out rfl (by simp [Value.oneCell']) rd_info (by simp [Value.cells]) ?_; intro w8 b8 m8; obtain ⟨⟨s0, s1, s2, s3⟩, -⟩ := b8.four6; have M8 := Lib.hid (M2.out.trans2 m8 (fun i hi e => by subst e; omega)); clear b8 m8))
      refine bodyPost_ret (v := .tuple #[.agg #[.slice A n c, .slice B m k, .int .i64 left, .bool down], .int .i64 1]) (by simp [results, Try.results14, go_sem, s0, s1, s2, s3]) rfl ?_
      refine ⟨A, c, B, k, by simp only [HN.out, HMM.out, HL.out, HD.out], H.out.mods M8.out, M8.out⟩
  · have e : d.write i b = (d, d.at_ i) := by unfold PD.write; rw [if_pos ha]
    rw [e]
    have ha' : (d.at_ i != 0) = true := by simpa using ha
    obtain ⟨err, herr⟩ : ∃ x, d.at_ i = x := ⟨_, rfl⟩
    rw [herr] at ha' HA ⊢
    have HL := Lib.hid hl
    have HD := Lib.hid hd
    clear h hn hm hl hd ha e h0 h1 hi HC herr
    go_enter Try.func14, Try.ntmps14
    obtain ⟨b1, z1⟩ := two_rd (w := w) (a := .slice A n c) (b := .slice B m k) (c := .int .i64 left) (e := .bool down) (Mods.refl Nil _)
    obtain ⟨⟨x0, x1, x2, x3⟩, -⟩ := b1.four6
    have B1 := Lib.hid b1
    have Z1 := Lib.hid z1
    clear b1 z1
    go_wp2_with (first
      | (go_at_call 29; refine (HA.out _).mono ?_; rintro e w2 ⟨rfl, m2⟩; have M2 := Lib.hid (M1.out.trans m2); have B2 := Lib.hid (B1.out.mods m2 (fun h => h)); have Z2 := Lib.hid (Z1.out.mods m2 (fun h => h)); obtain ⟨⟨y0, y1, y2, y3⟩, -⟩ := B2.out.four6; clear m2)
      | (refine wpList_store_mk rfl 31 (.tmp 6) (.tmp 15) rfl rfl (w.heap.size + 1) rfl 31 #[.slice none 0 0, .slice none 0 0, .int .i64 0, .bool false] #[.slice A n c, .slice B m k, .int .i64 left, .bool down] rfl Z2.out rfl (by simp [Value.oneCell']) rd_info (by simp [Value.cells]) ?_; intro w8 b8 m8; obtain ⟨⟨s0, s1, s2, s3⟩, -⟩ := b8.four6; have M8 := Lib.hid (M2.out.trans2 m8 (fun i hi e => by subst e; omega)); clear b8 m8))
    refine bodyPost_ret (v := .tuple #[.agg #[.slice A n c, .slice B m k, .int .i64 left, .bool down], .int .i64 err]) (by simp [results, Try.results14, go_sem, s0, s1, s2, s3]) rfl ?_
    refine ⟨A, c, B, k, by simp only [HN.out, HMM.out, HL.out, HD.out], H.out.mods M8.out, M8.out⟩
end Go.Proofs.Ytahahnapnfalcaa
