/- Package segment: Append's other ways, Sync, Read. -/
import Derived.Test.YtgebcpfgihcoiaaSgm9
namespace Go.Proofs.Ytgebcpfgihcoiaa
set_option maxRecDepth 100000
open Go.RowKit
set_option linter.unusedVariables false
section
variable {w : World} {base db sb mb : Nat} {d : PD} {s : PSeg}
theorem sappend_nil (w : World) (A : Option Addr) (n c : Nat) : Calls Try.prog 14 #[.pointer none, .slice A n c] w fun e w' => e = .returned (.tuple #[.int .i64 0, .int .i64 1]) ∧ w = w' := by
  go_enter Try.func14, Try.ntmps14
  go_wp2_with fail
  go_ret2
  exact ⟨rfl, rfl⟩
theorem sappend_any (h : SegAt w base sb db d s) (hW : d.W.length ≤ 900) {A : Option Addr} {c n : Nat} {b : List UInt8} (hs : Sb base w A c b) (hn : b.length = n) :
    Calls Try.prog 14 #[.pointer (some ⟨sb, 0, none⟩), .slice A n c] w fun e w' => e = .returned (.tuple #[.int .i64 (s.append d b).2.2.1, .int .i64 (s.append d b).2.2.2]) ∧ SegAt w' base sb db (s.append d b).1 (s.append d b).2.1 ∧ SM base w w' := by
  obtain ⟨hD, mb, hS⟩ := h
  by_cases h4 : 4096 < n
  · have hx : s.append d b = (d, s, 0, 13) := by unfold PSeg.append; rw [if_pos (by omega)]
    have hI : (4096 : Int) < (n : Int) := by omega
    rw [hx]
    have HS := Lib.hid hS
    have HD := Lib.hid hD
    clear hS hD hs hn hx h4
    go_enter Try.func14, Try.ntmps14
    go_wp2_with fail
    go_ret2
    exact ⟨rfl, ⟨HD.out, mb, HS.out⟩, SM.refl _ _⟩
  have hI : (n : Int) ≤ 4096 := by omega
  by_cases he : s.err = 0
  · by_cases hf : s.n - s.used < needP n
    · have hx : s.append d b = (d, s, 0, 21) := by unfold PSeg.append; rw [if_neg (by omega), if_neg (by simp [he]), hn, if_pos hf]
      rw [hx]
      have c8 := hS.cells.2.2.2.2.2.2.2.2
      rw [he] at c8
      have HNEED := Lib.hid (sneed_any w n (by omega))
      have HFREE := Lib.hid (sfree_in hS)
      obtain ⟨fr, hfr⟩ : ∃ fr, s.n - s.used = fr := ⟨_, rfl⟩
      obtain ⟨m, hm⟩ : ∃ m, needP n = m := ⟨_, rfl⟩
      rw [hfr] at HFREE
      rw [hm] at HNEED
      have hfrI : (fr : Int) < (m : Int) := by omega
      have HS := Lib.hid hS
      have HD := Lib.hid hD
      clear hS hD hs hn hx h4 he hf hfr hm
      go_enter Try.func14, Try.ntmps14
      go_wp2_with (first
        | (go_at_call 34; refine HNEED.out.mono ?_; rintro e w1 ⟨rfl, rfl⟩)
        | (go_at_call 33; refine HFREE.out.mono ?_; rintro e w1 ⟨rfl, m1⟩; have M1 := Lib.hid m1; clear m1))
      go_ret2
      exact ⟨rfl, ⟨HD.out.nil M1.out, mb, HS.out.nil M1.out⟩, SM.nil M1.out⟩
    · exact sappend_go hS hD hW hs hn (by omega) he (by have := hS.ok.used; omega)
  · have hx : s.append d b = (d, s, 0, s.err) := by unfold PSeg.append; rw [if_neg (by omega), if_pos he]
    rw [hx]
    have c8 := hS.cells.2.2.2.2.2.2.2.2
    obtain ⟨er, her⟩ : ∃ er, s.err = er := ⟨_, rfl⟩
    rw [her] at c8 he ⊢
    have hz : (er != 0) = true := by simpa using he
    have HS := Lib.hid hS
    have HD := Lib.hid hD
    clear hS hD hs hn hx h4 he her
    go_enter Try.func14, Try.ntmps14
    go_wp2_with fail
    go_quiet (fail)
    go_wp2_with fail
    go_ret2
    exact ⟨rfl, ⟨HD.out.nil ((Mods.refl Nil _).drewN _), mb, HS.out.nil ((Mods.refl Nil _).drewN _)⟩, SM.nil ((Mods.refl Nil _).drewN _)⟩
theorem ssync_nil (w : World) : Calls Try.prog 17 #[.pointer none] w fun e w' => e = .returned (.int .i64 1) ∧ w = w' := by
  go_enter Try.func17, Try.ntmps17
  go_wp2_with fail
  go_ret
  exact ⟨rfl, rfl⟩
theorem PD.sync_err (d : PD) : -1000 ≤ d.sync.2 ∧ d.sync.2 ≤ 1000 := by
  have h2 : -1000 ≤ d.count.2 ∧ d.count.2 ≤ 1000 := by unfold PD.count; split <;> simp
  unfold PD.sync
  split
  · simp
  · split
    · exact h2
    · simp
set_option maxHeartbeats 3200000 in
theorem ssync_any (h : SegAt w base sb db d s) :
    Calls Try.prog 17 #[.pointer (some ⟨sb, 0, none⟩)] w fun e w' => e = .returned (.int .i64 (s.sync d).2.2) ∧ SegAt w' base sb db (s.sync d).1 (s.sync d).2.1 ∧ SM base w w' := by
  obtain ⟨hD, mb, hS⟩ := h
  obtain ⟨X, hX⟩ : ∃ X, s.sync d = X := ⟨_, rfl⟩
  rw [hX]
  by_cases he : s.err = 0
  · have herr := d.sync_err
    have HSY := Lib.hid (dsync_any hD)
    obtain ⟨D1, hD1⟩ : ∃ D, d.sync = D := ⟨_, rfl⟩
    rw [hD1] at HSY herr
    have hx : X = if D1.2 ≠ 0 then (D1.1, s.fail D1.2, D1.2) else (D1.1, { s with sure := s.L.length }, 0) := by
      rw [← hX]
      unfold PSeg.sync
      rw [if_neg (by simp [he]), hD1]
      rfl
    have HX := Lib.hid hx
    have HE := Lib.hid he
    have HERR := Lib.hid herr
    have c0 := hS.cells.1
    have c8 := hS.cells.2.2.2.2.2.2.2.2
    rw [he] at c8
    have HS := Lib.hid hS
    have HSET : Hid (∀ V, SegIn V base sb db mb s → DiskAt V base db D1.1 → SegIn (V.setCell ⟨sb, 8, none⟩ (.int .i64 D1.2)) base sb db mb (s.fail D1.2) ∧ DiskAt (V.setCell ⟨sb, 8, none⟩ (.int .i64 D1.2)) base db D1.1 ∧ SM base V (V.setCell ⟨sb, 8, none⟩ (.int .i64 D1.2))) := Lib.hid (fun V h hd => h.set hd 8 _ rfl rfl rfl (h.ok.fail HERR.out))
    have HSET2 : Hid (∀ V, SegIn V base sb db mb s → DiskAt V base db D1.1 → SegIn (V.setCell ⟨sb, 7, none⟩ (.int .i64 (s.L.length : Int))) base sb db mb { s with sure := s.L.length } ∧ DiskAt (V.setCell ⟨sb, 7, none⟩ (.int .i64 (s.L.length : Int))) base db D1.1 ∧ SM base V (V.setCell ⟨sb, 7, none⟩ (.int .i64 (s.L.length : Int)))) :=
      Lib.hid (fun V h hd => h.set hd 7 _ rfl rfl rfl ⟨h.ok.fit, h.ok.used, h.ok.len, Nat.le_refl _, Nat.le_trans h.ok.gone h.ok.sure, h.ok.epoch, h.ok.err⟩)
    obtain ⟨er, her⟩ : ∃ er, D1.2 = er := ⟨_, rfl⟩
    obtain ⟨DD, hDD⟩ : ∃ DD, D1.1 = DD := ⟨_, rfl⟩
    rw [her] at HX HSET
    rw [her, hDD] at HSY
    rw [hDD] at HX HSET HSET2
    clear hS hD he herr hx hX hD1 her hDD
    by_cases hz : er = 0
    · subst hz
      go_enter Try.func17, Try.ntmps17
      go_wp2_with (first
        | (go_at_call 47; refine HSY.out.mono ?_; rintro e w2 ⟨rfl, d2, m2⟩; have D2 := Lib.hid d2; have M2 := Lib.hid m2; have S2 := Lib.hid (HS.out.dm m2); have f8 := S2.out.blk.frozen 8; have c8 := S2.out.cells.2.2.2.2.2.2.2.2; have Q3 := Lib.hid (HSET.out _ S2.out D2.out); have e8 : (w2.setCell ⟨sb, 8, none⟩ (.int .i64 0)).cell? ⟨sb, 8, none⟩ = some (.int .i64 0) := Q3.out.1.cells.2.2.2.2.2.2.2.2; clear d2 m2)
        | (go_at_call 30; have Q4 : Hid (SegIn (w2.setCell ⟨sb, 8, none⟩ (.int .i64 0)) base sb db mb s) := (by have := Q3.out.1; have he := HE.out; have e : s.fail 0 = s := (by cases s; subst he; rfl); rw [e] at this; exact Lib.hid this); refine (slen_in Q4.out).mono ?_; rintro e w4 ⟨rfl, m4⟩; have S4 := Lib.hid (Q4.out.nil m4); have D4 := Lib.hid (Q3.out.2.1.nil m4); have M4 := Lib.hid (((SM.dm M2.out).trans Q3.out.2.2).trans (SM.nil m4)); have f7 := S4.out.blk.frozen 7; have c7 := S4.out.cells.2.2.2.2.2.2.2.1; have Q5 := Lib.hid (HSET2.out _ S4.out D4.out); clear m4))
      go_ret
      have hx := HX.out
      rw [if_neg (by simp)] at hx
      subst hx
      exact ⟨rfl, ⟨Q5.out.2.1, mb, Q5.out.1⟩, M4.out.trans Q5.out.2.2⟩
    · have hzI : (er != 0) = true := by simpa using hz
      go_enter Try.func17, Try.ntmps17
      go_wp2_with (first
        | (go_at_call 47; refine HSY.out.mono ?_; rintro e w2 ⟨rfl, d2, m2⟩; have D2 := Lib.hid d2; have M2 := Lib.hid m2; have S2 := Lib.hid (HS.out.dm m2); have f8 := S2.out.blk.frozen 8; have c8 := S2.out.cells.2.2.2.2.2.2.2.2; have Q3 := Lib.hid (HSET.out _ S2.out D2.out); have e8 : (w2.setCell ⟨sb, 8, none⟩ (.int .i64 er)).cell? ⟨sb, 8, none⟩ = some (.int .i64 er) := Q3.out.1.cells.2.2.2.2.2.2.2.2; clear d2 m2))
      go_ret
      have hx := HX.out
      rw [if_pos hz] at hx
      subst hx
      exact ⟨rfl, ⟨Q3.out.2.1, mb, Q3.out.1⟩, (SM.dm M2.out).trans Q3.out.2.2⟩
  · have hx : X = (d, s, s.err) := by rw [← hX]; unfold PSeg.sync; rw [if_pos he]
    subst hx
    have c8 := hS.cells.2.2.2.2.2.2.2.2
    obtain ⟨er, her⟩ : ∃ er, s.err = er := ⟨_, rfl⟩
    rw [her] at c8 he ⊢
    have hz : (er != 0) = true := by simpa using he
    have HS := Lib.hid hS
    have HD := Lib.hid hD
    clear hS hD he her hX
    go_enter Try.func17, Try.ntmps17
    go_wp2_with fail
    go_ret
    exact ⟨rfl, ⟨HD.out, mb, HS.out⟩, SM.refl _ _⟩
end
end Go.Proofs.Ytgebcpfgihcoiaa
