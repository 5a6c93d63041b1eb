/- Segments behind a sync and behind a crash: P7.4. No program. -/
import Derived.Test.YtgebcpfgihcoiaaSeg2
namespace Go.Proofs.Ytgebcpfgihcoiaa
set_option maxRecDepth 100000
set_option linter.unusedVariables false

theorem take_some {l : List (List UInt8)} {p pl e : Nat} {r : List UInt8 × Nat × Nat} (h : takeP l p pl e = some r) : p < l.length ∧ rightP (l.getD p []) = true ∧ 1 ≤ byteP (l.getD p []) 9 ∧ byteP (l.getD p []) 9 ≤ 92 ∧ e ≤ numP (l.getD p []) 0 ∧ p + byteP (l.getD p []) 9 ≤ l.length ∧
      (∀ i, i < byteP (l.getD p []) 9 → fitsP (l.getD (p + i) []) (numP (l.getD p []) 0) pl i (byteP (l.getD p []) 9) = true) := by
  unfold takeP at h
  split at h
  · assumption
  · cases h
theorem fits_right {b : List UInt8} {x pl i m : Nat} (h : fitsP b x pl i m = true) : rightP b = true ∧ numP b 0 = x := by
  unfold fitsP at h
  simp at h
  exact ⟨h.1.1, h.2.1⟩
/-- What is taken hangs on its own blocks alone. -/
theorem take_congr {l l' : List (List UInt8)} {p pl e : Nat} {r : List UInt8 × Nat × Nat} (hl : l'.length = l.length) (h : takeP l' p pl e = some r) (hc : ∀ i, i < byteP (l'.getD p []) 9 → l'.getD (p + i) [] = l.getD (p + i) []) : takeP l p pl e ≠ none := by
  obtain ⟨h1, h2, h3, h4, h5, h6, h7⟩ := take_some h
  have h0 := hc 0 (by omega)
  rw [Nat.add_zero] at h0
  unfold takeP
  rw [if_pos]
  · simp
  · rw [← h0, ← hl]
    exact ⟨h1, h2, h3, h4, h5, h6, fun i hi => by rw [← hc i hi]; exact h7 i hi⟩
theorem tear_byte {N O : List UInt8} {k : Nat} (hN : N.length = 64) (hO : O.length = 64) (hk : k ≤ 64) (i : Nat) : byteP (tear k N O) i = if i < k then byteP N i else byteP O i := by
  unfold byteP
  simp only [List.getD_eq_getElem?_getD]
  rw [tear_get hN hO hk]
  split <;> rfl
theorem tear_stamps {N O : List UInt8} {k E : Nat} (hN : N.length = 64) (hO : O.length = 64) (hk : k ≤ 64) (hE : E < 256) (n0 : numP N 0 = E) (n6 : numP N 60 = E) (o0 : numP O 0 < E) (o6 : numP O 60 < E) : numP (tear k N O) 0 ≤ E ∧ numP (tear k N O) 60 ≤ E := by
  unfold numP at *
  simp only [Nat.reduceAdd, Nat.zero_add, tear_byte hN hO hk] at *
  constructor
  · by_cases k0 : 0 < k <;> by_cases k1 : 1 < k <;> by_cases k2 : 2 < k <;> by_cases k3 : 3 < k <;> simp only [k0, k1, k2, k3, if_true, if_false] <;> omega
  · by_cases k0 : 60 < k <;> by_cases k1 : 61 < k <;> by_cases k2 : 62 < k <;> by_cases k3 : 63 < k <;> simp only [k0, k1, k2, k3, if_true, if_false] <;> omega
theorem stamp_aux : ∀ (l : List (List UInt8)) (t : Nat), t ≤ l.foldl (fun t b => max (max t (numP b 0)) (numP b 60)) t ∧ (∀ b ∈ l, numP b 0 ≤ l.foldl (fun t b => max (max t (numP b 0)) (numP b 60)) t ∧ numP b 60 ≤ l.foldl (fun t b => max (max t (numP b 0)) (numP b 60)) t) ∧ ∀ c, t ≤ c → (∀ b ∈ l, numP b 0 ≤ c ∧ numP b 60 ≤ c) → l.foldl (fun t b => max (max t (numP b 0)) (numP b 60)) t ≤ c
  | [], t => ⟨Nat.le_refl _, (fun b hb => by cases hb), fun c h _ => h⟩
  | x :: l, t => by
    obtain ⟨h1, h2, h3⟩ := stamp_aux l (max (max t (numP x 0)) (numP x 60))
    simp only [List.foldl_cons]
    refine ⟨by omega, fun b hb => ?_, fun c hc hb => h3 c ?_ (fun b h => hb b (List.mem_cons_of_mem _ h))⟩
    · rcases List.mem_cons.1 hb with rfl | hb
      · omega
      · exact h2 b hb
    · have := hb x List.mem_cons_self
      omega
theorem stampP_ge {l : List (List UInt8)} {b : List UInt8} (hb : b ∈ l) : numP b 0 ≤ stampP l ∧ numP b 60 ≤ stampP l := (stamp_aux l 0).2.1 b hb
theorem stampP_le {l : List (List UInt8)} {c : Nat} (h : ∀ b ∈ l, numP b 0 ≤ c ∧ numP b 60 ≤ c) : stampP l ≤ c := (stamp_aux l 0).2.2 c (Nat.zero_le _) h
theorem getD_mem {l : List (List UInt8)} {i : Nat} (h : i < l.length) : l.getD i [] ∈ l := by
  rw [List.getD_eq_getElem?_getD, List.getElem?_eq_getElem h]
  exact List.getElem_mem h
theorem mem_getD {l : List (List UInt8)} {b : List UInt8} (h : b ∈ l) : ∃ i, i < l.length ∧ l.getD i [] = b := by
  obtain ⟨i, hi, e⟩ := List.getElem_of_mem h
  exact ⟨i, hi, by rw [List.getD_eq_getElem?_getD, List.getElem?_eq_getElem hi, e]; rfl⟩
theorem last_stamp {l : List (List UInt8)} : ∀ {p pl e : Nat} {rs : Recs}, LaidAt l p pl rs → lastE e rs ≤ max e (stampP l)
  | p, pl, e, [], _ => by simp only [lastE]; omega
  | p, pl, e, r :: rs, h => by
    have ih := last_stamp (e := r.2) h.2
    have hn := needP_pos r.1.length
    have hb := h.1.2.2.2 0 (by omega)
    have hi : p + 0 < l.length := by have := h.1.2.2.1; omega
    have hs := (stampP_ge (getD_mem hi)).1
    rw [hb, blockP_num0 h.1.2.1] at hs
    simp only [lastE]
    omega
theorem len_used : ∀ (rs : Recs), rs.length ≤ usedP rs
  | [] => Nat.le_refl _
  | r :: rs => by have := len_used rs; have := needP_pos r.1.length; simp only [usedP, List.length_cons]; omega
theorem lastE_with {e E : Nat} : ∀ {ss : List (List UInt8)}, ss ≠ [] → lastE e (with_ E ss) = E
  | [], h => absurd rfl h
  | [s], _ => rfl
  | s :: t :: ss, _ => lastE_with (e := E) (ss := t :: ss) (by simp)
theorem up_with {E : Nat} : ∀ {e : Nat} {ss : List (List UInt8)}, e ≤ E → Up e (with_ E ss)
  | e, [], _ => trivial
  | e, s :: ss, h => ⟨h, up_with (Nat.le_refl E)⟩

/-- What is sure, on blocks that are sure, in an epoch. -/
structure Sv (L : List (List UInt8)) (old : Recs) (E : Nat) : Prop where
  b64 : ∀ b ∈ L, b.length = 64
  laid : LaidAt L 0 0 old
  up : Up 0 old
  le : lastE 0 old ≤ E
  low : ∀ i, i < L.length → numP (L.getD i []) 0 ≤ E ∧ numP (L.getD i []) 60 ≤ E
  far : ∀ i, usedP old ≤ i → i < L.length → numP (L.getD i []) 0 < E ∧ numP (L.getD i []) 60 < E
  stop : lastE 0 old < E → takeP L (usedP old) old.length (lastE 0 old) = none
theorem Sv.fit {L : List (List UInt8)} {old : Recs} {E : Nat} (h : Sv L old E) : usedP old ≤ L.length := by
  have := h.laid.fits (Nat.zero_le _)
  omega
/-- Stamps of a part's block. -/
theorem part_stamps {E pl k m : Nat} {p : List UInt8} (hp : p.length ≤ 45) (hE : E < 4294967296) : numP (blockP E pl k m p) 0 = E ∧ numP (blockP E pl k m p) 60 = E := ⟨blockP_num0 hE, blockP_num60 hp hE⟩
theorem Sv.sync {L : List (List UInt8)} {old : Recs} {E : Nat} (h : Sv L old E) (hE : E < 4294967296) {news : List (List UInt8)} (hs : ∀ s ∈ news, s.length ≤ 4096) (hf : usedP old + usedP (with_ E news) ≤ L.length) :
    Sv (layAll L (rowW (usedP old) (blocksOf E old.length news))) (old ++ with_ E news) E := by
  have hbl := blocksOf_length E old.length news
  have hget := lay_row (blocksOf E old.length news) (usedP old) L
  have hlen := layAll_length L (rowW (usedP old) (blocksOf E old.length news))
  have hnew : ∀ j, j < usedP (with_ E news) → ∃ pl k m p, (blocksOf E old.length news).getD j [] = blockP E pl k m p ∧ p.length ≤ 45 := fun j hj => blocksOf_mem (getD_mem (by rw [hbl]; exact hj))
  refine ⟨?_, ?_, ?_, ?_, ?_, ?_, ?_⟩
  · refine layAll_ok h.b64 (fun x hx => ?_)
    obtain ⟨pl, k, m, p, e, hp⟩ := blocksOf_mem (rowW_mem hx).2.2
    rw [e]
    exact blockP_length hp
  · refine LaidAt.append (h.laid.congr hlen (fun i _ hi => ?_)) ?_
    · rw [hget i (by have := h.fit; omega), if_neg (by omega)]
    · rw [Nat.zero_add, Nat.zero_add]
      refine laid_blocks hE hs (by rw [hlen]; exact hf) (fun j hj => ?_)
      rw [hget _ (by omega), if_pos (by omega), Nat.add_sub_cancel_left]
  · exact h.up.append (up_with h.le)
  · rw [lastE_append]
    by_cases hn : news = []
    · subst hn; exact h.le
    · rw [lastE_with hn]; exact Nat.le_refl _
  · intro i hi
    rw [hlen] at hi
    rw [hget i hi]
    split
    · obtain ⟨pl, k, m, p, e, hp⟩ := hnew (i - usedP old) (by omega)
      rw [e, (part_stamps hp hE).1, (part_stamps hp hE).2]
      exact ⟨Nat.le_refl _, Nat.le_refl _⟩
    · exact h.low i hi
  · intro i h1 hi
    rw [hlen] at hi
    rw [usedP_append] at h1
    rw [hget i hi, if_neg (by omega)]
    exact h.far i (by omega) hi
  · intro hlt
    rw [lastE_append] at hlt
    by_cases hn : news = []
    · subst hn
      have := h.stop hlt
      simpa [with_, blocksOf, rowW, layAll] using this
    · rw [lastE_with hn] at hlt
      omega
/-- Behind a crash a front of what was not sure stands, and nothing else. -/
theorem Sv.crash {L : List (List UInt8)} {old : Recs} {E : Nat} (h : Sv L old E) (hE : E < 256) {news : List (List UInt8)} (hs : ∀ s ∈ news, s.length ≤ 4096) (hf : usedP old + usedP (with_ E news) ≤ L.length) (hc : L.length < 4294967295) (ps : List UInt8) {L' : List (List UInt8)}
    (hL : crashL L (rowW (usedP old) (blocksOf E old.length news)) ps = L') :
    ∃ m, m ≤ news.length ∧ walkP L' (L'.length + 1) 0 0 0 = ((old ++ with_ E (news.take m)).map (·.1), usedP (old ++ with_ E (news.take m))) ∧ stampP L' ≤ E ∧ Sv L' (old ++ with_ E (news.take m)) (stampP L' + 1) := by
  have hE4 : E < 4294967296 := by omega
  have hbl := blocksOf_length E old.length news
  have hfit := h.fit
  have hlen : L'.length = L.length := by rw [← hL]; exact crashL_length _ _ _
  have hget : ∀ i, i < L.length → ∃ k, k ≤ 64 ∧ L'.getD i [] = if usedP old ≤ i ∧ i < usedP old + (blocksOf E old.length news).length then tear k ((blocksOf E old.length news).getD (i - usedP old) []) (L.getD i []) else L.getD i [] := fun i hi => by
    rw [← hL]
    exact crash_row _ _ _ _ i hi
  have hnew : ∀ j, j < usedP (with_ E news) → ∃ pl k m p, (blocksOf E old.length news).getD j [] = blockP E pl k m p ∧ p.length ≤ 45 := fun j hj => blocksOf_mem (getD_mem (by rw [hbl]; exact hj))
  have h64 : ∀ i, i < L.length → (L.getD i []).length = 64 := fun i hi => h.b64 _ (getD_mem hi)
  have hlow : ∀ i, i < L.length → numP (L'.getD i []) 0 ≤ E ∧ numP (L'.getD i []) 60 ≤ E := fun i hi => by
    obtain ⟨k, hk, e⟩ := hget i hi
    rw [e]
    split
    · obtain ⟨pl, k2, m, p, e2, hp⟩ := hnew (i - usedP old) (by omega)
      have := h.far i (by omega) hi
      rw [e2]
      exact tear_stamps (blockP_length hp) (h64 i hi) hk hE (part_stamps hp hE4).1 (part_stamps hp hE4).2 this.1 this.2
    · exact h.low i hi
  have hst : stampP L' ≤ E := stampP_le (fun b hb => by
    obtain ⟨i, hi, e⟩ := mem_getD hb
    rw [← e]
    exact hlow i (by omega))
  -- a right block behind what was sure is the new one, or the old one
  have hright : ∀ i, usedP old ≤ i → i < L.length → rightP (L'.getD i []) = true → (i < usedP old + usedP (with_ E news) ∧ L'.getD i [] = (blocksOf E old.length news).getD (i - usedP old) []) ∨ (L'.getD i [] = L.getD i [] ∧ numP (L.getD i []) 0 < E) := fun i h1 hi hr => by
    obtain ⟨k, hk, e⟩ := hget i hi
    have hfar := h.far i h1 hi
    by_cases hz : i < usedP old + usedP (with_ E news)
    · rw [if_pos ⟨h1, by rw [hbl]; exact hz⟩] at e
      obtain ⟨pl, k2, m, p, e2, hp⟩ := hnew (i - usedP old) (by omega)
      rw [e2] at e ⊢
      rw [e] at hr ⊢
      rcases torn_right (E := E) (blockP_length hp) (h64 i hi) hk hE (blockP_take4 _ _ _ _ _) (by omega) hfar.2 hr with h3 | h3
      · exact .inl ⟨hz, h3⟩
      · exact .inr ⟨h3, hfar.1⟩
    · rw [if_neg (by rw [hbl]; omega)] at e
      exact .inr ⟨e, hfar.1⟩
  obtain ⟨m, hm, hlaid, hnot⟩ := front_laid (l := L') hE4 (p := usedP old) (pl := old.length) (ss := news) hs (by rw [hlen]; exact hf)
  have hlaidAll : LaidAt L' 0 0 (old ++ with_ E (news.take m)) := by
    refine LaidAt.append (h.laid.congr hlen (fun i _ hi => ?_)) (by rw [Nat.zero_add, Nat.zero_add]; exact hlaid)
    obtain ⟨k, hk, e⟩ := hget i (by omega)
    rw [e, if_neg (by omega)]
  have hupAll : Up 0 (old ++ with_ E (news.take m)) := h.up.append (up_with h.le)
  have hstop : takeP L' (usedP (old ++ with_ E (news.take m))) (old ++ with_ E (news.take m)).length (lastE 0 (old ++ with_ E (news.take m))) = none := by
    cases ht : takeP L' (usedP (old ++ with_ E (news.take m))) (old ++ with_ E (news.take m)).length (lastE 0 (old ++ with_ E (news.take m))) with
    | none => rfl
    | some r =>
      exfalso
      obtain ⟨t1, t2, t3, t4, t5, t6, t7⟩ := take_some ht
      have hp : usedP (old ++ with_ E (news.take m)) = usedP old + usedP (with_ E (news.take m)) := usedP_append _ _
      rw [hp] at ht t1 t2 t3 t4 t5 t6 t7
      obtain ⟨p, hpe⟩ : ∃ p, usedP old + usedP (with_ E (news.take m)) = p := ⟨_, rfl⟩
      rw [hpe] at ht t1 t2 t3 t4 t5 t6 t7
      rcases hright p (by omega) (by omega) t2 with ⟨hz, hN⟩ | ⟨hO, hlt⟩
      · -- it begins at a new block: a record that does not stand whole
        have hmlt : m < news.length := by
          refine Classical.byContradiction fun hn => ?_
          have : news.take m = news := List.take_of_length_le (by omega)
          rw [this] at hpe
          omega
        have hut := used_take E hmlt
        have hb0 := blocksOf_at (E := E) (pl := old.length) hmlt (i := 0) (by have := needP_pos news[m].length; omega)
        rw [Nat.add_zero] at hb0
        have hpN : L'.getD p [] = blockP E (old.length + m) 0 (needP news[m].length) (partP news[m] 0) := by
          rw [hN, ← hb0]
          congr 1
          omega
        have hnl : needP news[m].length ≤ 92 := needP_le (hs _ (List.getElem_mem hmlt))
        have h9 : byteP (L'.getD p []) 9 = needP news[m].length := by rw [hpN]; exact blockP_9 (by omega)
        have hx : numP (L'.getD p []) 0 = E := by rw [hpN]; exact blockP_num0 hE4
        refine hnot hmlt (fun i hi => ?_)
        have hfi := fits_right (t7 i (by rw [h9]; exact hi))
        rw [hpe]
        rcases hright (p + i) (by omega) (by omega) hfi.1 with ⟨hz2, hN2⟩ | ⟨hO2, hlt2⟩
        · have hbi := blocksOf_at (E := E) (pl := old.length) hmlt hi
          rw [hN2, ← hbi]
          congr 1
          omega
        · exfalso
          have := hfi.2
          rw [hO2, hx] at this
          omega
      · -- it begins at an old block: then all of it is old
        have hxlt : numP (L'.getD p []) 0 < E := by rw [hO]; exact hlt
        have hle2 : lastE 0 (old ++ with_ E (news.take m)) < E := by omega
        have hm0 : news.take m = [] := by
          refine Classical.byContradiction fun hn => ?_
          rw [lastE_append, lastE_with hn] at hle2
          omega
        rw [hm0] at ht hpe hle2
        have hpu : p = usedP old := by rw [← hpe]; simp [with_, usedP]
        have hold : old ++ with_ E [] = old := by simp [with_]
        rw [hold] at ht hle2
        refine take_congr (l := L) hlen ht (fun i hi => ?_) (by rw [hpu]; exact h.stop hle2)
        have hfi := fits_right (t7 i hi)
        rcases hright (p + i) (by omega) (by omega) hfi.1 with ⟨hz2, hN2⟩ | ⟨hO2, -⟩
        · exfalso
          obtain ⟨pl, k2, m2, q, e2, hq⟩ := hnew (p + i - usedP old) (by omega)
          have := hfi.2
          rw [hN2, e2, (part_stamps hq hE4).1] at this
          omega
        · exact hO2
  have hrl := len_used (old ++ with_ E (news.take m))
  have hru := hlaidAll.fits (Nat.zero_le _)
  rw [Nat.zero_add] at hru
  refine ⟨m, hm, ?_, hst, ⟨?_, hlaidAll, hupAll, ?_, ?_, ?_, fun _ => hstop⟩⟩
  · have := walk_laid (f := L'.length + 1) hlaidAll hupAll (by omega) (by omega) (by rw [Nat.zero_add, Nat.zero_add]; exact hstop)
    rw [Nat.zero_add] at this
    exact this
  · intro b hb
    obtain ⟨i, hi, e⟩ := mem_getD hb
    rw [← e]
    obtain ⟨k, hk, e2⟩ := hget i (by omega)
    rw [e2]
    split
    · obtain ⟨pl, k2, m2, p, e3, hp⟩ := hnew (i - usedP old) (by omega)
      rw [e3]
      exact tear_length (blockP_length hp) (h64 i (by omega)) hk
    · exact h64 i (by omega)
  · have := last_stamp (e := 0) hlaidAll
    omega
  · intro i hi
    have := stampP_ge (getD_mem hi)
    omega
  · intro i _ hi
    have := stampP_ge (getD_mem hi)
    omega
/-- A disk of noughts. -/
theorem zeros_take (n p pl e : Nat) : takeP (List.replicate n zeros64) p pl e = none := by
  cases h : takeP (List.replicate n zeros64) p pl e with
  | none => rfl
  | some r =>
    exfalso
    obtain ⟨h1, -, h3, -⟩ := take_some h
    have : (List.replicate n zeros64).getD p [] = zeros64 := by
      rw [List.eq_of_mem_replicate (getD_mem h1)]
    rw [this] at h3
    simp [byteP, zeros64] at h3
theorem zeros_stamp (n : Nat) : stampP (List.replicate n zeros64) = 0 := by
  have := stampP_le (l := List.replicate n zeros64) (c := 0) (fun b hb => by
    rw [List.eq_of_mem_replicate hb]
    simp [numP, byteP, zeros64])
  omega
theorem Sv.new (n : Nat) : walkP (List.replicate n zeros64) (n + 1) 0 0 0 = ([], 0) ∧ Sv (List.replicate n zeros64) [] 1 := by
  have hz : ∀ b ∈ List.replicate n zeros64, numP b 0 = 0 ∧ numP b 60 = 0 := fun b hb => by
    rw [List.eq_of_mem_replicate hb]
    simp [numP, byteP, zeros64]
  refine ⟨walkP_none (zeros_take _ _ _ _), ⟨fun b hb => ?_, trivial, trivial, Nat.zero_le _, fun i hi => ?_, fun i _ hi => ?_, fun _ => zeros_take _ _ _ _⟩⟩
  · rw [List.eq_of_mem_replicate hb]; simp [zeros64]
  · have := hz _ (getD_mem hi); omega
  · have := hz _ (getD_mem hi); omega
end Go.Proofs.Ytgebcpfgihcoiaa
