/- What is told stood there at one moment; no condition. -/
import Derived.Test.YtalmadeibnekoaaAl
namespace Go.Proofs.Ytalmadeibnekoaa
open Go.RowKit
attribute [local go_sem ↓] Go.wp_at_zero Go.wp_at_succ

def kap (m g gw f hb k : Nat) : Nat := if k < m then 0 else if k = g ∨ k = gw then 1 else if k = f then 2 else if hb ≤ k then 3 else 0
theorem HadAt.snoc {w : World} {hb p : Nat} {bs : List Nat} {had : List (List Int)} (h : HadAt w hb bs had) (v : Int) (hp : bs.length = p) (hc : (w.cell? ⟨hb, p, none⟩).isSome = true) :
    HadAt ((w.alloc (.cells #[Value.int .i64 v] 3)).setCell ⟨hb, p, none⟩ (.slice (some ⟨w.heap.size, 0, none⟩) 1 1)) hb (bs ++ [w.heap.size]) (had ++ [[v]]) := by
  subst hp
  have hB : Below w.heap.size w (w.alloc (.cells #[Value.int .i64 v] 3)) := bnew _ _
  have hlt := h.lt
  have hss : SpX [hb] (w.alloc (.cells #[Value.int .i64 v] 3)) ((w.alloc (.cells #[Value.int .i64 v] 3)).setCell ⟨hb, bs.length, none⟩ (.slice (some ⟨w.heap.size, 0, none⟩) 1 1)) := sp_set
  have hl2 : hb < (w.alloc (.cells #[Value.int .i64 v] 3)).heap.size := by simp; omega
  have h1 : HadAt (w.alloc (.cells #[Value.int .i64 v] 3)) hb bs had := h.spx (X := []) (.of_below hB) (by simp) (by simp)
  have hlb : ∀ (q : Nat) bq, bs[q]? = some bq → bq < w.heap.size := fun q bq hq => h.lb bq (List.mem_of_getElem? hq)
  refine ⟨by simp [h.len], fun q bq xs hq hx => ?_, fun j => ?_, by simpa [World.setCell] using hl2, fun q r bq hq hr => ?_⟩
  · by_cases e : q < bs.length
    · rw [List.getElem?_append_left e] at hq
      rw [List.getElem?_append_left (by rw [← h.len]; exact e)] at hx
      obtain ⟨c, q1, q2⟩ := h1.row q bq xs hq hx
      have hbq : bq ≠ hb := by
        rcases q2.pl with ⟨e, _⟩ | ⟨_, e⟩
        · cases e
        · exact e
      refine ⟨c, ?_, q2.spx hss (.inr (by simpa using hbq))⟩
      rw [World.cell?_setCell_other _ _ _ _ (by intro h'; injection h' with _ h'; omega)]
      exact q1
    · have hl := (List.getElem?_eq_some_iff.1 hq).1
      simp only [List.length_append, List.length_cons, List.length_nil] at hl
      obtain rfl : q = bs.length := by omega
      simp at hq
      rw [h.len] at hx
      simp at hx
      subst hq hx
      refine ⟨1, ?_, (own_row (f := hb) (xs := [v]) (RowAt.new w 3 #[Value.int .i64 v]) (by omega) (by simp)).spx hss (.inr (by simp; omega))⟩
      rw [World.cell?_setCell_same' _ _ _ (by rw [hB.cell (p := ⟨hb, bs.length, none⟩) hlt]; exact hc)]
      rfl
  · rw [World.frozen?_setCell, hB.frozen (p := ⟨hb, j, none⟩) hlt]
    exact h.fz j
  · have hg : ∀ q, (bs ++ [w.heap.size])[q]? = some bq → (bs[q]? = some bq ∧ bq < w.heap.size) ∨ (q = bs.length ∧ bq = w.heap.size) := fun q hq => by
      by_cases e : q < bs.length
      · rw [List.getElem?_append_left e] at hq
        exact .inl ⟨hq, hlb q bq hq⟩
      · have hl := (List.getElem?_eq_some_iff.1 hq).1
        simp only [List.length_append, List.length_cons, List.length_nil] at hl
        obtain rfl : q = bs.length := by omega
        simp at hq
        exact .inr ⟨rfl, hq.symm⟩
    rcases hg q hq with ⟨q1, q2⟩ | ⟨q1, q2⟩
    · rcases hg r hr with ⟨r1, r2⟩ | ⟨r1, r2⟩
      · exact h.nd q r bq q1 r1
      · omega
    · rcases hg r hr with ⟨r1, r2⟩ | ⟨r1, r2⟩
      · omega
      · omega
set_option maxRecDepth 100000 in
set_option maxHeartbeats 8000000 in
theorem lmoment_any (a1 a2 a3 a4 a5 : Int) (S P1 P2 : Option Addr) (sn sc pn1 pc1 pn2 pc2 : Nat) (sl : List Sl) (p1 p2 : List Int) (L : Option Addr) (ln lc : Nat) (l : List Wr) (w : World) (h1 : 0 ≤ a1 ∧ a1 ≤ 255) (h2 : 0 ≤ a2 ∧ a2 ≤ 255) (h3 : 0 ≤ a3 ∧ a3 ≤ 255) (h4 : 0 ≤ a4 ∧ a4 ≤ 255) (h5 : 0 ≤ a5 ∧ a5 ≤ 255) (hG : GivenAt w S P1 P2 sn pn1 pn2 sl p1 p2) (hWS : WS w w.heap.size L l) (hn : l.length = ln) (hO : ∀ x ∈ l, Wr.Ok x) :
    Calls Try.prog 4 #[Value.agg #[Value.int .u8 a1, Value.int .u8 a2, Value.int .u8 a3, Value.int .u8 a4, Value.int .u8 a5, .slice S sn sc, .slice P1 pn1 pc1, .slice P2 pn2 pc2], .slice L ln lc] w fun e w' => e = .returned (.bool true) ∧ Below w.heap.size w w' := by
  have HWS := Lib.hid hWS
  have Hn := Lib.hid hn
  have HO := Lib.hid hO
  clear hWS hn hO
  have hB := bnew w (.cells #[Value.int .u8 a1, Value.int .u8 a2, Value.int .u8 a3, Value.int .u8 a4, Value.int .u8 a5, .slice S sn sc, .slice P1 pn1 pc1, .slice P2 pn2 pc2] 27)
  have r0 := RowAt.new w 27 #[Value.int .u8 a1, Value.int .u8 a2, Value.int .u8 a3, Value.int .u8 a4, Value.int .u8 a5, .slice S sn sc, .slice P1 pn1 pc1, .slice P2 pn2 pc2]
  have HG := Lib.hid (hG.on hB)
  clear hG
  go_enter Try.func4, Try.ntmps4
  go_wp2_with fail
  refine (awake_any _).mono ?_
  rintro e w1 ⟨rfl, hb⟩
  replace r0 := r0.below hb r0.lt
  replace hB := hB.trans (hb.mono hB.size)
  have HG1 := Lib.hid (HG.out.on hb)
  clear hb HG
  by_cases hn20 : ln ≤ 20
  case neg =>
    have h41 : (20 : Int) < (ln : Int) := by omega
    go_wp2_with fail
    go_ret
    exact ⟨rfl, hB⟩
  have h41 : ¬ (20 : Int) < (ln : Int) := by omega
  go_wp2_with (refine wpList_load_row rfl 27 _ rfl _ rfl 27 _ (0, 0) _ r0 Try.underlying27 rfl (by kernel_rfl) ?_)
  refine (made_any a1 a2 a3 a4 a5 S P1 P2 sn sc pn1 pc1 pn2 pc2 sl p1 p2 _ h1 h2 h3 h4 h5 HG1.out).mono ?_
  rintro e w2 ⟨c, gW, cW, xs, hf, rfl, hcW, hL, hgd, hib, hgW, hb⟩
  have hB2 := hB.trans (hb.mono hB.size)
  have HW2 := Lib.hid (hib.on (bnew w2 (.cells #[Value.int .i64 c.wo, Value.int .i64 c.sl, Value.int .i64 c.st, Value.int .i64 c.wa, Value.int .i64 c.us] 31)))
  have hW0 : w.heap.size ≤ gW := by have := hB.size; omega
  have hW1 := hib.1
  have rc2 := RowAt.new w2 31 #[Value.int .i64 c.wo, Value.int .i64 c.sl, Value.int .i64 c.st, Value.int .i64 c.wa, Value.int .i64 c.us]
  have hB3 := hB2.trans ((bnew w2 (.cells #[Value.int .i64 c.wo, Value.int .i64 c.sl, Value.int .i64 c.st, Value.int .i64 c.wa, Value.int .i64 c.us] 31)).mono hB2.size)
  have hBs := hB2.size
  have Hc := Lib.hid hf.rc
  have q1 := hf.wo
  have q2 := hf.sl
  have HGd := Lib.hid hgd
  have n9 := (cellsN_eq hf.rc).2
  obtain ⟨N, hN⟩ : ∃ N, N = cellsN c := ⟨_, rfl⟩
  rw [← hN] at hL n9 hcW ⊢
  have HN := Lib.hid hN
  have HL := Lib.hid hL
  clear hb hib hgd r0 hB hB2 HG1 hf hN hL
  go_wp2_with (refine wpList_load_row rfl 31 _ rfl _ rfl 31 _ (0, 0) _ rc2 Try.underlying31 rfl (by kernel_rfl) ?_)
  obtain ⟨Bc, eB⟩ : ∃ Bc, Bc = w2.heap.size := ⟨_, rfl⟩
  rw [← eB] at rc2 hW1 hBs ⊢
  obtain ⟨W2, eW⟩ : ∃ W2, W2 = w2.alloc (.cells #[Value.int .i64 c.wo, Value.int .i64 c.sl, Value.int .i64 c.st, Value.int .i64 c.wa, Value.int .i64 c.us] 31) := ⟨_, rfl⟩
  rw [← eW] at rc2 HW2 hB3 ⊢
  clear eB eW
  refine (laid_any c (some ⟨gW, 0, none⟩) N cW W2.heap.size xs _ Hc.out HL.out HN.out HW2.out.is (Nat.le_refl _)).mono ?_
  rintro e w3 ⟨g, gw, rfl, hg, hgw, hM, hb⟩
  have l1 := rc2.lt
  have rc3 := rc2.below hb rc2.lt
  have HW3 := Lib.hid (HW2.out.on hb)
  have hB4 := hB3.trans (hb.mono hB3.size)
  have l2 := hM.lg
  have l3 := hM.lw
  have HM3 := Lib.hid hM
  clear hb HW2 hB3 rc2 hM
  go_wp2_with (refine wpList_load_row rfl 31 _ rfl _ rfl 31 _ (0, 0) _ rc3 Try.underlying31 rfl (by kernel_rfl) ?_)
  refine (tw_new c _).mono ?_
  rintro e w4 ⟨f, rfl, hT, hf, hb⟩
  have rc4 := rc3.below hb rc3.lt
  have HW4 := Lib.hid (HW3.out.on hb)
  have HM4 := Lib.hid (HM3.out.on hb)
  have HT4 := Lib.hid hT
  have hB5 := hB4.trans (hb.mono hB4.size)
  have o1 : w.heap.size ≤ gW ∧ gW < Bc := ⟨hW0, hW1⟩
  have o2 : Bc < g ∧ Bc < gw ∧ g < f ∧ gw < f := by omega
  have o3 : g ≠ gw := HM4.out.ne
  clear hb HW3 HM3 hT hB4 rc3 hW0 hW1 hg hgw l1 l2 l3 hf hgW hBs
  obtain ⟨F, hF⟩ : ∃ F : Nat, (3 + c.wo + c.wo).toNat = F := ⟨_, rfl⟩
  have HF := Lib.hid hF
  obtain ⟨P, hP⟩ : ∃ P : Nat, c.sl = P := ⟨c.sl.toNat, by omega⟩
  have HP := Lib.hid hP
  have hFP : F + P = N := by have := (cellsN_eq Hc.out).1; rw [← HN.out] at this; unfold cellsI at this; omega
  have hp9 : 1 ≤ P ∧ P ≤ 5 := by omega
  clear hF hP
  have hmk := makeV_run N (by omega)
  have HS0 : Hid (slotI c 0 = (F : Int)) := Lib.hid (by have := slotI_nat (k := 0) Hc.out HF.out (by have := HP.out; omega); rwa [Nat.add_zero] at this)
  have HV0 := Lib.hid (RowAt.new w4 32 (madeCells #[Value.slice none 0 0] N))
  have hbN := bnew w4 (.cells (madeCells #[Value.slice none 0 0] N) 32)
  have HM5 := Lib.hid (HM4.out.on hbN)
  have HT5 := Lib.hid (HT4.out.on hbN)
  have HW5 := Lib.hid (HW4.out.on hbN)
  have rc5 := Lib.hid (rc4.below hbN rc4.lt)
  have hB6 := hB5.trans (hbN.mono hB5.size)
  have o4 : f < w4.heap.size := HT4.out.lt.1
  clear hbN HM4 HT4 HW4 rc4 hB5
  go_wp2_with fail
  obtain ⟨hb, ehb⟩ : ∃ hb, hb = w4.heap.size := ⟨_, rfl⟩
  obtain ⟨W5, eW5⟩ : ∃ W5, W5 = w4.alloc (.cells (madeCells #[Value.slice none 0 0] N) 32) := ⟨_, rfl⟩
  rw [← ehb] at HV0 o4 ⊢
  rw [← eW5] at HV0 HM5 HT5 HW5 rc5 hB6 ⊢
  clear ehb eW5 hmk
  have HH0 : Hid (HadAt W5 hb [] []) := Lib.hid ⟨rfl, fun p b xs h => by simp at h, fun j => HV0.out.frozen j, HV0.out.lt, fun p q b h => by simp at h⟩
  have HZ0 : Hid (∀ p : Nat, p < N → W5.cell? ⟨hb, p, none⟩ = some (.slice none 0 0)) := Lib.hid fun p hp => HV0.out.cell p (by
    have := congrArg (fun l => l[p]?) (toList_madeCells_one (Value.slice none 0 0) N)
    simp only [List.getElem?_replicate, if_pos hp] at this
    rw [← Array.getElem?_toList]
    exact this)
  go_loopw [12] (fun j wr => ∃ (i : Nat) (bs : List Nat), i ≤ N ∧ j = .int .i64 i ∧ bs.length = i ∧ Hid (HadAt wr hb bs ((xs.take i).map fun v => [v])) ∧ Hid (∀ p : Nat, i ≤ p → p < N → wr.cell? ⟨hb, p, none⟩ = some (.slice none 0 0)) ∧ Hid (SpX [hb] W5 wr) ∧ Hid (∀ b ∈ bs, hb < b)) (fun j _ => N - (intOf j).toNat)
  case atStart => exact ⟨0, [], Nat.zero_le _, rfl, rfl, HH0, Lib.hid fun p _ hp => HZ0.out p hp, Lib.hid (.refl _ _), Lib.hid (by simp)⟩
  case round =>
    obtain ⟨i, bs, hi, rfl, hbl, HH, HZ, HS, Hbs⟩ := hrel
    clear HH0 HZ0 HV0
    by_cases hlt : i < N
    · obtain ⟨v, hv⟩ := num_some (xs := xs) (k := i) (by rw [HL.out]; exact hlt)
      have d0 := (HW5.out.spx HS.out (by simp; omega)).2 i v hv
      have dz := HZ.out i (Nat.le_refl _) hlt
      have dzf := HH.out.fz i
      have hhb := HH.out.lt
      have hi2 : (i : Int) < (N : Int) := by omega
      have HH2 : Hid (HadAt ((wr.alloc (.cells #[Value.int .i64 v] 3)).setCell ⟨hb, i, none⟩ (.slice (some ⟨wr.heap.size, 0, none⟩) 1 1)) hb (bs ++ [wr.heap.size]) ((xs.take (i + 1)).map fun v => [v])) := Lib.hid (by
        rw [List.take_add_one, hv, List.map_append]
        exact HH.out.snoc v hbl (by rw [dz]; rfl))
      have hgW : hb ≠ gW := by omega
      have hnw : wr.heap.size ≠ hb := by omega
      have HS2 : Hid (SpX [hb] W5 ((wr.alloc (.cells #[Value.int .i64 v] 3)).setCell ⟨hb, i, none⟩ (.slice (some ⟨wr.heap.size, 0, none⟩) 1 1))) := Lib.hid ((HS.out.alloc _).trans sp_set)
      have HZ2 : Hid (∀ p : Nat, i + 1 ≤ p → p < N → ((wr.alloc (.cells #[Value.int .i64 v] 3)).setCell ⟨hb, i, none⟩ (.slice (some ⟨wr.heap.size, 0, none⟩) 1 1)).cell? ⟨hb, p, none⟩ = some (.slice none 0 0)) := Lib.hid fun p hp hpN => by
        rw [World.cell?_setCell_other _ _ _ _ (by intro h'; injection h' with _ h'; omega), (bnew wr (.cells #[Value.int .i64 v] 3)).cell (p := ⟨hb, p, none⟩) hhb]
        exact HZ.out p (by omega) hpN
      have Hbs2 : Hid (∀ b ∈ bs ++ [wr.heap.size], hb < b) := Lib.hid fun b hb2 => by
        rcases List.mem_append.1 hb2 with h | h
        · exact Hbs.out b h
        · simp at h; omega
      have hbl2 : (bs ++ [wr.heap.size]).length = i + 1 := by simp; exact hbl
      have ecm := World.setCell_alloc_past (w := wr) (.cells #[Value.int .i64 v] 3) hb i (.slice (some ⟨wr.heap.size, 0, none⟩) 1 1) hhb
      rw [ecm] at HH2 HS2 HZ2
      clear hv HH HZ HS Hbs hbl ecm
      go_wp2
      go_roundw
      case rel => exact ⟨i + 1, _, by omega, by go_num, hbl2, HH2, HZ2, HS2, Hbs2⟩
      case measure => simp [intOf]; omega
    · obtain rfl : i = N := by omega
      obtain ⟨κ0, eκ⟩ : ∃ κ0 : Nat → Nat, κ0 = kap w.heap.size g gw f hb := ⟨_, rfl⟩
      have HA : Hid (Al κ0 w wr g gw i f f f hb Bc Bc c ⟨xs, i⟩ newT bs (xs.map fun v => [v]) none 0 0 [] []) := Lib.hid (by
        have hs := HS.out
        have hh := HH.out
        rw [List.take_of_length_le (by rw [HL.out]; exact Nat.le_refl _)] at hh
        have hbc := rc5.out.spx hs (by simp; omega)
        refine ⟨hs.below hB6 hB6.size (by simp; omega), fun k hk => by rw [eκ, kap, if_pos hk], hbc, ?_, HM5.out.spx hs (by simp; omega) (by simp; omega), ⟨?_, ?_⟩, HT5.out.spx hs (by simp; omega) (by simp; omega) (by simp; omega), ⟨?_, ?_, ?_⟩, hh, ⟨?_, fun b hb2 => ?_⟩, ⟨.nil _ _ hbc.lt, rfl, fun k e X h => by simp at h⟩, ⟨.inl rfl, fun e he => by simp at he⟩⟩
        · rw [eκ, kap, if_neg (by omega), if_neg (by omega), if_neg (by omega), if_neg (by omega)]
        · rw [eκ, kap, if_neg (by omega), if_pos (.inl rfl)]
        · rw [eκ, kap, if_neg (by omega), if_pos (.inr rfl)]
        · rw [eκ, kap, if_neg (by omega), if_neg (by omega), if_pos rfl]
        · rw [eκ, kap, if_neg (by omega), if_neg (by omega), if_pos rfl]
        · rw [eκ, kap, if_neg (by omega), if_neg (by omega), if_pos rfl]
        · rw [eκ, kap, if_neg (by omega), if_neg (by omega), if_neg (by omega), if_pos (Nat.le_refl _)]
        · have := Hbs.out b hb2
          rw [eκ, kap, if_neg (by omega), if_neg (by omega), if_neg (by omega), if_pos (by omega)])
      clear eκ HH HZ HS Hbs hbl HM5 HT5 HW5 rc5 hB6 hi hlt
      go_wp2_with fail
      go_loopw [10, 13] (fun mv j wr => ∃ (i2 : Nat) (κ : Nat → Nat) (s : St) (x : Tw) (sb ab : Nat) (bs : List Nat) (had : List (List Int)) (mb : Nat) (mA : Option Addr) (cap : Nat) (es : List (Nat × Nat)) (H : List (List Int)), i2 ≤ 60 ∧ mv = .slice mA i2 cap ∧ j = .int .i64 i2 ∧ Hid (Al κ w wr g gw i f sb ab hb mb Bc c s x bs had mA i2 cap es H) ∧ s.ws.length = i ∧ s.t ≤ 100 + 30 * i2 ∧ Hid (Mo H had s.ws) ∧ Hid (Sn P F x H) ∧ Hid (x.Ok P) ∧ Hid (x.dn = false) ∧ x.ro ≤ i2 ∧ Hid (∀ (p : Nat) hp, had[p]? = some hp → hp.length ≤ 1 + 30 * i2)) (fun _ j _ => 60 - (intOf j).toNat)
      case atStart => exact ⟨0, κ0, ⟨xs, i⟩, newT, f, f, bs, _, Bc, none, 0, [], [], by omega, rfl, rfl, HA, HL.out, by simp only; omega, Lib.hid (mo_start xs), Lib.hid (sn_new P F), Lib.hid (new_ok (by omega)), Lib.hid rfl, Nat.zero_le _, Lib.hid fun p hp h => by
        rw [List.getElem?_map] at h
        cases hx : xs[p]? with
        | none => rw [hx] at h; cases h
        | some y =>
          rw [hx] at h
          injection h with h
          subst h
          simp⟩
      case round =>
        clear HA
        obtain ⟨i2, κ, s, x, sb, ab, bs, had, mb, mA, cap, es, H, hi2, rfl, rfl, HA, hlen, ht, HMo, HSn, Hok, Hdn, hro, HLn⟩ := hrel
        by_cases hlt : i2 < 60
        · have hlt2 : (i2 : Int) < 60 := by omega
          go_wp2_with fail
          go_loopw [14] (fun j wr2 => ∃ (k : Nat) (s : St) (κ : Nat → Nat) (bs : List Nat) (had : List (List Int)), k ≤ ln ∧ j = .int .i64 k ∧ Hid (Al κ w wr2 g gw i f sb ab hb mb Bc c s x bs had mA i2 cap es H) ∧ s.ws.length = i ∧ s.t ≤ 100 + 30 * i2 + k ∧ Hid (Mo H had s.ws) ∧ Hid (∀ (p : Nat) hp, had[p]? = some hp → hp.length ≤ 1 + 30 * i2 + k)) (fun j _ => ln - (intOf j).toNat)
          case atStart => exact ⟨0, s, κ, bs, had, Nat.zero_le _, rfl, HA, hlen, by omega, HMo, HLn⟩
          case round =>
            clear HA hlen ht HMo HLn
            clear s κ bs had
            obtain ⟨k, s, κ, bs, had, hk, rfl, HA, hlen, ht, HMo, HLn⟩ := hrel
            by_cases hkl : k < ln
            · obtain ⟨x9, hx9⟩ := wr_some (l := l) (k := k) (by rw [Hn.out]; exact hkl)
              obtain ⟨hw1, ha1, hv1⟩ := HO.out x9 (List.mem_of_getElem? hx9)
              have hszr : w.heap.size ≤ wr.heap.size := HA.out.below.size
              obtain ⟨bl, off, eL, hblw, d0, d1, d2⟩ := (HWS.out.below HA.out.below) k x9 hx9
              have hblr : bl < wr.heap.size := by omega
              subst eL
              clear hx9
              by_cases hh : x9.wh = i2
              · obtain ⟨N2, eN2⟩ : ∃ N2 : Nat, x9.ad % (i : Int) = N2 := ⟨(x9.ad % (i : Int)).toNat, by have := Int.emod_nonneg x9.ad (b := (i : Int)) (by omega); omega⟩
                have hN2 : N2 < i := by have := Int.emod_lt_of_pos x9.ad (b := (i : Int)) (by omega); omega
                have hwr9 : IntKind.i64.wrap x9.ad = x9.ad := IntWalk.i64_in _ (by omega)
                have htm : x9.ad.tmod (i : Int) = (N2 : Int) := by rw [Int.tmod_eq_emod_of_nonneg (by omega)]; exact eN2
                have hi0 : ¬ i = 0 := by omega
                have hhl2 : had.length = i := by rw [HMo.out.len]; exact hlen
                obtain ⟨hp, hp2⟩ : ∃ hp, had[N2]? = some hp := ⟨had[N2]'(by omega), by simp⟩
                obtain ⟨b, hp1⟩ : ∃ b, bs[N2]? = some b := ⟨bs[N2]'(by rw [HA.out.had.len]; omega), by simp⟩
                obtain ⟨c9, dh, hown⟩ := HA.out.had.row N2 b hp hp1 hp2
                have hhlr : hb < wr.heap.size := HA.out.had.lt
                have hblb : bl ≠ b := fun e => by have h1 := HA.out.kh.2 b (List.mem_of_getElem? hp1); have h2 := HA.out.z bl hblw; rw [e] at h2; omega
                have hblh : bl ≠ hb := fun e => by have h1 := HA.out.kh.1; have h2 := HA.out.z bl hblw; rw [e] at h2; omega
                have hhb : hb ≠ b := by
                  rcases hown.pl with ⟨e, _⟩ | ⟨_, e⟩
                  · cases e
                  · exact e.symm
                have Hown := Lib.hid hown
                have Hp1 := Lib.hid hp1
                have Hp2 := Lib.hid hp2
                have hhp9 := HLn.out N2 hp hp2
                have hhp6 : hp.length ≤ 1000000 := by omega
                rw [hh] at d0 hw1
                clear eN2 hhl2 hown hp1 hp2 hhp9 hh
                go_wp2_with fail
                rename World => wa
                go_loopw [16] (fun j wr2 => ∃ jj : Nat, jj ≤ hp.length ∧ j = .int .i64 jj ∧ Hid (Below wa.heap.size wa wr2) ∧ Hid (∀ (q : Nat) u, q < jj → hp[q]? = some u → u ≠ x9.v)) (fun j _ => hp.length - (intOf j).toNat)
                case atStart => exact ⟨0, Nat.zero_le _, rfl, Lib.hid (Below.refl _ _), Lib.hid fun q u h => by omega⟩
                case round =>
                  obtain ⟨jj, hjj, rfl, HB2, Hne⟩ := hrel
                  have hB2 := HB2.out
                  have dh2 : wr.cell? ⟨hb, N2, none⟩ = some (.slice (some ⟨b, 0, none⟩) hp.length c9) := (hB2.cell (p := ⟨hb, N2, none⟩) hhlr).trans dh
                  have dv2 : wr.cell? ⟨bl, off + k * 3 + 2, none⟩ = some (.int .i64 x9.v) := (hB2.cell (p := ⟨bl, off + k * 3 + 2, none⟩) hblr).trans d2
                  by_cases hjl : jj < hp.length
                  · obtain ⟨u, hu⟩ := num_some hjl
                    obtain ⟨bq, oq, eq, _, du⟩ := (Hown.out.is.below hB2) jj u hu
                    injection eq with eq
                    injection eq with eq1 eq2
                    subst eq1 eq2
                    rw [Nat.zero_add] at du
                    have hjl2 : (jj : Int) < (hp.length : Int) := by omega
                    have Hu := Lib.hid hu
                    have hBs := HB2.out
                    clear hu
                    by_cases huv : u = x9.v
                    · have hq2 : (u == x9.v) = true := by simpa using huv
                      clear huv hBs
                      go_wp2
                      go_quiet (fail)
                      go_wp2
                      go_ret
                      exact ⟨rfl, (HA.out.on (bdrew HB2.out _)).below⟩
                    · have hq2 : (u == x9.v) = false := by simpa using huv
                      have Huv := Lib.hid huv
                      clear huv hBs
                      go_wp2
                      go_quiet (fail)
                      go_wp2
                      go_roundw
                      case rel => exact ⟨jj + 1, by omega, by go_num, Lib.hid (bdrew HB2.out _), Lib.hid fun q u' hq hu' => by
                        by_cases e : q = jj
                        · subst e
                          rw [Hu.out] at hu'
                          injection hu' with hu'
                          rw [← hu']
                          exact Huv.out
                        · exact Hne.out q u' (by omega) hu'⟩
                      case measure => simp [intOf]; omega
                  · have hjl2 : ¬ (jj : Int) < (hp.length : Int) := by omega
                    have Hno : Hid (∀ u ∈ hp, u ≠ x9.v) := Lib.hid fun u hu => by
                      obtain ⟨q, hq, rfl⟩ := List.mem_iff_getElem.1 hu
                      exact Hne.out q _ (by omega) (by simp)
                    clear HB2 Hne
                    go_wp2_with fail
                    have HA0 : Hid (Al κ w wr.drew g gw i f sb ab hb mb Bc c s x bs had mA i2 cap es H) := Lib.hid ((HA.out.on hB2).on ((Below.refl _ _).drew))
                    have x0_0 : wr.drew.cell? ⟨bl, off + k * 3 + 2, none⟩ = some (.int .i64 x9.v) := (hB2.cell (p := ⟨bl, off + k * 3 + 2, none⟩) hblr).trans d2
                    have y0 : wr.drew.cell? ⟨hb, N2, none⟩ = some (Value.slice (some ⟨b, 0, none⟩) hp.length c9) := (hB2.cell (p := ⟨hb, N2, none⟩) hhlr).trans dh
                    have z0 : wr.drew.frozen? ⟨hb, N2, none⟩ = false := HA0.out.had.fz N2
                    have hbl : bl < wr.drew.heap.size := Nat.lt_of_lt_of_le hblr hB2.size
                    have hhl : hb < wr.drew.heap.size := Nat.lt_of_lt_of_le hhlr hB2.size
                    have Hown0 : Hid (Own wr.drew hb b (some ⟨b, 0, none⟩) hp.length c9 hp) := Lib.hid ((Hown.out.on hB2).drew)
                    have hsz0 : w.heap.size ≤ wr.drew.heap.size := Nat.le_trans hszr hB2.size
                    refine wp_region_held_drew (S := (fun w' => w'.cell? ⟨bl, off + k * 3 + 2, none⟩ = some (.int .i64 x9.v))) (by kernel_rfl) x0_0 (fun hS => ?_)
                    generalize wr.drew = u0 at *
                    obtain ⟨b9, cc, w9, hrun, HO, hX, hb9⟩ := Hown0.out.run1 hhl hhp6 x9.v u0.heap.size rfl
                    refine wpAnyH_take (i := 0) (oi := { dst := some 108, op := Op.move (Operand.tmp 11), type := 53, pos := "law.go:107", after := #[], guard := none }) (v := ?v0_43) rfl (by kernel_rfl) (by kernel_rfl) (by kernel_rfl) (fun _ _ _ h => h) (Or.inl ⟨by rfl, ?hy0_43⟩) hS ?rest0_43
                    case hy0_43 =>
                      intro w hSw
                      (try dsimp only at hSw)
                      go_simp
                      try with_reducible rfl
                    try simp only [Act.put, List.setIfInBounds_toArray, List.set_cons_zero, List.set_cons_succ]
                    refine wpAnyH_take (i := 1) (oi := { dst := some 109, op := Op.move (Operand.tmp 15), type := 3, pos := "law.go:107", after := #[], guard := none }) (v := ?v1_44) rfl (by kernel_rfl) (by kernel_rfl) (by kernel_rfl) (fun _ _ _ h => h) (Or.inl ⟨by rfl, ?hy1_44⟩) hS ?rest1_44
                    case hy1_44 =>
                      intro w hSw
                      (try dsimp only at hSw)
                      go_simp
                      try with_reducible rfl
                    try simp only [Act.put, List.setIfInBounds_toArray, List.set_cons_zero, List.set_cons_succ]
                    refine wpAnyH_take (i := 2) (oi := { dst := some 110, op := Op.move (Operand.tmp 11), type := 53, pos := "law.go:107", after := #[], guard := none }) (v := ?v2_45) rfl (by kernel_rfl) (by kernel_rfl) (by kernel_rfl) (fun _ _ _ h => h) (Or.inl ⟨by rfl, ?hy2_45⟩) hS ?rest2_45
                    case hy2_45 =>
                      intro w hSw
                      (try dsimp only at hSw)
                      go_simp
                      try with_reducible rfl
                    try simp only [Act.put, List.setIfInBounds_toArray, List.set_cons_zero, List.set_cons_succ]
                    refine wpAnyH_take (i := 3) (oi := { dst := some 111, op := Op.move (Operand.tmp 15), type := 3, pos := "law.go:107", after := #[], guard := none }) (v := ?v3_46) rfl (by kernel_rfl) (by kernel_rfl) (by kernel_rfl) (fun _ _ _ h => h) (Or.inl ⟨by rfl, ?hy3_46⟩) hS ?rest3_46
                    case hy3_46 =>
                      intro w hSw
                      (try dsimp only at hSw)
                      go_simp
                      try with_reducible rfl
                    try simp only [Act.put, List.setIfInBounds_toArray, List.set_cons_zero, List.set_cons_succ]
                    refine wpAnyH_take (i := 4) (oi := { dst := some 112, op := Op.indexAddr 53 (Operand.tmp 110) (Operand.tmp 111), type := 0, pos := "law.go:107", after := #[{ on := 2, ground := Ground.data }, { on := 3, ground := Ground.data }], guard := none }) (v := ?v4_47) rfl (by kernel_rfl) (by kernel_rfl) (by kernel_rfl) (fun _ _ _ h => h) (Or.inl ⟨by rfl, ?hy4_47⟩) hS ?rest4_47
                    case hy4_47 =>
                      intro w hSw
                      (try dsimp only at hSw)
                      go_simp
                      try with_reducible rfl
                    try simp only [Act.put, List.setIfInBounds_toArray, List.set_cons_zero, List.set_cons_succ]
                    refine wpAnyH_take (i := 6) (oi := { dst := some 114, op := Op.move (Operand.tmp 1), type := 28, pos := "law.go:107", after := #[], guard := none }) (v := ?v6_48) rfl (by kernel_rfl) (by kernel_rfl) (by kernel_rfl) (fun _ _ _ h => h) (Or.inl ⟨by rfl, ?hy6_48⟩) hS ?rest6_48
                    case hy6_48 =>
                      intro w hSw
                      (try dsimp only at hSw)
                      go_simp
                      try with_reducible rfl
                    try simp only [Act.put, List.setIfInBounds_toArray, List.set_cons_zero, List.set_cons_succ]
                    refine wpAnyH_take (i := 7) (oi := { dst := some 115, op := Op.move (Operand.tmp 14), type := 3, pos := "law.go:107", after := #[], guard := none }) (v := ?v7_49) rfl (by kernel_rfl) (by kernel_rfl) (by kernel_rfl) (fun _ _ _ h => h) (Or.inl ⟨by rfl, ?hy7_49⟩) hS ?rest7_49
                    case hy7_49 =>
                      intro w hSw
                      (try dsimp only at hSw)
                      go_simp
                      try with_reducible rfl
                    try simp only [Act.put, List.setIfInBounds_toArray, List.set_cons_zero, List.set_cons_succ]
                    refine wpAnyH_take (i := 8) (oi := { dst := some 116, op := Op.indexAddr 28 (Operand.tmp 114) (Operand.tmp 115), type := 0, pos := "law.go:107", after := #[{ on := 6, ground := Ground.data }, { on := 7, ground := Ground.data }], guard := none }) (v := ?v8_50) rfl (by kernel_rfl) (by kernel_rfl) (by kernel_rfl) (fun _ _ _ h => h) (Or.inl ⟨by rfl, ?hy8_50⟩) hS ?rest8_50
                    case hy8_50 =>
                      intro w hSw
                      (try dsimp only at hSw)
                      go_simp
                      try with_reducible rfl
                    try simp only [Act.put, List.setIfInBounds_toArray, List.set_cons_zero, List.set_cons_succ]
                    refine wpAnyH_take (i := 9) (oi := { dst := some 117, op := Op.fieldAddr 55 (Operand.tmp 116) 2, type := 0, pos := "law.go:107", after := #[{ on := 8, ground := Ground.data }], guard := none }) (v := ?v9_51) rfl (by kernel_rfl) (by kernel_rfl) (by kernel_rfl) (fun _ _ _ h => h) (Or.inl ⟨by rfl, ?hy9_51⟩) hS ?rest9_51
                    case hy9_51 =>
                      intro w hSw
                      (try dsimp only at hSw)
                      go_simp
                      try with_reducible rfl
                    try simp only [Act.put, List.setIfInBounds_toArray, List.set_cons_zero, List.set_cons_succ]
                    refine wpAnyH_take (i := 10) (oi := { dst := some 118, op := Op.load 3 (Operand.tmp 117), type := 3, pos := "law.go:107", after := #[{ on := 9, ground := Ground.data }], guard := none }) (v := ?v10_52) rfl (by kernel_rfl) (by kernel_rfl) (by kernel_rfl) (fun _ _ _ h => h) (Or.inl ⟨by rfl, ?hy10_52⟩) hS ?rest10_52
                    case hy10_52 =>
                      intro w hSw
                      (try dsimp only at hSw)
                      go_simp
                      try with_reducible rfl
                    try simp only [Act.put, List.setIfInBounds_toArray, List.set_cons_zero, List.set_cons_succ]
                    refine wpAnyH_ready (rs := [5, 11]) (by kernel_rfl) (by simp) ?_
                    refine AllReadyH.cons (o := { dst := some 113, op := Op.load 32 (Operand.tmp 112), type := 32, pos := "law.go:107", after := #[{ on := 4, ground := Ground.data }], guard := none }) rfl (fun K hK => ?_) ?_
                    ·
                      go_simp
                      refine hK.out _ _ x0_0 (fun hS => ?_)
                      clear hK K
                      try simp only [Act.put, List.setIfInBounds_toArray, List.set_cons_zero, List.set_cons_succ]
                      refine wpAnyH_ready (rs := [11]) (by kernel_rfl) (by simp) ?_
                      refine AllReadyH.cons (o := { dst := some 119, op := Op.buildSlice 32 1 #[(0, Operand.tmp 118)], type := 32, pos := "law.go:107", after := #[{ on := 10, ground := Ground.data }], guard := none }) rfl (fun K hK => ?_) AllReadyH.nil
                      go_simp
                      have x1_0 : (u0.alloc (.cells #[Value.int .i64 x9.v] 3)).cell? ⟨bl, off + k * 3 + 2, none⟩ = some (.int .i64 x9.v) := ((bnew u0 (.cells #[Value.int .i64 x9.v] 3)).cell (p := ⟨bl, off + k * 3 + 2, none⟩) hbl).trans x0_0
                      have y1 : (u0.alloc (.cells #[Value.int .i64 x9.v] 3)).cell? ⟨hb, N2, none⟩ = some (Value.slice (some ⟨b, 0, none⟩) hp.length c9) := ((bnew u0 (.cells #[Value.int .i64 x9.v] 3)).cell (p := ⟨hb, N2, none⟩) hhl).trans y0
                      refine hK.out _ _ x1_0 (fun hS => ?_)
                      clear hK K
                      try simp only [Act.put, List.setIfInBounds_toArray, List.set_cons_zero, List.set_cons_succ]
                      refine wpAnyH_ready (rs := [12]) (by kernel_rfl) (by simp) ?_
                      refine AllReadyH.cons (o := { dst := some 120, op := Op.call { callee := Callee.builtin Builtin.append, args := #[Operand.tmp 113, Operand.tmp 119], argTypes := #[32, 32] }, type := 32, pos := "law.go:107", after := #[{ on := 5, ground := Ground.data }, { on := 11, ground := Ground.data }], guard := none }) rfl (fun K hK => ?_) AllReadyH.nil
                      (rw [if_pos (by kernel_rfl)]; refine wp_append_run (.tmp 113) (.tmp 119) 32 rfl _ _ rfl rfl _ _ hrun ?_)
                      have hs9 : SpX [b] u0 w9 := hX [b] (fun _ => by simp)
                      have x2_0 : w9.cell? ⟨bl, off + k * 3 + 2, none⟩ = some (.int .i64 x9.v) := (hs9.cell (off + k * 3 + 2) hbl (by simpa using hblb)).trans x0_0
                      have y2 : w9.cell? ⟨hb, N2, none⟩ = some (Value.slice (some ⟨b, 0, none⟩) hp.length c9) := (hs9.cell N2 hhl (by simpa using hhb)).trans y0
                      have z2 : w9.frozen? ⟨hb, N2, none⟩ = false := (hs9.frozen N2 hhl (by simpa using hhb)).trans z0
                      refine hK.out _ _ x2_0 (fun hS => ?_)
                      clear hK K
                      try simp only [Act.put, List.setIfInBounds_toArray, List.set_cons_zero, List.set_cons_succ]
                      refine wpAnyH_take (i := 13) (oi := { dst := some 121, op := Op.indexAddr 53 (Operand.tmp 108) (Operand.tmp 109), type := 0, pos := "law.go:107", after := #[{ on := 0, ground := Ground.data }, { on := 1, ground := Ground.data }, { on := 0, ground := Ground.phase }, { on := 1, ground := Ground.phase }, { on := 2, ground := Ground.phase }, { on := 3, ground := Ground.phase }, { on := 4, ground := Ground.phase }, { on := 5, ground := Ground.phase }, { on := 6, ground := Ground.phase }, { on := 7, ground := Ground.phase }, { on := 8, ground := Ground.phase }, { on := 9, ground := Ground.phase }, { on := 10, ground := Ground.phase }, { on := 11, ground := Ground.phase }, { on := 12, ground := Ground.phase }], guard := none }) (v := ?v13_53) rfl (by kernel_rfl) (by kernel_rfl) (by kernel_rfl) (fun _ _ _ h => h) (Or.inl ⟨by rfl, ?hy13_53⟩) hS ?rest13_53
                      case hy13_53 =>
                        intro w hSw
                        (try dsimp only at hSw)
                        go_simp
                        try with_reducible rfl
                      try simp only [Act.put, List.setIfInBounds_toArray, List.set_cons_zero, List.set_cons_succ]
                      refine wpAnyH_ready (rs := [14]) (by kernel_rfl) (by simp) ?_
                      refine AllReadyH.cons (o := { dst := none, op := Op.store 32 (Operand.tmp 121) (Operand.tmp 120), type := 0, pos := "law.go:107", after := #[{ on := 13, ground := Ground.data }, { on := 12, ground := Ground.data }, { on := 12, ground := Ground.chain }, { on := 0, ground := Ground.phase }, { on := 1, ground := Ground.phase }, { on := 2, ground := Ground.phase }, { on := 3, ground := Ground.phase }, { on := 4, ground := Ground.phase }, { on := 5, ground := Ground.phase }, { on := 6, ground := Ground.phase }, { on := 7, ground := Ground.phase }, { on := 8, ground := Ground.phase }, { on := 9, ground := Ground.phase }, { on := 10, ground := Ground.phase }, { on := 11, ground := Ground.phase }, { on := 12, ground := Ground.phase }], guard := none }) rfl (fun K hK => ?_) AllReadyH.nil
                      go_simp
                      have HA9 := Lib.hid (HA0.out.more Hp1.out Hp2.out HO hs9 (by omega))
                      have x3_0 : (w9.setCell ⟨hb, N2, none⟩ (.slice (some ⟨b9, 0, none⟩) (hp.length + 1) cc)).cell? ⟨bl, off + k * 3 + 2, none⟩ = some (.int .i64 x9.v) := ((sp_set (f := hb)).cell (off + k * 3 + 2) (by have := hs9.size; omega) (by simpa using hblh)).trans x2_0
                      refine hK.out _ _ x3_0 (fun hS => ?_)
                      clear hK K
                      try simp only [Act.put, List.setIfInBounds_toArray, List.set_cons_zero, List.set_cons_succ]
                      refine wpAnyH_done (by kernel_rfl) ?_ _
                      generalize (w9.setCell ⟨hb, N2, none⟩ (.slice (some ⟨b9, 0, none⟩) (hp.length + 1) cc)) = u5 at *
                      have hm5 := HA9.out.mem
                      go_wp2_with fail
                      refine (store_in g gw i s N2 x9.v _ hm5 (by omega) (by omega)).mono ?_
                      rintro e u6 ⟨rfl, hm, hs⟩
                      have HA10 := Lib.hid (HA9.out.store hm hs)
                      have HMo2 := Lib.hid (HMo.out.store Hp2.out Hno.out)
                      have HLn2 : Hid (∀ (p : Nat) hq, (had.set N2 (hp ++ [x9.v]))[p]? = some hq → hq.length ≤ 1 + 30 * i2 + (k + 1)) := Lib.hid fun p hq h => by
                        by_cases e : N2 = p
                        · subst e
                          rw [List.getElem?_set_self (List.getElem?_eq_some_iff.1 Hp2.out).1] at h
                          injection h with h
                          rw [← h, List.length_append]
                          have := HLn.out N2 hp Hp2.out
                          simp; omega
                        · rw [List.getElem?_set_ne e] at h
                          have := HLn.out p hq h
                          omega
                      have hl2 : (s.ws.set N2 x9.v).length = i := by rw [List.length_set]; exact hlen
                      go_wp2_with fail
                      go_roundw
                      case rel => exact ⟨k + 1, s.put N2 x9.v, _, _, _, by omega, by go_num, HA10, hl2, by unfold St.put; simp only; omega, HMo2, HLn2⟩
                      case measure => simp [intOf]; omega
                    refine AllReadyH.cons (o := { dst := some 119, op := Op.buildSlice 32 1 #[(0, Operand.tmp 118)], type := 32, pos := "law.go:107", after := #[{ on := 10, ground := Ground.data }], guard := none }) rfl (fun K hK => ?_) AllReadyH.nil
                    go_simp
                    have x1_0 : (u0.alloc (.cells #[Value.int .i64 x9.v] 3)).cell? ⟨bl, off + k * 3 + 2, none⟩ = some (.int .i64 x9.v) := ((bnew u0 (.cells #[Value.int .i64 x9.v] 3)).cell (p := ⟨bl, off + k * 3 + 2, none⟩) hbl).trans x0_0
                    have y1 : (u0.alloc (.cells #[Value.int .i64 x9.v] 3)).cell? ⟨hb, N2, none⟩ = some (Value.slice (some ⟨b, 0, none⟩) hp.length c9) := ((bnew u0 (.cells #[Value.int .i64 x9.v] 3)).cell (p := ⟨hb, N2, none⟩) hhl).trans y0
                    refine hK.out _ _ x1_0 (fun hS => ?_)
                    clear hK K
                    try simp only [Act.put, List.setIfInBounds_toArray, List.set_cons_zero, List.set_cons_succ]
                    refine wpAnyH_ready (rs := [5]) (by kernel_rfl) (by simp) ?_
                    refine AllReadyH.cons (o := { dst := some 113, op := Op.load 32 (Operand.tmp 112), type := 32, pos := "law.go:107", after := #[{ on := 4, ground := Ground.data }], guard := none }) rfl (fun K hK => ?_) AllReadyH.nil
                    go_simp
                    refine hK.out _ _ x1_0 (fun hS => ?_)
                    clear hK K
                    try simp only [Act.put, List.setIfInBounds_toArray, List.set_cons_zero, List.set_cons_succ]
                    refine wpAnyH_ready (rs := [12]) (by kernel_rfl) (by simp) ?_
                    refine AllReadyH.cons (o := { dst := some 120, op := Op.call { callee := Callee.builtin Builtin.append, args := #[Operand.tmp 113, Operand.tmp 119], argTypes := #[32, 32] }, type := 32, pos := "law.go:107", after := #[{ on := 5, ground := Ground.data }, { on := 11, ground := Ground.data }], guard := none }) rfl (fun K hK => ?_) AllReadyH.nil
                    (rw [if_pos (by kernel_rfl)]; refine wp_append_run (.tmp 113) (.tmp 119) 32 rfl _ _ rfl rfl _ _ hrun ?_)
                    have hs9 : SpX [b] u0 w9 := hX [b] (fun _ => by simp)
                    have x2_0 : w9.cell? ⟨bl, off + k * 3 + 2, none⟩ = some (.int .i64 x9.v) := (hs9.cell (off + k * 3 + 2) hbl (by simpa using hblb)).trans x0_0
                    have y2 : w9.cell? ⟨hb, N2, none⟩ = some (Value.slice (some ⟨b, 0, none⟩) hp.length c9) := (hs9.cell N2 hhl (by simpa using hhb)).trans y0
                    have z2 : w9.frozen? ⟨hb, N2, none⟩ = false := (hs9.frozen N2 hhl (by simpa using hhb)).trans z0
                    refine hK.out _ _ x2_0 (fun hS => ?_)
                    clear hK K
                    try simp only [Act.put, List.setIfInBounds_toArray, List.set_cons_zero, List.set_cons_succ]
                    refine wpAnyH_take (i := 13) (oi := { dst := some 121, op := Op.indexAddr 53 (Operand.tmp 108) (Operand.tmp 109), type := 0, pos := "law.go:107", after := #[{ on := 0, ground := Ground.data }, { on := 1, ground := Ground.data }, { on := 0, ground := Ground.phase }, { on := 1, ground := Ground.phase }, { on := 2, ground := Ground.phase }, { on := 3, ground := Ground.phase }, { on := 4, ground := Ground.phase }, { on := 5, ground := Ground.phase }, { on := 6, ground := Ground.phase }, { on := 7, ground := Ground.phase }, { on := 8, ground := Ground.phase }, { on := 9, ground := Ground.phase }, { on := 10, ground := Ground.phase }, { on := 11, ground := Ground.phase }, { on := 12, ground := Ground.phase }], guard := none }) (v := ?v13_54) rfl (by kernel_rfl) (by kernel_rfl) (by kernel_rfl) (fun _ _ _ h => h) (Or.inl ⟨by rfl, ?hy13_54⟩) hS ?rest13_54
                    case hy13_54 =>
                      intro w hSw
                      (try dsimp only at hSw)
                      go_simp
                      try with_reducible rfl
                    try simp only [Act.put, List.setIfInBounds_toArray, List.set_cons_zero, List.set_cons_succ]
                    refine wpAnyH_ready (rs := [14]) (by kernel_rfl) (by simp) ?_
                    refine AllReadyH.cons (o := { dst := none, op := Op.store 32 (Operand.tmp 121) (Operand.tmp 120), type := 0, pos := "law.go:107", after := #[{ on := 13, ground := Ground.data }, { on := 12, ground := Ground.data }, { on := 12, ground := Ground.chain }, { on := 0, ground := Ground.phase }, { on := 1, ground := Ground.phase }, { on := 2, ground := Ground.phase }, { on := 3, ground := Ground.phase }, { on := 4, ground := Ground.phase }, { on := 5, ground := Ground.phase }, { on := 6, ground := Ground.phase }, { on := 7, ground := Ground.phase }, { on := 8, ground := Ground.phase }, { on := 9, ground := Ground.phase }, { on := 10, ground := Ground.phase }, { on := 11, ground := Ground.phase }, { on := 12, ground := Ground.phase }], guard := none }) rfl (fun K hK => ?_) AllReadyH.nil
                    go_simp
                    have HA9 := Lib.hid (HA0.out.more Hp1.out Hp2.out HO hs9 (by omega))
                    have x3_0 : (w9.setCell ⟨hb, N2, none⟩ (.slice (some ⟨b9, 0, none⟩) (hp.length + 1) cc)).cell? ⟨bl, off + k * 3 + 2, none⟩ = some (.int .i64 x9.v) := ((sp_set (f := hb)).cell (off + k * 3 + 2) (by have := hs9.size; omega) (by simpa using hblh)).trans x2_0
                    refine hK.out _ _ x3_0 (fun hS => ?_)
                    clear hK K
                    try simp only [Act.put, List.setIfInBounds_toArray, List.set_cons_zero, List.set_cons_succ]
                    refine wpAnyH_done (by kernel_rfl) ?_ _
                    generalize (w9.setCell ⟨hb, N2, none⟩ (.slice (some ⟨b9, 0, none⟩) (hp.length + 1) cc)) = u5 at *
                    have hm5 := HA9.out.mem
                    go_wp2_with fail
                    refine (store_in g gw i s N2 x9.v _ hm5 (by omega) (by omega)).mono ?_
                    rintro e u6 ⟨rfl, hm, hs⟩
                    have HA10 := Lib.hid (HA9.out.store hm hs)
                    have HMo2 := Lib.hid (HMo.out.store Hp2.out Hno.out)
                    have HLn2 : Hid (∀ (p : Nat) hq, (had.set N2 (hp ++ [x9.v]))[p]? = some hq → hq.length ≤ 1 + 30 * i2 + (k + 1)) := Lib.hid fun p hq h => by
                      by_cases e : N2 = p
                      · subst e
                        rw [List.getElem?_set_self (List.getElem?_eq_some_iff.1 Hp2.out).1] at h
                        injection h with h
                        rw [← h, List.length_append]
                        have := HLn.out N2 hp Hp2.out
                        simp; omega
                      · rw [List.getElem?_set_ne e] at h
                        have := HLn.out p hq h
                        omega
                    have hl2 : (s.ws.set N2 x9.v).length = i := by rw [List.length_set]; exact hlen
                    go_wp2_with fail
                    go_roundw
                    case rel => exact ⟨k + 1, s.put N2 x9.v, _, _, _, by omega, by go_num, HA10, hl2, by unfold St.put; simp only; omega, HMo2, HLn2⟩
                    case measure => simp [intOf]; omega
              · go_wp2_with fail
                go_roundw
                case rel => exact ⟨k + 1, s, κ, bs, had, by omega, by go_num, HA, hlen, by omega, HMo, Lib.hid fun p hp h => by have := HLn.out p hp h; omega⟩
                case measure => simp [intOf]; omega
            · obtain rfl : k = ln := by omega
              have hmem := HA.out.mem
              go_wp2_with fail
              refine (wordsS_any g gw i s _ hmem (by omega) (by omega)).mono ?_
              rintro e u1 ⟨bw, cw, rfl, hcw, hbw, hib, hbb⟩
              rw [hlen]
              have hszr : w.heap.size ≤ wr.heap.size := HA.out.below.size
              have hM1 := (HA.out.on hbb).ms
              have hfl := (HA.out.on hbb).bc.lt
              have hmbl := HA.out.ms.own.lt
              have hbm : bw ≠ mb ∨ mb = Bc := by omega
              have hem : ∀ e ∈ es, e.1 ≠ mb ∨ mb = Bc := fun e he => by
                rcases HA.out.km.1 with e1 | e1
                · exact .inr e1
                · have := HA.out.km.2 e he
                  exact .inl fun e2 => by rw [e2] at this; omega
              have hcw2 : i ≤ cw := by omega
              clear hmem
              go_wp2_with (at_builtin; refine hM1.app hfl (by omega) bw cw s.ws hlen hcw2 hib hbm hem rfl _ _ rfl rfl _ rfl ?_; intro mb2 cap2 w9 hM2 hs2 hmb2)
              have HA2 := Lib.hid (HA.out.push hbb hbw hib.1 hM2 (fun e he => by
                rcases List.mem_append.1 he with h | h
                · exact .inl h
                · simp at h; exact .inr (by rw [h])) hs2 hmb2)
              obtain ⟨κ2, eκ2⟩ : ∃ κ2, κ2 = up (up κ wr.heap.size 5) u1.heap.size 4 := ⟨_, rfl⟩
              rw [← eκ2] at HA2
              have HMo2 := Lib.hid HMo.out.push
              have hse := Hok.out.se
              obtain ⟨v, hv⟩ := num_some (xs := s.ws) (k := F + x.se.length) (by omega)
              have Hv := Lib.hid hv
              have HFw := Lib.hid (show F + P = s.ws.length by omega)
              obtain ⟨z1, z2, z3⟩ := HA2.out.kt
              obtain ⟨z4, z5⟩ := HA2.out.kg
              have hne : ∀ a b : Nat, κ2 a ≠ κ2 b → a ≠ b := fun a b h e => h (by rw [e])
              have y1 := hne f g (by omega)
              have y2 := hne f gw (by omega)
              have y3 := hne sb g (by omega)
              have y4 := hne sb gw (by omega)
              have y5 := hne ab g (by omega)
              have y6 := hne ab gw (by omega)
              clear HA hM1 hfl hmbl hbm hem hcw hcw2 hib hbb hM2 hs2 hmb2 eκ2 hv hne z1 z2 z3 z4 z5 hbw hszr
              go_wp2_with fail
              refine (step_any f sb ab g gw i c P F x s v _ Hc.out HP.out HF.out HA2.out.tw Hok.out HA2.out.mem Hv.out (by omega) (by omega) y1 y2 y3 y4 y5 y6).mono ?_
              rintro e u3 ⟨sb2, ab2, rfl, hT, hm, hs, hsb2, hab2⟩
              have HA3 := Lib.hid (HA2.out.step hT hm hs hsb2 hab2)
              obtain ⟨κ3, eκ3⟩ : ∃ κ3, κ3 = up κ2 w9.heap.size 2 := ⟨_, rfl⟩
              rw [← eκ3] at HA3
              have HSn2 := Lib.hid (sn_step HSn.out Hok.out Hdn.out Hv.out)
              have Hok2 := Lib.hid (step_ok Hok.out v)
              have HMM := Lib.hid (fun h => moment HMo2.out HSn.out Hok.out Hdn.out Hv.out HFw.out h)
              have hro2 : (stepT P x v).ro ≤ x.ro + 1 := by
                unfold stepT
                split
                · omega
                · split <;> simp
              have htc : tch x ≤ 1 := by unfold tch; split <;> omega
              obtain ⟨y, ey⟩ : ∃ y, y = stepT P x v := ⟨_, rfl⟩
              rw [← ey] at HA3 HSn2 Hok2 HMM hro2 ⊢
              clear hT hm hs hsb2 hab2 HA2 eκ3 ey HMo
              cases hd : y.dn with
              | false =>
                have Hd := Lib.hid hd
                clear hd
                go_wp2_with fail
                go_roundw
                case rel => exact ⟨i2 + 1, κ3, _, y, sb2, ab2, bs, had, mb2, _, cap2, _, _, by omega, rfl, by go_num, HA3, hlen, by simp only; omega, HMo2, HSn2, Hok2, Hd, by omega, Lib.hid fun p hp h => by have := HLn.out p hp h; omega⟩
                case measure => simp [intOf]; omega
              | true =>
                have Hd := Lib.hid hd
                have hyl : y.ah.length = P := by
                  have h2 := (Hok2.out.dn hd).2
                  rcases Hok2.out.ah with ⟨e, _⟩ | ⟨_, e⟩
                  · omega
                  · exact e
                have Hyl := Lib.hid hyl
                have HK := Lib.hid (HMM.out hd)
                have hy1 : 1 ≤ y.ah.length := by omega
                have hy2 : y.ah.length ≤ 4096 := by omega
                clear hd hyl HMM HSn2 HMo2
                go_wp2_with fail
                refine (words_yes f sb2 ab2 c y _ HA3.out.tw Hd.out hy1 hy2).mono ?_
                rintro e u4 ⟨bq, rfl, hr, hbq, hbb⟩
                rw [Hyl.out]
                have HA4 := Lib.hid (HA3.out.on hbb)
                have Hr4 := Lib.hid hr
                clear HA3 hr hbb hbq
                obtain ⟨H2, eH2⟩ : ∃ H2, H2 = H ++ [s.ws] := ⟨_, rfl⟩
                obtain ⟨es2, ees⟩ : ∃ es2, es2 = es ++ [(bw, cw)] := ⟨_, rfl⟩
                rw [← eH2, ← ees] at HA4
                rw [← eH2] at HK
                have hHl := HA4.out.ms.n
                have hesl := HA4.out.ms.len
                clear eH2 ees
                go_wp2_with fail
                go_loopw [18] (fun j wr3 => ∃ q : Nat, q ≤ i2 + 1 ∧ j = .int .i64 q ∧ Hid (Below u4.heap.size u4 wr3) ∧ Hid (∀ (q' : Nat) B, q' < q → H2[q']? = some B → B.drop F ≠ y.ah)) (fun j _ => i2 + 1 - (intOf j).toNat)
                case atStart => exact ⟨0, Nat.zero_le _, rfl, Lib.hid (Below.refl _ _), Lib.hid fun q' B h => by omega⟩
                case round =>
                  obtain ⟨q, hq, rfl, HB, Hne⟩ := hrel
                  by_cases hql : q < i2 + 1
                  · have hql2 : (q : Int) < (i2 : Int) + 1 := by omega
                    obtain ⟨B, hB⟩ : ∃ B, H2[q]? = some B := ⟨H2[q]'(by omega), by simp⟩
                    obtain ⟨e9, he9⟩ : ∃ e9, es2[q]? = some e9 := ⟨es2[q]'(by omega), by simp⟩
                    have HA5 := Lib.hid (HA4.out.on HB.out)
                    have rq := HA5.out.bc
                    have HB9 := Lib.hid hB
                    clear hB
                    go_wp2_with (refine wpList_load_row rfl 31 _ rfl _ rfl 31 _ (0, 0) _ rq Try.underlying31 rfl (by kernel_rfl) ?_)
                    refine (refSlot_any c 0 _ Hc.out).mono ?_
                    rw [HS0.out]
                    rintro e u5 ⟨rfl, hbb⟩
                    have HA6 := HA5.out.on hbb
                    have HB6 := Lib.hid (HB.out.trans (hbb.mono HB.out.size))
                    obtain ⟨q1, q2, q3⟩ := HA6.ms.el q e9 B he9 HB9.out
                    obtain ⟨q4, q5⟩ := HA6.ms.own.at (k := q) (v := .slice (some ⟨e9.1, 0, none⟩) i e9.2) (by rw [List.getElem?_map, he9]; rfl)
                    have hcut := cut_l e9.1 i e9.2 F P hFP.symm q2 (by omega)
                    have hI := q3.is.cut F P
                    rw [Nat.zero_add, List.take_of_length_le (by rw [List.length_drop]; omega)] at hI
                    have HI := Lib.hid hI
                    have hdl : (B.drop F).length = P := by rw [List.length_drop]; omega
                    have HrI := Lib.hid (copy_is (Hr4.out.below HB6.out Hr4.out.lt) (by rw [Hyl.out]; omega))
                    have HA7 := Lib.hid HA6
                    clear hbb HA6 HA5 rq q1 q3 q4 hI he9 HB
                    go_wp2_with fail
                    refine (ints_len _ _ _ _ P P (B.drop F) y.ah _ hdl Hyl.out HI.out HrI.out (by omega)).mono ?_
                    rintro e u6 ⟨rfl, hbb⟩
                    have hfin := (HA7.out.on hbb).below
                    have HB7 := Lib.hid (HB6.out.trans (hbb.mono HB6.out.size))
                    by_cases hee : B.drop F = y.ah
                    · rw [decide_eq_true hee]
                      clear hee q5 hcut
                      go_wp2
                      go_ret
                      exact ⟨rfl, hfin⟩
                    · rw [decide_eq_false hee]
                      have Hee := Lib.hid hee
                      clear hee q5 hcut hfin
                      go_wp2_with fail
                      go_roundw
                      case rel => exact ⟨q + 1, by omega, by go_num, HB7, Lib.hid fun q' B' hq' hB' => by
                        by_cases e : q' = q
                        · subst e
                          rw [HB9.out] at hB'
                          injection hB' with hB'
                          rw [← hB']
                          exact Hee.out
                        · exact Hne.out q' B' (by omega) hB'⟩
                      case measure => simp [intOf]; omega
                  · exfalso
                    obtain ⟨k9, B, hk9, hB9⟩ := HK.out
                    have := (List.getElem?_eq_some_iff.1 hk9).1
                    exact Hne.out k9 B (by omega) hk9 hB9
        · have hlt2 : ¬ (i2 : Int) < 60 := by omega
          go_wp2
          go_ret
          exact ⟨rfl, HA.out.below⟩
end Go.Proofs.Ytalmadeibnekoaa
