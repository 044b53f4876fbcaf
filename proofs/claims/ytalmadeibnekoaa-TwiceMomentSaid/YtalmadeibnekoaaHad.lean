/- Lists of lists: what each cell had, what stood there at each moment; who has which block. -/
import Derived.Test.YtalmadeibnekoaaLPlays
namespace Go.Proofs.Ytalmadeibnekoaa
open Go.RowKit
attribute [local go_sem ↓] Go.wp_at_zero Go.wp_at_succ

theorem infoV : (Try.prog.info? 32).map (fun i => (i.zero, i.size, i.bytes)) = some (some (.slice none 0 0), 1, 24) := by kernel_rfl
theorem makeV_run (n : Nat) (h2 : n ≤ 4096) (W : World) : (Instr.makeSlice 53 (.int .i64 n) (.int .i64 n)).run Try.prog W = .ok (.slice (some ⟨W.heap.size, 0, none⟩) n n) (W.alloc (.cells (madeCells #[.slice none 0 0] n) 32)) := by
  obtain ⟨i0, hi, hz0, hz1, hz2⟩ := info_parts infoV
  have h := run_make (P := Try.prog) W 53 32 i0 (.slice none 0 0) Try.underlying53 hi hz0 .i64 .i64 n n (by omega) (by omega) (by rw [hz2]; omega) (by omega)
  rw [hz1, Nat.mul_one, Int.toNat_natCast] at h
  exact h
/-- slices that one has alone: they lie in block b; where there is none, b is f -/
structure OwnS (w : World) (f b : Nat) (A : Option Addr) (n c : Nat) (vs : List Value) : Prop where
  own : w.ownsRow 0 32 1 (.slice A n c) n vs
  pl : (A = none ∧ b = f) ∨ (A = some ⟨b, 0, none⟩ ∧ b ≠ f)
  lt : b < w.heap.size
theorem OwnS.spx {w w' : World} {f b n c : Nat} {A : Option Addr} {vs : List Value} {X : List Nat} (h : OwnS w f b A n c vs) (hs : SpX X w w') (hb : b = f ∨ b ∉ X) : OwnS w' f b A n c vs := by
  refine ⟨⟨h.own.1, ?_⟩, h.pl, Nat.lt_of_lt_of_le h.lt hs.size⟩
  rcases h.own.2 with h1 | ⟨g, cap, cur, e, k1, k2, k3⟩
  · exact .inl h1
  · refine .inr ⟨g, cap, cur, e, k1, ?_, k3⟩
    injection e with e1 e2 e3
    rcases h.pl with ⟨e4, _⟩ | ⟨e4, e5⟩
    · rw [e4] at e1; cases e1
    · rw [e4] at e1
      injection e1 with e1
      injection e1 with e1 _
      subst e1
      exact (hs.block b h.lt (hb.resolve_left e5)).trans k2
theorem OwnS.nil (w : World) (f : Nat) (h : f < w.heap.size) : OwnS w f f none 0 0 [] := ⟨World.ownsRow_nil _ _ _ _, .inl ⟨rfl, rfl⟩, h⟩
theorem OwnS.at {w : World} {f b n c k : Nat} {A : Option Addr} {vs : List Value} (h : OwnS w f b A n c vs) {v : Value} (hk : vs[k]? = some v) : A = some ⟨b, 0, none⟩ ∧ w.cell? ⟨b, k, none⟩ = some v := by
  have hl := (List.getElem?_eq_some_iff.1 hk).1
  have h1 := h.own.1
  rcases h.own.2 with ⟨_, e⟩ | ⟨g, cap, cur, e, _, k2, k3, _, k5, k6⟩
  · omega
  · injection e with e1 e2 e3
    rcases h.pl with ⟨e4, _⟩ | ⟨e4, e5⟩
    · rw [e4] at e1; cases e1
    · refine ⟨e4, ?_⟩
      rw [e4] at e1
      injection e1 with e1
      injection e1 with e1 _
      subst e1
      unfold World.cell?
      rw [show w.heap[(⟨b, k, none⟩ : Addr).block]? = _ from k2]
      have : (cur.toList.take (n * 1))[k]? = some v := by rw [k6]; exact hk
      rw [List.getElem?_take_of_lt (by omega)] at this
      simpa using this
/-- the words that stood there at each moment -/
structure MsAt (w : World) (f mb : Nat) (A : Option Addr) (n c N : Nat) (es : List (Nat × Nat)) (H : List (List Int)) : Prop where
  own : OwnS w f mb A n c (es.map fun e => .slice (some ⟨e.1, 0, none⟩) N e.2)
  len : H.length = es.length
  el : ∀ (k : Nat) e X, es[k]? = some e → H[k]? = some X → X.length = N ∧ N ≤ e.2 ∧ IB w e.1 X
theorem MsAt.n {w : World} {f mb n c N : Nat} {A : Option Addr} {es : List (Nat × Nat)} {H : List (List Int)} (h : MsAt w f mb A n c N es H) : H.length = n := by
  have := h.own.own.1
  rw [List.length_map] at this
  rw [h.len]
  omega
theorem MsAt.spx {w w' : World} {f mb n c N : Nat} {A : Option Addr} {es : List (Nat × Nat)} {H : List (List Int)} {X : List Nat} (h : MsAt w f mb A n c N es H) (hs : SpX X w w') (h1 : mb = f ∨ mb ∉ X) (h2 : ∀ e ∈ es, e.1 ∉ X) : MsAt w' f mb A n c N es H :=
  ⟨h.own.spx hs h1, h.len, fun k e Y he hY => by
    obtain ⟨q1, q2, q3⟩ := h.el k e Y he hY
    exact ⟨q1, q2, q3.spx hs (h2 e (List.mem_of_getElem? he))⟩⟩
theorem MsAt.app {w : World} {f mb n c0 N : Nat} {A : Option Addr} {es : List (Nat × Nat)} {H : List (List Int)} (h : MsAt w f mb A n c0 N es H) (hfl : f < w.heap.size) (hn2 : n ≤ 1000000) (b cb : Nat) (X : List Int) (hX : X.length = N) (hcb : N ≤ cb) (hI : IB w b X) (hbm : b ≠ mb ∨ mb = f) (hem : ∀ e ∈ es, e.1 ≠ mb ∨ mb = f) {ops : Array Oper} {rest : List Oper} {o : Oper} {a : Act} {Q : Exit → Act → World → Prop}
    (hg : o.guard = none) (x t : Operand) (hop : o.op = Op.call { callee := Callee.builtin Builtin.append, args := #[x, t], argTypes := #[53, 53] }) (hs : a.eval x = .slice A n c0) (c : Nat) (hx : a.eval t = .slice (some ⟨w.heap.size, 0, none⟩) 1 c)
    (hK : ∀ mb' c' w', MsAt w' f mb' (some ⟨mb', 0, none⟩) (n + 1) c' N (es ++ [(b, cb)]) (H ++ [X]) → SpX (Ow f mb) w w' → ((mb' = mb ∧ mb ≠ f) ∨ w.heap.size ≤ mb') → wpList Try.prog ops Q rest (a.put o.dst (.slice (some ⟨mb', 0, none⟩) (n + 1) c')) w') :
    wpList Try.prog ops Q (o :: rest) a (w.alloc (.cells #[.slice (some ⟨b, 0, none⟩) N cb] 32)) := by
  obtain ⟨i0, hi, hz0, hz1, hz2⟩ := info_parts infoV
  have hB : Below w.heap.size w (w.alloc (.cells #[.slice (some ⟨b, 0, none⟩) N cb] 32)) := bnew _ _
  have hlt := h.own.lt
  have ho := (h.own.spx (X := []) (.of_below hB) (.inr (by simp))).own
  refine wpList_append_own_at _ hg _ _ 53 hop 0 32 i0 (.slice none 0 0) 1 24 Try.underlying53 hi hz0 hz1 hz2 rfl (by decide) _ _ _ hs ho ⟨w.heap.size, 0, none⟩ 1 c [.slice (some ⟨b, 0, none⟩) N cb] hx rfl (cell_one_new _ _ _) (by simp [Value.oneCell']) (by unfold maxLen; omega) (by omega) (by simp) ?_
  intro v' w4 hown4 hgrow4 _ hat
  obtain ⟨A', c', rfl⟩ := own_form hown4
  have hA' : ∃ b', A' = some ⟨b', 0, none⟩ := by
    rcases hown4.2 with ⟨_, e⟩ | ⟨b', cap, cur, e, _⟩
    · omega
    · injection e with e1
      exact ⟨b', e1⟩
  obtain ⟨b', rfl⟩ := hA'
  have hb' : (b' = mb ∧ mb ≠ f) ∨ w.heap.size < b' := by
    rcases hat with e | e
    · rcases h.own.pl with ⟨e2, _⟩ | ⟨e2, e3⟩
      · rw [e2] at e; simp [Value.ownBlock] at e
      · rw [e2] at e; simp [Value.ownBlock] at e
        exact .inl ⟨e, e3⟩
    · simp [Value.ownBlock] at e
      exact .inr (by omega)
  have hsp : SpX (Ow f mb) w w4 := (SpX.of_below hB).trans (sp_grown hgrow4 fun k e => by
    rcases h.own.pl with ⟨e2, _⟩ | ⟨e2, e3⟩
    · rw [e2] at e; simp [Value.ownBlock] at e
    · rw [e2] at e; simp [Value.ownBlock] at e
      exact e ▸ ow_in e3)
  have hnb : ∀ k, k ≠ mb ∨ mb = f → k ∉ Ow f mb := fun k hk hm => by
    rcases hk with hk | hk
    · exact hk (ow_only hm)
    · exact ow_ne hm hk
  have hlb : b' < w4.heap.size := by
    rcases hown4.2 with ⟨e, _⟩ | ⟨g, cap, cur, e, _, k2, _⟩
    · cases e
    · injection e with e1
      injection e1 with e1
      injection e1 with e1 _
      subst e1
      exact (Array.getElem?_eq_some_iff.1 k2).1
  have hff : f ≠ b' := by rcases hb' with ⟨e, e2⟩ | e <;> omega
  refine hK b' c' w4 ⟨⟨by rw [List.map_append]; exact hown4, .inr ⟨rfl, hff.symm⟩, hlb⟩, by simp [h.len], fun k e Y he hY => ?_⟩ hsp (by omega)
  by_cases hk : k < es.length
  · rw [List.getElem?_append_left hk] at he
    rw [List.getElem?_append_left (by rw [h.len]; exact hk)] at hY
    obtain ⟨q1, q2, q3⟩ := h.el k e Y he hY
    exact ⟨q1, q2, q3.spx hsp (hnb _ (hem e (List.mem_of_getElem? he)))⟩
  · have hl := (List.getElem?_eq_some_iff.1 he).1
    simp only [List.length_append, List.length_cons, List.length_nil] at hl
    obtain rfl : k = es.length := by omega
    simp at he
    rw [← h.len] at hY
    simp at hY
    subst he hY
    exact ⟨hX, hcb, hI.spx hsp (hnb _ hbm)⟩
/-- what each cell had: the lists lie in the blocks bs -/
structure HadAt (w : World) (hb : Nat) (bs : List Nat) (had : List (List Int)) : Prop where
  len : bs.length = had.length
  row : ∀ (p : Nat) b xs, bs[p]? = some b → had[p]? = some xs → ∃ c, w.cell? ⟨hb, p, none⟩ = some (.slice (some ⟨b, 0, none⟩) xs.length c) ∧ Own w hb b (some ⟨b, 0, none⟩) xs.length c xs
  fz : ∀ j, w.frozen? ⟨hb, j, none⟩ = false
  lt : hb < w.heap.size
  nd : ∀ (p q : Nat) b, bs[p]? = some b → bs[q]? = some b → p = q
theorem HadAt.spx {w w' : World} {hb : Nat} {bs : List Nat} {had : List (List Int)} {X : List Nat} (h : HadAt w hb bs had) (hs : SpX X w w') (h1 : hb ∉ X) (h2 : ∀ b ∈ bs, b ∉ X) : HadAt w' hb bs had :=
  ⟨h.len, fun p b xs hb1 hx => by
    obtain ⟨c, k1, k2⟩ := h.row p b xs hb1 hx
    exact ⟨c, (hs.cell p h.lt h1).trans k1, k2.spx hs (.inr (h2 b (List.mem_of_getElem? hb1)))⟩, fun j => (hs.frozen j h.lt h1).trans (h.fz j), Nat.lt_of_lt_of_le h.lt hs.size, h.nd⟩
theorem HadAt.put {w w9 : World} {hb p b b' cc : Nat} {bs : List Nat} {had : List (List Int)} {hp : List Int} {v : Int} (h : HadAt w hb bs had) (hp1 : bs[p]? = some b) (hp2 : had[p]? = some hp) (ho : Own w9 hb b' (some ⟨b', 0, none⟩) (hp.length + 1) cc (hp ++ [v])) (hs : SpX [b] w w9) (hb' : b' = b ∨ w.heap.size ≤ b') :
    HadAt (w9.setCell ⟨hb, p, none⟩ (.slice (some ⟨b', 0, none⟩) (hp.length + 1) cc)) hb (bs.set p b') (had.set p (hp ++ [v])) := by
  obtain ⟨c0, k1, k2⟩ := h.row p b hp hp1 hp2
  have hbh : b ≠ hb := by
    rcases k2.pl with ⟨e, _⟩ | ⟨_, e⟩
    · cases e
    · exact e
  have hbh' : b' ≠ hb := by
    rcases ho.pl with ⟨e, _⟩ | ⟨_, e⟩
    · cases e
    · exact e
  have hlt := h.lt
  have hlb : ∀ (q : Nat) bq, bs[q]? = some bq → bq < w.heap.size := fun q bq hq => by
    have hl := (List.getElem?_eq_some_iff.1 hq).1
    obtain ⟨x, hx⟩ : ∃ x, had[q]? = some x := ⟨had[q]'(by rw [← h.len]; exact hl), by simp⟩
    obtain ⟨_, _, k⟩ := h.row q bq x hq hx
    exact k.lt
  have hss : SpX [hb] w9 (w9.setCell ⟨hb, p, none⟩ (.slice (some ⟨b', 0, none⟩) (hp.length + 1) cc)) := sp_set
  have hpl := (List.getElem?_eq_some_iff.1 hp1).1
  have hpl2 := (List.getElem?_eq_some_iff.1 hp2).1
  refine ⟨by simp [h.len], fun q bq xs hq hx => ?_, fun j => ?_, by simpa [World.setCell] using Nat.lt_of_lt_of_le h.lt hs.size, fun q r bq hq hr => ?_⟩
  · by_cases e : p = q
    · subst e
      rw [List.getElem?_set_self hpl] at hq
      rw [List.getElem?_set_self hpl2] at hx
      injection hq with hq
      injection hx with hx
      subst hq hx
      refine ⟨cc, ?_, ?_⟩
      · rw [World.cell?_setCell_same' _ _ _ (by rw [hs.cell p hlt (by simpa using hbh.symm), k1]; rfl)]
        simp
      · have := ho.spx hss (.inr (by simpa using hbh'))
        simpa using this
    · rw [List.getElem?_set_ne e] at hq hx
      obtain ⟨c, q1, q2⟩ := h.row q bq xs hq hx
      have hne : bq ≠ b := fun e2 => e (h.nd p q b hp1 (e2 ▸ hq))
      have hbq : bq ≠ hb := by
        rcases q2.pl with ⟨e, _⟩ | ⟨_, e⟩
        · cases e
        · exact e
      refine ⟨c, ?_, (q2.spx hs (.inr (by simpa using hne))).spx hss (.inr (by simpa using hbq))⟩
      rw [World.cell?_setCell_other _ _ _ _ (by intro h'; injection h' with _ h'; exact e h'), hs.cell q hlt (by simpa using hbh.symm)]
      exact q1
  · rw [World.frozen?_setCell, hs.frozen j hlt (by simpa using hbh.symm)]
    exact h.fz j
  · by_cases e1 : p = q
    · by_cases e2 : p = r
      · omega
      · exfalso
        subst e1
        rw [List.getElem?_set_self hpl] at hq
        rw [List.getElem?_set_ne e2] at hr
        injection hq with hq
        subst hq
        have := hlb r _ hr
        rcases hb' with e3 | e3
        · exact e2 (h.nd p r b hp1 (e3 ▸ hr))
        · omega
    · rw [List.getElem?_set_ne e1] at hq
      by_cases e2 : p = r
      · exfalso
        subst e2
        rw [List.getElem?_set_self hpl] at hr
        injection hr with hr
        subst hr
        have := hlb q _ hq
        rcases hb' with e3 | e3
        · exact e1 (h.nd p q b hp1 (e3 ▸ hq))
        · omega
      · rw [List.getElem?_set_ne e2] at hr
        exact h.nd q r bq hq hr
end Go.Proofs.Ytalmadeibnekoaa
