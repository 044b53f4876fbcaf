/- All that a law over moments has: each thing's blocks have a colour of their own. -/
import Derived.Test.YtalmadeibnekoaaHad
namespace Go.Proofs.Ytalmadeibnekoaa
open Go.RowKit
attribute [local go_sem ↓] Go.wp_at_zero Go.wp_at_succ

def up (κ : Nat → Nat) (n col : Nat) : Nat → Nat := fun k => if k < n then κ k else col
theorem up_old {κ : Nat → Nat} {n col k : Nat} (h : k < n) : up κ n col k = κ k := if_pos h
theorem up_new {κ : Nat → Nat} {n col k : Nat} (h : n ≤ k) : up κ n col k = col := if_neg (by omega)
/-- given (0), the memory (1), the one that looks (2), what each cell had (3), the moments' list (4), the moments (5) -/
structure Al (κ : Nat → Nat) (w0 wr : World) (g gw N f sb ab hb mb Bc : Nat) (c : Cf) (s : St) (x : Tw) (bs : List Nat) (had : List (List Int)) (A : Option Addr) (n cap : Nat) (es : List (Nat × Nat)) (H : List (List Int)) : Prop where
  below : Below w0.heap.size w0 wr
  z : ∀ k, k < w0.heap.size → κ k = 0
  bc : RowAt wr Bc 31 #[Value.int .i64 c.wo, Value.int .i64 c.sl, Value.int .i64 c.st, Value.int .i64 c.wa, Value.int .i64 c.us]
  kb : κ Bc = 0
  mem : MemAt wr g gw N s
  kg : κ g = 1 ∧ κ gw = 1
  tw : TwAt wr f sb ab c x
  kt : κ f = 2 ∧ κ sb = 2 ∧ κ ab = 2
  had : HadAt wr hb bs had
  kh : κ hb = 3 ∧ ∀ b ∈ bs, κ b = 3
  ms : MsAt wr Bc mb A n cap N es H
  km : (mb = Bc ∨ κ mb = 4) ∧ ∀ e ∈ es, κ e.1 = 5
theorem HadAt.lb {w : World} {hb : Nat} {bs : List Nat} {had : List (List Int)} (h : HadAt w hb bs had) : ∀ b ∈ bs, b < w.heap.size := by
  intro b hbm
  obtain ⟨p, hp, rfl⟩ := List.mem_iff_getElem.1 hbm
  obtain ⟨_, _, k⟩ := h.row p bs[p] (had[p]'(by rw [← h.len]; exact hp)) (by simp) (by simp)
  exact k.lt
theorem MsAt.le {w : World} {f mb n c N : Nat} {A : Option Addr} {es : List (Nat × Nat)} {H : List (List Int)} (h : MsAt w f mb A n c N es H) : ∀ e ∈ es, e.1 < w.heap.size := by
  intro e hem
  obtain ⟨p, hp, rfl⟩ := List.mem_iff_getElem.1 hem
  obtain ⟨_, _, k⟩ := h.el p es[p] (H[p]'(by rw [h.len]; exact hp)) (by simp) (by simp)
  exact k.1
section
variable {κ : Nat → Nat} {w0 wr : World} {g gw N f sb ab hb mb Bc : Nat} {c : Cf} {s : St} {x : Tw} {bs : List Nat} {had : List (List Int)} {A : Option Addr} {n cap : Nat} {es : List (Nat × Nat)} {H : List (List Int)}
theorem Al.colour {κ' : Nat → Nat} (h : Al κ w0 wr g gw N f sb ab hb mb Bc c s x bs had A n cap es H) (hk : ∀ k, k < wr.heap.size → κ' k = κ k) : Al κ' w0 wr g gw N f sb ab hb mb Bc c s x bs had A n cap es H := by
  have hs := h.below.size
  obtain ⟨t1, t2, t3⟩ := h.tw.lt
  refine ⟨h.below, fun k hk0 => (hk k (by omega)).trans (h.z k hk0), h.bc, (hk _ h.bc.lt).trans h.kb, h.mem, ⟨(hk _ h.mem.lg).trans h.kg.1, (hk _ h.mem.lw).trans h.kg.2⟩, h.tw, ⟨(hk _ t1).trans h.kt.1, (hk _ t2).trans h.kt.2.1, (hk _ t3).trans h.kt.2.2⟩, h.had, ⟨(hk _ h.had.lt).trans h.kh.1, fun b hb => (hk _ (h.had.lb b hb)).trans (h.kh.2 b hb)⟩, h.ms, ?_, fun e he => (hk _ (h.ms.le e he)).trans (h.km.2 e he)⟩
  rcases h.km.1 with e | e
  · exact .inl e
  · exact .inr ((hk _ h.ms.own.lt).trans e)
theorem Al.on {w' : World} (h : Al κ w0 wr g gw N f sb ab hb mb Bc c s x bs had A n cap es H) (hbb : Below wr.heap.size wr w') : Al κ w0 w' g gw N f sb ab hb mb Bc c s x bs had A n cap es H :=
  ⟨h.below.trans (hbb.mono h.below.size), h.z, h.bc.below hbb h.bc.lt, h.kb, h.mem.on hbb, h.kg, h.tw.on hbb, h.kt, h.had.spx (X := []) (.of_below hbb) (by simp) (by simp), h.kh, h.ms.spx (X := []) (.of_below hbb) (.inr (by simp)) (by simp), h.km⟩
theorem Al.store {w' : World} {s' : St} (h : Al κ w0 wr g gw N f sb ab hb mb Bc c s x bs had A n cap es H) (hm : MemAt w' g gw N s') (hs : SpX [g, gw] wr w') : Al κ w0 w' g gw N f sb ab hb mb Bc c s' x bs had A n cap es H := by
  have hX : ∀ k, k ∈ [g, gw] → κ k = 1 := fun k hk => by
    simp at hk
    rcases hk with rfl | rfl
    · exact h.kg.1
    · exact h.kg.2
  have hN : ∀ k, κ k ≠ 1 → k ∉ [g, gw] := fun k hk hm => hk (hX k hm)
  obtain ⟨t1, t2, t3⟩ := h.kt
  have kz := h.z
  refine ⟨hs.below h.below h.below.size (fun k hk => ?_), h.z, h.bc.spx hs (hN _ (by rw [h.kb]; decide)), h.kb, hm, h.kg, h.tw.spx hs (hN _ (by omega)) (hN _ (by omega)) (hN _ (by omega)), h.kt, h.had.spx hs (hN _ (by rw [h.kh.1]; decide)) (fun b hb => hN _ (by rw [h.kh.2 b hb]; decide)), h.kh, h.ms.spx hs ?_ (fun e he => hN _ (by rw [h.km.2 e he]; decide)), h.km⟩
  · have := hX k hk
    by_cases e : k < w0.heap.size
    · have := kz k e; omega
    · omega
  · rcases h.km.1 with e | e
    · exact .inl e
    · exact .inr (hN _ (by rw [e]; decide))
theorem Al.step {w' : World} {s' : St} {y : Tw} {sb' ab' : Nat} (h : Al κ w0 wr g gw N f sb ab hb mb Bc c s x bs had A n cap es H) (hT : TwAt w' f sb' ab' c y) (hm : MemAt w' g gw N s') (hs : SpX [f, sb, g, gw] wr w') (h1 : sb' = sb ∨ wr.heap.size ≤ sb') (h2 : ab' = ab ∨ wr.heap.size ≤ ab') : Al (up κ wr.heap.size 2) w0 w' g gw N f sb' ab' hb mb Bc c s' y bs had A n cap es H := by
  have hX : ∀ k, k ∈ [f, sb, g, gw] → κ k = 1 ∨ κ k = 2 := fun k hk => by
    simp at hk
    rcases hk with rfl | rfl | rfl | rfl
    · exact .inr h.kt.1
    · exact .inr h.kt.2.1
    · exact .inl h.kg.1
    · exact .inl h.kg.2
  have hN : ∀ k, κ k ≠ 1 → κ k ≠ 2 → k ∉ [f, sb, g, gw] := fun k hk hk2 hm => by have := hX k hm; omega
  have kz := h.z
  have h' := h.colour (κ' := up κ wr.heap.size 2) (fun k hk => up_old hk)
  have kz' := h'.z
  refine ⟨hs.below h.below h.below.size (fun k hk => ?_), h'.z, h.bc.spx hs (hN _ (by rw [h.kb]; decide) (by rw [h.kb]; decide)), h'.kb, hm, h'.kg, hT, ⟨h'.kt.1, ?_, ?_⟩, h.had.spx hs (hN _ (by rw [h.kh.1]; decide) (by rw [h.kh.1]; decide)) (fun b hb => hN _ (by rw [h.kh.2 b hb]; decide) (by rw [h.kh.2 b hb]; decide)), h'.kh, h.ms.spx hs ?_ (fun e he => hN _ (by rw [h.km.2 e he]; decide) (by rw [h.km.2 e he]; decide)), h'.km⟩
  · have := hX k hk
    by_cases e : k < w0.heap.size
    · have := kz k e; omega
    · omega
  · rcases h1 with e | e
    · rw [e]; exact h'.kt.2.1
    · exact up_new e
  · rcases h2 with e | e
    · rw [e]; exact h'.kt.2.2
    · exact up_new e
  · rcases h.km.1 with e | e
    · exact .inl e
    · exact .inr (hN _ (by rw [e]; decide) (by rw [e]; decide))
theorem Al.more {w9 : World} {p b b' cc : Nat} {hp : List Int} {v : Int} (h : Al κ w0 wr g gw N f sb ab hb mb Bc c s x bs had A n cap es H) (hp1 : bs[p]? = some b) (hp2 : had[p]? = some hp) (ho : Own w9 hb b' (some ⟨b', 0, none⟩) (hp.length + 1) cc (hp ++ [v])) (hs : SpX [b] wr w9) (hb' : b' = b ∨ wr.heap.size ≤ b') :
    Al (up κ wr.heap.size 3) w0 (w9.setCell ⟨hb, p, none⟩ (.slice (some ⟨b', 0, none⟩) (hp.length + 1) cc)) g gw N f sb ab hb mb Bc c s x (bs.set p b') (had.set p (hp ++ [v])) A n cap es H := by
  have hH := h.had.put hp1 hp2 ho hs hb'
  have kb3 := h.kh.2 b (List.mem_of_getElem? hp1)
  have hs2 : SpX [b, hb] wr (w9.setCell ⟨hb, p, none⟩ (.slice (some ⟨b', 0, none⟩) (hp.length + 1) cc)) := (hs.more (by simp)).trans ((sp_set (f := hb)).more (by simp))
  have hX : ∀ k, k ∈ [b, hb] → κ k = 3 := fun k hk => by
    simp at hk
    rcases hk with rfl | rfl
    · exact kb3
    · exact h.kh.1
  have hN : ∀ k, κ k ≠ 3 → k ∉ [b, hb] := fun k hk hm => hk (hX k hm)
  obtain ⟨t1, t2, t3⟩ := h.kt
  obtain ⟨g1, g2⟩ := h.kg
  have kz := h.z
  have h' := h.colour (κ' := up κ wr.heap.size 3) (fun k hk => up_old hk)
  refine ⟨hs2.below h.below h.below.size (fun k hk => ?_), h'.z, h.bc.spx hs2 (hN _ (by rw [h.kb]; decide)), h'.kb, h.mem.spx hs2 (hN _ (by omega)) (hN _ (by omega)), h'.kg, h.tw.spx hs2 (hN _ (by omega)) (hN _ (by omega)) (hN _ (by omega)), h'.kt, hH, ⟨h'.kh.1, fun q hq => ?_⟩, h.ms.spx hs2 ?_ (fun e he => hN _ (by rw [h.km.2 e he]; decide)), h'.km⟩
  · have := hX k hk
    by_cases e : k < w0.heap.size
    · have := kz k e; omega
    · omega
  · rcases List.mem_or_eq_of_mem_set hq with hq | rfl
    · exact h'.kh.2 q hq
    · rcases hb' with e | e
      · rw [e]; exact h'.kh.2 b (List.mem_of_getElem? hp1)
      · exact up_new e
  · rcases h.km.1 with e | e
    · exact .inl e
    · exact .inr (hN _ (by rw [e]; decide))
theorem Al.push {w1 w' : World} {b mb' cap' : Nat} {X : List Int} {es' : List (Nat × Nat)} {A' : Option Addr} {n' : Nat} (h : Al κ w0 wr g gw N f sb ab hb mb Bc c s x bs had A n cap es H) (hbb : Below wr.heap.size wr w1) (hbn : wr.heap.size ≤ b) (hb1 : b < w1.heap.size) (hM : MsAt w' Bc mb' A' n' cap' N es' (H ++ [X])) (hes : ∀ e ∈ es', e ∈ es ∨ e.1 = b) (hs : SpX (Ow Bc mb) w1 w') (hmb : (mb' = mb ∧ mb ≠ Bc) ∨ w1.heap.size ≤ mb') :
    Al (up (up κ wr.heap.size 5) w1.heap.size 4) w0 w' g gw N f sb ab hb mb' Bc c s x bs had A' n' cap' es' (H ++ [X]) := by
  have hsz := hbb.size
  have h1 := h.on hbb
  have h2 := (h.colour (κ' := up κ wr.heap.size 5) (fun k hk => up_old hk)).on hbb
  have h3 := h2.colour (κ' := up (up κ wr.heap.size 5) w1.heap.size 4) (fun k hk => up_old hk)
  have hX : ∀ k, k ∈ Ow Bc mb → κ k = 4 := fun k hk => by
    rw [ow_only hk]
    exact h.km.1.resolve_left (ow_ne hk)
  have hN : ∀ k, κ k ≠ 4 → k ∉ Ow Bc mb := fun k hk hm => hk (hX k hm)
  obtain ⟨t1, t2, t3⟩ := h.kt
  obtain ⟨g1, g2⟩ := h.kg
  have kz := h.z
  refine ⟨hs.below h1.below h1.below.size (fun k hk => ?_), h3.z, h1.bc.spx hs (ow_not _ _), h3.kb, h1.mem.spx hs (hN _ (by omega)) (hN _ (by omega)), h3.kg, h1.tw.spx hs (hN _ (by omega)) (hN _ (by omega)) (hN _ (by omega)), h3.kt, h1.had.spx hs (hN _ (by rw [h.kh.1]; decide)) (fun b hb => hN _ (by rw [h.kh.2 b hb]; decide)), h3.kh, hM, ?_, fun e he => ?_⟩
  · have := hX k hk
    by_cases e : k < w0.heap.size
    · have := kz k e; omega
    · omega
  · rcases hmb with ⟨e, e2⟩ | e
    · rw [e]
      exact .inr (h3.km.1.resolve_left e2)
    · exact .inr (up_new e)
  · rcases hes e he with he | he
    · exact h3.km.2 e he
    · rw [he, up_old hb1, up_new hbn]
end
end Go.Proofs.Ytalmadeibnekoaa
