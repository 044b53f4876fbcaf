/- The program's Second: each second one of whatever an iterator tells. -/
import Derived.Test.YtpgidjebihgdaaaNum
namespace Go.Proofs.Ytpgidjebihgdaaa
open Go.RowKit Go.Shelf
attribute [local go_sem] Oper.semAt_some

/-- X, and what else is one's own -/
abbrev plus (X p : Set') : Set' := fun k => X k ∨ p k
theorem Grow.own (X : Set') {A B : World} (hb : Below A.heap.size A B) (p : Set') (hp : ∀ k, p k → A.heap.size ≤ k ∧ k < B.heap.size) : Grow X A (plus X p) B :=
  ⟨hb.os, hb.tape, hb.output, hb.size, fun k hk _ => hb.block k hk, fun _ h => .inl h, fun k h => h.imp id (hp k)⟩
theorem Grow.plus {X X' : Set'} {A B : World} (h : Grow X A X' B) (p : Set') : Grow (plus X p) A (plus X' p) B :=
  ⟨h.os, h.tape, h.output, h.size, fun k hk hx => h.block k hk (fun e => hx (.inl e)), fun k => Or.imp (h.sub k) id, fun k hk => hk.elim (fun e => (h.new k e).imp .inl id) (fun e => .inl (.inr e))⟩
theorem Grow.not {X X' : Set'} {A B : World} (h : Grow X A X' B) {k : Nat} (hk : k < A.heap.size) (hx : ¬ X k) : ¬ X' k := fun e => (h.new k e).elim hx (fun e => by omega)
theorem boxed_grow' {X X' : Set'} {A B : World} {k : Nat} {t : TypeId} {v : Value} (h : Boxed A k t v) (hg : Grow X A X' B) (hx : ¬ X k) : Boxed B k t v := (hg.block k h.lt hx).trans h
theorem boxed_kept {E X : Set'} {A B : World} {k : Nat} {t : TypeId} {v : Value} (h : Boxed A k t v) (hg : Kept E X A B) (hx : E k ∨ X k) : Boxed B k t v := (hg k hx).trans h
theorem kept_set {E X : Set'} (A : World) (b : Nat) (v : Value) (he : ¬ E b) (hx : ¬ X b) : Kept E X A (A.setCell ⟨b, 0, none⟩ v) := fun k hk =>
  Below.heap_setCell A ⟨b, 0, none⟩ v k (fun e => by
    have e : k = b := e
    subst e
    exact hk.elim he hx)
theorem YieldAt.inRound {F : Fence} {m : Nat} {P : Program} {l : Nat} {args : Array Value} {W : World} {R : Ending → World → Prop} (l1 : Nat) (h : YieldAt F m P l args W R) : YieldAt (F.inRound l1) m P l args W R := h
abbrev yv (l : Nat) : Value := .func (.yield l) #[] #[]
abbrev fv (g : Nat) (lb : Array Value) : Value := .func (.func g) #[] lb

/-- each second one -/
def sec : List Int → List Int
  | [] => []
  | [x] => [x]
  | x :: _ :: t => x :: sec t
theorem sec_snoc (x : Int) : ∀ l : List Int, sec (l ++ [x]) = if l.length % 2 = 0 then sec l ++ [x] else sec l
  | [] => rfl
  | [y] => rfl
  | y :: z :: t => by
    have := sec_snoc x t
    simp only [List.cons_append, sec, this, List.length_cons]
    by_cases e : t.length % 2 = 0
    · rw [if_pos e, if_pos (by omega)]
    · rw [if_neg e, if_neg (by omega)]
theorem sec_len : ∀ l : List Int, (sec l).length = (l.length + 1) / 2
  | [] => rfl
  | [y] => by simp [sec]
  | y :: z :: t => by
    have := sec_len t
    simp only [sec, List.length_cons, this]
    omega
theorem sec_at : ∀ (l : List Int) (k : Nat), (sec l)[k]? = l[2 * k]?
  | [], k => by simp [sec]
  | [y], k => by
    rcases k with _ | k
    · rfl
    · simp [sec]
  | y :: z :: t, k => by
    rcases k with _ | k
    · rfl
    · have := sec_at t k
      have e : 2 * (k + 1) = 2 * k + 1 + 1 := by omega
      simp only [sec, e, List.getElem?_cons_succ, this]
theorem sec_le (l : List Int) : (sec l).length ≤ l.length := by
  rw [sec_len]
  rcases l with _ | ⟨a, t⟩
  · simp
  · simp; omega

set_option maxHeartbeats 1000000 in
theorem second_any (g : Nat) (lb : Array Value) (w : World) :
    Calls Try.prog 15 #[fv g lb] w fun e w' => e = .returned (fv 29 #[ptr w.heap.size]) ∧ w' = w.alloc (.cells #[fv g lb] 26) := by
  refine (callsIn_wide (n := 6)).1 ?_
  refine callsIn_of_wp Try.func15 rfl trivial ?_ rfl
  simp only [Try.ntmps15, List.size_toArray, List.length_cons, List.length_nil, Nat.reduceAdd, Nat.reduceSub, Array.replicate_succ, Array.replicate_zero, List.push_toArray, List.append_toArray, List.nil_append, List.cons_append]
  gi_wp2
  go_ret
  exact ⟨rfl, rfl⟩

set_option maxRecDepth 100000 in
set_option maxHeartbeats 2000000 in
theorem second_tells {E X0 : Set'} {gf : Nat} {lb : Array Value} {S Sp : List Int → World → Prop} {N Bs : Nat} {w : World} (h : It E X0 gf lb S Sp N w) (eg : ∀ args w, (callFunc gf args).run Try.prog w = .ok (.enter gf args) w)
    (hBs : w.cell? ⟨Bs, 0, none⟩ = some (fv gf lb))
    (l : Nat) (J Jx : Set' → List Int → World → Prop) (W : World) (hW : w.heap.size ≤ W.heap.size) (hK : Kept (plus E (· = Bs)) X0 w W) (hJ : Ab J) (hJx : Ab Jx) (hY : Rounds (plus E (· = Bs)) l N J Jx) (h0 : J X0 [] W) :
    Calls Try.prog 29 #[yv l, ptr Bs] W fun e W' => (∃ v, e = .returned v) ∧ ∃ X, (∀ k, X0 k → X k) ∧
      ((∃ ys, (∃ xs, S xs W' ∧ ys = sec xs) ∧ J X ys W') ∨ (∃ ys, (∃ xs, Sp xs W' ∧ ys = sec xs ∧ xs.length % 2 = 1) ∧ Jx X ys W')) := by
  have hcs := hK.cell hBs (.inl (.inr rfl))
  have lBs : Bs < W.heap.size := World.block_lt_of_cell? W _ hcs
  refine (callsIn_wide (n := 6)).1 ?_
  refine callsIn_of_wp_marks Try.func29 rfl trivial ?_ rfl
  simp only [Try.ntmps29, List.size_toArray, List.length_cons, List.length_nil, Nat.reduceAdd, Nat.reduceSub, Array.replicate_succ, Array.replicate_zero, List.push_toArray, List.append_toArray, List.nil_append, List.cons_append]
  gi_wp2
  have hb2 : Below W.heap.size W ((W.alloc (.cells #[yv l] 29)).alloc (.cells #[.bool false] 4)) := ((Below.refl _ W).alloc (Nat.le_refl _) _).alloc (by simp) _
  have bY := (Boxed.new W 29 (yv l)).alloc (.cells #[.bool false] 4)
  have bP := Boxed.new (W.alloc (.cells #[yv l] 29)) 4 (.bool false)
  rw [World.size_alloc] at bP
  have hsz : ((W.alloc (.cells #[yv l] 29)).alloc (.cells #[.bool false] 4)).heap.size = W.heap.size + 2 := by simp
  obtain ⟨W2, eW2⟩ : ∃ W2, W2 = (W.alloc (.cells #[yv l] 29)).alloc (.cells #[.bool false] 4) := ⟨_, rfl⟩
  rw [← eW2] at hb2 bY bP hsz ⊢
  clear eW2
  obtain ⟨Bp, eBp⟩ : ∃ Bp, Bp = W.heap.size + 1 := ⟨_, rfl⟩
  obtain ⟨By, eBy⟩ : ∃ By, By = W.heap.size := ⟨_, rfl⟩
  rw [← eBp] at bP ⊢
  rw [← eBy] at bY ⊢
  have hE : ∀ k, E k ∨ X0 k → k < By := fun k hk => by rw [eBy]; exact Nat.lt_of_lt_of_le (h.lt k hk) hW
  have hBsB : Bs < By := by omega
  have hne : By ≠ Bp := by omega
  have h2 : It E X0 gf lb S Sp N W2 := h.on (by omega) fun k hk => (hb2.block k (by rw [← eBy]; exact hE k hk)).trans (hK k (hk.imp .inl id))
  have hJ2 : J (plus X0 (two By Bp)) [] W2 := hJ _ _ _ _ _ h0 (Grow.own X0 hb2 _ (fun k hk => by omega))
  have nE : ∀ b, By ≤ b → ¬ E b := fun b hb e => by have := hE b (.inl e); omega
  have nE' : ∀ b, By ≤ b → ¬ (plus E (· = Bs)) b := fun b hb e => e.elim (nE b hb) (fun e => by omega)
  have nX : ∀ b, By ≤ b → ¬ X0 b := fun b hb e => by have := hE b (.inr e); omega
  have hle : By ≤ Bp := by omega
  clear eBp eBy
  refine wpIn_range (lb := lb) rfl eg h2 rfl
    (fun Y pre V => J (plus Y (two By Bp)) (sec pre) V ∧ (¬ Y By ∧ ¬ Y Bp) ∧ Boxed V By 29 (yv l) ∧ Boxed V Bp 4 (.bool (pre.length % 2 == 1)))
    (fun c Y pre V => c = .ret ∧ Jx (plus Y (two By Bp)) (sec pre) V ∧ pre.length % 2 = 1) ?ab ?abx ⟨hJ2, ⟨nX _ (Nat.le_refl _), nX _ hle⟩, bY, bP⟩
    (fun x => { tmps := #[yv l, ptr Bs, ptr By, ptr Bp, vI x, fv gf lb, vI x, undef, undef, undef, undef, undef, undef, undef, undef, undef], defers := [] }) ?assign ?body ?done ?stop
  case ab =>
    rintro X X' s A B ⟨h1, ⟨h2, h3⟩, h4, h5⟩ hg
    exact ⟨hJ _ _ _ _ _ h1 (hg.plus _), ⟨hg.not h4.lt h2, hg.not h5.lt h3⟩, boxed_grow' h4 hg h2, boxed_grow' h5 hg h3⟩
  case abx =>
    rintro c X X' s A B ⟨h1, h2, h3⟩ hg
    exact ⟨h1, hJx _ _ _ _ _ h2 (hg.plus _), h3⟩
  case assign =>
    intro l x W K hK
    gi_wp2
    exact hK
  case body =>
    rintro l1 Y pre x V hl ⟨hJ1, ⟨n1, n2⟩, bY1, bP1⟩ hlt
    have cY := bY1.cell
    have cP := bP1.cell
    have fP := bP1.frozen
    rcases Nat.mod_two_eq_zero_or_one pre.length with hp | hp
    · have hbit : (pre.length % 2 == 1) = false := by rw [hp]; rfl
      rw [hbit] at cP bP1
      have hJ3 : J (plus Y (two By Bp)) (sec pre) (V.setCell ⟨Bp, 0, none⟩ (.bool true)) := hJ _ _ _ _ _ hJ1 (Grow.setCell _ _ _ (.inr (.inr rfl)))
      have bP3 := bP1.set (.bool true)
      have bY3 := bY1.other hne (.bool true)
      have cY3 := bY3.cell
      have cP3 := bP3.cell
      have hk3 : Kept E Y V (V.setCell ⟨Bp, 0, none⟩ (.bool true)) := kept_set _ _ _ (nE _ hle) n2
      obtain ⟨fn, tmps, assign, body, hy, hR⟩ := YieldAt.inRound l1 (hY 3 (plus Y (two By Bp)) (sec pre) x _ hJ3 (Nat.lt_of_le_of_lt (sec_le pre) hlt))
      clear hbit
      have Hp := Lib.hid hp
      clear hp
      gi_wp2
      refine hR.mono ?_
      rintro e W3 (⟨rfl, hJ4, hk4⟩ | ⟨rfl, hJx4, hk4⟩)
      · gi_wp2
        refine ⟨hk3.trans (hk4.less fun k => Or.imp .inl .inl), ?_, ⟨n1, n2⟩, boxed_kept bY3 hk4 (.inr (.inr (.inl rfl))), ?_⟩
        · rw [sec_snoc, if_pos Hp.out]; exact hJ4
        · have := boxed_kept bP3 hk4 (.inr (.inr (.inr rfl)))
          have e : ((pre ++ [x]).length % 2 == 1) = true := by have := Hp.out; simp; omega
          rw [e]; exact this
      · gi_wp2
        refine ⟨hk3.trans (hk4.less fun k => Or.imp .inl .inl), rfl, ?_, ?_⟩
        · rw [sec_snoc, if_pos Hp.out]; exact hJx4
        · have := Hp.out; simp; omega
    · have hbit : (pre.length % 2 == 1) = true := by rw [hp]; rfl
      rw [hbit] at cP bP1
      have hJ3 : J (plus Y (two By Bp)) (sec pre) (V.setCell ⟨Bp, 0, none⟩ (.bool false)) := hJ _ _ _ _ _ hJ1 (Grow.setCell _ _ _ (.inr (.inr rfl)))
      have bP3 := bP1.set (.bool false)
      have bY3 := bY1.other hne (.bool false)
      have cP3 := bP3.cell
      have hk3 : Kept E Y V (V.setCell ⟨Bp, 0, none⟩ (.bool false)) := kept_set _ _ _ (nE _ hle) n2
      clear hbit
      have Hp := Lib.hid hp
      clear hp
      gi_wp2
      refine ⟨fun _ h => (by cases h), ?_⟩
      gi_wp2
      refine ⟨hk3, ?_, ⟨n1, n2⟩, bY3, ?_⟩
      · rw [sec_snoc, if_neg (by have := Hp.out; omega)]; exact hJ3
      · have e : ((pre ++ [x]).length % 2 == 1) = false := by have := Hp.out; simp; omega
        rw [e]; exact bP3
  case done =>
    rintro Y D ys V hD hD0 hXY hS ⟨hJ1, ⟨n1, n2⟩, bY1, bP1⟩ hK
    gi_wp2
    refine ⟨by simp, .inl ⟨_, _, rfl, run_takeDeferred hK, ?_⟩⟩
    refine ⟨.tuple #[], results_none rfl _ _ _, ⟨_, rfl⟩, plus Y (two By Bp), fun k hk => .inl (hXY k hk), .inl ⟨_, ⟨ys, h.st _ _ _ (fun k hk => World.putObj_heap_other (fun e => hD0 (e ▸ hk.elim id id))) hS, rfl⟩, hJ _ _ _ _ _ hJ1 (Grow.putObj _ _ _ (.inl hD))⟩⟩
  case stop =>
    rintro Y D c' pre V hD hD0 hXY hpre ⟨rfl, hJ1, hodd⟩ hK
    have Hodd := Lib.hid hodd
    clear hodd
    gi_wp2
    refine ⟨by simp, .inl ⟨_, _, rfl, run_takeDeferred hK, ?_⟩⟩
    refine ⟨.tuple #[], results_none rfl _ _ _, ⟨_, rfl⟩, plus Y (two By Bp), fun k hk => .inl (hXY k hk), .inr ⟨_, ⟨pre, h.stp _ _ _ (fun k hk => World.putObj_heap_other (fun e => hD0 (e ▸ hk.elim id id))) hpre, rfl, Hodd.out⟩, hJx _ _ _ _ _ hJ1 (Grow.putObj _ _ _ (.inl hD))⟩⟩

theorem second_it {E X0 : Set'} {gf : Nat} {lb : Array Value} {S Sp : List Int → World → Prop} {N : Nat} {w : World} (h : It E X0 gf lb S Sp N w) (eg : ∀ args w, (callFunc gf args).run Try.prog w = .ok (.enter gf args) w) :
    It (plus E (· = w.heap.size)) X0 29 #[ptr w.heap.size] (fun ys V => ∃ xs, S xs V ∧ ys = sec xs) (fun ys V => ∃ xs, Sp xs V ∧ ys = sec xs ∧ xs.length % 2 = 1) N (w.alloc (.cells #[fv gf lb] 26)) where
  lt k hk := by
    rw [World.size_alloc]
    rcases hk with (hk | hk) | hk
    · have := h.lt k (.inl hk); omega
    · omega
    · have := h.lt k (.inr hk); omega
  apart k hk hx := by
    rcases hk with hk | hk
    · exact h.apart k hk hx
    · have := h.lt k (.inr hx); omega
  st _ A B hk := fun ⟨xs, h1, h2⟩ => ⟨xs, h.st _ A B hk h1, h2⟩
  stp _ A B hk := fun ⟨xs, h1, h2⟩ => ⟨xs, h.stp _ A B hk h1, h2⟩
  tells l J Jx W hW hK hJ hJx hY h0 :=
    second_tells (h.below ((Below.refl _ w).alloc (Nat.le_refl _) _)) eg (Boxed.new w 26 (fv gf lb)).cell l J Jx W hW hK hJ hJx hY h0
end Go.Proofs.Ytpgidjebihgdaaa
