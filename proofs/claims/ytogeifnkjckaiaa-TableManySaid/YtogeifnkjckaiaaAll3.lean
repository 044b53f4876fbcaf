/- What ranging over a tree tells (of texts by numbers): each pair, in order; whatever it turns is its own. -/
import Derived.Test.YtogeifnkjckaiaaHeldI
namespace Go.Proofs.Ytogeifnkjckaiaa
open Go.RowKit Go.Shelf
attribute [local go_sem] Oper.semAt_some

abbrev en3 (x : Int × ByteArray) : Array Value := #[vI x.1, vS x.2]
abbrev StT3 (E : Set') (A : Option Addr) (t : Tr Int ByteArray) (W : World) : Prop := (∀ k, E k → k < W.heap.size) ∧ TreeAt vI vS E W A t
set_option maxRecDepth 100000 in
set_option maxHeartbeats 4000000 in
theorem all3_it (E : Set') : ∀ (n : Nat) (t : Tr Int ByteArray) (A : Option Addr), t.ht < n → It (StT3 E A t) E en3 55 #[.pointer A] #[] t.toL := by
  intro n
  induction n with
  | zero => exact fun t A h => absurd h (Nat.not_lt_zero _)
  | succ n ih =>
  intro t A ht
  refine ⟨fun W h => h.1, fun W W' h hb => ⟨fun k hk => Nat.lt_of_lt_of_le (h.1 k hk) hb.size, h.2.below hb⟩, ?_⟩
  intro l J Jx W ⟨hlt, hT⟩ hJ hJx hY h0
  show Calls Try.prog 55 #[.pointer A, yv l] W _
  have eg := enters_of Try.func55 (by kernel_rfl) rfl
  refine (callsIn_wide (n := 6)).1 ?_
  refine callsIn_of_wp_marks Try.func55 rfl trivial ?_ rfl
  simp only [Try.ntmps55, List.size_toArray, List.length_cons, List.length_nil, Nat.reduceAdd, Nat.reduceSub, Array.replicate_succ, Array.replicate_zero, List.push_toArray, List.append_toArray, List.nil_append, List.cons_append]
  gi_wp2
  obtain ⟨By, eBy⟩ : ∃ By, By = W.heap.size := ⟨_, rfl⟩
  have bY : Boxed (W.alloc (.cells #[yv l] 65)) By 65 (yv l) := by rw [eBy]; exact Boxed.new W 65 (yv l)
  have hJ1 : J (fun k => False ∨ k = By) [] (W.alloc (.cells #[yv l] 65)) := hJ _ _ _ _ _ h0 (Grow.own _ (bnew W _) _ (fun k hk => by rw [hk, eBy]; simp))
  have hK1 : Kp E W (fun k => False ∨ k = By) (W.alloc (.cells #[yv l] 65)) := ⟨by simp, fun k hk => (hk.elim False.elim fun e => by rw [e, eBy]; simp), fun k hk => ⟨hlt k hk, Below.heap_alloc W _ k (hlt k hk)⟩⟩
  rw [← eBy]
  have EBy := Lib.hid eBy
  clear eBy
  refine wpIn_loop (fun a wr => ∃ (A1 : Option Addr) (t1 : Tr Int ByteArray) (pre : List (Int × ByteArray)) (Y : Set') (f : Nat → Value) (ds : List Nat),
      a = { tmps := #[.pointer A1, yv l, f 2, ptr By, f 4, f 5, f 6, f 7, f 8, f 9, f 10, f 11, f 12, f 13, f 14, f 15, f 16, f 17, f 18, f 19, f 20, f 21, f 22, f 23, f 24, f 25, f 26, f 27, f 28, f 29, f 30, f 31, f 32, f 33, f 34, f 35, f 36, f 37, f 38, f 39, f 40], defers := ds.map mk } ∧ TreeAt vI vS E W A1 t1 ∧ t1.ht < n + 1 ∧ pre ++ t1.toL = t.toL ∧
      J Y pre wr ∧ Kp E W Y wr ∧ Y By ∧ Boxed wr By 65 (yv l) ∧ (∀ D ∈ ds, Y D ∧ wr.heap[D]? = some (.deferred (some []))) ∧ ds.Nodup)
    (fun a _ => htOf W (a.tmps.getD 0 undef)) ?start ?round
  case start =>
    exact ⟨A, t, [], _, fun i => if i = 3 then ptr By else undef, [], rfl, hT, ht, rfl, hJ1, hK1, .inr rfl, bY, by simp, by simp⟩
  case round =>
    rintro a wr ⟨A1, t1, pre, Y, f, ds, rfl, hT1, ht1, hpre, hJr, hKr, hYB, bYr, hds, hnd⟩
    have cY := bYr.cell
    cases t1 with
    | nil =>
      obtain rfl := hT1
      simp only [Tr.toL, List.append_nil] at hpre
      subst hpre
      gi_wp2
      refine leaves_marks (Y := Y) ds _ hds hnd fun w' hg => ⟨.tuple #[], results_none rfl _ _ _, ⟨_, rfl⟩, Y, .inl (hJ _ _ _ _ _ hJr hg)⟩
    | node tl x u tr =>
      have hm := htOf_tree hT1
      obtain ⟨b, p, B1, B2, rfl, n1, s1, s2⟩ := hT1
      have hm2 := htOf_tree s2
      have Hm := Lib.hid (And.intro hm hm2)
      clear hm hm2
      have hbr := (hKr.2.2 b n1.eb)
      have hpr := (hKr.2.2 p n1.ep)
      have n2 := n1.kept hKr.1 hbr.2 hpr.2
      have c0 := n2.c0
      have c1 := n2.c1
      have c2 := n2.c2
      have k0 := n2.k0
      have k1 := n2.k1
      have hlh : tl.ht < n := by simp only [Tr.ht] at ht1; omega
      have hrh : tr.ht < n + 1 := by simp only [Tr.ht] at ht1; omega
      have hS1 : StT3 E B1 tl wr := ⟨fun k hk => Nat.lt_of_lt_of_le (hlt k hk) hKr.1, s1.kept hKr.1 fun k hk _ => (hKr.2.2 k hk).2⟩
      have Hpre := Lib.hid hpre
      clear hpre
      gi_wp2
      refine wpIn_range (enc := en3) (fi := #[.pointer B1]) (lb := #[]) rfl eg (ih tl B1 hlh) hS1 (fun _ => rfl)
        (fun Y' pre' V => J (plus Y' Y) (pre ++ pre') V ∧ Kp (plus E Y) wr Y' V)
        (fun c Y' pre' V => c = .ret ∧ Jx (plus Y' Y) (pre ++ pre') V ∧ Kp (plus E Y) wr Y' V) ?ab ?abx ?start2
        (fun y => { tmps := #[.pointer (some ⟨b, 0, none⟩), yv l, f 2, ptr By, vI y.1, vS y.2, .pointer (some ⟨b, 0, none⟩), .bool true, f 8, f 9, f 10, f 11, .pointer (some ⟨b, 0, none⟩), .pointer (some ⟨b, 0, none⟩), .pointer (some ⟨b, 1, none⟩), .pointer B1, .func (.func 55) #[.pointer B1] #[], vI y.1, vS y.2, f 19, f 20, f 21, f 22, f 23, f 24, f 25, f 26, f 27, f 28, f 29, f 30, f 31, f 32, f 33, f 34, f 35, f 36, f 37, f 38, f 39, f 40], defers := [] }) ?assign ?body ?done ?stop
      case ab =>
        rintro X X' s A B ⟨h1, h2⟩ hg
        exact ⟨hJ _ _ _ _ _ h1 (hg.plus _), h2.grow hg⟩
      case abx =>
        rintro c X X' s A B ⟨h0, h1, h2⟩ hg
        exact ⟨h0, hJx _ _ _ _ _ h1 (hg.plus _), h2.grow hg⟩
      case start2 =>
        refine ⟨hJ _ _ _ _ _ (by rw [List.append_nil]; exact hJr) ⟨rfl, rfl, rfl, Nat.le_refl _, fun _ _ _ => rfl, fun _ h => .inr h, fun _ h => .inl (h.elim False.elim id)⟩, Nat.le_refl _, fun k hk => hk.elim, fun k hk => ⟨?_, rfl⟩⟩
        exact hk.elim (fun h => Nat.lt_of_lt_of_le (hlt k h) hKr.1) (fun h => (hKr.2.1 k h).2)
      case assign =>
        intro l1 y V K hK
        gi_wp2
        exact hK
      case body =>
        rintro l1 Y' pre' y V hl1 ⟨hJ2, hK2⟩ hpp
        have bYV : Boxed V By 65 (yv l) := (hK2.2.2 By (.inr hYB)).2.trans bYr
        have cYV := bYV.cell
        have hpx : (pre ++ pre') ++ [y] <+: t.toL := by
          rw [← Hpre.out, List.append_assoc]
          exact (List.prefix_append_right_inj pre).2 (hpp.trans (List.prefix_append _ _))
        obtain ⟨fn, tmps, assign, body, hy, hR⟩ := YieldAt.inRound l1 (hY 3 (plus Y' Y) (pre ++ pre') y V hJ2 hpx)
        clear hpx
        gi_wp2
        refine hR.mono ?_
        have hE2 : ∀ V', Kept E (plus Y' Y) V V' → Kept E Y' V V' ∧ Kp (plus E Y) wr Y' V' := fun V' hk => ⟨hk.less fun k h => h.imp id .inl, hK2.kept (hk.less (E' := E) fun k h => h.imp id .inl) (fun k h => h.imp id fun h => .inr (hk k (.inr (.inr h)))) hl1⟩
        rintro e V' (⟨rfl, hJ4, hk4⟩ | ⟨rfl, hJx4, hk4⟩)
        · gi_wp2
          refine ⟨(hE2 V' hk4).1, ?_, (hE2 V' hk4).2⟩
          rw [← List.append_assoc]; exact hJ4
        · gi_wp2
          refine ⟨(hE2 V' hk4).1, rfl, ?_, (hE2 V' hk4).2⟩
          rw [← List.append_assoc]; exact hJx4
      case stop =>
        rintro Y' D c pre' V hD hDe hpp ⟨rfl, hJx2, hK2⟩ hDV
        have hYD : ∀ D' ∈ D :: ds, (plus Y' Y) D' ∧ V.heap[D']? = some (.deferred (some [])) := fun D' h => (List.mem_cons.1 h).elim (fun e => by subst e; exact ⟨.inl hD, hDV⟩) fun h => ⟨.inr (hds D' h).1, (hK2.2.2 D' (.inr (hds D' h).1)).2.trans (hds D' h).2⟩
        have hND : (D :: ds).Nodup := List.nodup_cons.2 ⟨fun h => by have := (hKr.2.1 D (hds D h).1).2; omega, hnd⟩
        have Hpp := Lib.hid hpp
        clear hpp
        gi_wp2
        refine leaves_marks (Y := plus Y' Y) (D :: ds) _ hYD hND fun w' hg => ⟨.tuple #[], results_none rfl _ _ _, ⟨_, rfl⟩, plus Y' Y, .inr ⟨pre ++ pre', ?_, hJx _ _ _ _ _ hJx2 hg⟩⟩
        rw [← Hpre.out]
        exact (List.prefix_append_right_inj pre).2 (Hpp.out.trans (List.prefix_append _ _))
      case done =>
        rintro Y' D V hD hDe ⟨hJ2, hK2⟩ hDV
        have hYD : ∀ D' ∈ D :: ds, (plus Y' Y) D' ∧ V.heap[D']? = some (.deferred (some [])) := fun D' h => (List.mem_cons.1 h).elim (fun e => by subst e; exact ⟨.inl hD, hDV⟩) fun h => ⟨.inr (hds D' h).1, (hK2.2.2 D' (.inr (hds D' h).1)).2.trans (hds D' h).2⟩
        have hND : (D :: ds).Nodup := List.nodup_cons.2 ⟨fun h => by have := (hKr.2.1 D (hds D h).1).2; omega, hnd⟩
        have bYV : Boxed V By 65 (yv l) := (hK2.2.2 By (.inr hYB)).2.trans bYr
        have cYV := bYV.cell
        have hbV := (hK2.2.2 b (.inl n1.eb))
        have hpV := (hK2.2.2 p (.inl n1.ep))
        have n3 := n2.kept hK2.1 hbV.2 hpV.2
        have d0 := n3.c0
        have d2 := n3.c2
        have m0 := n3.k0
        have m1 := n3.k1
        have hpx : (pre ++ tl.toL) ++ [(x, u)] <+: t.toL := by
          rw [← Hpre.out, List.append_assoc, Tr.toL]
          exact (List.prefix_append_right_inj pre).2 ((List.prefix_append_right_inj tl.toL).2 ⟨tr.toL, rfl⟩)
        have hKV : Kp E W (plus Y' Y) V := ⟨Nat.le_trans hKr.1 hK2.1, fun k hk => hk.elim (fun h => ⟨Nat.le_trans hKr.1 (hK2.2.1 k h).1, (hK2.2.1 k h).2⟩) (fun h => ⟨(hKr.2.1 k h).1, Nat.lt_of_lt_of_le (hKr.2.1 k h).2 hK2.1⟩),
          fun k hk => ⟨hlt k hk, (hK2.2.2 k (.inl hk)).2.trans (hKr.2.2 k hk).2⟩⟩
        have Hpx := Lib.hid hpx
        have heb := n1.eb
        have hep := n1.ep
        subst hDe
        clear hpx n1 n2 n3 hbV hpV hbr hpr c0 c1 c2 k0 k1 cY
        gi_wp2
        have hmx : Try.prog.follows .mixedOrders = true := by kernel_rfl
        obtain ⟨fn, tmps, assign, body, hy, hR⟩ := hY 5 (plus Y' Y) (pre ++ tl.toL) (x, u) V.drew (hJ _ _ _ _ _ hJ2 ⟨rfl, rfl, rfl, Nat.le_refl _, fun _ _ _ => rfl, fun _ h => h, fun _ h => .inl h⟩) Hpx.out
        refine region_heldI (fun w' => w'.cell? ⟨By, 0, none⟩ = some (yv l) ∧ w'.cell? ⟨b, 0, none⟩ = some (ptr p) ∧ w'.cell? ⟨p, 0, none⟩ = some (vI x) ∧ w'.cell? ⟨p, 1, none⟩ = some (vS u))
          (fun a W3 => ∃ bb : Bool, a = { tmps := #[.pointer (some ⟨b, 0, none⟩), yv l, f 2, ptr By, f 4, f 5, .pointer (some ⟨b, 0, none⟩), .bool true, f 8, f 9, f 10, f 11, .pointer (some ⟨b, 0, none⟩), .pointer (some ⟨b, 0, none⟩), .pointer (some ⟨b, 1, none⟩), .pointer B1, .func (.func 55) #[.pointer B1] #[], f 17, f 18, f 19, f 20, f 21, f 22, f 23, yv l, .pointer (some ⟨b, 0, none⟩), .pointer (some ⟨b, 0, none⟩), .pointer (some ⟨b, 0, none⟩), ptr p, .pointer (some ⟨p, 0, none⟩), .pointer (some ⟨p, 0, none⟩), vI x, .pointer (some ⟨b, 0, none⟩), .pointer (some ⟨b, 0, none⟩), .pointer (some ⟨b, 0, none⟩), ptr p, .pointer (some ⟨p, 0, none⟩), .pointer (some ⟨p, 1, none⟩), vS u, .bool bb, .bool !bb], defers := mk wr.heap.size :: ds.map mk } ∧
          ((bb = true ∧ J (plus Y' Y) (pre ++ tl.toL ++ [(x, u)]) W3 ∧ Kept E (plus Y' Y) V.drew W3) ∨ (bb = false ∧ Jx (plus Y' Y) (pre ++ tl.toL ++ [(x, u)]) W3 ∧ Kept E (plus Y' Y) V.drew W3))) hmx ⟨cYV, d0, m0, m1⟩ (fun hS => ?_) ?key
        case key =>
          clear hR hy
          rintro a W3 ⟨bb, rfl, hE2⟩
          have hlY : (plus Y' Y) By := .inr hYB
          rcases hE2 with ⟨rfl, hJ4, hk4⟩ | ⟨rfl, hJx4, hk4⟩
          · have hk5 : Kept E (plus Y' Y) V W3 := fun k hk => (hk4 k hk).trans rfl
            have e2 : W3.cell? ⟨b, 2, none⟩ = some (.pointer B2) := (World.cell?_of_block (w := V) (hk5 b (.inl heb))).trans d2
            gi_wp2
            have hKW : Kp E W (plus Y' Y) W3 := hKV.kept hk5 (fun k hk => .inl hk) hlY
            refine ⟨⟨B2, tr, _, plus Y' Y, fun i => (#[.pointer B2, yv l, f 2, ptr By, f 4, f 5, .pointer (some ⟨b, 0, none⟩), .bool true, .pointer (some ⟨b, 0, none⟩), .pointer (some ⟨b, 0, none⟩), .pointer (some ⟨b, 2, none⟩), .pointer B2, .pointer (some ⟨b, 0, none⟩), .pointer (some ⟨b, 0, none⟩), .pointer (some ⟨b, 1, none⟩), .pointer B1, .func (.func 55) #[.pointer B1] #[], f 17, f 18, f 19, f 20, f 21, f 22, f 23, yv l, .pointer (some ⟨b, 0, none⟩), .pointer (some ⟨b, 0, none⟩), .pointer (some ⟨b, 0, none⟩), ptr p, .pointer (some ⟨p, 0, none⟩), .pointer (some ⟨p, 0, none⟩), vI x, .pointer (some ⟨b, 0, none⟩), .pointer (some ⟨b, 0, none⟩), .pointer (some ⟨b, 0, none⟩), ptr p, .pointer (some ⟨p, 0, none⟩), .pointer (some ⟨p, 1, none⟩), vS u, .bool true, .bool !true] : Array Value).getD i undef, wr.heap.size :: ds, ?fr, s2, hrh, ?pre, hJ4, hKW, hlY, (hk5 By (.inr hlY)).trans bYV, fun D' h => ⟨(hYD D' h).1, (hk5 D' (.inr (hYD D' h).1)).trans (hYD D' h).2⟩, hND⟩, ?meas⟩
            case fr => rfl
            case pre => rw [← Hpre.out]; simp [Tr.toL]
            case meas =>
              have h1 := Hm.out.1
              have h2 := Hm.out.2
              simp only [Tr.ht] at h1
              show htOf W (.pointer B2) < htOf W (.pointer (some ⟨b, 0, none⟩))
              omega
          · gi_wp2
            have hk5 : Kept E (plus Y' Y) V W3 := fun k hk => (hk4 k hk).trans rfl
            refine leaves_marks (Y := plus Y' Y) (wr.heap.size :: ds) _ (fun D' h => ⟨(hYD D' h).1, (hk5 D' (.inr (hYD D' h).1)).trans (hYD D' h).2⟩) hND fun w' hg => ⟨.tuple #[], results_none rfl _ _ _, ⟨_, rfl⟩, plus Y' Y, .inr ⟨_, Hpx.out, hJx _ _ _ _ _ hJx4 hg⟩⟩
        refine HeldI.take (i := 0) (v := ?v0) rfl (by kernel_rfl) (by kernel_rfl) (by kernel_rfl) (by kernel_rfl) (fun _ _ _ h => h) (Or.inl ⟨by rfl, ?hy0⟩) (fun _ _ => rfl) hS ?rest0
        case hy0 =>
          intro w hSw
          (try dsimp only at hSw)
          go_simp
          try with_reducible rfl
        try simp only [Act.put, List.setIfInBounds_toArray]
        refine HeldI.take (i := 1) (v := ?v1) rfl (by kernel_rfl) (by kernel_rfl) (by kernel_rfl) (by kernel_rfl) (fun _ _ _ h => h) (Or.inl ⟨by rfl, ?hy1⟩) (fun _ _ => rfl) hS ?rest1
        case hy1 =>
          intro w hSw
          (try dsimp only at hSw)
          go_simp
          try with_reducible rfl
        try simp only [Act.put]
        refine HeldI.take (i := 2) (v := ?v2) rfl (by kernel_rfl) (by kernel_rfl) (by kernel_rfl) (by kernel_rfl) (fun _ _ _ h => h) (Or.inl ⟨by rfl, ?hy2⟩) (fun _ _ => rfl) hS ?rest2
        case hy2 =>
          intro w hSw
          (try dsimp only at hSw)
          go_simp
          try with_reducible rfl
        try simp only [Act.put]
        refine HeldI.take (i := 3) (v := ?v3) rfl (by kernel_rfl) (by kernel_rfl) (by kernel_rfl) (by kernel_rfl) (fun _ _ _ h => h) (Or.inl ⟨by rfl, ?hy3⟩) (fun _ _ => rfl) hS ?rest3
        case hy3 =>
          intro w hSw
          (try dsimp only at hSw)
          go_simp
          try with_reducible rfl
        try simp only [Act.put]
        refine HeldI.take (i := 4) (v := ?v4) rfl (by kernel_rfl) (by kernel_rfl) (by kernel_rfl) (by kernel_rfl) (fun _ _ _ h => h) (Or.inl ⟨by rfl, ?hy4⟩) (fun _ _ => rfl) hS ?rest4
        case hy4 =>
          intro w hSw
          (try dsimp only at hSw)
          go_simp
          try with_reducible rfl
        try simp only [Act.put]
        refine HeldI.take (i := 5) (v := ?v5) rfl (by kernel_rfl) (by kernel_rfl) (by kernel_rfl) (by kernel_rfl) (fun _ _ _ h => h) (Or.inl ⟨by rfl, ?hy5⟩) (fun _ _ => rfl) hS ?rest5
        case hy5 =>
          intro w hSw
          (try dsimp only at hSw)
          go_simp
          try with_reducible rfl
        try simp only [Act.put]
        refine HeldI.take (i := 6) (v := ?v6) rfl (by kernel_rfl) (by kernel_rfl) (by kernel_rfl) (by kernel_rfl) (fun _ _ _ h => h) (Or.inl ⟨by rfl, ?hy6⟩) (fun _ _ => rfl) hS ?rest6
        case hy6 =>
          intro w hSw
          (try dsimp only at hSw)
          go_simp
          try with_reducible rfl
        try simp only [Act.put]
        refine HeldI.take (i := 7) (v := ?v7) rfl (by kernel_rfl) (by kernel_rfl) (by kernel_rfl) (by kernel_rfl) (fun _ _ _ h => h) (Or.inl ⟨by rfl, ?hy7⟩) (fun _ _ => rfl) hS ?rest7
        case hy7 =>
          intro w hSw
          (try dsimp only at hSw)
          go_simp
          try with_reducible rfl
        try simp only [Act.put]
        refine HeldI.take (i := 8) (v := ?v8) rfl (by kernel_rfl) (by kernel_rfl) (by kernel_rfl) (by kernel_rfl) (fun _ _ _ h => h) (Or.inl ⟨by rfl, ?hy8⟩) (fun _ _ => rfl) hS ?rest8
        case hy8 =>
          intro w hSw
          (try dsimp only at hSw)
          go_simp
          try with_reducible rfl
        try simp only [Act.put]
        refine HeldI.take (i := 9) (v := ?v9) rfl (by kernel_rfl) (by kernel_rfl) (by kernel_rfl) (by kernel_rfl) (fun _ _ _ h => h) (Or.inl ⟨by rfl, ?hy9⟩) (fun _ _ => rfl) hS ?rest9
        case hy9 =>
          intro w hSw
          (try dsimp only at hSw)
          go_simp
          try with_reducible rfl
        try simp only [Act.put]
        refine HeldI.take (i := 10) (v := ?v10) rfl (by kernel_rfl) (by kernel_rfl) (by kernel_rfl) (by kernel_rfl) (fun _ _ _ h => h) (Or.inl ⟨by rfl, ?hy10⟩) (fun _ _ => rfl) hS ?rest10
        case hy10 =>
          intro w hSw
          (try dsimp only at hSw)
          go_simp
          try with_reducible rfl
        try simp only [Act.put]
        refine HeldI.take (i := 11) (v := ?v11) rfl (by kernel_rfl) (by kernel_rfl) (by kernel_rfl) (by kernel_rfl) (fun _ _ _ h => h) (Or.inl ⟨by rfl, ?hy11⟩) (fun _ _ => rfl) hS ?rest11
        case hy11 =>
          intro w hSw
          (try dsimp only at hSw)
          go_simp
          try with_reducible rfl
        try simp only [Act.put]
        refine HeldI.take (i := 12) (v := ?v12) rfl (by kernel_rfl) (by kernel_rfl) (by kernel_rfl) (by kernel_rfl) (fun _ _ _ h => h) (Or.inl ⟨by rfl, ?hy12⟩) (fun _ _ => rfl) hS ?rest12
        case hy12 =>
          intro w hSw
          (try dsimp only at hSw)
          go_simp
          try with_reducible rfl
        try simp only [Act.put]
        refine HeldI.take (i := 13) (v := ?v13) rfl (by kernel_rfl) (by kernel_rfl) (by kernel_rfl) (by kernel_rfl) (fun _ _ _ h => h) (Or.inl ⟨by rfl, ?hy13⟩) (fun _ _ => rfl) hS ?rest13
        case hy13 =>
          intro w hSw
          (try dsimp only at hSw)
          go_simp
          try with_reducible rfl
        try simp only [Act.put]
        refine HeldI.take (i := 14) (v := ?v14) rfl (by kernel_rfl) (by kernel_rfl) (by kernel_rfl) (by kernel_rfl) (fun _ _ _ h => h) (Or.inl ⟨by rfl, ?hy14⟩) (fun _ _ => rfl) hS ?rest14
        case hy14 =>
          intro w hSw
          (try dsimp only at hSw)
          go_simp
          try with_reducible rfl
        try simp only [Act.put]
        refine HeldI.one 15 (by kernel_rfl) (wpOpIn_step rfl (fun K hK => ?_))
        go_simp
        refine hR.mono ?_
        intro e W3 hE
        obtain ⟨bb, rfl, hE2⟩ := one_way hE
        clear hE
        have hkk : Kept E (plus Y' Y) V W3 := by
          rcases hE2 with ⟨_, _, h⟩ | ⟨_, _, h⟩
          · exact fun k hk => (h k hk).trans rfl
          · exact fun k hk => (h k hk).trans rfl
        have hS3 : W3.cell? ⟨By, 0, none⟩ = some (yv l) ∧ W3.cell? ⟨b, 0, none⟩ = some (ptr p) ∧ W3.cell? ⟨p, 0, none⟩ = some (vI x) ∧ W3.cell? ⟨p, 1, none⟩ = some (vS u) :=
          ⟨(World.cell?_of_block (w := V) (hkk By (.inr (.inr hYB)))).trans cYV, (World.cell?_of_block (w := V) (hkk b (.inl heb))).trans d0, (World.cell?_of_block (w := V) (hkk p (.inl hep))).trans m0, (World.cell?_of_block (w := V) (hkk p (.inl hep))).trans m1⟩
        refine hK _ _ ⟨hS3, ?_⟩
        clear hK K hS
        have hS := hS3
        try simp only [Act.put, List.setIfInBounds_toArray, List.set_cons_zero, List.set_cons_succ]
        refine HeldI.take (i := 16) (v := ?v16) rfl (by kernel_rfl) (by kernel_rfl) (by kernel_rfl) (by kernel_rfl) (fun _ _ _ h => h) (Or.inl ⟨by rfl, ?hy16⟩) (fun _ _ => rfl) hS ?rest16
        case hy16 =>
          intro w hSw
          (try dsimp only at hSw)
          go_simp
          try with_reducible rfl
        try simp only [Act.put, List.setIfInBounds_toArray]
        exact HeldI.done (by kernel_rfl) ⟨bb, rfl, hE2⟩
end Go.Proofs.Ytogeifnkjckaiaa
