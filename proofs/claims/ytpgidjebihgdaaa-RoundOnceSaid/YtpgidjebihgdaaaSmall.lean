/- What tells just one list: its second ones, its first ones, those that fit, all of it; two lists of numbers compared; the law's own 'awake' answers true. -/
import Derived.Test.YtpgidjebihgdaaaFirst
import Derived.Test.YtpgidjebihgdaaaWhere
import Derived.Test.YtpgidjebihgdaaaOf
import Derived.Test.YtpgidjebihgdaaaList
namespace Go.Proofs.Ytpgidjebihgdaaa
open Go.RowKit
attribute [local go_sem ↓] Go.wp_at_zero Go.wp_at_succ

theorem IS.below {w w' : World} {N : Nat} {A : Option Addr} {xs : List Int} (h : IS w N A xs) (hb : Below N w w') : IS w' N A xs := by
  intro k x hk
  obtain ⟨b, off, rfl, h1, h2⟩ := h k x hk
  exact ⟨b, off, rfl, h1, (hb.cell (p := ⟨b, off + k, none⟩) h1).trans h2⟩
theorem IS.more {w : World} {N M : Nat} {A : Option Addr} {xs : List Int} (h : IS w N A xs) (hm : N ≤ M) : IS w M A xs := by
  intro k x hk
  obtain ⟨b, off, rfl, h1, h2⟩ := h k x hk
  exact ⟨b, off, rfl, Nat.lt_of_lt_of_le h1 hm, h2⟩
theorem IS.on {w w' : World} {A : Option Addr} {xs : List Int} (h : IS w w.heap.size A xs) (hb : Below w.heap.size w w') : IS w' w'.heap.size A xs := (h.below hb).more hb.size
theorem num_some {xs : List Int} {k : Nat} (h : k < xs.length) : ∃ x, xs[k]? = some x := ⟨xs[k], by simp⟩
theorem take_eq {xs ys : List Int} {k : Nat} {x y : Int} (h : xs.take k = ys.take k) (h1 : xs[k]? = some x) (h2 : ys[k]? = some y) (h3 : x = y) : xs.take (k + 1) = ys.take (k + 1) := by
  rw [List.take_add_one, List.take_add_one, h, h1, h2, h3]
theorem ret_bool {a b : Bool} (h : a = b) : Ending.returned (.bool a) = .returned (.bool b) := by rw [h]
theorem bdrew {N : Nat} {a w : World} (h : Below N a w) (n : Nat) : Below N a (w.drewN n) := ⟨h.os, h.tape, h.output, h.size, h.block⟩

theorem sec_prefix {a b : List Int} (h : a <+: b) : sec a <+: sec b := by
  obtain ⟨t, rfl⟩ := h
  induction a using sec.induct with
  | case1 => exact List.nil_prefix
  | case2 x =>
    rcases t with _ | ⟨y, t⟩
    · exact List.prefix_refl _
    · simp [sec]
  | case3 x y a ih => simpa [sec] using ih
theorem Seq.second {w : World} {g : Nat} {lb : Array Value} {xs : List Int} (h : Seq w g lb xs) : Calls Try.prog 15 #[fv g lb] w (RetSeq w 29 (sec xs)) := by
  obtain ⟨eg, E, h⟩ := h
  refine (second_any g lb w).mono ?_
  rintro e w' ⟨rfl, rfl⟩
  have hi := second_it h eg
  refine ⟨_, rfl, ⟨enters_of Try.func29 (by kernel_rfl) rfl, _, ⟨hi.lt, hi.apart, fun _ _ _ _ h => h, fun _ _ _ _ h => h, fun l J Jx W hW hK hJ hJx hY h0 => (hi.tells l J Jx W hW hK hJ hJx hY h0).mono ?_⟩⟩, (Below.refl _ w).alloc (Nat.le_refl _) _⟩
  rintro e W' ⟨hv, X, hX, ⟨ys, ⟨zs, rfl, rfl⟩, h1⟩ | ⟨ys, ⟨zs, hz, rfl, _⟩, h1⟩⟩
  · exact ⟨hv, X, hX, .inl ⟨_, rfl, h1⟩⟩
  · exact ⟨hv, X, hX, .inr ⟨_, sec_prefix hz, h1⟩⟩
theorem Seq.first {w : World} {g : Nat} {lb : Array Value} {xs : List Int} (h : Seq w g lb xs) (many : Int) : Calls Try.prog 18 #[fv g lb, vI many] w (RetSeq w 30 (xs.take many.toNat)) := by
  obtain ⟨eg, E, h⟩ := h
  refine (first_any g lb many w).mono ?_
  rintro e w' ⟨rfl, rfl⟩
  have hi := first_it h eg (by omega) many
  refine ⟨_, rfl, ⟨enters_of Try.func30 (by kernel_rfl) rfl, _, ⟨hi.lt, hi.apart, fun _ _ _ _ h => h, fun _ _ _ _ h => h, fun l J Jx W hW hK hJ hJx hY h0 => (hi.tells l J Jx W hW hK hJ hJx hY h0).mono ?_⟩⟩, ((Below.refl _ w).alloc (Nat.le_refl _) _).alloc (by simp) _⟩
  rintro e W' ⟨hv, X, hX, ⟨ys, hs, h1⟩ | ⟨ys, ⟨hm, hz, hl⟩, h1⟩⟩
  · refine ⟨hv, X, hX, .inl ⟨ys, ?_, h1⟩⟩
    rcases hs with ⟨hm, rfl, _⟩ | ⟨hm, rfl, hl⟩ | ⟨hm, hp, hl⟩
    · have : many.toNat = 0 := by omega
      rw [this]; rfl
    · rw [List.take_of_length_le (by omega)]
    · have := List.prefix_iff_eq_take.1 hp
      have e : ys.length = many.toNat := by omega
      rw [← e]; exact this
  · refine ⟨hv, X, hX, .inr ⟨ys, ?_, h1⟩⟩
    have := List.prefix_iff_eq_take.1 hz
    rw [this]
    exact List.take_prefix_take_left (by omega)
theorem Seq.filter {w : World} {g pf : Nat} {lb pb : Array Value} {xs : List Int} {Ef : Set'} {p : Int → Bool} (h : Seq w g lb xs) (hf : Fits Ef pf pb p w) (ef : ∀ args w, (callFunc pf args).run Try.prog w = .ok (.enter pf args) w) :
    Calls Try.prog 11 #[fv g lb, fv pf pb] w (RetSeq w 28 (xs.filter p)) := by
  obtain ⟨eg, E, h⟩ := h
  refine (where_any g lb pf pb w).mono ?_
  rintro e w' ⟨rfl, rfl⟩
  have hi := where_it h eg hf ef (fun _ _ h => h)
  refine ⟨_, rfl, ⟨enters_of Try.func28 (by kernel_rfl) rfl, _, ⟨hi.lt, hi.apart, fun _ _ _ _ h => h, fun _ _ _ _ h => h, fun l J Jx W hW hK hJ hJx hY h0 => (hi.tells l J Jx W hW hK hJ hJx hY h0).mono ?_⟩⟩, ((Below.refl _ w).alloc (Nat.le_refl _) _).alloc (by simp) _⟩
  rintro e W' ⟨hv, X, hX, ⟨ys, ⟨zs, rfl, rfl⟩, h1⟩ | ⟨ys, ⟨zs, x, hz, rfl, _⟩, h1⟩⟩
  · exact ⟨hv, X, hX, .inl ⟨_, rfl, h1⟩⟩
  · exact ⟨hv, X, hX, .inr ⟨_, hz.filter p, h1⟩⟩
def RetInts (w : World) (xs : List Int) (e : Ending) (w' : World) : Prop := ∃ A c, e = .returned (.slice A xs.length c) ∧ xs.length ≤ c ∧ IS w' w'.heap.size A xs ∧ Below w.heap.size w w'
theorem Seq.list {w : World} {g : Nat} {lb : Array Value} {xs : List Int} (h : Seq w g lb xs) : Calls Try.prog 14 #[fv g lb] w (RetInts w xs) := by
  obtain ⟨eg, E, h⟩ := h
  refine (list_any h eg (by omega)).mono ?_
  rintro e w' ⟨ys, A, c, rfl, rfl, hc, hI, _, Y, hG⟩
  exact ⟨A, c, rfl, hc, hI, hG.below⟩
set_option maxHeartbeats 400000 in
theorem ints_any (A A2 : Option Addr) (c c2 : Nat) (xs ys : List Int) (w : World) (h : IS w w.heap.size A xs) (h2 : IS w w.heap.size A2 ys) (hl : xs.length ≤ 1000000) :
    Calls Try.prog 13 #[.slice A xs.length c, .slice A2 ys.length c2] w (fun e w' => e = .returned (.bool (decide (xs = ys))) ∧ Below w.heap.size w w') := by
  by_cases he : xs.length = ys.length
  · have He := Lib.hid he
    rw [← he]
    clear he
    go_enter Try.func13, Try.ntmps13
    go_wp2
    go_loopw [5] (fun i wr => ∃ k : Nat, k ≤ xs.length ∧ i = .int .i64 k ∧ xs.take k = ys.take k ∧ Below w.heap.size w wr) (fun i _ => xs.length - (intOf i).toNat)
    case atStart => exact ⟨0, Nat.zero_le _, rfl, rfl, Below.refl _ _⟩
    case round =>
      obtain ⟨k, hk, rfl, hr, hB⟩ := hrel
      have Hr := Lib.hid hr
      clear hr
      by_cases hlt : k < xs.length
      · obtain ⟨x, hx⟩ := num_some hlt
        obtain ⟨y, hy⟩ := num_some (xs := ys) (k := k) (by rw [← He.out]; exact hlt)
        obtain ⟨b, off, rfl, _, hd1⟩ := (h.below hB) k _ hx
        obtain ⟨b2, off2, rfl, _, hd2⟩ := (h2.below hB) k _ hy
        have Hx := Lib.hid hx
        have Hy := Lib.hid hy
        clear hx hy
        have hk1 : (k : Int) < (xs.length : Int) := by omega
        by_cases hq : x = y
        · have hq2 : (x != y) = false := by simpa using hq
          have Hq := Lib.hid hq
          clear hq
          go_wp2
          go_quiet (fail)
          go_wp2
          go_roundw
          case rel => exact ⟨k + 1, by omega, by go_num, take_eq Hr.out Hx.out Hy.out Hq.out, bdrew hB _⟩
          case measure => simp [intOf]; omega
        · have hq2 : (x != y) = true := by simpa using hq
          have Hq := Lib.hid hq
          clear hq
          go_wp2
          go_quiet (fail)
          go_wp2
          go_ret
          refine ⟨ret_bool (decide_eq_false ?_).symm, bdrew hB _⟩
          intro e
          have h3 := Hx.out
          rw [e, Hy.out] at h3
          injection h3 with h3
          exact Hq.out h3.symm
      · obtain rfl : k = xs.length := by omega
        go_wp2
        go_ret
        refine ⟨ret_bool (decide_eq_true ?_).symm, hB⟩
        have h3 := Hr.out
        rwa [List.take_length, He.out, List.take_length] at h3
  · have hn : ((xs.length : Int) != (ys.length : Int)) = true := by rw [bne_iff_ne]; omega
    have hn2 : (xs.length != ys.length) = true := by rw [bne_iff_ne]; omega
    have Hf := Lib.hid (decide_eq_false (show ¬ xs = ys from fun e => he (by rw [e])))
    clear he
    go_enter Try.func13, Try.ntmps13
    go_wp2
    go_ret
    exact ⟨ret_bool Hf.out.symm, Below.refl _ _⟩

end Go.Proofs.Ytpgidjebihgdaaa
