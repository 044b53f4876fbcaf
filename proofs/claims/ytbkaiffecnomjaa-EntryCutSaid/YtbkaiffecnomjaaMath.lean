/- The mathematics of entries and their bytes, without the program. -/
namespace Go.Proofs.Ytbkaiffecnomjaa
/-- an entry, in the order of its cells -/
structure En where
  k : Int
  w : Int
  op : Int
  dl : Int
  wa : Bool
  fo : Bool
  sl : Int
  ge : Int
  st : Int
  n : Int
  gd : Bool
deriving DecidableEq
/-- an entry's bytes -/
structure Pc where
  b0 : Int
  b1 : Int
  b2 : Int
  b3 : Int
  b4 : Int
  b5 : Int
  b6 : Int
  b7 : Int
  b8 : Int
  b9 : Int
  b10 : Int
  b11 : Int
deriving DecidableEq
def By1 (x : Int) : Prop := 0 ≤ x ∧ x ≤ 255
structure By (p : Pc) : Prop where
  b0 : 0 ≤ p.b0 ∧ p.b0 ≤ 255
  b1 : 0 ≤ p.b1 ∧ p.b1 ≤ 255
  b2 : 0 ≤ p.b2 ∧ p.b2 ≤ 255
  b3 : 0 ≤ p.b3 ∧ p.b3 ≤ 255
  b4 : 0 ≤ p.b4 ∧ p.b4 ≤ 255
  b5 : 0 ≤ p.b5 ∧ p.b5 ≤ 255
  b6 : 0 ≤ p.b6 ∧ p.b6 ≤ 255
  b7 : 0 ≤ p.b7 ∧ p.b7 ≤ 255
  b8 : 0 ≤ p.b8 ∧ p.b8 ≤ 255
  b9 : 0 ≤ p.b9 ∧ p.b9 ≤ 255
  b10 : 0 ≤ p.b10 ∧ p.b10 ≤ 255
  b11 : 0 ≤ p.b11 ∧ p.b11 ≤ 255
def sumE (x : En) : Int := (if x.wa then 1 else 0) + (if x.fo then 2 else 0) + (if x.gd then 4 else 0)
/-- what is written -/
def wrE (x : En) : Pc := ⟨x.k % 256, x.w % 256, x.op % 256, sumE x, x.sl % 256, x.st % 256, x.ge % 256, x.ge / 256 % 256, x.dl % 256, x.dl / 256 % 256, x.n % 256, x.n / 256 % 256⟩
/-- what is read -/
def rdE (p : Pc) : En := ⟨p.b0, p.b1, p.b2, p.b8 + 256 * p.b9, p.b3 % 2 == 1, p.b3 / 2 % 2 == 1, p.b4, p.b6 + 256 * p.b7, p.b5, p.b10 + 256 * p.b11, p.b3 / 4 % 2 == 1⟩
/-- is it right -/
structure Rt (x : En) : Prop where
  k : 0 ≤ x.k ∧ x.k ≤ 4
  w : 0 ≤ x.w ∧ x.w ≤ 255
  op : 0 ≤ x.op ∧ x.op ≤ 7
  sl : 0 ≤ x.sl ∧ x.sl ≤ 255
  st : 0 ≤ x.st ∧ x.st ≤ 255
  ge : 0 ≤ x.ge ∧ x.ge ≤ 65535
  dl : 0 ≤ x.dl ∧ x.dl ≤ 65535
  n : 0 ≤ x.n ∧ x.n ≤ 65535
def inB (x m : Int) : Bool := decide (0 ≤ x) && decide (x ≤ m)
def rtB (x : En) : Bool := inB x.k 4 && inB x.w 255 && inB x.op 7 && inB x.sl 255 && inB x.st 255 && inB x.ge 65535 && inB x.dl 65535 && inB x.n 65535
theorem inB_iff {x m : Int} : inB x m = true ↔ 0 ≤ x ∧ x ≤ m := by simp [inB]
theorem rtB_iff {x : En} : rtB x = true ↔ Rt x := by
  simp only [rtB, Bool.and_eq_true, inB_iff]
  exact ⟨fun ⟨⟨⟨⟨⟨⟨⟨h1, h2⟩, h3⟩, h4⟩, h5⟩, h6⟩, h7⟩, h8⟩ => ⟨h1, h2, h3, h4, h5, h6, h7, h8⟩, fun ⟨h1, h2, h3, h4, h5, h6, h7, h8⟩ => ⟨⟨⟨⟨⟨⟨⟨h1, h2⟩, h3⟩, h4⟩, h5⟩, h6⟩, h7⟩, h8⟩⟩
theorem rtB_no {x : En} (h : ¬ Rt x) : rtB x = false := by
  cases e : rtB x with
  | false => rfl
  | true => exact absurd (rtB_iff.1 e) h
theorem En.ext' {a b : En} (h0 : a.k = b.k) (h1 : a.w = b.w) (h2 : a.op = b.op) (h3 : a.dl = b.dl) (h4 : a.wa = b.wa) (h5 : a.fo = b.fo) (h6 : a.sl = b.sl) (h7 : a.ge = b.ge) (h8 : a.st = b.st) (h9 : a.n = b.n) (h10 : a.gd = b.gd) : a = b := by
  cases a; cases b; simp at *; simp [*]
theorem Pc.ext' {a b : Pc} (h0 : a.b0 = b.b0) (h1 : a.b1 = b.b1) (h2 : a.b2 = b.b2) (h3 : a.b3 = b.b3) (h4 : a.b4 = b.b4) (h5 : a.b5 = b.b5) (h6 : a.b6 = b.b6) (h7 : a.b7 = b.b7) (h8 : a.b8 = b.b8) (h9 : a.b9 = b.b9) (h10 : a.b10 = b.b10) (h11 : a.b11 = b.b11) : a = b := by
  cases a; cases b; simp at *; simp [*]
theorem sumE_le (x : En) : 0 ≤ sumE x ∧ sumE x ≤ 7 := by
  unfold sumE
  cases x.wa <;> cases x.fo <;> cases x.gd <;> simp
theorem by_wr (x : En) : By (wrE x) := by
  have h := sumE_le x
  constructor <;> simp only [wrE] <;> omega
theorem rd_wr {x : En} (h : Rt x) : rdE (wrE x) = x := by
  obtain ⟨h1, h2, h3, h4, h5, h6, h7, h8⟩ := h
  refine En.ext' ?_ ?_ ?_ ?_ ?_ ?_ ?_ ?_ ?_ ?_ ?_
  all_goals simp only [rdE, wrE]
  all_goals first
    | omega
    | (simp only [sumE]; cases x.wa <;> cases x.fo <;> cases x.gd <;> rfl)
theorem rt_of {x : En} (h : rdE (wrE x) = x) (hk : x.k < 5) (ho : x.op < 8) : Rt x := by
  have e := fun {α : Type} (f : En → α) => congrArg f h
  have e0 := e En.k
  have e1 := e En.w
  have e2 := e En.op
  have e3 := e En.dl
  have e4 := e En.sl
  have e5 := e En.ge
  have e6 := e En.st
  have e7 := e En.n
  simp only [rdE, wrE] at e0 e1 e2 e3 e4 e5 e6 e7
  constructor <;> omega
/-- as the program asks it -/
theorem rtB_eq (x : En) : rtB x = (decide (x.k < 5) && decide (x.op < 8) && decide (rdE (wrE x) = x)) := by
  by_cases h : Rt x
  · rw [rtB_iff.2 h]
    have h1 := h.k
    have h2 := h.op
    simp [rd_wr h]
    omega
  · rw [rtB_no h]
    symm
    simp only [Bool.and_eq_false_iff, decide_eq_false_iff_not]
    by_cases hk : x.k < 5
    · by_cases ho : x.op < 8
      · exact .inr (fun e => h (rt_of e hk ho))
      · exact .inl (.inr ho)
    · exact .inl (.inl hk)
/-- is a piece one of an entry that is right -/
def good (p : Pc) : Bool := decide (p.b3 ≤ 7) && rtB (rdE p)
theorem good_wr {x : En} (h : rtB x = true) : good (wrE x) = true := by
  have h1 := rd_wr (rtB_iff.1 h)
  have h2 := (sumE_le x).2
  unfold good
  rw [h1, h]
  rw [Bool.and_true]
  exact decide_eq_true h2
theorem sum_rd {p : Pc} (h1 : 0 ≤ p.b3) (h2 : p.b3 ≤ 7) : sumE (rdE p) = p.b3 := by
  obtain ⟨a0, a1, a2, b, a4, a5, a6, a7, a8, a9, a10, a11⟩ := p
  simp only at h1 h2
  have : b = 0 ∨ b = 1 ∨ b = 2 ∨ b = 3 ∨ b = 4 ∨ b = 5 ∨ b = 6 ∨ b = 7 := by omega
  rcases this with rfl | rfl | rfl | rfl | rfl | rfl | rfl | rfl <;> rfl
theorem wr_rd {p : Pc} (hb : By p) (h : good p = true) : wrE (rdE p) = p := by
  simp only [good, Bool.and_eq_true, decide_eq_true_eq] at h
  obtain ⟨h0, h1, h2, h3, h4, h5, h6, h7, h8, h9, h10, h11⟩ := hb
  have hs := sum_rd h3.1 h.1
  refine Pc.ext' ?_ ?_ ?_ ?_ ?_ ?_ ?_ ?_ ?_ ?_ ?_ ?_
  all_goals simp only [wrE]
  all_goals first
    | exact hs
    | (simp only [rdE]; omega)
/-- a piece's bytes -/
def pb (p : Pc) : List Int := [p.b0, p.b1, p.b2, p.b3, p.b4, p.b5, p.b6, p.b7, p.b8, p.b9, p.b10, p.b11]
theorem pb_len (p : Pc) : (pb p).length = 12 := rfl
/-- the bytes of entries -/
def enc (l : List En) : List Int := l.flatMap (fun x => pb (wrE x))
theorem enc_nil : enc [] = [] := rfl
theorem enc_cons (x : En) (l : List En) : enc (x :: l) = pb (wrE x) ++ enc l := by simp [enc]
theorem enc_app (a b : List En) : enc (a ++ b) = enc a ++ enc b := by simp [enc]
theorem enc_one (x : En) : enc [x] = pb (wrE x) := by simp [enc]
theorem enc_len (l : List En) : (enc l).length = 12 * l.length := by
  induction l with
  | nil => rfl
  | cons x l ih => rw [enc_cons, List.length_append, ih, pb_len, List.length_cons]; omega
/-- the pieces of bytes -/
def pcs : List Int → List Pc
  | x0 :: x1 :: x2 :: x3 :: x4 :: x5 :: x6 :: x7 :: x8 :: x9 :: x10 :: x11 :: r => ⟨x0, x1, x2, x3, x4, x5, x6, x7, x8, x9, x10, x11⟩ :: pcs r
  | _ => []
theorem pcs_app (p : Pc) (r : List Int) : pcs (pb p ++ r) = p :: pcs r := rfl
theorem pcs_short {l : List Int} (h : l.length < 12) : pcs l = [] := by
  unfold pcs
  split
  · simp at h; omega
  · rfl
theorem long_form {l : List Int} (h : 12 ≤ l.length) : ∃ p r, l = pb p ++ r := by
  match l, h with
  | x0 :: x1 :: x2 :: x3 :: x4 :: x5 :: x6 :: x7 :: x8 :: x9 :: x10 :: x11 :: r, _ => exact ⟨⟨x0, x1, x2, x3, x4, x5, x6, x7, x8, x9, x10, x11⟩, r, rfl⟩
/-- from the first twelve on -/
theorem twelve {C : List Int → Prop} (short : ∀ l, l.length < 12 → C l) (long : ∀ p r, C r → C (pb p ++ r)) : ∀ l, C l := by
  intro l
  generalize hn : l.length = n
  induction n using Nat.strongRecOn generalizing l with
  | _ n ih =>
    by_cases h : l.length < 12
    · exact short l h
    · obtain ⟨p, r, rfl⟩ := long_form (by omega : 12 ≤ l.length)
      rw [List.length_append, pb_len] at hn
      exact long p r (ih r.length (by omega) r rfl)
theorem pcs_len (l : List Int) : (pcs l).length = l.length / 12 := by
  induction l using twelve with
  | short l h => rw [pcs_short h]; simp; omega
  | long p r ih => rw [pcs_app, List.length_cons, ih, List.length_append, pb_len]; omega
theorem pcs_at {l : List Int} {k j : Nat} {p : Pc} (h : (pcs l)[k]? = some p) (hj : j < 12) : l[k * 12 + j]? = (pb p)[j]? := by
  induction l using twelve generalizing k with
  | short l h1 => rw [pcs_short h1] at h; simp at h
  | long q r ih =>
    rw [pcs_app] at h
    cases k with
    | zero =>
      simp at h
      subst h
      rw [List.getElem?_append_left (by rw [pb_len]; omega)]
      simp
    | succ k =>
      rw [List.getElem?_append_right (by rw [pb_len]; omega), pb_len, show (k + 1) * 12 + j - 12 = k * 12 + j by omega]
      exact ih (by simpa using h)
theorem pcs_some {l : List Int} {k : Nat} (h : k < l.length / 12) : ∃ p, (pcs l)[k]? = some p := by
  rw [← pcs_len] at h
  exact ⟨(pcs l)[k], List.getElem?_eq_getElem h⟩
def Bys (l : List Int) : Prop := ∀ (k : Nat) x, l[k]? = some x → 0 ≤ x ∧ x ≤ 255
theorem by_pcs {l : List Int} (hl : Bys l) {k : Nat} {p : Pc} (h : (pcs l)[k]? = some p) : By p := by
  have e := fun j (hj : j < 12) => pcs_at (j := j) h hj
  have a0 := hl _ _ (e 0 (by omega))
  have a1 := hl _ _ (e 1 (by omega))
  have a2 := hl _ _ (e 2 (by omega))
  have a3 := hl _ _ (e 3 (by omega))
  have a4 := hl _ _ (e 4 (by omega))
  have a5 := hl _ _ (e 5 (by omega))
  have a6 := hl _ _ (e 6 (by omega))
  have a7 := hl _ _ (e 7 (by omega))
  have a8 := hl _ _ (e 8 (by omega))
  have a9 := hl _ _ (e 9 (by omega))
  have a10 := hl _ _ (e 10 (by omega))
  have a11 := hl _ _ (e 11 (by omega))
  exact ⟨a0, a1, a2, a3, a4, a5, a6, a7, a8, a9, a10, a11⟩
theorem bys_pb {p : Pc} (h : By p) : Bys (pb p) := by
  obtain ⟨h0, h1, h2, h3, h4, h5, h6, h7, h8, h9, h10, h11⟩ := h
  intro k x hk
  match k with
  | 0 => simp [pb] at hk; omega
  | 1 => simp [pb] at hk; omega
  | 2 => simp [pb] at hk; omega
  | 3 => simp [pb] at hk; omega
  | 4 => simp [pb] at hk; omega
  | 5 => simp [pb] at hk; omega
  | 6 => simp [pb] at hk; omega
  | 7 => simp [pb] at hk; omega
  | 8 => simp [pb] at hk; omega
  | 9 => simp [pb] at hk; omega
  | 10 => simp [pb] at hk; omega
  | 11 => simp [pb] at hk; omega
  | k + 12 => simp [pb] at hk
theorem bys_app {a b : List Int} (ha : Bys a) (hb : Bys b) : Bys (a ++ b) := by
  intro k x hk
  rw [List.getElem?_append] at hk
  split at hk
  · exact ha _ _ hk
  · exact hb _ _ hk
theorem bys_nil : Bys [] := fun k x h => by simp at h
theorem bys_enc (l : List En) : Bys (enc l) := by
  induction l with
  | nil => exact bys_nil
  | cons x l ih => rw [enc_cons]; exact bys_app (bys_pb (by_wr x)) ih
theorem bys_take {l : List Int} (h : Bys l) (n : Nat) : Bys (l.take n) := by
  intro k x hk
  rw [List.getElem?_take] at hk
  split at hk
  · exact h _ _ hk
  · cases hk
theorem pcs_enc (l : List En) : pcs (enc l) = l.map wrE := by
  induction l with
  | nil => rfl
  | cons x l ih => rw [enc_cons, pcs_app, ih]; rfl
theorem pcs_flat {l : List Int} (h : l.length % 12 = 0) : (pcs l).flatMap pb = l := by
  induction l using twelve with
  | short l h1 =>
    have : l = [] := List.eq_nil_of_length_eq_zero (by omega)
    subst this
    rfl
  | long p r ih =>
    rw [List.length_append, pb_len] at h
    rw [pcs_app, List.flatMap_cons, ih (by omega)]
/-! what is told -/
def encE (l : List En) : Int := if 1000 < l.length then 13 else if l.all rtB then 0 else 1
def encL (l : List En) : List Int := if 1000 < l.length then [] else if l.all rtB then enc l else []
def decE (b : List Int) : Int := if ¬ b.length % 12 = 0 then 12 else if 1000 < b.length / 12 then 13 else if (pcs b).all good then 0 else 12
def decL (b : List Int) : List En := if ¬ b.length % 12 = 0 then [] else if 1000 < b.length / 12 then [] else if (pcs b).all good then (pcs b).map rdE else []
theorem enc_long {l : List En} (h : 1000 < l.length) : encE l = 13 ∧ encL l = [] := ⟨if_pos h, if_pos h⟩
theorem enc_yes {l : List En} (h : ¬ 1000 < l.length) (h2 : l.all rtB = true) : encE l = 0 ∧ encL l = enc l := ⟨by rw [encE, if_neg h, if_pos h2], by rw [encL, if_neg h, if_pos h2]⟩
theorem enc_no {l : List En} (h : ¬ 1000 < l.length) (h2 : l.all rtB = false) : encE l = 1 ∧ encL l = [] := ⟨by rw [encE, if_neg h, h2]; rfl, by rw [encL, if_neg h, h2]; rfl⟩
theorem dec_form {b : List Int} (h : ¬ b.length % 12 = 0) : decE b = 12 ∧ decL b = [] := ⟨if_pos h, if_pos h⟩
theorem dec_long {b : List Int} (h : b.length % 12 = 0) (h2 : 1000 < b.length / 12) : decE b = 13 ∧ decL b = [] := by
  unfold decE decL
  rw [if_neg (show ¬ ¬ b.length % 12 = 0 by omega), if_neg (show ¬ ¬ b.length % 12 = 0 by omega), if_pos h2, if_pos h2]
  exact ⟨rfl, rfl⟩
theorem dec_yes {b : List Int} (h : b.length % 12 = 0) (h2 : ¬ 1000 < b.length / 12) (h3 : (pcs b).all good = true) : decE b = 0 ∧ decL b = (pcs b).map rdE := by
  unfold decE decL
  rw [if_neg (show ¬ ¬ b.length % 12 = 0 by omega), if_neg (show ¬ ¬ b.length % 12 = 0 by omega), if_neg h2, if_neg h2, if_pos h3, if_pos h3]
  exact ⟨rfl, rfl⟩
theorem dec_no {b : List Int} (h : b.length % 12 = 0) (h2 : ¬ 1000 < b.length / 12) (h3 : (pcs b).all good = false) : decE b = 12 ∧ decL b = [] := by
  unfold decE decL
  rw [if_neg (show ¬ ¬ b.length % 12 = 0 by omega), if_neg (show ¬ ¬ b.length % 12 = 0 by omega), if_neg h2, if_neg h2, h3]
  exact ⟨rfl, rfl⟩
theorem all_wr {l : List En} (h : l.all rtB = true) : (l.map wrE).all good = true := by
  rw [List.all_eq_true] at h ⊢
  intro p hp
  obtain ⟨x, hx, rfl⟩ := List.mem_map.1 hp
  exact good_wr (h x hx)
theorem map_rd_wr {l : List En} (h : l.all rtB = true) : (l.map wrE).map rdE = l := by
  rw [List.map_map]
  rw [List.all_eq_true] at h
  conv => rhs; rw [← List.map_id l]
  refine List.map_congr_left fun x hx => ?_
  exact rd_wr (rtB_iff.1 (h x hx))
/-- what is encoded is decoded -/
theorem dec_enc {l : List En} (h : ¬ 1000 < l.length) (h2 : l.all rtB = true) : decE (enc l) = 0 ∧ decL (enc l) = l := by
  have hl := enc_len l
  have h3 := dec_yes (b := enc l) (by omega) (by omega) (by rw [pcs_enc]; exact all_wr h2)
  rw [pcs_enc, map_rd_wr h2] at h3
  exact h3
theorem encE_zero {l : List En} (h : encE l = 0) : ¬ 1000 < l.length ∧ l.all rtB = true := by
  unfold encE at h
  split at h
  · cases h
  · split at h
    · exact ⟨by assumption, by assumption⟩
    · cases h
theorem decE_zero {b : List Int} (h : decE b = 0) : b.length % 12 = 0 ∧ ¬ 1000 < b.length / 12 ∧ (pcs b).all good = true := by
  unfold decE at h
  split at h
  · cases h
  · split at h
    · cases h
    · split at h
      · exact ⟨by omega, by assumption, by assumption⟩
      · cases h
theorem decL_err {b : List Int} (h : decE b ≠ 0) : decL b = [] := by
  unfold decE at h
  unfold decL
  split
  · rfl
  · split
    · rfl
    · split
      · rename_i h1 h2 h3
        rw [if_neg h1, if_neg h2, if_pos h3] at h
        exact absurd rfl h
      · rfl
theorem encL_err {l : List En} (h : encE l ≠ 0) : encL l = [] := by
  unfold encE at h
  unfold encL
  split
  · rfl
  · split
    · rename_i h1 h2
      rw [if_neg h1, if_pos h2] at h
      exact absurd rfl h
    · rfl
theorem pcs_mem {b : List Int} {p : Pc} (h : p ∈ pcs b) : ∃ k : Nat, (pcs b)[k]? = some p := List.getElem?_of_mem h
/-- what is decoded, encoded, is the bytes again -/
theorem enc_dec {b : List Int} (hb : Bys b) (h : decE b = 0) : encE (decL b) = 0 ∧ encL (decL b) = b := by
  obtain ⟨h1, h2, h3⟩ := decE_zero h
  have h4 := (dec_yes h1 h2 h3).2
  have hg := List.all_eq_true.1 h3
  have hw : ∀ p ∈ pcs b, wrE (rdE p) = p := fun p hp => by
    obtain ⟨k, hk⟩ := pcs_mem hp
    exact wr_rd (by_pcs hb hk) (hg p hp)
  have hr : ((pcs b).map rdE).all rtB = true := by
    rw [List.all_eq_true]
    intro x hx
    obtain ⟨p, hp, rfl⟩ := List.mem_map.1 hx
    have := hg p hp
    simp only [good, Bool.and_eq_true] at this
    exact this.2
  have he : enc ((pcs b).map rdE) = b := by
    conv => rhs; rw [← pcs_flat h1]
    unfold enc
    rw [List.flatMap_map]
    have : ∀ l : List Pc, (∀ p ∈ l, wrE (rdE p) = p) → l.flatMap (fun a => pb (wrE (rdE a))) = l.flatMap pb := by
      intro l
      induction l with
      | nil => intro _; rfl
      | cons q l ih =>
        intro hq
        rw [List.flatMap_cons, List.flatMap_cons, hq q (by simp), ih (fun p hp => hq p (by simp [hp]))]
    exact this _ hw
  have hl : ((pcs b).map rdE).length = b.length / 12 := by rw [List.length_map, pcs_len]
  rw [h4]
  have := enc_yes (l := (pcs b).map rdE) (by omega) hr
  rw [he] at this
  exact this
/-- of a script's bytes the first entries are its first ones -/
theorem enc_take (l : List En) (m : Nat) : (enc l).take (12 * m) = enc (l.take m) := by
  induction l generalizing m with
  | nil => simp [enc]
  | cons x l ih =>
    cases m with
    | zero => simp [enc]
    | succ m =>
      rw [enc_cons, List.take_succ_cons, enc_cons, List.take_append, pb_len, ← ih m, show 12 * (m + 1) - 12 = 12 * m by omega, List.take_of_length_le (by rw [pb_len]; omega)]
theorem all_take {l : List En} (h : l.all rtB = true) (m : Nat) : (l.take m).all rtB = true := by
  rw [List.all_eq_true] at h ⊢
  exact fun x hx => h x (List.mem_of_mem_take hx)
theorem decL_len (b : List Int) : (decL b).length ≤ b.length / 12 := by
  unfold decL
  split
  · simp
  · split
    · simp
    · split
      · rw [List.length_map, pcs_len]; omega
      · simp
theorem encL_len (l : List En) : (encL l).length ≤ 12 * l.length := by
  unfold encL
  split
  · simp
  · split
    · rw [enc_len]; omega
    · simp
/-- nothing, many times -/
def en0 : En := ⟨0, 0, 0, 0, false, false, 0, 0, 0, 0, false⟩
theorem enc_zero (n : Nat) : enc (List.replicate n en0) = List.replicate (12 * n) 0 := by
  induction n with
  | zero => rfl
  | succ n ih =>
    rw [List.replicate_succ, enc_cons, ih, show 12 * (n + 1) = 12 * n + 1 + 1 + 1 + 1 + 1 + 1 + 1 + 1 + 1 + 1 + 1 + 1 by omega]
    simp only [List.replicate_succ]
    rfl
theorem all_zero (n : Nat) : (List.replicate n en0).all rtB = true := by
  rw [List.all_eq_true]
  intro x hx
  rw [List.eq_of_mem_replicate hx]
  rfl
/-- the loops' steps -/
theorem all_step {α : Type} {l : List α} {f : α → Bool} {k : Nat} {x : α} (h : (l.take k).all f = true) (hx : l[k]? = some x) (hf : f x = true) : (l.take (k + 1)).all f = true := by
  rw [List.take_add_one, hx, List.all_append, h]
  simp [hf]
theorem all_fail {α : Type} {l : List α} {f : α → Bool} {k : Nat} {x : α} (hx : l[k]? = some x) (hf : f x = false) : l.all f = false := by
  cases e : l.all f with
  | false => rfl
  | true => rw [List.all_eq_true.1 e x (List.mem_of_getElem? hx)] at hf; cases hf
theorem enc_step {l : List En} {k : Nat} {x : En} (hx : l[k]? = some x) : enc (l.take (k + 1)) = enc (l.take k) ++ pb (wrE x) := by
  rw [List.take_add_one, hx, enc_app]
  simp [enc]
theorem take_len {α : Type} {l : List α} {k : Nat} (h : k ≤ l.length) : (l.take k).length = k := by rw [List.length_take]; omega
end Go.Proofs.Ytbkaiffecnomjaa
