import PyProof.Rows.All
import Wide.All
import OpenK.AllK
import Wide.FinOn
import HandS.ForMost
import HandS.Evl
import HandS.Wide
import HandS.WideBits
import HandS.IsInst
import HandS.EndBits
import HandS.Style
import PyProof.StrBlock2
import HandS.Zip
import HandS.Strs
import HandS.SortInts
import HandS.SetFor
import HandS.More
import HandS.RevRange
import HandS.Flow
import HandS.HotCalls
import HandS.CallSlots
import HandS.ExcIs
import HandS.Iter
import PySem.Challenge.RW_ringbeads_k05_refused
set_option Elab.async false
set_option linter.all false
set_option maxRecDepth 100000
set_option maxHeartbeats 4000000
namespace RB
abbrev Ring := List (Bool × Int)
def mn (l n : Int) : Int := if n < l then n else l
def sizeR : Ring → Int
  | [] => 0
  | x :: r => x.2 + sizeR r
def cntA : Ring → Int
  | [] => 0
  | x :: r => (if x.1 = true then x.2 else 0) + cntA r
def cntB : Ring → Int
  | [] => 0
  | x :: r => (if x.1 = true then 0 else x.2) + cntB r
def ahead : Ring → Int → Int
  | [], _ => 0
  | x :: r, l => (if x.1 = true then mn l x.2 else 0) + ahead r (l - mn l x.2)
def kindR : Ring → Int → Bool
  | [], _ => true
  | x :: r, l => if l < x.2 then x.1 else kindR r (l - x.2)
def firstF (r : Ring) (m : Int) : Int := m / sizeR r * cntA r + ahead r (m % sizeR r)
def amongF (r : Ring) (p m : Int) : Int := firstF r (p + m) - firstF r p
/-- every stretch has a bead -/
def Pos (r : Ring) : Prop := ∀ x ∈ r, 1 ≤ x.2

theorem Pos.tail {x : Bool × Int} {r : Ring} (h : Pos (x :: r)) : Pos r := fun y hy => h y (List.mem_cons_of_mem _ hy)
theorem Pos.head {x : Bool × Int} {r : Ring} (h : Pos (x :: r)) : 1 ≤ x.2 := h x List.mem_cons_self
theorem Pos.take {r : Ring} (h : Pos r) (n : Nat) : Pos (r.take n) := fun y hy => h y (List.mem_of_mem_take hy)
theorem Pos.drop {r : Ring} (h : Pos r) (n : Nat) : Pos (r.drop n) := fun y hy => h y (List.mem_of_mem_drop hy)
theorem Pos.append {p q : Ring} (hp : Pos p) (hq : Pos q) : Pos (p ++ q) := fun y hy => (List.mem_append.mp hy).elim (hp y) (hq y)

theorem size_nonneg : ∀ {r : Ring}, Pos r → 0 ≤ sizeR r
  | [], _ => Int.le_refl 0
  | x :: r, h => by
    have h1 := h.head
    have h2 := size_nonneg h.tail
    show 0 ≤ x.2 + sizeR r
    omega
theorem size_pos {r : Ring} (h : Pos r) (hne : r ≠ []) : 1 ≤ sizeR r := by
  cases r with
  | nil => exact absurd rfl hne
  | cons x r =>
    have h1 := h.head
    have h2 := size_nonneg h.tail
    show 1 ≤ x.2 + sizeR r
    omega
theorem size_append : ∀ (p q : Ring), sizeR (p ++ q) = sizeR p + sizeR q
  | [], q => by show sizeR q = 0 + sizeR q; omega
  | x :: p, q => by
    show x.2 + sizeR (p ++ q) = x.2 + sizeR p + sizeR q
    rw [size_append p q]
    omega
theorem cnt_append : ∀ (p q : Ring), cntA (p ++ q) = cntA p + cntA q
  | [], q => by show cntA q = 0 + cntA q; omega
  | x :: p, q => by
    show (if x.1 = true then x.2 else 0) + cntA (p ++ q) = (if x.1 = true then x.2 else 0) + cntA p + cntA q
    rw [cnt_append p q]
    omega
theorem cnt_all : ∀ (r : Ring), cntA r + cntB r = sizeR r
  | [] => rfl
  | x :: r => by
    have h := cnt_all r
    show (if x.1 = true then x.2 else 0) + cntA r + ((if x.1 = true then 0 else x.2) + cntB r) = x.2 + sizeR r
    cases x.1 <;> simp <;> omega
theorem size_sum (r : Ring) : (r.map (·.2)).sum = sizeR r := by
  induction r with
  | nil => rfl
  | cons x r ih =>
    rw [List.map_cons, List.sum_cons, ih]
    rfl
theorem cntA_sum (r : Ring) : ((r.filter (fun x => x.1)).map (·.2)).sum = cntA r := by
  induction r with
  | nil => rfl
  | cons x r ih =>
    show _ = (if x.1 = true then x.2 else 0) + cntA r
    rw [List.filter_cons]
    cases hx : x.1 with
    | true => simp [ih]
    | false => simp [ih]
theorem cntB_sum (r : Ring) : ((r.filter (fun x => !x.1)).map (·.2)).sum = cntB r := by
  induction r with
  | nil => rfl
  | cons x r ih =>
    show _ = (if x.1 = true then 0 else x.2) + cntB r
    rw [List.filter_cons]
    cases hx : x.1 with
    | true => simp [ih]
    | false => simp [ih]
theorem size_take_succ {r : Ring} {i : Nat} {x : Bool × Int} (h : r[i]? = some x) : sizeR (r.take (i + 1)) = sizeR (r.take i) + x.2 := by
  rw [List.take_add_one, h, size_append]
  show _ + (x.2 + 0) = _
  omega
theorem cnt_take_succ {r : Ring} {i : Nat} {x : Bool × Int} (h : r[i]? = some x) : cntA (r.take (i + 1)) = cntA (r.take i) + (if x.1 = true then x.2 else 0) := by
  rw [List.take_add_one, h, cnt_append]
  show _ + ((if x.1 = true then x.2 else 0) + 0) = _
  omega
theorem size_take_drop (r : Ring) (i : Nat) : sizeR (r.take i) + sizeR (r.drop i) = sizeR r := by
  rw [← size_append, List.take_append_drop]
theorem drop_at {r : Ring} {i : Nat} {x : Bool × Int} (h : r[i]? = some x) : r.drop i = x :: r.drop (i + 1) := by
  obtain ⟨h1, h2⟩ := List.getElem?_eq_some_iff.mp h
  rw [List.drop_eq_getElem_cons h1, h2]
theorem mem_at {r : Ring} {i : Nat} {x : Bool × Int} (h : r[i]? = some x) : x ∈ r := List.mem_of_getElem? h

/-! ### ahead -/
theorem ahead_zero : ∀ {r : Ring}, Pos r → ahead r 0 = 0
  | [], _ => rfl
  | x :: r, h => by
    have h1 := h.head
    have e : mn 0 x.2 = 0 := by
      unfold mn
      rw [if_neg (by omega)]
    show (if x.1 = true then mn 0 x.2 else 0) + ahead r (0 - mn 0 x.2) = 0
    rw [e]
    have ih := ahead_zero h.tail
    rw [show (0 : Int) - 0 = 0 from rfl, ih]
    cases x.1 <;> rfl
theorem ahead_full : ∀ {r : Ring}, Pos r → ∀ {l : Int}, sizeR r ≤ l → ahead r l = cntA r
  | [], _, _, _ => rfl
  | x :: r, h, l, hl => by
    have h1 := h.head
    have h2 := size_nonneg h.tail
    have hl' : x.2 + sizeR r ≤ l := hl
    have e : mn l x.2 = x.2 := by
      unfold mn
      split <;> omega
    show (if x.1 = true then mn l x.2 else 0) + ahead r (l - mn l x.2) = (if x.1 = true then x.2 else 0) + cntA r
    rw [e, ahead_full h.tail (by omega)]
theorem ahead_append : ∀ {p : Ring}, Pos p → ∀ {q : Ring}, Pos q → ∀ {l : Int}, 0 ≤ l → ahead (p ++ q) l = if l ≤ sizeR p then ahead p l else cntA p + ahead q (l - sizeR p)
  | [], _, q, hq, l, h0 => by
    show ahead q l = if l ≤ 0 then 0 else 0 + ahead q (l - 0)
    split
    · have : l = 0 := by omega
      subst this
      exact ahead_zero hq
    · rw [Int.sub_zero]
      omega
  | x :: p, h, q, hq, l, h0 => by
    have h1 := h.head
    have h2 := size_nonneg h.tail
    show (if x.1 = true then mn l x.2 else 0) + ahead (p ++ q) (l - mn l x.2) = if l ≤ x.2 + sizeR p then (if x.1 = true then mn l x.2 else 0) + ahead p (l - mn l x.2) else (if x.1 = true then x.2 else 0) + cntA p + ahead q (l - (x.2 + sizeR p))
    by_cases hl : l ≤ x.2
    · have e : mn l x.2 = l := by
        unfold mn
        split <;> omega
      rw [e, Int.sub_self, if_pos (show l ≤ x.2 + sizeR p by omega), ahead_zero h.tail, ahead_zero (h.tail.append hq)]
    · have e : mn l x.2 = x.2 := by
        unfold mn
        split <;> omega
      rw [e, ahead_append h.tail hq (by omega)]
      by_cases hl2 : l ≤ x.2 + sizeR p
      · rw [if_pos hl2, if_pos (show l - x.2 ≤ sizeR p by omega)]
      · rw [if_neg hl2, if_neg (show ¬ l - x.2 ≤ sizeR p by omega), show l - x.2 - sizeR p = l - (x.2 + sizeR p) by omega]
        omega
theorem ahead_at {r : Ring} (h : Pos r) {i : Nat} {x : Bool × Int} (hx : r[i]? = some x) {l : Int} (h0 : sizeR (r.take i) ≤ l) (h1 : l < sizeR (r.take (i + 1))) : ahead r l = cntA (r.take i) + (if x.1 = true then l - sizeR (r.take i) else 0) := by
  have hs := size_take_succ hx
  have hn := size_nonneg (h.take i)
  have hd := h.drop i
  conv => lhs; rw [← List.take_append_drop i r]
  rw [ahead_append (h.take i) hd (by omega)]
  rw [drop_at hx] at hd ⊢
  have hm : mn (l - sizeR (r.take i)) x.2 = l - sizeR (r.take i) := by
    unfold mn
    split <;> omega
  have hr : ahead (x :: r.drop (i + 1)) (l - sizeR (r.take i)) = if x.1 = true then l - sizeR (r.take i) else 0 := by
    show (if x.1 = true then mn (l - sizeR (r.take i)) x.2 else 0) + ahead (r.drop (i + 1)) (l - sizeR (r.take i) - mn (l - sizeR (r.take i)) x.2) = _
    rw [hm, Int.sub_self, ahead_zero hd.tail]
    omega
  split
  · have : l = sizeR (r.take i) := by omega
    subst this
    rw [ahead_full (h.take i) (Int.le_refl _), Int.sub_self]
    cases x.1 <;> simp
  · rw [hr]

/-! ### counts from the first place on -/
theorem first_add {r : Ring} (h : Pos r) (hne : r ≠ []) (m q : Int) : firstF r (m + sizeR r * q) = firstF r m + q * cntA r := by
  have hs := size_pos h hne
  unfold firstF
  rw [Int.add_mul_ediv_left _ _ (by omega), Int.add_mul_emod_self_left, Int.add_mul]
  omega
theorem first_small {r : Ring} {m : Int} (h0 : 0 ≤ m) (h1 : m < sizeR r) : firstF r m = ahead r m := by
  unfold firstF
  rw [Int.ediv_eq_zero_of_lt h0 h1, Int.emod_eq_of_lt h0 h1]
  omega
theorem mod_eq (m n : Int) : m = m % n + n * (m / n) := by
  have := Int.emod_add_mul_ediv m n
  omega
/-- the ring's own reckoning: rounds and what is ahead -/
theorem among_along {r : Ring} {p m : Int} (h0 : 0 ≤ p) (h1 : p < sizeR r) : amongF r p m = (p + m) / sizeR r * cntA r + ahead r ((p + m) % sizeR r) - ahead r p := by
  unfold amongF
  rw [first_small h0 h1]
  rfl
/-- in two parts -/
theorem among_parts {r : Ring} (h : Pos r) (hne : r ≠ []) (p m f : Int) : amongF r p m = amongF r p f + amongF r ((p + f) % sizeR r) (m - f) := by
  have e := mod_eq (p + f) (sizeR r)
  generalize (p + f) % sizeR r = t at e
  generalize (p + f) / sizeR r = q at e
  unfold amongF
  have e1 : p + m = t + (m - f) + sizeR r * q := by omega
  have e2 : p + f = t + sizeR r * q := by omega
  rw [e1, e2, first_add h hne, first_add h hne]
  omega
/-- rings that tell the same of every count -/
theorem first_same {r c : Ring} (hs : sizeR c = sizeR r) (hc : cntA c = cntA r) (ha : ∀ l, 0 ≤ l → ahead c l = ahead r l) (h : Pos r) (hne : r ≠ []) (m : Int) : firstF c m = firstF r m := by
  have h1 := size_pos h hne
  unfold firstF
  rw [hs, hc, ha _ (Int.emod_nonneg _ (by omega))]
/-- the ring begun at another stretch -/
theorem first_turned {p q : Ring} (hp : Pos p) (hq : Pos q) (hne : q ≠ []) (m : Int) : firstF (q ++ p) m + firstF (p ++ q) (sizeR p) = firstF (p ++ q) (m + sizeR p) := by
  have sp := size_nonneg hp
  have sq := size_pos hq hne
  have eS : sizeR (p ++ q) = sizeR p + sizeR q := size_append p q
  have eS' : sizeR (q ++ p) = sizeR p + sizeR q := by rw [size_append]; omega
  have eC : cntA (p ++ q) = cntA p + cntA q := cnt_append p q
  have eC' : cntA (q ++ p) = cntA p + cntA q := by rw [cnt_append]; omega
  have nep : p ++ q ≠ [] := by simp [hne]
  have neq : q ++ p ≠ [] := by simp [hne]
  have far : firstF (p ++ q) (sizeR p) = cntA p := by
    rw [first_small sp (by omega), ahead_append hp hq sp, if_pos (Int.le_refl _), ahead_full hp (Int.le_refl _)]
  have small : ∀ t, 0 ≤ t → t < sizeR p + sizeR q → firstF (q ++ p) t + cntA p = firstF (p ++ q) (t + sizeR p) := fun t h0 h1 => by
    rw [first_small h0 (by omega), ahead_append hq hp h0]
    by_cases ht : t < sizeR q
    · rw [if_pos (by omega), first_small (by omega) (by omega), ahead_append hp hq (by omega)]
      by_cases ht0 : t = 0
      · subst ht0
        rw [if_pos (by omega), ahead_zero hq, ahead_full hp (by omega)]
        omega
      · rw [if_neg (by omega), show t + sizeR p - sizeR p = t by omega]
        omega
    · have e : t + sizeR p = (t - sizeR q) + sizeR (p ++ q) * 1 := by omega
      rw [e, first_add (hp.append hq) nep, first_small (by omega) (by omega), ahead_append hp hq (by omega), eC]
      by_cases ht2 : t = sizeR q
      · subst ht2
        rw [if_pos (Int.le_refl _), Int.sub_self, if_pos (by omega), ahead_zero hp, ahead_full hq (Int.le_refl _)]
        omega
      · rw [if_neg (by omega), if_pos (by omega)]
        omega
  have e := mod_eq m (sizeR (q ++ p))
  have h0 : 0 ≤ m % sizeR (q ++ p) := Int.emod_nonneg _ (by omega)
  have h1 : m % sizeR (q ++ p) < sizeR (q ++ p) := Int.emod_lt_of_pos _ (by omega)
  generalize m % sizeR (q ++ p) = t at e h0 h1
  generalize m / sizeR (q ++ p) = k at e
  have s := small t h0 (by omega)
  rw [e, first_add (hq.append hp) neq, far, eC']
  rw [eS'] at *
  have e3 : t + (sizeR p + sizeR q) * k + sizeR p = (t + sizeR p) + sizeR (p ++ q) * k := by
    rw [eS]
    omega
  rw [e3, first_add (hp.append hq) nep, ← s, eC]
  omega
theorem among_turned {p q : Ring} (hp : Pos p) (hq : Pos q) (hne : q ≠ []) (a m : Int) : amongF (q ++ p) ((a - sizeR p) % sizeR (p ++ q)) m = amongF (p ++ q) a m := by
  have e := mod_eq (a - sizeR p) (sizeR (p ++ q))
  generalize (a - sizeR p) % sizeR (p ++ q) = t at e
  generalize (a - sizeR p) / sizeR (p ++ q) = k at e
  have nep : p ++ q ≠ [] := by simp [hne]
  unfold amongF
  have h1 := first_turned hp hq hne (t + m)
  have h2 := first_turned hp hq hne t
  have e1 : a + m = (t + m + sizeR p) + sizeR (p ++ q) * k := by omega
  have e2 : a = (t + sizeR p) + sizeR (p ++ q) * k := by omega
  have f1 : firstF (p ++ q) (a + m) = firstF (p ++ q) (t + m + sizeR p) + k * cntA (p ++ q) := by rw [e1, first_add (hp.append hq) nep]
  have f2 : firstF (p ++ q) a = firstF (p ++ q) (t + sizeR p) + k * cntA (p ++ q) := by
    conv => lhs; rw [e2]
    rw [first_add (hp.append hq) nep]
  omega

/-! ### kinds -/
theorem kind_at' : ∀ {r : Ring}, Pos r → ∀ {i : Nat} {x : Bool × Int}, r[i]? = some x → ∀ {d : Int}, 0 ≤ d → d < x.2 → kindR r (sizeR (r.take i) + d) = x.1
  | [], _, i, x, h, _, _, _ => by simp at h
  | y :: r, hp, 0, x, h, d, h0, h1 => by
    have e : y = x := Option.some.inj h
    subst e
    show (if 0 + d < y.2 then y.1 else _) = y.1
    rw [if_pos (by omega)]
  | y :: r, hp, i + 1, x, h, d, h0, h1 => by
    have ih := kind_at' hp.tail (i := i) (x := x) h h0 h1
    have hn := size_nonneg (hp.tail.take i)
    show (if y.2 + sizeR (r.take i) + d < y.2 then y.1 else kindR r (y.2 + sizeR (r.take i) + d - y.2)) = x.1
    rw [if_neg (by omega), show y.2 + sizeR (r.take i) + d - y.2 = sizeR (r.take i) + d by omega]
    exact ih

/-! ### stretches cut in two -/
/-- c is r with some stretches cut in two -/
inductive Cut : Ring → Ring → Prop
  | nil : Cut [] []
  | keep {x : Bool × Int} {r c : Ring} (h : Cut r c) : Cut (x :: r) (x :: c)
  | two {k : Bool} {n f : Int} {r c : Ring} (h0 : 0 < f) (h1 : f < n) (h : Cut r c) : Cut ((k, n) :: r) ((k, f) :: (k, n - f) :: c)
theorem Cut.pos {r c : Ring} (h : Cut r c) : Pos r → Pos c := by
  induction h with
  | nil => exact fun _ y hy => by simp at hy
  | keep h ih =>
    intro hp y hy
    rcases List.mem_cons.mp hy with e | e
    · subst e
      exact hp.head
    · exact ih hp.tail y e
  | two h0 h1 h ih =>
    intro hp y hy
    rcases List.mem_cons.mp hy with e | e
    · subst e
      show (1 : Int) ≤ _
      omega
    · rcases List.mem_cons.mp e with e | e
      · subst e
        show (1 : Int) ≤ _ - _
        omega
      · exact ih hp.tail y e
theorem Cut.size {r c : Ring} (h : Cut r c) : sizeR c = sizeR r := by
  induction h with
  | nil => rfl
  | keep h ih =>
    show _ + _ = _ + _
    rw [ih]
  | @two k n f r c h0 h1 h ih =>
    show f + (n - f + sizeR c) = n + sizeR r
    rw [ih]
    omega
theorem Cut.cnt {r c : Ring} (h : Cut r c) : cntA c = cntA r := by
  induction h with
  | nil => rfl
  | keep h ih =>
    show _ + _ = _ + _
    rw [ih]
  | @two k n f r c h0 h1 h ih =>
    show (if k = true then f else 0) + ((if k = true then n - f else 0) + cntA c) = (if k = true then n else 0) + cntA r
    rw [ih]
    cases k <;> simp <;> omega
theorem Cut.ahead {r c : Ring} (h : Cut r c) : ∀ {l : Int}, 0 ≤ l → ahead c l = ahead r l := by
  induction h with
  | nil => exact fun _ => rfl
  | @keep x r c h ih =>
    intro l h0
    show (if x.1 = true then mn l x.2 else 0) + RB.ahead c (l - mn l x.2) = (if x.1 = true then mn l x.2 else 0) + RB.ahead r (l - mn l x.2)
    rw [ih (by unfold mn; split <;> omega)]
  | @two k n f r c h0 h1 h ih =>
    intro l hl
    show (if k = true then mn l f else 0) + ((if k = true then mn (l - mn l f) (n - f) else 0) + RB.ahead c (l - mn l f - mn (l - mn l f) (n - f))) = (if k = true then mn l n else 0) + RB.ahead r (l - mn l n)
    have e : mn l f + mn (l - mn l f) (n - f) = mn l n := by
      unfold mn
      repeat' split
      all_goals omega
    have h2 : mn l n ≤ l := by
      unfold mn
      split <;> omega
    rw [show l - mn l f - mn (l - mn l f) (n - f) = l - mn l n by omega, ih (by omega)]
    cases k <;> simp <;> omega
theorem Cut.kind {r c : Ring} (h : Cut r c) : ∀ {l : Int}, 0 ≤ l → kindR c l = kindR r l := by
  induction h with
  | nil => exact fun _ => rfl
  | @keep x r c h ih =>
    intro l h0
    show (if l < x.2 then x.1 else kindR c (l - x.2)) = (if l < x.2 then x.1 else kindR r (l - x.2))
    split
    · rfl
    · exact ih (by omega)
  | @two k n f r c h0 h1 h ih =>
    intro l hl
    show (if l < f then k else if l - f < n - f then k else kindR c (l - f - (n - f))) = (if l < n then k else kindR r (l - n))
    by_cases h2 : l < f
    · rw [if_pos h2, if_pos (by omega)]
    · rw [if_neg h2]
      by_cases h3 : l < n
      · rw [if_pos (by omega), if_pos h3]
      · rw [if_neg (by omega), if_neg h3, show l - f - (n - f) = l - n by omega]
        exact ih (by omega)
theorem Cut.append {r c r' c' : Ring} (h : Cut r c) (h' : Cut r' c') : Cut (r ++ r') (c ++ c') := by
  induction h with
  | nil => exact h'
  | keep h ih => exact .keep ih
  | two h0 h1 h ih => exact .two h0 h1 ih
theorem Cut.ne {r c : Ring} (h : Cut r c) (hne : r ≠ []) : c ≠ [] := by
  cases h with
  | nil => exact absurd rfl hne
  | keep h => simp
  | two h0 h1 h => simp
theorem Cut.among {r c : Ring} (h : Cut r c) (hp : Pos r) (hne : r ≠ []) (p m : Int) : amongF c p m = amongF r p m := by
  unfold amongF
  rw [first_same h.size h.cnt (fun l hl => h.ahead hl) hp hne, first_same h.size h.cnt (fun l hl => h.ahead hl) hp hne]
theorem Cut.length {r c : Ring} (h : Cut r c) : c.length ≤ 2 * r.length := by
  induction h with
  | nil => simp
  | keep h ih =>
    simp only [List.length_cons]
    omega
  | two h0 h1 h ih =>
    simp only [List.length_cons]
    omega
theorem Cut.under {r c : Ring} {B : Int} (h : Cut r c) : (∀ x ∈ r, x.2 < B) → ∀ x ∈ c, x.2 < B := by
  induction h with
  | nil => exact fun _ y hy => by simp at hy
  | @keep x r c h ih =>
    intro hb y hy
    rcases List.mem_cons.mp hy with e | e
    · subst e
      exact hb _ List.mem_cons_self
    · exact ih (fun z hz => hb z (List.mem_cons_of_mem _ hz)) y e
  | @two k n f r c h0 h1 h ih =>
    intro hb y hy
    have hn : n < B := hb (k, n) List.mem_cons_self
    rcases List.mem_cons.mp hy with e | e
    · subst e
      show f < B
      omega
    · rcases List.mem_cons.mp e with e | e
      · subst e
        show n - f < B
        omega
      · exact ih (fun z hz => hb z (List.mem_cons_of_mem _ hz)) y e

theorem size_bound {B : Int} : ∀ {r : Ring}, (∀ x ∈ r, x.2 ≤ B) → sizeR r ≤ r.length * B
  | [], _ => by show (0 : Int) ≤ ((0 : Nat) : Int) * B; omega
  | x :: r, h => by
    have ih := size_bound (r := r) (fun y hy => h y (List.mem_cons_of_mem _ hy))
    have hx := h x List.mem_cons_self
    show x.2 + sizeR r ≤ ((r.length + 1 : Nat) : Int) * B
    rw [Int.natCast_add, Int.add_mul]
    omega
theorem cnt_nonneg : ∀ {r : Ring}, Pos r → 0 ≤ cntA r
  | [], _ => Int.le_refl 0
  | x :: r, h => by
    have h1 := h.head
    have h2 := cnt_nonneg h.tail
    show 0 ≤ (if x.1 = true then x.2 else 0) + cntA r
    split <;> omega
theorem cnt_le : ∀ {r : Ring}, Pos r → cntA r ≤ sizeR r
  | [], _ => Int.le_refl 0
  | x :: r, h => by
    have h1 := h.head
    have h2 := cnt_le h.tail
    show (if x.1 = true then x.2 else 0) + cntA r ≤ x.2 + sizeR r
    split <;> omega
/-! ### the beads one by one -/
def rowL : Ring → List Bool
  | [] => []
  | x :: r => List.replicate x.2.toNat x.1 ++ rowL r
theorem rowL_len : ∀ {r : Ring}, Pos r → ((rowL r).length : Int) = sizeR r
  | [], _ => rfl
  | x :: r, h => by
    have h1 := h.head
    have ih := rowL_len h.tail
    show ((List.replicate x.2.toNat x.1 ++ rowL r).length : Int) = x.2 + sizeR r
    rw [List.length_append, List.length_replicate]
    omega
theorem rowL_kind : ∀ {r : Ring}, Pos r → ∀ {i : Nat}, i < (rowL r).length → (rowL r)[i]? = some (kindR r (i : Int))
  | [], _, i, h => by simp [rowL] at h
  | x :: r, hp, i, h => by
    have h1 := hp.head
    show (List.replicate x.2.toNat x.1 ++ rowL r)[i]? = some (if (i : Int) < x.2 then x.1 else kindR r ((i : Int) - x.2))
    have hl : (List.replicate x.2.toNat x.1 ++ rowL r).length = x.2.toNat + (rowL r).length := by rw [List.length_append, List.length_replicate]
    have h' : i < x.2.toNat + (rowL r).length := by
      have : i < (List.replicate x.2.toNat x.1 ++ rowL r).length := h
      omega
    by_cases hi : (i : Int) < x.2
    · rw [if_pos hi, List.getElem?_append_left (by rw [List.length_replicate]; omega), List.getElem?_replicate, if_pos (by omega)]
    · rw [if_neg hi, List.getElem?_append_right (by rw [List.length_replicate]; omega), List.length_replicate, rowL_kind hp.tail (i := i - x.2.toNat) (by omega)]
      rw [show ((i - x.2.toNat : Nat) : Int) = (i : Int) - x.2 by omega]
/-- how much more of the kind a than t times the other, among the first m -/
def hx (r : Ring) (t m : Int) : Int := (t + 1) * firstF r m - t * m
def ht (r : Ring) (t m : Int) : Int := (t + 1) * ahead r m - t * m
def surplus (r : Ring) (t : Int) : Int := cntA r - t * (sizeR r - cntA r)
def Start (r : Ring) (t p : Int) : Prop := ∀ c, 1 ≤ c → c ≤ sizeR r → hx r t p < hx r t (p + c)
/-- the height where stretch i begins -/
def he (r : Ring) (t : Int) (i : Nat) : Int := (t + 1) * cntA (r.take i) - t * sizeR (r.take i)

theorem ahead_end {r : Ring} (h : Pos r) (i : Nat) : ahead r (sizeR (r.take i)) = cntA (r.take i) := by
  have hn := size_nonneg (h.take i)
  conv => lhs; rw [← List.take_append_drop i r]
  rw [ahead_append (h.take i) (h.drop i) (by rw [List.take_append_drop]; exact hn), if_pos (by rw [List.take_append_drop]; exact Int.le_refl _), List.take_append_drop, ahead_full (h.take i) (Int.le_refl _)]
theorem ahead_in {r : Ring} (h : Pos r) {i : Nat} {x : Bool × Int} (hx : r[i]? = some x) {l : Int} (h0 : sizeR (r.take i) ≤ l) (h1 : l ≤ sizeR (r.take (i + 1))) : ahead r l = cntA (r.take i) + (if x.1 = true then l - sizeR (r.take i) else 0) := by
  by_cases hl : l < sizeR (r.take (i + 1))
  · exact ahead_at h hx h0 hl
  · have e : l = sizeR (r.take (i + 1)) := by omega
    have hs := size_take_succ hx
    have hc := cnt_take_succ hx
    rw [e, ahead_end h, hc]
    split
    · rw [hs]
      omega
    · rfl
theorem stretch_of : ∀ {r : Ring}, Pos r → ∀ {m : Int}, 0 < m → m ≤ sizeR r → ∃ (i : Nat) (x : Bool × Int), r[i]? = some x ∧ sizeR (r.take i) < m ∧ m ≤ sizeR (r.take (i + 1))
  | [], _, m, h0, h1 => by
    have : m ≤ 0 := h1
    omega
  | x :: r, h, m, h0, h1 => by
    have h1' : m ≤ x.2 + sizeR r := h1
    by_cases hm : m ≤ x.2
    · refine ⟨0, x, rfl, h0, ?_⟩
      show m ≤ x.2 + 0
      omega
    · obtain ⟨i, y, e, g0, g1⟩ := stretch_of h.tail (m := m - x.2) (by omega) (by omega)
      refine ⟨i + 1, y, e, ?_, ?_⟩
      · show x.2 + sizeR (r.take i) < m
        omega
      · show m ≤ x.2 + sizeR (r.take (i + 1))
        omega
theorem first_upto {r : Ring} (h : Pos r) (hne : r ≠ []) {m : Int} (h0 : 0 ≤ m) (h1 : m ≤ sizeR r) : firstF r m = ahead r m := by
  by_cases hm : m < sizeR r
  · exact first_small h0 hm
  · have e : m = 0 + sizeR r * 1 := by omega
    have hs := size_pos h hne
    conv => lhs; rw [e]
    rw [first_add h hne, first_small (Int.le_refl 0) (by omega), ahead_zero h, ahead_full h (by omega)]
    omega
theorem hx_ht {r : Ring} (h : Pos r) (hne : r ≠ []) (t : Int) {m : Int} (h0 : 0 ≤ m) (h1 : m ≤ sizeR r) : hx r t m = ht r t m := by
  unfold hx ht
  rw [first_upto h hne h0 h1]
theorem ht_end {r : Ring} (h : Pos r) (t : Int) (i : Nat) : ht r t (sizeR (r.take i)) = he r t i := by
  unfold ht he
  rw [ahead_end h]
theorem hx_add {r : Ring} (h : Pos r) (hne : r ≠ []) (t m : Int) : hx r t (m + sizeR r) = hx r t m + surplus r t := by
  unfold hx surplus
  have e := first_add h hne m 1
  rw [Int.mul_one] at e
  rw [e]
  simp only [Int.add_mul, Int.mul_add, Int.mul_sub, Int.one_mul]
  omega
theorem ht_a (t S m E : Int) : (t + 1) * (S + (m - E)) - t * m = (t + 1) * S - t * E + (m - E) := by
  simp only [Int.add_mul, Int.mul_add, Int.mul_sub, Int.one_mul]
  omega
theorem ht_b (t S m E : Int) : (t + 1) * (S + 0) - t * m = (t + 1) * S - t * E + t * (E - m) := by
  simp only [Int.add_mul, Int.mul_add, Int.mul_sub, Int.one_mul]
  omega
/-- within a stretch of the kind a the height rises by one a bead -/
theorem ht_rise {r : Ring} (h : Pos r) (t : Int) {i : Nat} {x : Bool × Int} (hx : r[i]? = some x) (hk : x.1 = true) {m : Int} (h0 : sizeR (r.take i) ≤ m) (h1 : m ≤ sizeR (r.take (i + 1))) : ht r t m = he r t i + (m - sizeR (r.take i)) := by
  unfold ht he
  rw [ahead_in h hx h0 h1, if_pos hk]
  exact ht_a _ _ _ _
/-- within one of the kind b it falls by t a bead -/
theorem ht_fall {r : Ring} (h : Pos r) (t : Int) {i : Nat} {x : Bool × Int} (hx : r[i]? = some x) (hk : x.1 = false) {m : Int} (h0 : sizeR (r.take i) ≤ m) (h1 : m ≤ sizeR (r.take (i + 1))) : ht r t m = he r t (i + 1) + t * (sizeR (r.take (i + 1)) - m) := by
  have hc := cnt_take_succ hx
  rw [hk, if_neg (by decide)] at hc
  unfold ht he
  rw [ahead_in h hx h0 h1, hk, if_neg (by decide), hc, Int.add_zero]
  have := ht_b t (cntA (r.take i)) m (sizeR (r.take (i + 1)))
  rw [Int.add_zero] at this
  exact this
theorem end_le {r : Ring} (h : Pos r) (i : Nat) : sizeR (r.take i) ≤ sizeR r := by
  have h1 := size_take_drop r i
  have h2 := size_nonneg (h.drop i)
  omega
/-- the height is nowhere less than at the lesser end of its stretch -/
theorem ht_ge {r : Ring} (h : Pos r) {t : Int} (ht0 : 0 ≤ t) {L : Int} (hL : ∀ i, i ≤ r.length → L ≤ he r t i) {m : Int} (h0 : 0 ≤ m) (h1 : m ≤ sizeR r) : L ≤ ht r t m := by
  by_cases hm : m = 0
  · subst hm
    have e := ht_end h t 0
    have h0' := hL 0 (Nat.zero_le _)
    have e' : ht r t 0 = he r t 0 := e
    omega
  · obtain ⟨i, x, hxx, g0, g1⟩ := stretch_of h (m := m) (by omega) h1
    have hi : i < r.length := (List.getElem?_eq_some_iff.mp hxx).1
    cases hk : x.1 with
    | true =>
      have := ht_rise h t hxx hk (by omega) g1
      have := hL i (by omega)
      omega
    | false =>
      have := ht_fall h t hxx hk (by omega) g1
      have := hL (i + 1) (by omega)
      have : 0 ≤ t * (sizeR (r.take (i + 1)) - m) := Int.mul_nonneg ht0 (by omega)
      omega
/-- the law's own look at the ends -/
def isStL (r : Ring) (t p : Int) : Bool :=
  if surplus r t < 1 ∨ amongF r p 1 = 0 then false else (List.range (r.length + 1)).all fun i => !decide (he r t i + (if p < sizeR (r.take i) then 0 else surplus r t) ≤ ht r t p)
theorem amongF_one {r : Ring} (h : Pos r) (hne : r ≠ []) {p : Int} (h0 : 0 ≤ p) (h1 : p < sizeR r) {i : Nat} {x : Bool × Int} (hxx : r[i]? = some x) (g0 : sizeR (r.take i) ≤ p) (g1 : p < sizeR (r.take (i + 1))) : amongF r p 1 = if x.1 = true then 1 else 0 := by
  unfold amongF
  rw [first_upto h hne (by omega) (by omega), first_upto h hne h0 (by omega), ahead_in h hxx (by omega) (by omega), ahead_in h hxx g0 (by omega)]
  split <;> omega
theorem isStL_iff {r : Ring} (h : Pos r) (hne : r ≠ []) {t p : Int} (t1 : 1 ≤ t) (h0 : 0 ≤ p) (h1 : p < sizeR r) : isStL r t p = true ↔ Start r t p := by
  have hs := size_pos h hne
  obtain ⟨i0, x0, hx0, g0, g1⟩ := stretch_of h (m := p + 1) (by omega) (by omega)
  have hone := amongF_one h hne h0 h1 hx0 (by omega) (by omega)
  have hp0 : hx r t p = ht r t p := hx_ht h hne t h0 (by omega)
  constructor
  · intro hL
    unfold isStL at hL
    split at hL
    · cases hL
    · rename_i hc
      have hc1 : 1 ≤ surplus r t := by
        have := fun z => hc (.inl z)
        omega
      have hk : x0.1 = true := by
        cases e : x0.1 with
        | true => rfl
        | false =>
          rw [e, if_neg (by decide)] at hone
          exact absurd (.inr hone) hc
      have hall : ∀ i, i ≤ r.length → ht r t p < he r t i + (if p < sizeR (r.take i) then 0 else surplus r t) := fun i hi => by
        have := List.all_eq_true.mp hL i (List.mem_range.mpr (by omega))
        have := of_decide_eq_false (Bool.not_eq_true' _ ▸ this)
        omega
      intro c c0 c1
      rw [hp0]
      by_cases hm : p + c ≤ sizeR r
      · rw [hx_ht h hne t (by omega) hm]
        obtain ⟨i, x, hxx, e0, e1⟩ := stretch_of h (m := p + c) (by omega) hm
        have hi : i < r.length := (List.getElem?_eq_some_iff.mp hxx).1
        cases hk2 : x.1 with
        | true =>
          have a1 := ht_rise h t hxx hk2 (by omega) e1
          by_cases hpe : p < sizeR (r.take i)
          · have a2 := hall i (by omega)
            rw [if_pos hpe] at a2
            omega
          · have a2 := ht_rise h t hxx hk2 (m := p) (by omega) (by omega)
            omega
        | false =>
          have a1 := ht_fall h t hxx hk2 (by omega) e1
          have a2 := hall (i + 1) (by omega)
          rw [if_pos (by omega)] at a2
          have : 0 ≤ t * (sizeR (r.take (i + 1)) - (p + c)) := Int.mul_nonneg (by omega) (by omega)
          omega
      · have e : p + c = (p + c - sizeR r) + sizeR r := by omega
        rw [e, hx_add h hne, hx_ht h hne t (by omega) (by omega)]
        obtain ⟨i, x, hxx, e0, e1⟩ := stretch_of h (m := p + c - sizeR r) (by omega) (by omega)
        have hi : i < r.length := (List.getElem?_eq_some_iff.mp hxx).1
        cases hk2 : x.1 with
        | true =>
          have a1 := ht_rise h t hxx hk2 (by omega) e1
          have a2 := hall i (by omega)
          rw [if_neg (by omega)] at a2
          omega
        | false =>
          have a1 := ht_fall h t hxx hk2 (by omega) e1
          have : 0 ≤ t * (sizeR (r.take (i + 1)) - (p + c - sizeR r)) := Int.mul_nonneg (by omega) (by omega)
          by_cases hpe : p < sizeR (r.take (i + 1))
          · have b1 := amongF_one h hne h0 h1 hxx (by omega) hpe
            rw [hk2, if_neg (by decide)] at b1
            rw [hk, if_pos rfl] at hone
            omega
          · have a2 := hall (i + 1) (by omega)
            rw [if_neg hpe] at a2
            omega
  · intro hS
    have hsur : 1 ≤ surplus r t := by
      have := hS (sizeR r) hs (Int.le_refl _)
      rw [hx_add h hne] at this
      omega
    have hk : x0.1 = true := by
      have a := hS 1 (Int.le_refl _) hs
      rw [hp0, hx_ht h hne t (by omega) (by omega)] at a
      cases e : x0.1 with
      | true => rfl
      | false =>
        have a1 := ht_fall h t hx0 e (m := p) (by omega) (by omega)
        have a2 := ht_fall h t hx0 e (m := p + 1) (by omega) (by omega)
        have e3 : t * (sizeR (r.take (i0 + 1)) - p) = t * (sizeR (r.take (i0 + 1)) - (p + 1)) + t := by
          simp only [Int.mul_sub, Int.mul_add, Int.mul_one]
          omega
        omega
    unfold isStL
    rw [if_neg]
    · refine List.all_eq_true.mpr fun i hi => ?_
      have hi' : i ≤ r.length := by
        have := List.mem_range.mp hi
        omega
      have hel := end_le h i
      have heg := size_nonneg (h.take i)
      rw [decide_eq_false]
      · rfl
      · have hh : ht r t (sizeR (r.take i)) = he r t i := ht_end h t i
        by_cases hpe : p < sizeR (r.take i)
        · rw [if_pos hpe]
          have a := hS (sizeR (r.take i) - p) (by omega) (by omega)
          rw [hp0, show p + (sizeR (r.take i) - p) = sizeR (r.take i) by omega, hx_ht h hne t heg hel] at a
          omega
        · rw [if_neg hpe]
          have a := hS (sizeR (r.take i) + sizeR r - p) (by omega) (by omega)
          rw [hp0, show p + (sizeR (r.take i) + sizeR r - p) = sizeR (r.take i) + sizeR r by omega, hx_add h hne, hx_ht h hne t heg hel] at a
          omega
    · rintro (z | z)
      · omega
      · rw [hone, hk, if_pos rfl] at z
        omega

/-! ### starts by their number -/
/-- the least height where a stretch begins or ends -/
def leastF (r : Ring) (t : Int) : Int := (List.range (r.length + 1)).foldl (fun m i => if he r t i < m then he r t i else m) (he r t 0)
theorem fold_least (f : Nat → Int) : ∀ (l : List Nat) (m : Int), (l.foldl (fun m i => if f i < m then f i else m) m ≤ m ∧ ∀ i ∈ l, l.foldl (fun m i => if f i < m then f i else m) m ≤ f i) ∧ (l.foldl (fun m i => if f i < m then f i else m) m = m ∨ ∃ i ∈ l, l.foldl (fun m i => if f i < m then f i else m) m = f i)
  | [], m => ⟨⟨Int.le_refl _, fun i h => by simp at h⟩, .inl rfl⟩
  | a :: l, m => by
    obtain ⟨⟨h1, h2⟩, h3⟩ := fold_least f l (if f a < m then f a else m)
    rw [List.foldl_cons]
    generalize hz : l.foldl (fun m i => if f i < m then f i else m) (if f a < m then f a else m) = z at *
    refine ⟨⟨?_, fun i hi => ?_⟩, ?_⟩
    · split at h1 <;> omega
    · rcases List.mem_cons.mp hi with e | e
      · subst e
        split at h1 <;> omega
      · exact h2 i e
    · rcases h3 with h3 | ⟨i, hi, h3⟩
      · split at h3
        · exact .inr ⟨a, List.mem_cons_self, h3⟩
        · exact .inl h3
      · exact .inr ⟨i, List.mem_cons_of_mem _ hi, h3⟩
theorem least_le (r : Ring) (t : Int) : ∀ i, i ≤ r.length → leastF r t ≤ he r t i := fun i hi =>
  (fold_least (he r t) (List.range (r.length + 1)) (he r t 0)).1.2 i (List.mem_range.mpr (by omega))
theorem least_is (r : Ring) (t : Int) : ∃ i, i ≤ r.length ∧ leastF r t = he r t i := by
  rcases (fold_least (he r t) (List.range (r.length + 1)) (he r t 0)).2 with e | ⟨i, hi, e⟩
  · exact ⟨0, Nat.zero_le _, e⟩
  · exact ⟨i, by have := List.mem_range.mp hi; omega, e⟩
theorem least_ht {r : Ring} (h : Pos r) {t : Int} (t0 : 0 ≤ t) {m : Int} (h0 : 0 ≤ m) (h1 : m ≤ sizeR r) : leastF r t ≤ ht r t m := ht_ge h t0 (least_le r t) h0 h1
structure IsS (r : Ring) (t n p : Int) : Prop where
  lo : 0 ≤ p
  hi : p < sizeR r
  st : Start r t p
  ht : ht r t p = leastF r t + n
/-- starts rise with their height -/
theorem start_lt {r : Ring} (h : Pos r) (hne : r ≠ []) {t p q : Int} (p0 : 0 ≤ p) (hp : Start r t p) (hpq : p < q) (hq : q < sizeR r) : ht r t p < ht r t q := by
  have a := hp (q - p) (by omega) (by omega)
  rw [show p + (q - p) = q by omega, hx_ht h hne t p0 (by omega), hx_ht h hne t (by omega) (by omega)] at a
  exact a
theorem IsS.uniq {r : Ring} (h : Pos r) (hne : r ≠ []) {t n p q : Int} (a : IsS r t n p) (b : IsS r t n q) : p = q := by
  by_cases h1 : p < q
  · have := start_lt h hne a.lo a.st h1 b.hi
    have := a.ht
    have := b.ht
    omega
  · by_cases h2 : q < p
    · have := start_lt h hne b.lo b.st h2 a.hi
      have := a.ht
      have := b.ht
      omega
    · omega
theorem IsS.lt {r : Ring} (h : Pos r) (hne : r ≠ []) {t n m p q : Int} (a : IsS r t n p) (b : IsS r t m q) (hnm : n < m) : p < q := by
  have ha := a.ht
  have hb := b.ht
  by_cases h1 : q < p
  · have := start_lt h hne b.lo b.st h1 a.hi
    omega
  · by_cases h2 : p = q
    · subst h2
      omega
    · omega
theorem ht_zero {r : Ring} (h : Pos r) (t : Int) : ht r t 0 = 0 := by
  unfold ht
  rw [ahead_zero h, Int.mul_zero, Int.mul_zero]
  rfl
theorem ht_size {r : Ring} (h : Pos r) (hne : r ≠ []) (t : Int) : ht r t (sizeR r) = surplus r t := by
  have hs := size_pos h hne
  have a := hx_add h hne t 0
  rw [Int.zero_add, hx_ht h hne t (by omega) (Int.le_refl _), hx_ht h hne t (Int.le_refl 0) (by omega), ht_zero h] at a
  omega
/-- each start has its number -/
theorem start_num {r : Ring} (h : Pos r) (hne : r ≠ []) {t p : Int} (t0 : 0 ≤ t) (p0 : 0 ≤ p) (p1 : p < sizeR r) (hS : Start r t p) : ∃ n, 0 ≤ n ∧ n < surplus r t ∧ IsS r t n p := by
  have hs := size_pos h hne
  refine ⟨ht r t p - leastF r t, ?_, ?_, p0, p1, hS, by omega⟩
  · have := least_ht h t0 p0 (by omega)
    omega
  · obtain ⟨i, hi, e⟩ := least_is r t
    have hel := end_le h i
    have heg := size_nonneg (h.take i)
    have hh : ht r t (sizeR (r.take i)) = he r t i := ht_end h t i
    by_cases hpe : p < sizeR (r.take i)
    · have a := hS (sizeR (r.take i) - p) (by omega) (by omega)
      rw [show p + (sizeR (r.take i) - p) = sizeR (r.take i) by omega, hx_ht h hne t heg hel, hx_ht h hne t p0 (by omega)] at a
      have := least_ht h t0 p0 (by omega)
      omega
    · have a := hS (sizeR (r.take i) + sizeR r - p) (by omega) (by omega)
      rw [show p + (sizeR (r.take i) + sizeR r - p) = sizeR (r.take i) + sizeR r by omega, hx_add h hne, hx_ht h hne t heg hel, hx_ht h hne t p0 (by omega)] at a
      omega
theorem last_of (P : Nat → Prop) : ∀ N, (∃ m, m < N ∧ P m) → ∃ m, m < N ∧ P m ∧ ∀ k, m < k → k < N → ¬ P k
  | 0, ⟨m, hm, _⟩ => absurd hm (Nat.not_lt_zero _)
  | N + 1, ⟨m, hm, hP⟩ => by
    by_cases hN : P N
    · exact ⟨N, Nat.lt_succ_self _, hN, fun k h1 h2 => by omega⟩
    · have hmN : m < N := by
        apply Nat.lt_of_not_le
        intro z
        have : m = N := by omega
        exact hN (this ▸ hP)
      obtain ⟨k, k1, k2, k3⟩ := last_of P N ⟨m, hmN, hP⟩
      refine ⟨k, by omega, k2, fun j h1 h2 => ?_⟩
      by_cases hj : j = N
      · subst hj
        exact hN
      · exact k3 j h1 (by omega)
theorem ht_step {r : Ring} (h : Pos r) {t m : Int} (t0 : 0 ≤ t) (h0 : 0 ≤ m) (h1 : m < sizeR r) : ht r t (m + 1) = ht r t m + 1 ∨ ht r t (m + 1) ≤ ht r t m := by
  obtain ⟨i, x, hxx, g0, g1⟩ := stretch_of h (m := m + 1) (by omega) (by omega)
  cases hk : x.1 with
  | true =>
    have a := ht_rise h t hxx hk (m := m) (by omega) (by omega)
    have b := ht_rise h t hxx hk (m := m + 1) (by omega) (by omega)
    omega
  | false =>
    have a := ht_fall h t hxx hk (m := m) (by omega) (by omega)
    have b := ht_fall h t hxx hk (m := m + 1) (by omega) (by omega)
    have e3 : t * (sizeR (r.take (i + 1)) - m) = t * (sizeR (r.take (i + 1)) - (m + 1)) + t := by
      simp only [Int.mul_sub, Int.mul_add, Int.mul_one]
      omega
    omega
/-- the last place that is no higher than a height that the ring reaches: there a start lies -/
theorem start_last {r : Ring} (h : Pos r) (hne : r ≠ []) {t n p : Int} (t0 : 0 ≤ t) (n1 : n < surplus r t) (p0 : 0 ≤ p) (p1 : p < sizeR r) (hp : ht r t p ≤ leastF r t + n) (hl : ∀ q, p < q → q < sizeR r → leastF r t + n < ht r t q) : IsS r t n p := by
  have hs := size_pos h hne
  have hL0 : leastF r t ≤ 0 := by
    have a := least_ht h t0 (Int.le_refl 0) (by omega)
    rw [ht_zero h] at a
    exact a
  have hnext : ∀ q, p < q → q ≤ sizeR r → leastF r t + n < ht r t q := fun q q0 q1 => by
    by_cases e : q < sizeR r
    · exact hl q q0 e
    · have : q = sizeR r := by omega
      subst this
      rw [ht_size h hne]
      omega
  have hst := ht_step h t0 p0 p1
  have hn1 := hnext (p + 1) (by omega) (by omega)
  refine ⟨p0, p1, fun c c0 c1 => ?_, by omega⟩
  rw [hx_ht h hne t p0 (by omega)]
  by_cases hm : p + c ≤ sizeR r
  · rw [hx_ht h hne t (by omega) hm]
    have := hnext (p + c) (by omega) hm
    omega
  · rw [show p + c = (p + c - sizeR r) + sizeR r by omega, hx_add h hne, hx_ht h hne t (by omega) (by omega)]
    have := least_ht h t0 (m := p + c - sizeR r) (by omega) (by omega)
    omega
theorem start_ex {r : Ring} (h : Pos r) (hne : r ≠ []) {t n : Int} (t0 : 0 ≤ t) (n0 : 0 ≤ n) (n1 : n < surplus r t) : ∃ p, IsS r t n p := by
  have hs := size_pos h hne
  obtain ⟨i, hi, e⟩ := least_is r t
  have hel := end_le h i
  have heg := size_nonneg (h.take i)
  have hh : ht r t (sizeR (r.take i)) = he r t i := ht_end h t i
  have hL0 : leastF r t ≤ 0 := by
    have a := least_ht h t0 (Int.le_refl 0) (by omega)
    rw [ht_zero h] at a
    exact a
  have hlt : sizeR (r.take i) < sizeR r := by
    apply Int.lt_of_not_ge
    intro z
    have z' : sizeR (r.take i) = sizeR r := by omega
    rw [z', ht_size h hne] at hh
    omega
  obtain ⟨m, m1, m2, m3⟩ := last_of (fun m => ht r t (m : Int) ≤ leastF r t + n) (sizeR r).toNat ⟨(sizeR (r.take i)).toNat, by omega, by
    show ht r t (((sizeR (r.take i)).toNat : Nat) : Int) ≤ _
    rw [show (((sizeR (r.take i)).toNat : Nat) : Int) = sizeR (r.take i) by omega]
    omega⟩
  refine ⟨m, start_last h hne t0 n1 (by omega) (by omega) m2 fun q q0 q1 => ?_⟩
  have := m3 q.toNat (by omega) (by omega)
  rw [show ((q.toNat : Nat) : Int) = q by omega] at this
  omega
/-- the start of a number -/
noncomputable def startF (r : Ring) (t n : Int) : Int := open Classical in if hz : ∃ p, IsS r t n p then Classical.choose hz else 0
theorem startF_is {r : Ring} (h : Pos r) (hne : r ≠ []) {t n : Int} (t0 : 0 ≤ t) (n0 : 0 ≤ n) (n1 : n < surplus r t) : IsS r t n (startF r t n) := by
  have hz := start_ex h hne t0 n0 n1
  unfold startF
  rw [dif_pos hz]
  exact Classical.choose_spec hz
theorem startF_eq {r : Ring} (h : Pos r) (hne : r ≠ []) {t n p : Int} (hp : IsS r t n p) : startF r t n = p := by
  have hz : ∃ p, IsS r t n p := ⟨p, hp⟩
  unfold startF
  rw [dif_pos hz]
  exact (Classical.choose_spec hz).uniq h hne hp
/-- two rising lists of the same members -/
theorem rising_eq : ∀ {l m : List Int}, l.Pairwise (· < ·) → m.Pairwise (· < ·) → (∀ x, x ∈ l ↔ x ∈ m) → l = m
  | [], [], _, _, _ => rfl
  | [], y :: m, _, _, h => by
    have := (h y).mpr List.mem_cons_self
    simp at this
  | x :: l, [], _, _, h => by
    have := (h x).mp List.mem_cons_self
    simp at this
  | x :: l, y :: m, hl, hm, h => by
    obtain ⟨l1, l2⟩ := List.pairwise_cons.mp hl
    obtain ⟨m1, m2⟩ := List.pairwise_cons.mp hm
    have exy : x = y := by
      have a := (h x).mp List.mem_cons_self
      have b := (h y).mpr List.mem_cons_self
      rcases List.mem_cons.mp a with e | a
      · exact e
      · rcases List.mem_cons.mp b with e | b
        · exact e.symm
        · have := m1 x a
          have := l1 y b
          omega
    subst exy
    have hlm : l = m := rising_eq l2 m2 fun z => by
      constructor
      · intro hz
        rcases List.mem_cons.mp ((h z).mp (List.mem_cons_of_mem _ hz)) with e | e
        · subst e
          have := l1 z hz
          omega
        · exact e
      · intro hz
        rcases List.mem_cons.mp ((h z).mpr (List.mem_cons_of_mem _ hz)) with e | e
        · subst e
          have := m1 z hz
          omega
        · exact e
    rw [hlm]
/-- the starts below a place -/
def stBelow (r : Ring) (t : Int) (n : Nat) : List Int := ((List.range n).filter fun (j : Nat) => isStL r t (j : Int)).map fun (j : Nat) => (j : Int)
theorem below_succ (r : Ring) (t : Int) (n : Nat) : stBelow r t (n + 1) = stBelow r t n ++ (if isStL r t (n : Int) = true then [(n : Int)] else []) := by
  unfold stBelow
  rw [List.range_succ, List.filter_append, List.map_append]
  congr 1
  rw [List.filter_cons]
  split
  · rfl
  · rfl
theorem below_mem {r : Ring} {t : Int} {n : Nat} {p : Int} : p ∈ stBelow r t n ↔ 0 ≤ p ∧ p < n ∧ isStL r t p = true := by
  unfold stBelow
  rw [List.mem_map]
  constructor
  · rintro ⟨j, hj, rfl⟩
    rw [List.mem_filter, List.mem_range] at hj
    exact ⟨by omega, by omega, hj.2⟩
  · rintro ⟨h0, h1, h2⟩
    refine ⟨p.toNat, ?_, by omega⟩
    rw [List.mem_filter, List.mem_range]
    refine ⟨by omega, ?_⟩
    rw [show ((p.toNat : Nat) : Int) = p by omega]
    exact h2
theorem below_rising (r : Ring) (t : Int) (n : Nat) : (stBelow r t n).Pairwise (· < ·) := by
  induction n with
  | zero => exact (List.Pairwise.nil : List.Pairwise (· < ·) ([] : List Int))
  | succ n ih =>
    rw [below_succ]
    refine List.pairwise_append.mpr ⟨ih, ?_, fun x hx y hy => ?_⟩
    · split
      · exact List.pairwise_singleton _ _
      · exact List.Pairwise.nil
    · have := (below_mem.mp hx).2.1
      split at hy
      · rw [List.mem_singleton] at hy
        omega
      · simp at hy
/-- all starts, by their numbers -/
theorem starts_list {r : Ring} (h : Pos r) (hne : r ≠ []) {t : Int} (t1 : 1 ≤ t) {N : Nat} (hN : (N : Int) = if 0 < surplus r t then surplus r t else 0) : stBelow r t (sizeR r).toNat = (List.range N).map fun (i : Nat) => startF r t (i : Int) := by
  have hs := size_pos h hne
  have hsur : ∀ i : Nat, i < N → (i : Int) < surplus r t := fun i hi => by
    split at hN <;> omega
  refine rising_eq (below_rising r t _) ?_ fun p => ?_
  · have key : ∀ M, M ≤ N → ((List.range M).map fun (i : Nat) => startF r t (i : Int)).Pairwise (· < ·) := by
      intro M
      induction M with
      | zero => exact fun _ => List.Pairwise.nil
      | succ M ih =>
        intro hM
        rw [List.range_succ, List.map_append]
        refine List.pairwise_append.mpr ⟨ih (by omega), List.pairwise_singleton _ _, fun x hx y hy => ?_⟩
        obtain ⟨i, hi, rfl⟩ := List.mem_map.mp hx
        have hi' := List.mem_range.mp hi
        rw [List.map_cons, List.map_nil, List.mem_singleton] at hy
        subst hy
        exact (startF_is h hne (by omega) (by omega) (hsur i (by omega))).lt h hne (startF_is h hne (by omega) (by omega) (hsur M (by omega))) (by omega)
    exact key N (Nat.le_refl _)
  · rw [below_mem]
    constructor
    · rintro ⟨p0, p1, p2⟩
      have hS := (isStL_iff h hne t1 p0 (by omega)).mp p2
      obtain ⟨n, n0, n1, hn⟩ := start_num h hne (by omega) p0 (by omega) hS
      refine List.mem_map.mpr ⟨n.toNat, List.mem_range.mpr ?_, ?_⟩
      · split at hN <;> omega
      · show startF r t ((n.toNat : Nat) : Int) = p
        rw [show ((n.toNat : Nat) : Int) = n by omega]
        exact startF_eq h hne hn
    · intro hp
      obtain ⟨i, hi, rfl⟩ := List.mem_map.mp hp
      have hI := startF_is h hne (t := t) (by omega) (by omega) (hsur i (List.mem_range.mp hi))
      exact ⟨hI.lo, by have := hI.hi; omega, (isStL_iff h hne t1 hI.lo hI.hi).mpr hI.st⟩
/-- one bead more -/
theorem first_one {r : Ring} (h : Pos r) (hne : r ≠ []) (m : Int) : firstF r (m + 1) = firstF r m + (if kindR r (m % sizeR r) = true then 1 else 0) := by
  have hs := size_pos h hne
  have e := mod_eq m (sizeR r)
  have h0 := Int.emod_nonneg m (show sizeR r ≠ 0 by omega)
  have h1 := Int.emod_lt_of_pos m (show 0 < sizeR r by omega)
  generalize m % sizeR r = k at *
  generalize m / sizeR r = q at *
  have e1 : m + 1 = (k + 1) + sizeR r * q := by omega
  rw [e1, e, first_add h hne, first_add h hne, first_upto h hne (by omega) (by omega), first_upto h hne h0 (by omega)]
  obtain ⟨i, x, hx, g0, g1⟩ := stretch_of h (m := k + 1) (by omega) (by omega)
  have hk : kindR r k = x.1 := by
    have hs2 := size_take_succ hx
    have a := kind_at' h hx (d := k - sizeR (r.take i)) (by omega) (by omega)
    rw [show sizeR (r.take i) + (k - sizeR (r.take i)) = k by omega] at a
    exact a
  rw [ahead_in h hx (by omega) g1, ahead_in h hx (by omega) (by omega), hk]
  split <;> omega
/-- whether the kind a is ahead at each of the first n counts -/
def goodTo (r : Ring) (t p : Int) (n : Nat) : Bool := (List.range n).all fun i => decide (hx r t p < hx r t (p + ((i + 1 : Nat) : Int)))
theorem goodTo_succ (r : Ring) (t p : Int) (n : Nat) : goodTo r t p (n + 1) = (goodTo r t p n && decide (hx r t p < hx r t (p + ((n + 1 : Nat) : Int)))) := by
  unfold goodTo
  rw [List.range_succ, List.all_append]
  simp
theorem goodTo_all {r : Ring} (h : Pos r) (hne : r ≠ []) {t p : Int} (t1 : 1 ≤ t) (p0 : 0 ≤ p) (p1 : p < sizeR r) : goodTo r t p (sizeR r).toNat = isStL r t p := by
  have hs := size_pos h hne
  have e : goodTo r t p (sizeR r).toNat = true ↔ isStL r t p = true := by
    rw [isStL_iff h hne t1 p0 p1]
    unfold goodTo
    rw [List.all_eq_true]
    constructor
    · intro a c c0 c1
      have b := of_decide_eq_true (a (c.toNat - 1) (List.mem_range.mpr (by omega)))
      rw [show ((c.toNat - 1 + 1 : Nat) : Int) = c by omega] at b
      exact b
    · intro a i hi
      have := List.mem_range.mp hi
      exact decide_eq_true (a _ (by omega) (by omega))
  cases h1 : goodTo r t p (sizeR r).toNat <;> cases h2 : isStL r t p <;> simp_all
theorem hx_one {r : Ring} (h : Pos r) (hne : r ≠ []) (t m : Int) : hx r t (m + 1) = hx r t m + (if kindR r (m % sizeR r) = true then 1 else -t) := by
  unfold hx
  rw [first_one h hne]
  split
  · simp only [Int.add_mul, Int.mul_add, Int.one_mul, Int.mul_one]
    omega
  · rw [Int.add_zero]
    simp only [Int.mul_add, Int.mul_one]
    omega
/-- where a stretch begins, or so many beads end with one -/
def cornersL (r : Ring) (m : Int) : List Int := (List.range r.length).flatMap fun i => [sizeR (r.take i), (sizeR (r.take i) - m) % sizeR r]
theorem corner_mem {r : Ring} {m p : Int} : p ∈ cornersL r m ↔ ∃ i, i < r.length ∧ (p = sizeR (r.take i) ∨ p = (sizeR (r.take i) - m) % sizeR r) := by
  unfold cornersL
  rw [List.mem_flatMap]
  constructor
  · rintro ⟨i, hi, hp⟩
    simp only [List.mem_cons, List.not_mem_nil, or_false] at hp
    exact ⟨i, List.mem_range.mp hi, hp⟩
  · rintro ⟨i, hi, hp⟩
    refine ⟨i, List.mem_range.mpr hi, ?_⟩
    simp only [List.mem_cons, List.not_mem_nil, or_false]
    exact hp
theorem end_lt {r : Ring} (h : Pos r) {i : Nat} (hi : i < r.length) : sizeR (r.take i) < sizeR r := by
  have hx := List.getElem?_eq_getElem hi
  have h1 := size_take_succ hx
  have h2 := end_le h (i + 1)
  have h3 := h _ (mem_at hx)
  omega
theorem corner_in {r : Ring} (h : Pos r) (hne : r ≠ []) {m p : Int} (hp : p ∈ cornersL r m) : 0 ≤ p ∧ p < sizeR r := by
  have hs := size_pos h hne
  obtain ⟨i, hi, hp⟩ := corner_mem.mp hp
  rcases hp with rfl | rfl
  · exact ⟨size_nonneg (h.take i), end_lt h hi⟩
  · exact ⟨Int.emod_nonneg _ (by omega), Int.emod_lt_of_pos _ (by omega)⟩
theorem corner_zero {r : Ring} (hne : r ≠ []) (m : Int) : 0 ∈ cornersL r m := by
  refine corner_mem.mpr ⟨0, ?_, .inl rfl⟩
  cases r with
  | nil => exact absurd rfl hne
  | cons x r => simp
/-- the kind of a bead counted around from the first -/
def kindC (r : Ring) (p : Int) : Bool := kindR r (p % sizeR r)
/-- within a stretch the bead before is of the same kind -/
theorem kind_before {r : Ring} (h : Pos r) (hne : r ≠ []) {p : Int} (hno : ∀ i, i < r.length → p % sizeR r ≠ sizeR (r.take i)) : kindC r (p - 1) = kindC r p := by
  have hs := size_pos h hne
  have e := mod_eq p (sizeR r)
  have h0 := Int.emod_nonneg p (show sizeR r ≠ 0 by omega)
  have h1 := Int.emod_lt_of_pos p (show 0 < sizeR r by omega)
  have hz := hno 0 (by
    cases r with
    | nil => exact absurd rfl hne
    | cons x r => simp)
  have hz' : p % sizeR r ≠ 0 := hz
  unfold kindC
  have e2 : (p - 1) % sizeR r = p % sizeR r - 1 := by
    rw [show p - 1 = (p % sizeR r - 1) + sizeR r * (p / sizeR r) by omega, Int.add_mul_emod_self_left, Int.emod_eq_of_lt (by omega) (by omega)]
  rw [e2]
  generalize p % sizeR r = k at *
  obtain ⟨i, x, hx, g0, g1⟩ := stretch_of h (m := k + 1) (by omega) (by omega)
  have hi : i < r.length := (List.getElem?_eq_some_iff.mp hx).1
  have hs2 := size_take_succ hx
  have hne2 := hno i hi
  have a := kind_at' h hx (d := k - sizeR (r.take i)) (by omega) (by omega)
  have b := kind_at' h hx (d := k - 1 - sizeR (r.take i)) (by omega) (by omega)
  rw [show sizeR (r.take i) + (k - sizeR (r.take i)) = k by omega] at a
  rw [show sizeR (r.take i) + (k - 1 - sizeR (r.take i)) = k - 1 by omega] at b
  rw [a, b]
def b2n (b : Bool) : Int := if b = true then 1 else 0
theorem among_step {r : Ring} (h : Pos r) (hne : r ≠ []) (p m : Int) : amongF r (p + 1) m = amongF r p m + b2n (kindC r (p + m)) - b2n (kindC r p) := by
  have a := first_one h hne (p + m)
  have b := first_one h hne p
  unfold amongF b2n kindC
  rw [show p + 1 + m = p + m + 1 by omega, a, b]
  omega
theorem b2n_le (b : Bool) : 0 ≤ b2n b ∧ b2n b ≤ 1 := by
  cases b <;> decide
theorem among_le {r : Ring} (h : Pos r) (hne : r ≠ []) (p m : Int) : amongF r (p + 1) m ≤ amongF r p m + 1 ∧ amongF r p m - 1 ≤ amongF r (p + 1) m := by
  have a := among_step h hne p m
  have b := b2n_le (kindC r (p + m))
  have c := b2n_le (kindC r p)
  omega
theorem among_wrap {r : Ring} (h : Pos r) (hne : r ≠ []) (p m : Int) : amongF r (p + sizeR r) m = amongF r p m := by
  have a := first_add h hne (p + m) 1
  have b := first_add h hne p 1
  rw [Int.mul_one] at a b
  unfold amongF
  rw [show p + sizeR r + m = p + m + sizeR r by omega, a, b]
  omega
/-- what is the least (by f) over all places is so at a corner -/
theorem corner_best {r : Ring} (h : Pos r) (hne : r ≠ []) (m : Int) (s : Int) (hs : s = 1 ∨ s = -1) {B : Int} (hB : ∀ q, 0 ≤ q → q < sizeR r → B ≤ s * amongF r q m) :
    ∀ (n : Nat), (n : Int) < sizeR r → s * amongF r (n : Int) m = B → ∃ c ∈ cornersL r m, s * amongF r c m = B
  | 0, _, e => ⟨0, corner_zero hne m, e⟩
  | n + 1, hn, e => by
    have hsz := size_pos h hne
    by_cases hc : ((n + 1 : Nat) : Int) ∈ cornersL r m
    · exact ⟨_, hc, e⟩
    · have k1 : kindC r (((n + 1 : Nat) : Int) - 1) = kindC r ((n + 1 : Nat) : Int) := kind_before h hne fun i hi z => hc (corner_mem.mpr ⟨i, hi, .inl (by rw [← z, Int.emod_eq_of_lt (by omega) hn])⟩)
      have k2 : kindC r (((n + 1 : Nat) : Int) + m - 1) = kindC r (((n + 1 : Nat) : Int) + m) := kind_before h hne fun i hi z => hc (corner_mem.mpr ⟨i, hi, .inr (by
        rw [← z]
        have em := mod_eq (((n + 1 : Nat) : Int) + m) (sizeR r)
        rw [show (((n + 1 : Nat) : Int) + m) % sizeR r - m = ((n + 1 : Nat) : Int) + sizeR r * (-((((n + 1 : Nat) : Int) + m) / sizeR r)) by rw [Int.mul_neg]; omega, Int.add_mul_emod_self_left, Int.emod_eq_of_lt (by omega) hn])⟩)
      have a1 := among_step h hne (n : Int) m
      have a2 := among_step h hne ((n + 1 : Nat) : Int) m
      rw [show ((n + 1 : Nat) : Int) - 1 = (n : Int) by omega] at k1
      rw [show ((n + 1 : Nat) : Int) + m - 1 = (n : Int) + m by omega] at k2
      rw [show (n : Int) + 1 = ((n + 1 : Nat) : Int) by omega, k1, k2] at a1
      have b1 := hB (n : Int) (by omega) (by omega)
      have b2 : B ≤ s * amongF r (((n + 1 : Nat) : Int) + 1) m := by
        by_cases hw : ((n + 1 : Nat) : Int) + 1 < sizeR r
        · exact hB _ (by omega) hw
        · have ew : ((n + 1 : Nat) : Int) + 1 = 0 + sizeR r := by omega
          rw [ew, among_wrap h hne]
          exact hB 0 (Int.le_refl 0) (by omega)
      refine corner_best h hne m s hs hB n (by omega) ?_
      rcases hs with rfl | rfl
      · rw [Int.one_mul] at *
        omega
      · rw [Int.neg_mul, Int.one_mul] at *
        omega
def minL (f : Int → Int) : List Int → Int → Int
  | [], m => m
  | x :: l, m => minL f l (if f x < m then f x else m)
theorem minL_le (f : Int → Int) : ∀ (l : List Int) (m : Int), (minL f l m ≤ m ∧ ∀ x ∈ l, minL f l m ≤ f x) ∧ (minL f l m = m ∨ ∃ x ∈ l, minL f l m = f x)
  | [], m => ⟨⟨Int.le_refl _, fun x h => by simp at h⟩, .inl rfl⟩
  | a :: l, m => by
    obtain ⟨⟨h1, h2⟩, h3⟩ := minL_le f l (if f a < m then f a else m)
    show (minL f l _ ≤ m ∧ _) ∧ _
    generalize hz : minL f l (if f a < m then f a else m) = z at *
    refine ⟨⟨?_, fun x hx => ?_⟩, ?_⟩
    · split at h1 <;> omega
    · show minL f l _ ≤ f x
      rw [hz]
      rcases List.mem_cons.mp hx with e | e
      · subst e
        split at h1 <;> omega
      · exact h2 x e
    · show minL f l _ = m ∨ ∃ x ∈ a :: l, minL f l _ = f x
      rw [hz]
      rcases h3 with h3 | ⟨x, hx, h3⟩
      · split at h3
        · exact .inr ⟨a, List.mem_cons_self, h3⟩
        · exact .inl h3
      · exact .inr ⟨x, List.mem_cons_of_mem _ hx, h3⟩
def leastW (r : Ring) (m : Int) : Int := minL (fun p => amongF r p m) (cornersL r m) (amongF r 0 m)
def mostW (r : Ring) (m : Int) : Int := -minL (fun p => -amongF r p m) (cornersL r m) (-amongF r 0 m)
/-- over finitely many places something is least -/
theorem least_ex (f : Int → Int) : ∀ N : Nat, 0 < N → ∃ n : Nat, n < N ∧ ∀ k : Nat, k < N → f n ≤ f k
  | 0, h => absurd h (Nat.lt_irrefl 0)
  | 1, _ => ⟨0, by decide, fun k hk => by
    have : k = 0 := by omega
    subst this
    exact Int.le_refl _⟩
  | N + 2, _ => by
    obtain ⟨n, n1, n2⟩ := least_ex f (N + 1) (by omega)
    by_cases hc : f (N + 1 : Nat) < f n
    · refine ⟨N + 1, by omega, fun k hk => ?_⟩
      by_cases hk2 : k < N + 1
      · have := n2 k hk2
        omega
      · have : k = N + 1 := by omega
        subst this
        exact Int.le_refl _
    · refine ⟨n, by omega, fun k hk => ?_⟩
      by_cases hk2 : k < N + 1
      · exact n2 k hk2
      · have : k = N + 1 := by omega
        subst this
        omega
theorem least_all {r : Ring} (h : Pos r) (hne : r ≠ []) (m : Int) {p : Int} (p0 : 0 ≤ p) (p1 : p < sizeR r) : leastW r m ≤ amongF r p m := by
  have hs := size_pos h hne
  obtain ⟨n, n1, n2⟩ := least_ex (fun q => amongF r q m) (sizeR r).toNat (by omega)
  obtain ⟨c, hc, ec⟩ := corner_best h hne m 1 (.inl rfl) (B := amongF r (n : Int) m) (fun q q0 q1 => by
    have := n2 q.toNat (by omega)
    rw [show ((q.toNat : Nat) : Int) = q by omega] at this
    rw [Int.one_mul]
    exact this) n (by omega) (Int.one_mul _)
  have a := (minL_le (fun p => amongF r p m) (cornersL r m) (amongF r 0 m)).1.2 c hc
  have b := n2 p.toNat (by omega)
  rw [show ((p.toNat : Nat) : Int) = p by omega] at b
  rw [Int.one_mul] at ec
  unfold leastW
  have a' : minL (fun p => amongF r p m) (cornersL r m) (amongF r 0 m) ≤ amongF r c m := a
  have b' : amongF r (n : Int) m ≤ amongF r p m := b
  omega
theorem most_all {r : Ring} (h : Pos r) (hne : r ≠ []) (m : Int) {p : Int} (p0 : 0 ≤ p) (p1 : p < sizeR r) : amongF r p m ≤ mostW r m := by
  have hs := size_pos h hne
  obtain ⟨n, n1, n2⟩ := least_ex (fun q => -amongF r q m) (sizeR r).toNat (by omega)
  obtain ⟨c, hc, ec⟩ := corner_best h hne m (-1) (.inr rfl) (B := -amongF r (n : Int) m) (fun q q0 q1 => by
    have := n2 q.toNat (by omega)
    rw [show ((q.toNat : Nat) : Int) = q by omega] at this
    rw [Int.neg_mul, Int.one_mul]
    exact this) n (by omega) (by rw [Int.neg_mul, Int.one_mul])
  have a := (minL_le (fun p => -amongF r p m) (cornersL r m) (-amongF r 0 m)).1.2 c hc
  have b := n2 p.toNat (by omega)
  rw [show ((p.toNat : Nat) : Int) = p by omega] at b
  rw [Int.neg_mul, Int.one_mul] at ec
  unfold mostW
  have a' : minL (fun p => -amongF r p m) (cornersL r m) (-amongF r 0 m) ≤ -amongF r c m := a
  have b' : -amongF r (n : Int) m ≤ -amongF r p m := b
  omega
theorem least_corner {r : Ring} (hne : r ≠ []) (m : Int) : ∃ c ∈ cornersL r m, amongF r c m = leastW r m := by
  rcases (minL_le (fun p => amongF r p m) (cornersL r m) (amongF r 0 m)).2 with e | ⟨c, hc, e⟩
  · exact ⟨0, corner_zero hne m, e.symm⟩
  · exact ⟨c, hc, e.symm⟩
theorem most_corner {r : Ring} (hne : r ≠ []) (m : Int) : ∃ c ∈ cornersL r m, amongF r c m = mostW r m := by
  rcases (minL_le (fun p => -amongF r p m) (cornersL r m) (-amongF r 0 m)).2 with e | ⟨c, hc, e⟩
  · refine ⟨0, corner_zero hne m, ?_⟩
    unfold mostW
    omega
  · refine ⟨c, hc, ?_⟩
    unfold mostW
    have e' : minL (fun p => -amongF r p m) (cornersL r m) (-amongF r 0 m) = -amongF r c m := e
    omega
/-- what lies between is found at some place -/
theorem between {r : Ring} (h : Pos r) (hne : r ≠ []) (m : Int) {a b : Int} (a0 : 0 ≤ a) (k : Nat) (hb : b = a + k) {z : Int} (h1 : (amongF r a m ≤ z ∧ z ≤ amongF r b m) ∨ (amongF r b m ≤ z ∧ z ≤ amongF r a m)) : ∃ q, a ≤ q ∧ q ≤ b ∧ amongF r q m = z := by
  induction k generalizing b with
  | zero =>
    have : b = a := by omega
    subst this
    exact ⟨b, Int.le_refl _, Int.le_refl _, by omega⟩
  | succ k ih =>
    have st := among_le h hne (b - 1) m
    rw [show b - 1 + 1 = b by omega] at st
    by_cases e : amongF r b m = z
    · exact ⟨b, by omega, Int.le_refl _, e⟩
    · obtain ⟨q, q0, q1, q2⟩ := ih (b := b - 1) (by omega) (by omega)
      exact ⟨q, q0, by omega, q2⟩
theorem found_ex {r : Ring} (h : Pos r) (hne : r ≠ []) (m : Int) {z : Int} (h0 : leastW r m ≤ z) (h1 : z ≤ mostW r m) : ∃ p, 0 ≤ p ∧ p < sizeR r ∧ amongF r p m = z := by
  obtain ⟨c, hc, ec⟩ := least_corner hne m
  obtain ⟨d, hd, ed⟩ := most_corner hne m
  obtain ⟨c0, c1⟩ := corner_in h hne hc
  obtain ⟨d0, d1⟩ := corner_in h hne hd
  by_cases hcd : c ≤ d
  · obtain ⟨q, q0, q1, q2⟩ := between h hne m (a := c) (b := d) c0 (d - c).toNat (by omega) (z := z) (.inl (by omega))
    exact ⟨q, by omega, by omega, q2⟩
  · obtain ⟨q, q0, q1, q2⟩ := between h hne m (a := d) (b := c) d0 (c - d).toNat (by omega) (z := z) (.inr (by omega))
    exact ⟨q, by omega, by omega, q2⟩
theorem least_most {r : Ring} (h : Pos r) (hne : r ≠ []) (m : Int) : leastW r m ≤ mostW r m := by
  have hs := size_pos h hne
  have a := least_all h hne m (Int.le_refl 0) (by omega)
  have b := most_all h hne m (Int.le_refl 0) (by omega)
  omega
theorem row2_at {r : Ring} (h : Pos r) (hne : r ≠ []) {q : Nat} (hq : (q : Int) < 2 * sizeR r) : (rowL r ++ rowL r)[q]? = some (kindC r (q : Int)) := by
  have hl := rowL_len h
  have hs := size_pos h hne
  unfold kindC
  by_cases hw : q < (rowL r).length
  · rw [List.getElem?_append_left hw, rowL_kind h hw, Int.emod_eq_of_lt (by omega) (by omega)]
  · rw [List.getElem?_append_right (by omega), rowL_kind h (by omega)]
    rw [show (q : Int) = ((q - (rowL r).length : Nat) : Int) + sizeR r * 1 by omega, Int.add_mul_emod_self_left, Int.emod_eq_of_lt (by omega) (by omega)]
theorem win_count {r : Ring} (h : Pos r) (hne : r ≠ []) {p : Nat} (hp : (p : Int) < sizeR r) : ∀ m : Nat, (m : Int) ≤ sizeR r → (((((rowL r ++ rowL r).drop p).take m).countP fun b => b : Nat) : Int) = amongF r (p : Int) (m : Int)
  | 0, _ => by
    unfold amongF
    rw [List.take_zero, List.countP_nil, show (p : Int) + ((0 : Nat) : Int) = (p : Int) by omega]
    omega
  | m + 1, hm => by
    have ih := win_count h hne hp m (by omega)
    have e := row2_at h hne (q := p + m) (by omega)
    have st : amongF r (p : Int) ((m + 1 : Nat) : Int) = amongF r (p : Int) (m : Int) + b2n (kindC r ((p : Int) + (m : Int))) := by
      unfold amongF b2n kindC
      have := first_one h hne ((p : Int) + (m : Int))
      rw [show (p : Int) + ((m + 1 : Nat) : Int) = (p : Int) + (m : Int) + 1 by omega, this]
      omega
    rw [List.take_add_one, List.getElem?_drop, e, List.countP_append, st, ← ih]
    rw [show ((p + m : Nat) : Int) = (p : Int) + (m : Int) by omega]
    cases kindC r ((p : Int) + (m : Int)) <;> simp [b2n]
/-- the counts of all windows -/
def winL (r : Ring) (m : Int) : List Int := (List.range (sizeR r).toNat).map fun (i : Nat) => amongF r (i : Int) m
theorem win_mem {r : Ring} (h : Pos r) (hne : r ≠ []) {m z : Int} : z ∈ winL r m ↔ leastW r m ≤ z ∧ z ≤ mostW r m := by
  have hs := size_pos h hne
  unfold winL
  rw [List.mem_map]
  constructor
  · rintro ⟨i, hi, rfl⟩
    have hi := List.mem_range.mp hi
    exact ⟨least_all h hne m (by omega) (by omega), most_all h hne m (by omega) (by omega)⟩
  · rintro ⟨h0, h1⟩
    obtain ⟨p, p0, p1, e⟩ := found_ex h hne m h0 h1
    exact ⟨p.toNat, List.mem_range.mpr (by omega), by rw [show ((p.toNat : Nat) : Int) = p by omega]; exact e⟩
theorem win_least {r : Ring} (h : Pos r) (hne : r ≠ []) (m : Int) : leastW r m ∈ winL r m ∧ ∀ y ∈ winL r m, leastW r m ≤ y := ⟨(win_mem h hne).mpr ⟨Int.le_refl _, least_most h hne m⟩, fun y hy => ((win_mem h hne).mp hy).1⟩
theorem win_most {r : Ring} (h : Pos r) (hne : r ≠ []) (m : Int) : mostW r m ∈ winL r m ∧ ∀ y ∈ winL r m, y ≤ mostW r m := ⟨(win_mem h hne).mpr ⟨least_most h hne m, Int.le_refl _⟩, fun y hy => ((win_mem h hne).mp hy).2⟩
/-- where each stretch begins, and its height -/
def begsTo (r : Ring) (t : Int) (n : Nat) : List (Int × Int) := (List.range n).map fun i => (sizeR (r.take i), he r t i)
theorem begs_len (r : Ring) (t : Int) (n : Nat) : (begsTo r t n).length = n := by
  unfold begsTo
  rw [List.length_map, List.length_range]
theorem begs_succ (r : Ring) (t : Int) (n : Nat) : begsTo r t (n + 1) = begsTo r t n ++ [(sizeR (r.take n), he r t n)] := by
  unfold begsTo
  rw [List.range_succ, List.map_append]
  rfl
theorem begs_get {r : Ring} {t : Int} {n i : Nat} {x : Int × Int} (h : (begsTo r t n)[i]? = some x) : i < n ∧ x = (sizeR (r.take i), he r t i) := by
  have hi := (List.getElem?_eq_some_iff.mp h).1
  rw [begs_len] at hi
  unfold begsTo at h
  rw [List.getElem?_map, List.getElem?_range hi] at h
  exact ⟨hi, (Option.some.inj h).symm⟩
theorem begs_at (r : Ring) (t : Int) {n i : Nat} (hi : i < n) : (begsTo r t n)[i]? = some (sizeR (r.take i), he r t i) := by
  unfold begsTo
  rw [List.getElem?_map, List.getElem?_range hi]
  rfl
theorem he_succ {r : Ring} (t : Int) {i : Nat} {x : Bool × Int} (h : r[i]? = some x) : he r t (i + 1) = he r t i + (if x.1 = true then x.2 else -t * x.2) := by
  have h1 := size_take_succ h
  have h2 := cnt_take_succ h
  unfold he
  rw [h1, h2]
  cases x.1 with
  | true =>
    rw [if_pos rfl, if_pos rfl]
    simp only [Int.add_mul, Int.mul_add, Int.one_mul]
    omega
  | false =>
    rw [if_neg (by decide), if_neg (by decide)]
    simp only [Int.mul_add, Int.add_zero, Int.neg_mul]
    omega
theorem he_zero (r : Ring) (t : Int) : he r t 0 = 0 := by
  unfold he
  rw [List.take_zero]
  show (t + 1) * 0 - t * 0 = 0
  rw [Int.mul_zero, Int.mul_zero]
  rfl
theorem he_all (r : Ring) (t : Int) : he r t r.length = surplus r t := by
  unfold he surplus
  rw [List.take_length, Int.add_mul, Int.one_mul, Int.mul_sub]
  omega
def lowF (S : Int) : List (Int × Int) → Int
  | [] => S
  | x :: bs => mn (lowF S bs) x.2
def runsF (S : Int) : List (Int × Int) → List (Int × Int)
  | [] => []
  | x :: bs => if x.2 < lowF S bs then (x.1, lowF S bs - x.2) :: runsF S bs else runsF S bs
def walkR : List (Int × Int) → Int → Option Int
  | [], _ => none
  | x :: xs, k => if k < x.2 then some (x.1 + k) else walkR xs (k - x.2)
theorem mn_le (l n : Int) : mn l n ≤ l ∧ mn l n ≤ n ∧ (mn l n = l ∨ mn l n = n) := by
  unfold mn
  split <;> omega
theorem low_le (S : Int) : ∀ (bs : List (Int × Int)), lowF S bs ≤ S ∧ (∀ x ∈ bs, lowF S bs ≤ x.2) ∧ (lowF S bs = S ∨ ∃ x ∈ bs, lowF S bs = x.2)
  | [] => ⟨Int.le_refl _, fun x h => by simp at h, .inl rfl⟩
  | x :: bs => by
    obtain ⟨h1, h2, h3⟩ := low_le S bs
    obtain ⟨m1, m2, m3⟩ := mn_le (lowF S bs) x.2
    refine ⟨Int.le_trans m1 h1, fun y hy => ?_, ?_⟩
    · show mn (lowF S bs) x.2 ≤ y.2
      rcases List.mem_cons.mp hy with e | e
      · rw [e]
        exact m2
      · exact Int.le_trans m1 (h2 y e)
    · show mn (lowF S bs) x.2 = S ∨ ∃ y ∈ x :: bs, mn (lowF S bs) x.2 = y.2
      rcases m3 with m3 | m3
      · rw [m3]
        rcases h3 with h3 | ⟨y, hy, h3⟩
        · exact .inl h3
        · exact .inr ⟨y, List.mem_cons_of_mem _ hy, h3⟩
      · exact .inr ⟨x, List.mem_cons_self, m3⟩
theorem walk_ok (S : Int) : ∀ (bs : List (Int × Int)) {k : Int}, 0 ≤ k → k < S - lowF S bs → ∃ p i x, walkR (runsF S bs) k = some p ∧ bs[i]? = some x ∧ x.1 ≤ p ∧ x.2 + (p - x.1) = lowF S bs + k ∧ x.2 + (p - x.1) < lowF S (bs.drop (i + 1))
  | [], k, h0, h1 => by
    have h1' : k < S - S := h1
    omega
  | x :: bs, k, h0, h1 => by
    have h1' : k < S - mn (lowF S bs) x.2 := h1
    show ∃ (p : Int) (i : Nat) (y : Int × Int), walkR (if x.2 < lowF S bs then (x.1, lowF S bs - x.2) :: runsF S bs else runsF S bs) k = some p ∧ (x :: bs)[i]? = some y ∧ y.1 ≤ p ∧ y.2 + (p - y.1) = mn (lowF S bs) x.2 + k ∧ _
    by_cases hx : x.2 < lowF S bs
    · rw [if_pos hx]
      have em : mn (lowF S bs) x.2 = x.2 := by
        unfold mn
        rw [if_pos hx]
      rw [em] at h1' ⊢
      by_cases hk : k < lowF S bs - x.2
      · refine ⟨x.1 + k, 0, x, ?_, rfl, by omega, by omega, ?_⟩
        · show (if k < lowF S bs - x.2 then some (x.1 + k) else _) = _
          rw [if_pos hk]
        · show x.2 + (x.1 + k - x.1) < lowF S bs
          omega
      · obtain ⟨p, i, y, e1, e2, e3, e4, e5⟩ := walk_ok S bs (k := k - (lowF S bs - x.2)) (by omega) (by omega)
        refine ⟨p, i + 1, y, ?_, e2, e3, by omega, e5⟩
        show (if k < lowF S bs - x.2 then some (x.1 + k) else walkR (runsF S bs) (k - (lowF S bs - x.2))) = _
        rw [if_neg hk]
        exact e1
    · rw [if_neg hx]
      have em : mn (lowF S bs) x.2 = lowF S bs := by
        unfold mn
        rw [if_neg hx]
      rw [em] at h1' ⊢
      obtain ⟨p, i, y, e1, e2, e3, e4, e5⟩ := walk_ok S bs (k := k) h0 (by omega)
      exact ⟨p, i + 1, y, e1, e2, e3, e4, e5⟩
theorem runs_mem (S : Int) : ∀ (bs : List (Int × Int)) {y : Int × Int}, y ∈ runsF S bs ↔ ∃ i x, bs[i]? = some x ∧ x.2 < lowF S (bs.drop (i + 1)) ∧ y = (x.1, lowF S (bs.drop (i + 1)) - x.2)
  | [], y => by
    constructor
    · intro h
      cases h
    · rintro ⟨i, x, h, _⟩
      simp at h
  | x :: bs, y => by
    have ih := runs_mem S bs (y := y)
    show y ∈ (if x.2 < lowF S bs then (x.1, lowF S bs - x.2) :: runsF S bs else runsF S bs) ↔ _
    constructor
    · intro h
      have h2 : y ∈ runsF S bs ∨ (x.2 < lowF S bs ∧ y = (x.1, lowF S bs - x.2)) := by
        split at h
        · rename_i hx
          rcases List.mem_cons.mp h with e | e
          · exact .inr ⟨hx, e⟩
          · exact .inl e
        · exact .inl h
      rcases h2 with h2 | ⟨h2, h3⟩
      · obtain ⟨i, z, e1, e2, e3⟩ := ih.mp h2
        exact ⟨i + 1, z, e1, e2, e3⟩
      · exact ⟨0, x, rfl, h2, h3⟩
    · rintro ⟨i, z, e1, e2, e3⟩
      cases i with
      | zero =>
        obtain rfl : x = z := Option.some.inj e1
        rw [if_pos (show x.2 < lowF S bs from e2)]
        rw [e3]
        exact List.mem_cons_self
      | succ i =>
        have hm := ih.mpr ⟨i, z, e1, e2, e3⟩
        split
        · exact List.mem_cons_of_mem _ hm
        · exact hm
theorem walk_get : ∀ (xs : List (Int × Int)) {k p : Int}, walkR xs k = some p → ∃ x ys, xs = x :: ys
  | [], k, p, h => by cases h
  | x :: xs, k, p, _ => ⟨x, xs, rfl⟩
/-- the least height where a stretch begins -/
structure LeastB (r : Ring) (t B : Int) : Prop where
  le : ∀ i, i < r.length → B ≤ he r t i
  ex : ∃ i, i < r.length ∧ B = he r t i
theorem LeastB.zero {r : Ring} {t B : Int} (hne : r ≠ []) (h : LeastB r t B) : B ≤ 0 := by
  have := h.le 0 (by
    cases r with
    | nil => exact absurd rfl hne
    | cons x r => simp)
  rw [he_zero] at this
  exact this
theorem LeastB.least {r : Ring} {t B : Int} (hne : r ≠ []) (h : LeastB r t B) (hs : 0 ≤ surplus r t) : leastF r t = B := by
  have h0 := h.zero hne
  obtain ⟨i, hi, ei⟩ := h.ex
  obtain ⟨j, hj, ej⟩ := least_is r t
  have a := least_le r t i (by omega)
  by_cases e : j < r.length
  · have := h.le j e
    omega
  · have : j = r.length := by omega
    subst this
    rw [he_all] at ej
    omega
theorem low_begs {r : Ring} {t B : Int} (hne : r ≠ []) (h : LeastB r t B) (hs : 0 ≤ surplus r t) : lowF (surplus r t + B) (begsTo r t r.length) = B := by
  obtain ⟨l1, l2, l3⟩ := low_le (surplus r t + B) (begsTo r t r.length)
  obtain ⟨i, hi, ei⟩ := h.ex
  have a := l2 _ (List.mem_of_getElem? (begs_at r t hi))
  have a' : lowF (surplus r t + B) (begsTo r t r.length) ≤ he r t i := a
  rcases l3 with l3 | ⟨x, hx, l3⟩
  · omega
  · obtain ⟨j, hj⟩ := List.getElem?_of_mem hx
    obtain ⟨j1, rfl⟩ := begs_get hj
    have l3' : lowF (surplus r t + B) (begsTo r t r.length) = he r t j := l3
    have := h.le j j1
    omega
/-- behind a stretch no height is below the lowest that is told -/
theorem low_after {r : Ring} {t B : Int} (hne : r ≠ []) (h : LeastB r t B) {i j : Nat} (hij : i ≤ j) (hj : j ≤ r.length) : lowF (surplus r t + B) ((begsTo r t r.length).drop i) ≤ he r t j := by
  obtain ⟨l1, l2, _⟩ := low_le (surplus r t + B) ((begsTo r t r.length).drop i)
  by_cases e : j < r.length
  · refine l2 (sizeR (r.take j), he r t j) (List.mem_of_getElem? (i := j - i) ?_)
    rw [List.getElem?_drop, show i + (j - i) = j by omega]
    exact begs_at r t e
  · have : j = r.length := by omega
    subst this
    have := h.zero hne
    rw [he_all]
    omega
theorem run_is {r : Ring} (hp : Pos r) (hne : r ≠ []) {t B : Int} (t0 : 0 ≤ t) (h : LeastB r t B) {i : Nat} {p : Int} (hi : i < r.length) (p0 : sizeR (r.take i) ≤ p) (hl : he r t i + (p - sizeR (r.take i)) < lowF (surplus r t + B) ((begsTo r t r.length).drop (i + 1))) : IsS r t (he r t i + (p - sizeR (r.take i)) - leastF r t) p := by
  have hx := List.getElem?_eq_getElem hi
  generalize r[i] = x at hx
  have hsx := size_take_succ hx
  have hx1 := hp x (mem_at hx)
  have a1 := low_after hne h (i := i + 1) (j := i + 1) (Nat.le_refl _) (by omega)
  have e1 := he_succ t hx
  have hel := end_le hp (i + 1)
  have heg := size_nonneg (hp.take i)
  have lS := (low_le (surplus r t + B) ((begsTo r t r.length).drop (i + 1))).1
  have hB := h.le i hi
  have hs : 0 ≤ surplus r t := by omega
  have hL := h.least hne hs
  have hk : x.1 = true := by
    cases e : x.1 with
    | true => rfl
    | false =>
      rw [e, if_neg (by decide)] at e1
      have : 0 ≤ t * x.2 := Int.mul_nonneg t0 (by omega)
      rw [Int.neg_mul] at e1
      omega
  rw [hk, if_pos rfl] at e1
  have rise := fun {m : Int} (h0 : sizeR (r.take i) ≤ m) (h1 : m ≤ sizeR (r.take (i + 1))) => ht_rise hp t hx hk h0 h1
  have hpp := rise p0 (by omega)
  refine start_last hp hne t0 (by omega) (by omega) (by omega) (by omega) fun q q0 q1 => ?_
  by_cases hq : q ≤ sizeR (r.take (i + 1))
  · have := rise (m := q) (by omega) hq
    omega
  · obtain ⟨j, y, hy, g0, g1⟩ := stretch_of hp (m := q) (by omega) (by omega)
    have hj : j < r.length := (List.getElem?_eq_some_iff.mp hy).1
    have hij : i + 1 ≤ j := by
      apply Nat.le_of_not_lt
      intro z
      have z1 := size_take_drop (r.take (i + 1)) (j + 1)
      rw [List.take_take, Nat.min_eq_left (by omega)] at z1
      have z2 := size_nonneg ((hp.take (i + 1)).drop (j + 1))
      omega
    have b1 := low_after hne h hij (by omega)
    have b2 := low_after hne h (i := i + 1) (j := j + 1) (by omega) (by omega)
    cases hk2 : y.1 with
    | true =>
      have := ht_rise hp t hy hk2 (m := q) (by omega) g1
      omega
    | false =>
      have := ht_fall hp t hy hk2 (m := q) (by omega) g1
      have : 0 ≤ t * (sizeR (r.take (j + 1)) - q) := Int.mul_nonneg t0 (by omega)
      omega
/-- the runs that the program tells -/
def runsR (r : Ring) (t B : Int) : List (Int × Int) := runsF (surplus r t + B) (begsTo r t r.length)
theorem runs_walk {r : Ring} (hp : Pos r) (hne : r ≠ []) {t B n : Int} (t0 : 0 ≤ t) (h : LeastB r t B) (n0 : 0 ≤ n) (n1 : n < surplus r t) : walkR (runsR r t B) n = some (startF r t n) := by
  have hs : 0 ≤ surplus r t := by omega
  have hL := h.least hne hs
  have hB := low_begs hne h hs
  obtain ⟨p, i, x, e1, e2, e3, e4, e5⟩ := walk_ok (surplus r t + B) (begsTo r t r.length) (k := n) n0 (by omega)
  obtain ⟨hi, rfl⟩ := begs_get e2
  have a := run_is hp hne t0 h hi e3 e5
  have e4' : he r t i + (p - sizeR (r.take i)) = lowF (surplus r t + B) (begsTo r t r.length) + n := e4
  rw [show he r t i + (p - sizeR (r.take i)) - leastF r t = n by omega] at a
  rw [startF_eq hp hne a]
  exact e1
theorem runs_any {r : Ring} (hp : Pos r) (hne : r ≠ []) {t B p : Int} (t1 : 1 ≤ t) (h : LeastB r t B) (p0 : 0 ≤ p) (p1 : p < sizeR r) : ((runsR r t B).any fun x => decide (0 ≤ p - x.1) && decide (p - x.1 < x.2)) = isStL r t p := by
  rw [Bool.eq_iff_iff, List.any_eq_true, isStL_iff hp hne t1 p0 p1]
  constructor
  · rintro ⟨y, hy, hb⟩
    rw [Bool.and_eq_true] at hb
    have b0 := of_decide_eq_true hb.1
    have b1 := of_decide_eq_true hb.2
    obtain ⟨i, x, e1, e2, rfl⟩ := (runs_mem _ _).mp hy
    obtain ⟨hi, rfl⟩ := begs_get e1
    have b0' : 0 ≤ p - sizeR (r.take i) := b0
    have b1' : p - sizeR (r.take i) < lowF (surplus r t + B) ((begsTo r t r.length).drop (i + 1)) - he r t i := b1
    exact (run_is hp hne (by omega) h hi (by omega) (by omega)).st
  · intro hS
    obtain ⟨n, n0, n1, hn⟩ := start_num hp hne (by omega) p0 p1 hS
    have hs : 0 ≤ surplus r t := by omega
    have hL := h.least hne hs
    have hB := low_begs hne h hs
    obtain ⟨q, i, x, e1, e2, e3, e4, e5⟩ := walk_ok (surplus r t + B) (begsTo r t r.length) (k := n) n0 (by omega)
    obtain ⟨hi, rfl⟩ := begs_get e2
    have a := run_is hp hne (by omega) h hi e3 e5
    have e4' : he r t i + (q - sizeR (r.take i)) = lowF (surplus r t + B) (begsTo r t r.length) + n := e4
    have e5' : he r t i + (q - sizeR (r.take i)) < lowF (surplus r t + B) ((begsTo r t r.length).drop (i + 1)) := e5
    have e3' : sizeR (r.take i) ≤ q := e3
    rw [show he r t i + (q - sizeR (r.take i)) - leastF r t = n by omega] at a
    have hpq := hn.uniq hp hne a
    subst hpq
    refine ⟨_, (runs_mem _ _).mpr ⟨i, _, e2, by show he r t i < _; omega, rfl⟩, ?_⟩
    rw [Bool.and_eq_true]
    exact ⟨decide_eq_true (by show 0 ≤ p - sizeR (r.take i); omega), decide_eq_true (by show p - sizeR (r.take i) < lowF (surplus r t + B) ((begsTo r t r.length).drop (i + 1)) - he r t i; omega)⟩
def befR : Ring → Int → Ring
  | [], _ => []
  | x :: r, l => (if 0 < mn l x.2 then [(x.1, mn l x.2)] else []) ++ befR r (l - mn l x.2)
def aftR : Ring → Int → Ring
  | [], _ => []
  | x :: r, l => (if mn l x.2 < x.2 then [(x.1, x.2 - mn l x.2)] else []) ++ aftR r (l - mn l x.2)
def turnR (r : Ring) (l : Int) : Ring := aftR r l ++ befR r l
theorem mn_of_ge {l n : Int} (h : n ≤ l) : mn l n = n := by
  unfold mn
  split <;> omega
theorem mn_of_le {l n : Int} (h : l ≤ n) : mn l n = l := by
  unfold mn
  split <;> omega
theorem bef_zero : ∀ {r : Ring}, Pos r → befR r 0 = []
  | [], _ => rfl
  | x :: r, h => by
    have h1 := h.head
    show (if 0 < mn 0 x.2 then [(x.1, mn 0 x.2)] else []) ++ befR r (0 - mn 0 x.2) = []
    rw [mn_of_le (show (0 : Int) ≤ x.2 by omega), if_neg (by omega), show (0 : Int) - 0 = 0 by omega, bef_zero h.tail]
    rfl
theorem aft_zero : ∀ {r : Ring}, Pos r → aftR r 0 = r
  | [], _ => rfl
  | x :: r, h => by
    have h1 := h.head
    show (if mn 0 x.2 < x.2 then [(x.1, x.2 - mn 0 x.2)] else []) ++ aftR r (0 - mn 0 x.2) = _
    rw [mn_of_le (show (0 : Int) ≤ x.2 by omega), if_pos (by omega), show (0 : Int) - 0 = 0 by omega, aft_zero h.tail, show x.2 - 0 = x.2 by omega]
    rfl
theorem kind_append : ∀ {p : Ring}, Pos p → ∀ (q : Ring) {l : Int}, 0 ≤ l → kindR (p ++ q) l = if l < sizeR p then kindR p l else kindR q (l - sizeR p)
  | [], _, q, l, h0 => by
    show kindR q l = if l < 0 then kindR [] l else kindR q (l - 0)
    rw [if_neg (show ¬ l < 0 by omega), show l - 0 = l by omega]
  | x :: p, hp, q, l, h0 => by
    have hs := size_nonneg hp.tail
    show (if l < x.2 then x.1 else kindR (p ++ q) (l - x.2)) = if l < x.2 + sizeR p then (if l < x.2 then x.1 else kindR p (l - x.2)) else kindR q (l - (x.2 + sizeR p))
    by_cases hl : l < x.2
    · rw [if_pos hl, if_pos (by omega), if_pos hl]
    · rw [if_neg hl, if_neg hl, kind_append hp.tail q (by omega)]
      by_cases h2 : l < x.2 + sizeR p
      · rw [if_pos h2, if_pos (by omega)]
      · rw [if_neg h2, if_neg (by omega), show l - x.2 - sizeR p = l - (x.2 + sizeR p) by omega]
structure Split (r : Ring) (l : Int) (b a : Ring) : Prop where
  sb : sizeR b = l
  sa : sizeR a = sizeR r - l
  kb : ∀ q, 0 ≤ q → q < l → kindR b q = kindR r q
  ka : ∀ q, 0 ≤ q → q < sizeR r - l → kindR a q = kindR r (l + q)
  pb : Pos b
  pa : Pos a
  lb : b.length ≤ r.length
  la : a.length ≤ r.length
theorem split_ok : ∀ {r : Ring}, Pos r → ∀ {l : Int}, 0 ≤ l → l ≤ sizeR r → Split r l (befR r l) (aftR r l)
  | [], _, l, h0, h1 => by
    have h1' : l ≤ 0 := h1
    refine ⟨?_, ?_, fun q a b => (by omega), fun q a b => ?_, fun y hy => (by cases hy), fun y hy => (by cases hy), Nat.le_refl _, Nat.le_refl _⟩
    · show 0 = l
      omega
    · show 0 = 0 - l
      omega
    · have b' : q < 0 - l := b
      omega
  | x :: r, h, l, h0, h1 => by
    have hx := h.head
    have h1' : l ≤ x.2 + sizeR r := h1
    have hs := size_nonneg h.tail
    by_cases hl : x.2 ≤ l
    · have s := split_ok h.tail (l := l - x.2) (by omega) (by omega)
      have eb : befR (x :: r) l = x :: befR r (l - x.2) := by
        show (if 0 < mn l x.2 then [(x.1, mn l x.2)] else []) ++ befR r (l - mn l x.2) = _
        rw [mn_of_ge hl, if_pos (by omega)]
        rfl
      have ea : aftR (x :: r) l = aftR r (l - x.2) := by
        show (if mn l x.2 < x.2 then [(x.1, x.2 - mn l x.2)] else []) ++ aftR r (l - mn l x.2) = _
        rw [mn_of_ge hl, if_neg (by omega)]
        rfl
      rw [eb, ea]
      refine ⟨?_, ?_, fun q a b => ?_, fun q a b => ?_, fun y hy => ?_, s.pa, ?_, ?_⟩
      · show x.2 + sizeR (befR r (l - x.2)) = l
        rw [s.sb]
        omega
      · show sizeR (aftR r (l - x.2)) = x.2 + sizeR r - l
        rw [s.sa]
        omega
      · show (if q < x.2 then x.1 else kindR (befR r (l - x.2)) (q - x.2)) = if q < x.2 then x.1 else kindR r (q - x.2)
        by_cases hq : q < x.2
        · rw [if_pos hq, if_pos hq]
        · rw [if_neg hq, if_neg hq, s.kb _ (by omega) (by omega)]
      · have b' : q < x.2 + sizeR r - l := b
        show _ = if l + q < x.2 then x.1 else kindR r (l + q - x.2)
        rw [if_neg (by omega), s.ka q a (by omega), show l - x.2 + q = l + q - x.2 by omega]
      · rcases List.mem_cons.mp hy with e | e
        · rw [e]
          exact hx
        · exact s.pb y e
      · have := s.lb
        simp only [List.length_cons]
        omega
      · have := s.la
        simp only [List.length_cons]
        omega
    · have em : mn l x.2 = l := mn_of_le (by omega)
      have eb : befR (x :: r) l = if 0 < l then [(x.1, l)] else [] := by
        show (if 0 < mn l x.2 then [(x.1, mn l x.2)] else []) ++ befR r (l - mn l x.2) = _
        rw [em, show l - l = 0 by omega, bef_zero h.tail, List.append_nil]
      have ea : aftR (x :: r) l = (x.1, x.2 - l) :: r := by
        show (if mn l x.2 < x.2 then [(x.1, x.2 - mn l x.2)] else []) ++ aftR r (l - mn l x.2) = _
        rw [em, show l - l = 0 by omega, aft_zero h.tail, if_pos (by omega)]
        rfl
      rw [eb, ea]
      refine ⟨?_, ?_, fun q a b => ?_, fun q a b => ?_, fun y hy => ?_, fun y hy => ?_, ?_, Nat.le_refl _⟩
      · split
        · show l + 0 = l
          omega
        · show 0 = l
          omega
      · show x.2 - l + sizeR r = x.2 + sizeR r - l
        omega
      · rw [if_pos (by omega)]
        show (if q < l then x.1 else _) = if q < x.2 then x.1 else _
        rw [if_pos (by omega), if_pos (by omega)]
      · show (if q < x.2 - l then x.1 else kindR r (q - (x.2 - l))) = if l + q < x.2 then x.1 else kindR r (l + q - x.2)
        by_cases hq : q < x.2 - l
        · rw [if_pos hq, if_pos (by omega)]
        · rw [if_neg hq, if_neg (by omega), show q - (x.2 - l) = l + q - x.2 by omega]
      · split at hy
        · rcases List.mem_cons.mp hy with e | e
          · rw [e]
            show 1 ≤ l
            omega
          · cases e
        · cases hy
      · rcases List.mem_cons.mp hy with e | e
        · rw [e]
          show 1 ≤ x.2 - l
          omega
        · exact h.tail y e
      · split <;> simp
theorem turn_size {r : Ring} (h : Pos r) {l : Int} (h0 : 0 ≤ l) (h1 : l ≤ sizeR r) : sizeR (turnR r l) = sizeR r := by
  have s := split_ok h h0 h1
  unfold turnR
  rw [size_append, s.sa, s.sb]
  omega
theorem turn_pos {r : Ring} (h : Pos r) {l : Int} (h0 : 0 ≤ l) (h1 : l ≤ sizeR r) : Pos (turnR r l) := by
  have s := split_ok h h0 h1
  exact s.pa.append s.pb
theorem turn_len {r : Ring} (h : Pos r) {l : Int} (h0 : 0 ≤ l) (h1 : l ≤ sizeR r) : (turnR r l).length ≤ 2 * r.length := by
  have s := split_ok h h0 h1
  have a := s.la
  have b := s.lb
  unfold turnR
  rw [List.length_append]
  omega
theorem turn_kind {r : Ring} (h : Pos r) (hne : r ≠ []) (m : Int) {q : Int} (q0 : 0 ≤ q) (q1 : q < sizeR r) : kindR (turnR r (m % sizeR r)) q = kindC r (m + q) := by
  have hs := size_pos h hne
  have l0 := Int.emod_nonneg m (show sizeR r ≠ 0 by omega)
  have l1 := Int.emod_lt_of_pos m (show 0 < sizeR r by omega)
  have e := mod_eq m (sizeR r)
  have ek : kindC r (m + q) = kindR r ((m % sizeR r + q) % sizeR r) := by
    unfold kindC
    rw [show m + q = (m % sizeR r + q) + sizeR r * (m / sizeR r) by omega, Int.add_mul_emod_self_left]
  rw [ek]
  generalize m % sizeR r = l at *
  have s := split_ok h l0 (by omega)
  unfold turnR
  rw [kind_append s.pa _ q0, s.sa]
  by_cases hq : q < sizeR r - l
  · rw [if_pos hq, s.ka q q0 hq, Int.emod_eq_of_lt (by omega) (by omega)]
  · rw [if_neg hq, s.kb _ (by omega) (by omega)]
    rw [show l + q = (q - (sizeR r - l)) + sizeR r * 1 by omega, Int.add_mul_emod_self_left, Int.emod_eq_of_lt (by omega) (by omega)]
/-! ### spans -/
structure Span where
  at_ : Int
  fd : Int
  ch : Int
  ln : Int
structure IsSp (r : Ring) (m : Int) (x : Span) : Prop where
  lo : 0 ≤ x.at_
  one : 1 ≤ x.ln
  hi : x.at_ + x.ln ≤ sizeR r
  c : x.ch = 1 ∨ x.ch = 0 ∨ x.ch = -1
  lin : ∀ d, 0 ≤ d → d ≤ x.ln → amongF r (x.at_ + d) m = x.fd + x.ch * d
structure Spans (r : Ring) (m : Int) (told : List Span) (p : Int) : Prop where
  ok : ∀ x ∈ told, IsSp r m x
  cover : ∀ q, 0 ≤ q → q < p → ∃ x ∈ told, x.at_ ≤ q ∧ q < x.at_ + x.ln
theorem Spans.nil (r : Ring) (m : Int) : Spans r m [] 0 := ⟨fun x h => (by cases h), fun q a b => (by omega)⟩
theorem Spans.snoc {r : Ring} {m p e : Int} {told : List Span} (h : Spans r m told p) {x : Span} (hx : IsSp r m x) (ha : x.at_ = p) (he : x.at_ + x.ln = e) : Spans r m (told ++ [x]) e := by
  refine ⟨fun y hy => ?_, fun q q0 q1 => ?_⟩
  · rcases List.mem_append.mp hy with hy | hy
    · exact h.ok y hy
    · rcases List.mem_cons.mp hy with e | e
      · rw [e]
        exact hx
      · cases e
  · by_cases hq : q < p
    · obtain ⟨y, hy, y0, y1⟩ := h.cover q q0 hq
      exact ⟨y, List.mem_append_left _ hy, y0, y1⟩
    · exact ⟨x, List.mem_append_right _ List.mem_cons_self, by omega, by omega⟩
theorem span_lin {r : Ring} (h : Pos r) (hne : r ≠ []) {m p : Int} {i j : Nat} {x y : Bool × Int} (hx : r[i]? = some x) (hy : (turnR r (m % sizeR r))[j]? = some y) (p0 : 0 ≤ p) (i0 : sizeR (r.take i) ≤ p) (j0 : sizeR ((turnR r (m % sizeR r)).take j) ≤ p) :
    ∀ d : Nat, p + (d : Int) ≤ sizeR (r.take (i + 1)) → p + (d : Int) ≤ sizeR ((turnR r (m % sizeR r)).take (j + 1)) → amongF r (p + (d : Int)) m = amongF r p m + (b2n y.1 - b2n x.1) * (d : Int)
  | 0, _, _ => by
    rw [show p + ((0 : Nat) : Int) = p by omega, show ((0 : Nat) : Int) = 0 by rfl, Int.mul_zero, Int.add_zero]
  | d + 1, h1, h2 => by
    have ih := span_lin h hne hx hy p0 i0 j0 d (by omega) (by omega)
    have st := among_step h hne (p + (d : Int)) m
    have hs := size_pos h hne
    have l0 := Int.emod_nonneg m (show sizeR r ≠ 0 by omega)
    have l1 := Int.emod_lt_of_pos m (show 0 < sizeR r by omega)
    have hel := end_le h (i + 1)
    have sx := size_take_succ hx
    have sy := size_take_succ hy
    have tp := turn_pos h l0 (show m % sizeR r ≤ sizeR r by omega)
    have a := kind_at' h hx (d := p + (d : Int) - sizeR (r.take i)) (by omega) (by omega)
    have b := kind_at' tp hy (d := p + (d : Int) - sizeR ((turnR r (m % sizeR r)).take j)) (by omega) (by omega)
    rw [show sizeR (r.take i) + (p + (d : Int) - sizeR (r.take i)) = p + (d : Int) by omega] at a
    rw [show sizeR ((turnR r (m % sizeR r)).take j) + (p + (d : Int) - sizeR ((turnR r (m % sizeR r)).take j)) = p + (d : Int) by omega] at b
    rw [turn_kind h hne m (by omega) (by omega), Int.add_comm m] at b
    have a2 : kindC r (p + (d : Int)) = x.1 := by
      unfold kindC
      rw [Int.emod_eq_of_lt (by omega) (by omega)]
      exact a
    rw [a2, b] at st
    rw [show p + ((d + 1 : Nat) : Int) = p + (d : Int) + 1 by omega, st, ih, show ((d + 1 : Nat) : Int) = (d : Int) + 1 by omega, Int.mul_add, Int.mul_one]
    omega
theorem b2n_diff (a b : Bool) : b2n a - b2n b = 1 ∨ b2n a - b2n b = 0 ∨ b2n a - b2n b = -1 := by
  cases a <;> cases b <;> decide
theorem span_is {r : Ring} (h : Pos r) (hne : r ≠ []) {m p e : Int} {i j : Nat} {x y : Bool × Int} (hx : r[i]? = some x) (hy : (turnR r (m % sizeR r))[j]? = some y) (p0 : 0 ≤ p) (i0 : sizeR (r.take i) ≤ p) (j0 : sizeR ((turnR r (m % sizeR r)).take j) ≤ p) (pe : p < e) (i1 : e ≤ sizeR (r.take (i + 1))) (j1 : e ≤ sizeR ((turnR r (m % sizeR r)).take (j + 1))) :
    IsSp r m ⟨p, amongF r p m, b2n y.1 - b2n x.1, e - p⟩ := by
  have hel := end_le h (i + 1)
  refine ⟨p0, ?_, ?_, b2n_diff _ _, fun d d0 d1 => ?_⟩
  · show 1 ≤ e - p
    omega
  · show p + (e - p) ≤ sizeR r
    omega
  · have d1' : d ≤ e - p := d1
    have := span_lin h hne hx hy p0 i0 j0 d.toNat (by omega) (by omega)
    rw [show ((d.toNat : Nat) : Int) = d by omega] at this
    exact this
theorem IsSp.fd_at {r : Ring} {m : Int} {x : Span} (h : IsSp r m x) : x.fd = amongF r x.at_ m := by
  have a := h.lin 0 (Int.le_refl 0) (by have := h.one; omega)
  rw [Int.mul_zero, Int.add_zero, Int.add_zero] at a
  exact a.symm
theorem least_wrap {r : Ring} (h : Pos r) (hne : r ≠ []) (m : Int) {p : Int} (p0 : 0 ≤ p) (p1 : p ≤ sizeR r) : leastW r m ≤ amongF r p m ∧ amongF r p m ≤ mostW r m := by
  have hs := size_pos h hne
  by_cases e : p < sizeR r
  · exact ⟨least_all h hne m p0 e, most_all h hne m p0 e⟩
  · have e2 : p = 0 + sizeR r := by omega
    rw [e2, among_wrap h hne]
    exact ⟨least_all h hne m (Int.le_refl 0) (by omega), most_all h hne m (Int.le_refl 0) (by omega)⟩
theorem spans_least {r : Ring} (h : Pos r) (hne : r ≠ []) {m : Int} {told : List Span} (s : Spans r m told (sizeR r)) : leastW r m ∈ told.map (·.fd) ∧ ∀ y ∈ told.map (·.fd), leastW r m ≤ y := by
  have hs := size_pos h hne
  refine ⟨?_, fun y hy => ?_⟩
  · obtain ⟨c, hc, ec⟩ := least_corner hne m
    obtain ⟨c0, c1⟩ := corner_in h hne hc
    obtain ⟨x, hx, x0, x1⟩ := s.cover c c0 c1
    have sx := s.ok x hx
    have a := sx.lin (c - x.at_) (by omega) (by omega)
    rw [show x.at_ + (c - x.at_) = c by omega, ec] at a
    have f := sx.fd_at
    have b := least_wrap h hne m sx.lo (by have := sx.hi; have := sx.one; omega)
    refine List.mem_map.mpr ⟨x, hx, ?_⟩
    rcases sx.c with e | e | e
    · rw [e, Int.one_mul] at a
      omega
    · rw [e, Int.zero_mul] at a
      omega
    · have a2 := sx.lin (c - x.at_ + 1) (by omega) (by omega)
      have b2 := least_wrap h hne m (p := x.at_ + (c - x.at_ + 1)) (by omega) (by have := sx.hi; omega)
      rw [e, Int.neg_mul, Int.one_mul] at a a2
      omega
  · obtain ⟨x, hx, rfl⟩ := List.mem_map.mp hy
    have sx := s.ok x hx
    have := (least_wrap h hne m sx.lo (by have := sx.hi; have := sx.one; omega)).1
    rw [← sx.fd_at] at this
    exact this
theorem spans_most {r : Ring} (h : Pos r) (hne : r ≠ []) {m : Int} {told : List Span} (s : Spans r m told (sizeR r)) : mostW r m ∈ told.map (·.fd) ∧ ∀ y ∈ told.map (·.fd), y ≤ mostW r m := by
  have hs := size_pos h hne
  refine ⟨?_, fun y hy => ?_⟩
  · obtain ⟨c, hc, ec⟩ := most_corner hne m
    obtain ⟨c0, c1⟩ := corner_in h hne hc
    obtain ⟨x, hx, x0, x1⟩ := s.cover c c0 c1
    have sx := s.ok x hx
    have a := sx.lin (c - x.at_) (by omega) (by omega)
    rw [show x.at_ + (c - x.at_) = c by omega, ec] at a
    have f := sx.fd_at
    have b := least_wrap h hne m sx.lo (by have := sx.hi; have := sx.one; omega)
    refine List.mem_map.mpr ⟨x, hx, ?_⟩
    rcases sx.c with e | e | e
    · have a2 := sx.lin (c - x.at_ + 1) (by omega) (by omega)
      have b2 := least_wrap h hne m (p := x.at_ + (c - x.at_ + 1)) (by omega) (by have := sx.hi; omega)
      rw [e, Int.one_mul] at a a2
      omega
    · rw [e, Int.zero_mul] at a
      omega
    · rw [e, Int.neg_mul, Int.one_mul] at a
      omega
  · obtain ⟨x, hx, rfl⟩ := List.mem_map.mp hy
    have sx := s.ok x hx
    have := (least_wrap h hne m sx.lo (by have := sx.hi; have := sx.one; omega)).2
    rw [← sx.fd_at] at this
    exact this
/-- what the program looks at in a span -/
def hitS (z : Int) (x : Span) : Prop := 0 ≤ (z - x.fd) * x.ch ∧ (z - x.fd) * x.ch < x.ln ∧ x.fd + (z - x.fd) * x.ch * x.ch = z
theorem hit_is {r : Ring} {m z : Int} {x : Span} (sx : IsSp r m x) (h : hitS z x) : 0 ≤ x.at_ + (z - x.fd) * x.ch ∧ x.at_ + (z - x.fd) * x.ch < sizeR r ∧ amongF r (x.at_ + (z - x.fd) * x.ch) m = z := by
  obtain ⟨h0, h1, h2⟩ := h
  have a := sx.lin _ h0 (by omega)
  have := sx.lo
  have := sx.hi
  refine ⟨by omega, by omega, ?_⟩
  rw [a, Int.mul_comm x.ch]
  exact h2
theorem miss_is {r : Ring} (h : Pos r) (hne : r ≠ []) {m z : Int} {told : List Span} (s : Spans r m told (sizeR r)) (hm : ∀ x ∈ told, ¬ hitS z x) : ¬ (leastW r m ≤ z ∧ z ≤ mostW r m) := by
  rintro ⟨z0, z1⟩
  obtain ⟨p, p0, p1, e⟩ := found_ex h hne m z0 z1
  obtain ⟨x, hx, x0, x1⟩ := s.cover p p0 p1
  have sx := s.ok x hx
  have a := sx.lin (p - x.at_) (by omega) (by omega)
  have := sx.one
  rw [show x.at_ + (p - x.at_) = p by omega, e] at a
  refine hm x hx ?_
  unfold hitS
  rcases sx.c with c | c | c
  · rw [c] at a ⊢
    simp only [Int.mul_one, Int.one_mul] at a ⊢
    omega
  · rw [c] at a ⊢
    simp only [Int.mul_zero, Int.zero_mul] at a ⊢
    omega
  · rw [c] at a ⊢
    simp only [Int.mul_neg, Int.mul_one, Int.neg_mul, Int.one_mul] at a ⊢
    omega
/-! ### bounds, tables of ends, where the walk stands -/
theorem among_nat {r : Ring} (h : Pos r) (hne : r ≠ []) (p : Int) : ∀ n : Nat, 0 ≤ amongF r p (n : Int) ∧ amongF r p (n : Int) ≤ (n : Int)
  | 0 => by
    unfold amongF
    rw [show p + ((0 : Nat) : Int) = p by omega]
    omega
  | n + 1 => by
    have ih := among_nat h hne p n
    have a := first_one h hne (p + (n : Int))
    unfold amongF at *
    rw [show p + ((n + 1 : Nat) : Int) = p + (n : Int) + 1 by omega, a]
    split <;> omega
theorem among_bd {r : Ring} (h : Pos r) (hne : r ≠ []) (p : Int) {m : Int} (m0 : 0 ≤ m) : 0 ≤ amongF r p m ∧ amongF r p m ≤ m := by
  have := among_nat h hne p m.toNat
  rw [show ((m.toNat : Nat) : Int) = m by omega] at this
  exact this
theorem least_bd {r : Ring} (h : Pos r) (hne : r ≠ []) {m : Int} (m0 : 0 ≤ m) : 0 ≤ leastW r m ∧ mostW r m ≤ m := by
  obtain ⟨c, _, ec⟩ := least_corner hne m
  obtain ⟨d, _, ed⟩ := most_corner hne m
  have a := among_bd h hne c m0
  have b := among_bd h hne d m0
  omega
theorem among_first (r : Ring) (m : Int) : firstF r 0 = 0 → amongF r 0 m = firstF r m := fun e => by
  unfold amongF
  rw [e, Int.zero_add]
  omega
theorem first_zero {r : Ring} (h : Pos r) (hne : r ≠ []) : firstF r 0 = 0 := by
  have hs := size_pos h hne
  rw [first_upto h hne (Int.le_refl 0) (by omega), ahead_zero h]
def kdAt (r : Ring) (i : Nat) : Bool := match r[i]? with
  | some x => x.1
  | none => true
def endsP (r : Ring) (n : Nat) : List (Int × Int) := (List.range n).map fun i => (b2n (kdAt r i), sizeR (r.take (i + 1)))
theorem endsP_len (r : Ring) (n : Nat) : (endsP r n).length = n := by
  unfold endsP
  rw [List.length_map, List.length_range]
theorem endsP_succ {r : Ring} {i : Nat} {x : Bool × Int} (h : r[i]? = some x) : endsP r (i + 1) = endsP r i ++ [(b2n x.1, sizeR (r.take (i + 1)))] := by
  have e : kdAt r i = x.1 := by
    unfold kdAt
    rw [h]
  unfold endsP
  rw [List.range_succ, List.map_append, ← e]
  rfl
theorem endsP_at {r : Ring} {n i : Nat} {x : Bool × Int} (h : r[i]? = some x) (hi : i < n) : (endsP r n)[i]? = some (b2n x.1, sizeR (r.take (i + 1))) := by
  have e : kdAt r i = x.1 := by
    unfold kdAt
    rw [h]
  unfold endsP
  rw [List.getElem?_map, List.getElem?_range hi, ← e]
  rfl
/-- the place p lies in stretch i, or behind all -/
structure Cur (r : Ring) (i : Nat) (p : Int) : Prop where
  le : i ≤ r.length
  lo : sizeR (r.take i) ≤ p
  hi : p ≤ sizeR r
  lt : i < r.length → p < sizeR (r.take (i + 1))
theorem Cur.start {r : Ring} (h : Pos r) (hne : r ≠ []) : Cur r 0 0 := by
  have hs := size_pos h hne
  refine ⟨Nat.zero_le _, Int.le_refl _, by omega, fun hi => ?_⟩
  have e := size_take_succ (List.getElem?_eq_getElem hi)
  have := h _ (mem_at (List.getElem?_eq_getElem hi))
  have z : sizeR (r.take 0) = 0 := rfl
  omega
theorem Cur.inside {r : Ring} {i : Nat} {p : Int} (c : Cur r i p) (hp : p < sizeR r) : i < r.length := by
  apply Nat.lt_of_not_le
  intro z
  have := c.lo
  rw [List.take_of_length_le z] at this
  omega
theorem Cur.all {r : Ring} {i : Nat} {p : Int} (c : Cur r i p) (hi : ¬ i < r.length) : p = sizeR r := by
  have a := c.lo
  have b := c.hi
  rw [List.take_of_length_le (by omega)] at a
  omega
theorem Cur.next {r : Ring} (h : Pos r) {i : Nat} {p : Int} (c : Cur r i p) (hi : i < r.length) : Cur r (i + 1) (sizeR (r.take (i + 1))) := by
  refine ⟨hi, Int.le_refl _, end_le h _, fun hi2 => ?_⟩
  have e := size_take_succ (List.getElem?_eq_getElem hi2)
  have := h _ (mem_at (List.getElem?_eq_getElem hi2))
  omega
theorem Cur.stay {r : Ring} {i : Nat} {p e : Int} (c : Cur r i p) (hpe : p ≤ e) (he : e < sizeR (r.take (i + 1))) (hs : e ≤ sizeR r) : Cur r i e := ⟨c.le, Int.le_trans c.lo hpe, hs, fun _ => he⟩
theorem Cur.to {r : Ring} (h : Pos r) {i i' : Nat} {p e : Int} (c : Cur r i p) (hi : i < r.length) (hpe : p ≤ e) (k : (i' = i + 1 ∧ sizeR (r.take (i + 1)) = e) ∨ (i' = i ∧ e < sizeR (r.take (i + 1)))) : Cur r i' e := by
  rcases k with ⟨rfl, e1⟩ | ⟨rfl, e1⟩
  · rw [← e1]
    exact c.next h hi
  · exact c.stay hpe e1 (by
      have := end_le h (i' + 1)
      omega)
open PySem PySem.Spec PyProof.Rows L2 Evl
abbrev Sg := L2.St

/-! ### the rules under names -/
def rMin2 : List V → Hp → VK → Prop := fun xs H Q => ∃ i j, xs = [.int i, .int j] ∧ Q (.int (if j < i then j else i)) H
def rDm : List V → Hp → VK → Prop := fun xs H Q => ∃ i j, xs = [.int i, .int j] ∧ CDivP i j ∧ ∀ p, H p = none → Q (.ref p) (upd H p (.tup [.int (i / j), .int (i % j)]))
def rLenStr : List V → Hp → VK → Prop := fun xs H Q => ∃ z : Str, xs = [.str z] ∧ z.length ≤ sizeLine ∧ Q (.int z.length) H
def rMulS : R2 := fun x y H Q => ∃ (z : Str) (n : Int), x = .str z ∧ y = .int n ∧ (PySem.MulOk z n) ∧ Q (.str (Txt.mul z n)) H
section
variable {X : Cx}
theorem c_min2 (hc : X.calm = true) : CallR X (.builtin "min") rMin2 := call_min2 hc
theorem c_dm : CallR X (.builtin "divmod") rDm := call_divmodW
theorem c_len : CallR X (.builtin "len") (rLenS X.K) := call_len_seq
theorem c_lenS : CallR X (.builtin "len") rLenStr := call_len_str
theorem c_list : CallR X (.type "list") (rListS X.K) := call_list_of
theorem op_mul_str : OpR X (binaryOp .Mult) rMulS := by
  intro pins s σ H x y v u Q I rx ry h
  obtain ⟨z, n, rfl, rfl, ok, q⟩ := h
  obtain ⟨t, rfl⟩ := rx
  obtain ⟨t', rfl⟩ := ry
  exact PySem.SB.mul ok fun t'' k => ⟨.str _, H, I.tok _, ⟨_, rfl⟩, q⟩
end

/-! ### letters, rings at addresses -/
def kl (b : Bool) : Str := if b = true then "a" else "b"
theorem kl_a (b : Bool) : decide (V.str (kl b) = V.str "a") = b := by
  cases b <;> decide +kernel
theorem kl_eq (b c : Bool) : decide (V.str (kl b) = V.str (kl c)) = (b == c) := by
  cases b <;> cases c <;> decide +kernel
def StAt (K : PySem.W.Frag) (H : Hp) (v : V) (x : Bool × Int) : Prop := ∃ t, v = .ref t ∧ SqT K H t [.str (kl x.1), .int x.2]
def Items (K : PySem.W.Frag) (H : Hp) (vs : List V) (r : Ring) : Prop := vs.length = r.length ∧ ∀ (i : Nat) (v : V) (x : Bool × Int), vs[i]? = some v → r[i]? = some x → StAt K H v x
def RingAt (K : PySem.W.Frag) (H : Hp) (a : Addr) (r : Ring) : Prop := ∃ vs : List V, SqL K H a vs ∧ Items K H vs r
section
variable {K : PySem.W.Frag} {H H' : Hp} {a : Addr} {r r' : Ring} {vs vs' : List V} {x : Bool × Int} {v : V}
theorem StAt.mono (e : Ex H H') (h : StAt K H v x) : StAt K H' v x := by
  obtain ⟨t, e1, h1⟩ := h
  exact ⟨t, e1, ex_t e h1⟩
theorem Items.mono (e : Ex H H') (h : Items K H vs r) : Items K H' vs r := ⟨h.1, fun i v x h1 h2 => (h.2 i v x h1 h2).mono e⟩
theorem RingAt.mono (e : Ex H H') (h : RingAt K H a r) : RingAt K H' a r := by
  obtain ⟨vs, h1, h2⟩ := h
  exact ⟨vs, ex_l e h1, h2.mono e⟩
theorem Items.nil : Items K H [] [] := ⟨rfl, fun i v x h => by simp at h⟩
theorem Items.append (h : Items K H vs r) (h' : Items K H vs' r') : Items K H (vs ++ vs') (r ++ r') := by
  refine ⟨by rw [List.length_append, List.length_append, h.1, h'.1], fun i v x e1 e2 => ?_⟩
  by_cases hi : i < vs.length
  · rw [List.getElem?_append_left hi] at e1
    rw [List.getElem?_append_left (by rw [← h.1]; exact hi)] at e2
    exact h.2 i v x e1 e2
  · rw [List.getElem?_append_right (by omega)] at e1
    rw [List.getElem?_append_right (by rw [← h.1]; omega), ← h.1] at e2
    exact h'.2 _ v x e1 e2
theorem Items.one (h : StAt K H v x) : Items K H [v] [x] := ⟨rfl, fun i w y e1 e2 => by
  cases i with
  | zero =>
    have h1 : v = w := Option.some.inj e1
    have h2 : x = y := Option.some.inj e2
    subst h1
    subst h2
    exact h
  | succ i => simp at e1⟩
theorem Items.take (h : Items K H vs r) (n : Nat) : Items K H (vs.take n) (r.take n) := by
  refine ⟨by rw [List.length_take, List.length_take, h.1], fun i v x e1 e2 => ?_⟩
  rw [List.getElem?_take] at e1 e2
  split at e1
  · rename_i hi
    rw [if_pos hi] at e2
    exact h.2 i v x e1 e2
  · cases e1
theorem Items.drop (h : Items K H vs r) (n : Nat) : Items K H (vs.drop n) (r.drop n) := by
  refine ⟨by rw [List.length_drop, List.length_drop, h.1], fun i v x e1 e2 => ?_⟩
  rw [List.getElem?_drop] at e1 e2
  exact h.2 _ v x e1 e2
theorem Items.get (h : Items K H vs r) {i : Nat} (hx : r[i]? = some x) : ∃ t, vs[i]? = some (.ref t) ∧ SqT K H t [.str (kl x.1), .int x.2] := by
  have hi : i < vs.length := by
    rw [h.1]
    exact (List.getElem?_eq_some_iff.mp hx).1
  obtain ⟨t, e, ht⟩ := h.2 i _ x (List.getElem?_eq_getElem hi) hx
  exact ⟨t, by rw [List.getElem?_eq_getElem hi, e], ht⟩
end

/-! ### values told by a word -/
def EvP (te : TE) (σ : Sg) (H : Hp) (P : V → Hp → Prop) : Prop := ∀ H1, Ex H H1 → ∀ Q : VK, (∀ v H2, Ex H1 H2 → P v H2 → Q v H2) → te σ H1 Q
def IsRing (K : PySem.W.Frag) (r : Ring) : V → Hp → Prop := fun v H => ∃ a, v = .ref a ∧ RingAt K H a r
def IsL (K : PySem.W.Frag) (xs : List V) : V → Hp → Prop := fun v H => ∃ a, v = .ref a ∧ SqL K H a xs
def IsT (K : PySem.W.Frag) (xs : List V) : V → Hp → Prop := fun v H => ∃ a, v = .ref a ∧ SqT K H a xs
def RetP (P : V → Hp → Prop) (H : Hp) (Q : VK) : Prop := ∀ v H2, Ex H H2 → P v H2 → Q v H2
def SpP (sp : Sp) (vs : List V) (H : Hp) (P : V → Hp → Prop) : Prop := ∀ H1, Ex H H1 → ∀ Q : VK, RetP P H1 Q → ∀ E : XK, sp vs H1 Q E
section
variable {K : PySem.W.Frag} {σ : Sg} {H H' : Hp} {ta tb te tx : TE} {t u : TT} {x y z v : V} {D : Ends} {tu tw tz : TS} {g : TG} {P P' : V → Hp → Prop} {r : Ring}
theorem EvP.mono (e : Ex H H') (h : EvP te σ H P) : EvP te σ H' P := fun H1 a Q q => h H1 (e.trans a) Q q
theorem EvP.imp (h : EvP te σ H P) (k : ∀ v H1, Ex H H1 → P v H1 → P' v H1) : EvP te σ H P' := fun H1 e Q q => h H1 e Q fun v H2 e2 hP => q v H2 e2 (k v H2 (e.trans e2) hP)
theorem ep_var {i : Nat} (h : σ[i]? = some (some v)) (hP : ∀ H1, Ex H H1 → P v H1) : EvP (tVar i) σ H P := fun H1 e _ q => ⟨v, h, q v H1 (Ex.refl H1) (hP H1 e)⟩
theorem ep_ev (h : Ev te σ H v) (hP : ∀ H1, Ex H H1 → P v H1) : EvP te σ H P := fun H1 e Q q => h H1 e Q fun H2 e2 => q v H2 e2 (hP H2 (e.trans e2))
theorem ep_U {xs : List V} (h : EvU te σ H xs) : EvP te σ H (IsT K xs) := fun H1 e Q q => h H1 e Q fun p H2 _ e2 h2 => q _ H2 e2 ⟨p, rfl, st_of h2⟩
theorem ep_L {xs : List V} (h : EvL te σ H xs) : EvP te σ H (IsL K xs) := fun H1 e Q q => h H1 e Q fun p H2 _ e2 h2 => q _ H2 e2 ⟨p, rfl, sq_of h2⟩
theorem ev_callP {sp : Sp} {vs : List V} {E : XK} {ta : TA} (h : EvA ta σ H vs) (hs : SpP sp (vs ++ []) H P) : EvP (tCall sp [] E ta) σ H P := fun H1 e Q q =>
  h H1 e _ fun H2 e2 => hs H2 (e.trans e2) Q (fun v H3 e3 hP => q v H3 (e2.trans e3) hP) E
/-- a call whose first argument is told by a word -/
theorem ev_call1 {sp : Sp} {vs : List V} {E : XK} {tr : TA} (h : EvP te σ H P) (hr : EvA tr σ H vs) (hs : ∀ v H1, Ex H H1 → P v H1 → SpV sp ((v :: vs) ++ []) H1 z) : Ev (tCall sp [] E (tCons te tr)) σ H z := fun H1 e Q q =>
  h H1 e _ fun v H2 e2 hP => hr H2 (e.trans e2) _ fun H3 e3 => by
    refine hs v H2 (e.trans e2) hP H3 e3 Q (fun H4 e4 => q H4 ((e2.trans e3).trans e4)) E
theorem ev_call1P {sp : Sp} {vs : List V} {E : XK} {tr : TA} (h : EvP te σ H P) (hr : EvA tr σ H vs) (hs : ∀ v H1, Ex H H1 → P v H1 → SpP sp ((v :: vs) ++ []) H1 P') : EvP (tCall sp [] E (tCons te tr)) σ H P' := fun H1 e Q q =>
  h H1 e _ fun v H2 e2 hP => hr H2 (e.trans e2) _ fun H3 e3 => by
    refine hs v H2 (e.trans e2) hP H3 e3 Q (fun w H4 e4 hw => q w H4 ((e2.trans e3).trans e4) hw) E
/-- an operation whose operands are told by words -/
theorem ev_opP {rr : R2} (ha : EvP ta σ H P) (hb : ∀ H1, Ex H H1 → EvP tb σ H1 P') (hr : ∀ v w H1 H2, Ex H H1 → Ex H1 H2 → P v H1 → P' w H2 → RV rr v w H2 z) : Ev (tOp rr ta tb) σ H z := fun H1 e Q q =>
  ha H1 e _ fun v H2 e2 hP => hb H2 (e.trans e2) H2 (Ex.refl H2) _ fun w H3 e3 hP' => hr v w H2 H3 (e.trans e2) e3 hP hP' H3 (Ex.refl H3) Q fun H4 e4 => q H4 ((e2.trans e3).trans e4)
theorem ev_opP1 {rr : R2} (ha : EvP ta σ H P) (hb : Ev tb σ H y) (hr : ∀ v H1, Ex H H1 → P v H1 → RV rr v y H1 z) : Ev (tOp rr ta tb) σ H z := fun H1 e Q q =>
  ha H1 e _ fun v H2 e2 hP => hb H2 (e.trans e2) _ fun H3 e3 => hr v H2 (e.trans e2) hP H3 e3 Q fun H4 e4 => q H4 ((e2.trans e3).trans e4)
/-- .. an item taken that is told by a word itself -/
theorem ep_opP1 {rr : R2} (ha : EvP ta σ H P) (hb : Ev tb σ H y) (hr : ∀ v H1, Ex H H1 → P v H1 → ∃ w, RV rr v y H1 w ∧ ∀ H2, Ex H1 H2 → P' w H2) : EvP (tOp rr ta tb) σ H P' := fun H1 e Q q =>
  ha H1 e _ fun v H2 e2 hP => hb H2 (e.trans e2) _ fun H3 e3 => by
    obtain ⟨w, hw, hPw⟩ := hr v H2 (e.trans e2) hP
    exact hw H3 e3 Q fun H4 e4 => q w H4 ((e2.trans e3).trans e4) (hPw H4 (e3.trans e4))
theorem ep_if {b : Bool} (h : EvT t σ H b) (h1 : b = true → EvP ta σ H P) (h2 : b = false → EvP tb σ H P) : EvP (tIf t ta tb) σ H P := fun H1 e Q q => h H1 e _ fun H2 e2 => by
  cases b with
  | true =>
    show ta σ H2 Q
    exact h1 rfl H2 (e.trans e2) Q fun v H3 e3 hP => q v H3 (e2.trans e3) hP
  | false =>
    show tb σ H2 Q
    exact h2 rfl H2 (e.trans e2) Q fun v H3 e3 hP => q v H3 (e2.trans e3) hP

/-! ### statements -/
theorem q_asgP {i : Nat} (h : EvP te σ H P) (k : ∀ v H1, Ex H H1 → P v H1 → tz D (σ.set i (some v)) H1) : tSeq (tAsg te (gName i)) tz D σ H := h H (Ex.refl H) _ fun v H1 e hP => k v H1 e hP
theorem s_retP (h : EvP te σ H P) (k : ∀ v H1, Ex H H1 → P v H1 → D.rt v H1) : tRet te D σ H := h H (Ex.refl H) _ fun v H1 e hP => k v H1 e hP
/-- a, b = a pair -/
theorem q_unp {i j : Nat} (h : EvP te σ H (IsT K [x, y])) (k : ∀ H1, Ex H H1 → tz D ((σ.set i (some x)).set j (some y)) H1) : tSeq (tAsg te (gTup K 2 (gCons (gName i) (gCons (gName j) gNil)))) tz D σ H :=
  h H (Ex.refl H) _ fun v H1 e ⟨a, ea, ha⟩ => ⟨a, [x, y], ea, ha, rfl, x, [y], rfl, y, [], rfl, rfl, k H1 e⟩
theorem q_par {i j : Nat} {ta : TA} (h : EvA ta σ H [x, y]) (k : ∀ H1, Ex H H1 → tz D ((σ.set i (some x)).set j (some y)) H1) : tSeq (tPar i j ta) tz D σ H :=
  h H (Ex.refl H) _ fun H1 e => ⟨x, y, rfl, k H1 e⟩
theorem q_parP {i j : Nat} {ta tb : TE} (ha : EvP ta σ H P) (hb : ∀ H1, Ex H H1 → Ev tb σ H1 y) (k : ∀ v H1 H2, Ex H H1 → Ex H1 H2 → P v H1 → tz D ((σ.set i (some v)).set j (some y)) H2) : tSeq (tPar i j (tCons ta (tCons tb tNil))) tz D σ H :=
  ha H (Ex.refl H) _ fun v H1 e hP => hb H1 e H1 (Ex.refl H1) _ fun H2 e2 => ⟨v, y, rfl, k v H1 H2 e e2 hP⟩
theorem q_par3P {i j l : Nat} {ta tb tc : TE} (ha : EvP ta σ H P) (hb : ∀ H1, Ex H H1 → Ev tb σ H1 y) (hc : ∀ H1, Ex H H1 → Ev tc σ H1 z) (k : ∀ v H1 H2, Ex H H1 → Ex H1 H2 → P v H1 → tz D (((σ.set i (some v)).set j (some y)).set l (some z)) H2) :
    tSeq (tPar3 i j l (tCons ta (tCons tb (tCons tc tNil)))) tz D σ H :=
  ha H (Ex.refl H) _ fun v H1 e hP => hb H1 e H1 (Ex.refl H1) _ fun H2 e2 => hc H2 (e.trans e2) H2 (Ex.refl H2) _ fun H3 e3 => ⟨v, y, z, rfl, k v H1 H3 e (e2.trans e3) hP⟩
/-- a call (or another expression) as a statement -/
theorem q_dropP (h : EvP te σ H P) (k : ∀ H1, Ex H H1 → tz D σ H1) : tSeq (tDrop te) tz D σ H := h H (Ex.refl H) _ fun v H1 e hP => k H1 e

/-! ### loops over a ring -/
def gPair (K : PySem.W.Frag) (j k : Nat) : TG := gTup K 2 (gCons (gName j) (gCons (gName k) gNil))
theorem s_forR {a : Addr} {tl : TE} {j k : Nat} (h : Ev tl σ H (.ref a)) (hr : RingAt K H a r) (Pv : Nat → Sg → Hp → Prop) (h0 : ∀ H1, Ex H H1 → Pv 0 σ H1) (hx : ∀ i σ' H', Pv i σ' H' → Ex H H')
    (hs : ∀ i x σ' H', r[i]? = some x → Pv i σ' H' → tu { D with nx := Pv (i + 1), ct := Pv (i + 1), bk := D.nx } ((σ'.set j (some (.str (kl x.1)))).set k (some (.int x.2))) H') (hd : ∀ σ' H', Pv r.length σ' H' → D.nx σ' H') :
    tFor (iList K tl) (gTup K 2 (gCons (gName j) (gCons (gName k) gNil))) tu D σ H := by
  obtain ⟨vs, hvs, hit⟩ := hr
  refine s_forL h hvs Pv h0 (fun i σ' H' _ p => ex_l (hx i σ' H' p) hvs) (fun i v σ' H' hv p => ?_) (by rw [hit.1]; exact hd)
  have hi : i < r.length := by
    rw [← hit.1]
    exact (List.getElem?_eq_some_iff.mp hv).1
  have ex := List.getElem?_eq_getElem hi
  obtain ⟨t, e, ht⟩ := hit.2 i v _ hv ex
  refine ⟨t, _, e, ex_t (hx i σ' H' p) ht, rfl, _, _, rfl, _, _, rfl, rfl, ?_⟩
  exact hs i _ σ' H' ex p
theorem q_forR {a : Addr} {tl : TE} {j k : Nat} (h : Ev tl σ H (.ref a)) (hr : RingAt K H a r) (Pv : Nat → Sg → Hp → Prop) (h0 : ∀ H1, Ex H H1 → Pv 0 σ H1) (hx : ∀ i σ' H', Pv i σ' H' → Ex H H')
    (hs : ∀ i x σ' H', r[i]? = some x → Pv i σ' H' → tu { D with nx := Pv (i + 1), ct := Pv (i + 1), bk := tz D } ((σ'.set j (some (.str (kl x.1)))).set k (some (.int x.2))) H') (hd : ∀ σ' H', Pv r.length σ' H' → tz D σ' H') :
    tSeq (tFor (iList K tl) (gTup K 2 (gCons (gName j) (gCons (gName k) gNil))) tu) tz D σ H := s_forR (D := { D with nx := tz D }) h hr Pv h0 hx hs hd
/-- for k, x in enumerate(xs) -/
theorem q_forE {ta : TA} {xs : List V} (h : ∀ Q : List V → Hp → Prop, (∀ a H1, Ex H H1 → SqL K H1 a xs → Q [.ref a] H1) → ta σ H Q) (Pv : Hp → Nat → Sg → Hp → Prop) (h0 : ∀ H1, Ex H H1 → Pv H1 0 σ H1) (hx : ∀ H1 i σ' H', Ex H H1 → Pv H1 i σ' H' → Ex H1 H')
    (hs : ∀ H1 i x σ' H' T, Ex H H1 → xs[i]? = some x → Pv H1 i σ' H' → H' T = none → g (.ref T) σ' (upd H' T (.tup [.int (i : Nat), x])) fun σ2 H2 => tu { D with nx := Pv H1 (i + 1), ct := Pv H1 (i + 1), bk := tz D } σ2 H2) (hd : ∀ H1 σ' H', Ex H H1 → Pv H1 xs.length σ' H' → tz D σ' H') :
    tSeq (tFor (iEnum K ta) g tu) tz D σ H := by
  refine h _ fun a H1 e1 ha => ⟨a, xs, rfl, ha, fun i m σ' H' => m = xs.length - i ∧ i ≤ xs.length ∧ Pv H1 i σ' H', ⟨xs.length, by simp, Nat.zero_le _, h0 H1 e1⟩, ?_⟩
  rintro i m σ' H' ⟨rfl, hi, p⟩
  have q := ex_l (hx H1 i σ' H' e1 p) ha
  by_cases hlt : i < xs.length
  · refine .inr ⟨⟨xs, xs[i], q, List.getElem?_eq_getElem hlt⟩, Pv H1 (i + 1), fun σ' H' p' => ⟨xs.length - (i + 1), by omega, rfl, hlt, p'⟩, fun x H'' hy => ?_⟩
    obtain ⟨T, x', rfl, nT, rfl, f1⟩ := hy
    exact hs H1 i x' σ' H' T e1 (f1 xs q) p nT
  · have ei : i = xs.length := by omega
    subst ei
    exact .inl ⟨⟨xs, q, Nat.le_refl _⟩, hd H1 σ' H' e1 p⟩
/-- over a tuple just made -/
theorem s_forU {xs : List V} {tl : TE} {j : Nat} (h : EvU tl σ H xs) (Pv : Hp → Nat → Sg → Hp → Prop) (h0 : ∀ H1, Ex H H1 → Pv H1 0 σ H1) (hx : ∀ H1 i σ' H', Ex H H1 → Pv H1 i σ' H' → Ex H1 H')
    (hs : ∀ H1 i x σ' H', Ex H H1 → xs[i]? = some x → Pv H1 i σ' H' → tu { D with nx := Pv H1 (i + 1), ct := Pv H1 (i + 1), bk := D.nx } (σ'.set j (some x)) H') (hd : ∀ H1 σ' H', Ex H H1 → Pv H1 xs.length σ' H' → D.nx σ' H') : tFor (iTup K tl) (gName j) tu D σ H :=
  h H (Ex.refl H) _ fun p H1 hp e1 hP => ⟨p, rfl, ⟨xs, st_of hP⟩, for_tup (K := K) (a := p) (xs := xs) (Pv H1) (h0 H1 e1) (fun i σ' H' _ q => ex_t (hx H1 i σ' H' e1 q) (st_of hP)) (fun i x σ' H' hi q => hs H1 i x σ' H' e1 hi q) (fun σ' H' q => hd H1 σ' H' e1 q)⟩
theorem q_forU {xs : List V} {tl : TE} {j : Nat} (h : EvU tl σ H xs) (Pv : Hp → Nat → Sg → Hp → Prop) (h0 : ∀ H1, Ex H H1 → Pv H1 0 σ H1) (hx : ∀ H1 i σ' H', Ex H H1 → Pv H1 i σ' H' → Ex H1 H')
    (hs : ∀ H1 i x σ' H', Ex H H1 → xs[i]? = some x → Pv H1 i σ' H' → tu { D with nx := Pv H1 (i + 1), ct := Pv H1 (i + 1), bk := tz D } (σ'.set j (some x)) H') (hd : ∀ H1 σ' H', Ex H H1 → Pv H1 xs.length σ' H' → tz D σ' H') : tSeq (tFor (iTup K tl) (gName j) tu) tz D σ H :=
  s_forU (D := { D with nx := tz D }) h Pv h0 hx hs hd
end
/-! ### comprehensions over a ring -/
theorem given_map {α : Type} (r : List α) (p : α → Bool) (w : α → V) (f : Nat → Bool) (v : Nat → V) (hf : ∀ i x, r[i]? = some x → f i = p x ∧ v i = w x) : given r.length f v = (r.filter p).map w := by
  have key : ∀ n, n ≤ r.length → given n f v = ((r.take n).filter p).map w := by
    intro n
    induction n with
    | zero => exact fun _ => rfl
    | succ n ih =>
      intro hn
      have hx := List.getElem?_eq_getElem (l := r) (i := n) (by omega)
      obtain ⟨h1, h2⟩ := hf n _ hx
      rw [List.take_add_one, hx, List.filter_append, List.map_append, ← ih (by omega)]
      cases hp : p r[n] with
      | true =>
        rw [given_yes (h1.trans hp), h2]
        simp [hp]
      | false =>
        rw [given_no (h1.trans hp)]
        simp [hp]
  rw [key r.length (Nat.le_refl _), List.take_length]
section
variable {K : PySem.W.Frag} {σ : Sg} {H H' : Hp} {ta tb te tx : TE} {t u : TT} {r : Ring}
theorem el_lcRing {a : Addr} {tl : TE} {j k : Nat} {vs : List Nat} (p : Bool × Int → Bool) (w : Bool × Int → V) (h : Ev tl σ H (.ref a)) (hr : RingAt K H a r) (hz : r.length ≤ 40000)
    (hw : ∀ x y, wipe (((wipe σ vs).set j (some x)).set k (some y)) vs = wipe σ vs)
    (ht : ∀ x H1, x ∈ r → Ex H H1 → EvT t (((wipe σ vs).set j (some (.str (kl x.1)))).set k (some (.int x.2))) H1 (p x)) (he : ∀ x H1, x ∈ r → Ex H H1 → p x = true → Ev te (((wipe σ vs).set j (some (.str (kl x.1)))).set k (some (.int x.2))) H1 (w x)) :
    EvL (tLc (iList K tl) (gTup K 2 (gCons (gName j) (gCons (gName k) gNil))) t te vs) σ H ((r.filter p).map w) := by
  intro H0 e Q q
  refine h H0 e _ fun H1 e1 => ?_
  obtain ⟨xs, hxs, hit⟩ := hr.mono (e.trans e1)
  have hE : Ex H H1 := e.trans e1
  refine ⟨a, rfl, ⟨xs, hxs⟩, fun Dl hD => ?_⟩
  obtain ⟨f, v, hf⟩ : ∃ (f : Nat → Bool) (v : Nat → V), ∀ i x, r[i]? = some x → f i = p x ∧ v i = w x :=
    ⟨fun i => match r[i]? with | some x => p x | none => false, fun i => match r[i]? with | some x => w x | none => V.non, fun i x hx => by
      simp only [hx, and_self]⟩
  have eg := given_map r p w f v hf
  refine lc_list (xs := xs) (Cw H1 f v Dl) ⟨hD, Ex.new hD, upd_same⟩ (fun i H' _ q => ex_l q.2.1 hxs) (fun i v H' hv q => ?_) (fun H' q2 => ?_)
  · have hi : i < r.length := by
      rw [← hit.1]
      exact (List.getElem?_eq_some_iff.mp hv).1
    have ex := List.getElem?_eq_getElem hi
    obtain ⟨tt, ev, hT⟩ := hit.2 i v _ hv ex
    refine ⟨tt, _, ev, ex_t q.2.1 hT, rfl, _, _, rfl, _, _, rfl, rfl, hw _ _, ?_⟩
    obtain ⟨f1, f2⟩ := hf i _ ex
    refine cw_turn q (by omega) ?_ (fun hfi => ?_)
    · rw [f1]
      exact ht _ H1 (mem_at ex) hE
    · rw [f2]
      exact he _ H1 (mem_at ex) hE (f1 ▸ hfi)
  · have q3 := q2.2.2
    rw [hit.1, eg] at q3
    exact q Dl H' (fresh_back e1 q2.1) (e1.trans q2.2.1) q3
theorem ev_sum {ns : List Int} {xs : List V} (ha : EvL ta σ H xs) (e : xs = ns.map V.int) : Ev (tCB (rSum K) (tCons ta tNil)) σ H (.int ns.sum) := fun H1 e1 Q q =>
  ha H1 e1 _ fun p H2 _ e2 h2 => ⟨p, ns, rfl, sq_of (e ▸ h2), q H2 e2⟩
end

/-! ### isinstance -/
section
variable {K : PySem.W.Frag} {σ : Sg} {H H' : Hp} {ta tb te tx : TE} {x y z v : V} {a : Addr} {xs : List V}
theorem tyL (h : SqL K H a xs) : TyX K H (.ref a) (.type "list") := by
  rcases h with (h | ⟨o, h⟩) | ⟨o, its, n, hk, hc, _⟩
  · exact .base (.lst h)
  · exact .base (.frz h)
  · exact .kList hk hc
theorem tyT (h : SqT K H a xs) : TyX K H (.ref a) (.type "tuple") := by
  rcases h with (h | ⟨o, h⟩) | ⟨o, its, n, hk, hc, _⟩
  · exact .base (.tup h)
  · exact .fTuple h
  · exact .kTuple hk hc
theorem ev_isi {c d : String} {b : Bool} (ha : Ev ta σ H x) (ht : ∀ H1, Ex H H1 → TyX K H1 x (.type d)) (hk : kitB d c = some b) : Ev (tCB (rIsi K) (tCons ta (tCons (tC (.ty c)) tNil))) σ H (.bl b) :=
  fun H1 e Q q => ha H1 e _ fun H2 e2 => ⟨x, .ty c, .type d, .type c, b, rfl, .ty c, ht H2 (e.trans e2), kit_ty hk, q H2 e2⟩
theorem ev_isInt {c : String} {n : Int} {b : Bool} (ha : Ev ta σ H (.int n)) (hk : kitB "int" c = some b) : Ev (tCB (rIsi K) (tCons ta (tCons (tC (.ty c)) tNil))) σ H (.bl b) := ev_isi ha (fun _ _ => .base (.int n)) hk
theorem ev_isStr {c : String} {s : Str} {b : Bool} (ha : Ev ta σ H (.str s)) (hk : kitB "str" c = some b) : Ev (tCB (rIsi K) (tCons ta (tCons (tC (.ty c)) tNil))) σ H (.bl b) := ev_isi ha (fun _ _ => .base (.str s)) hk
theorem ev_lenT (ha : Ev ta σ H (.ref a)) (h : SqT K H a xs) : Ev (tCB (rLenS K) (tCons ta tNil)) σ H (.int (xs.length : Int)) := fun H1 e Q q =>
  ha H1 e _ fun H2 e2 => ⟨a, xs, rfl, Or.inr (ex_t (e.trans e2) h), q H2 e2⟩
theorem rc_min2 {i j : Int} : RC rMin2 [.int i, .int j] H (.int (if j < i then j else i)) := fun H1 _ _ q => ⟨i, j, rfl, q H1 (Ex.refl H1)⟩
theorem eu_dm {ta : TA} {i j : Int} (h : EvA ta σ H [.int i, .int j]) (hc : CDivP i j) : EvU (tCB rDm ta) σ H [.int (i / j), .int (i % j)] := fun H1 e _ q =>
  h H1 e _ fun H2 e2 => ⟨i, j, rfl, hc, fun p hp => q p _ (fresh_back e2 hp) (e2.trans (Ex.new hp)) upd_same⟩
end
/-- rings that the program is asked of: some stretches, none too long -/
structure Good (r : Ring) : Prop where
  ne : r ≠ []
  len : r.length ≤ 200
  pos : Pos r
  top : ∀ x ∈ r, x.2 < 2 ^ 200
theorem Good.size {r : Ring} (g : Good r) : 1 ≤ sizeR r := size_pos g.pos g.ne
theorem Good.sizeTop {r : Ring} (g : Good r) : sizeR r < 2 ^ 208 := by
  have h := size_bound (B := 2 ^ 200) (r := r) fun x hx => Int.le_of_lt (g.top x hx)
  have h2 : (r.length : Int) * 2 ^ 200 ≤ 200 * 2 ^ 200 := Int.mul_le_mul_of_nonneg_right (by have := g.len; omega) (by decide)
  have h3 : (200 : Int) * 2 ^ 200 < 2 ^ 208 := by decide
  omega
/-! ### sizes of numbers, in bits, never reckoned out -/
def Bt (n : Nat) (z : Int) : Prop := z.natAbs < 2 ^ n
theorem Bt.of {n : Nat} {z : Int} (h : Builtin.Int.intBits z ≤ n) : Bt n z := by
  unfold Builtin.Int.intBits at h
  unfold Bt
  by_cases hz : z = 0
  · subst hz
    exact Nat.two_pow_pos n
  · rw [if_neg (by simpa using hz)] at h
    have hn : z.natAbs ≠ 0 := by omega
    exact (Nat.log2_lt hn).mp (by omega)
theorem Bt.mono {n m : Nat} {z : Int} (h : Bt n z) (hl : n ≤ m) : Bt m z := Nat.lt_of_lt_of_le h (Nat.pow_le_pow_right (by decide) hl)
theorem Bt.add {n : Nat} {x y : Int} (h : Bt n x) (h' : Bt n y) : Bt (n + 1) (x + y) := by
  unfold Bt at *
  rw [Nat.pow_succ]
  have := Int.natAbs_add_le x y
  omega
theorem Bt.mul {n m : Nat} {x y : Int} (h : Bt n x) (h' : Bt m y) : Bt (n + m) (x * y) := wide_lt h h'
theorem Bt.small {n : Nat} {z : Int} (k : Nat) (h0 : 0 ≤ z) (h : z < 2 ^ k) (hl : k ≤ n) : Bt n z := by
  refine Bt.mono (n := k) ?_ hl
  unfold Bt
  have e : ((2 ^ k : Nat) : Int) = (2 : Int) ^ k := by simp
  omega
theorem Bt.mulx {n m : Nat} {x y : Int} (h : Bt n x) (h' : Bt m y) (hl : n + m ≤ 134217728) : CMulX x y := mulx_ok h h' hl

/-! ### rings as data -/
def datR (r : Ring) : PyData := .list (r.map fun x => PyData.tuple [.str (kl x.1), .int x.2])
theorem dat_all (r : Ring) : PyData.canLayAll0 (r.map fun x => PyData.tuple [.str (kl x.1), .int x.2]) = true := by
  induction r with
  | nil => rfl
  | cons x r ih =>
    rw [List.map_cons, PyData.canLayAll0, ih]
    have h : ∀ b, (PyData.tuple [.str (kl b), .int x.2]).canLay0 = true := fun b => by
      cases b <;> simp [PyData.canLay0, PyData.canLayAll0] <;> decide +kernel
    rw [h]
    rfl
theorem dat_depth (r : Ring) : PyData.depthAll (r.map fun x => PyData.tuple [.str (kl x.1), .int x.2]) ≤ 1 := by
  induction r with
  | nil => exact Nat.zero_le _
  | cons x r ih =>
    rw [List.map_cons, PyData.depthAll]
    have h : (PyData.tuple [.str (kl x.1), .int x.2]).depth = 1 := by simp [PyData.depth, PyData.depthAll]
    rw [h]
    omega
theorem dat_shaped (r : Ring) : SeqAt.shaped (datR r) = true := by
  unfold SeqAt.shaped datR
  rw [PyData.canLay0, dat_all, PyData.depth]
  have := dat_depth r
  simp
  omega
theorem dat_refl (r : Ring) : PyData.eqv (datR r) (datR r) = true := PySem.SeqAt.eqv_refl _ (by unfold datR; rw [PyData.canLay0]; exact dat_all r)
theorem dat_nil (r : Ring) : PyData.eqv (datR r) (.list []) = decide (r = []) := by
  cases r with
  | nil => simp [datR, PyData.eqv, PyData.eqvAll]
  | cons x r => simp [datR, PyData.eqv, PyData.eqvAll]
section
variable {K : PySem.W.Frag} {H H' : Hp} {a : Addr} {r : Ring} {vs : List V}
theorem dp_all : ∀ {vs : List V} {r : Ring}, Items K H vs r → DpAll K H vs (r.map fun x => PyData.tuple [.str (kl x.1), .int x.2])
  | [], [], _ => .nil
  | [], x :: r, h => by
    have := h.1
    simp at this
  | v :: vs, [], h => by
    have := h.1
    simp at this
  | v :: vs, x :: r, h => by
    obtain ⟨t, e, ht⟩ := h.2 0 v x rfl rfl
    subst e
    exact .cons (.tup ht (.cons (.str _) (.cons (.int _) .nil))) (dp_all ⟨by have := h.1; simpa using this, fun i v x h1 h2 => h.2 (i + 1) v x h1 h2⟩)
theorem dp_ring (h : RingAt K H a r) : Dp K H (.ref a) (datR r) := by
  obtain ⟨vs, h1, h2⟩ := h
  exact .lst h1 (dp_all h2)
end

/-! ### cuts of lists -/
theorem cut_none (xs : List V) (n : Nat) : cutV xs none (some (n : Int)) = xs.take n := by
  unfold cutV
  rw [HT.sIx_none, HT.sIx_nat, List.drop_zero, Nat.sub_zero, List.take_eq_take_iff]
  omega
theorem cut_from (xs : List V) (n : Nat) : cutV xs (some (n : Int)) none = xs.drop n := by
  unfold cutV
  rw [HT.sIx_none, HT.sIx_nat]
  by_cases h : n ≤ xs.length
  · rw [Nat.min_eq_left h, List.take_of_length_le (by rw [List.length_drop]; omega)]
  · rw [Nat.min_eq_right (by omega), Nat.sub_self, List.drop_eq_nil_of_le (show xs.length ≤ n by omega)]
    rfl
/-! ### an item of a table of numbers -/
theorem atI_getD (ps : List Int) {i : Int} (h0 : 0 ≤ i) (h1 : i < ps.length) : atI (ps.map V.int) i = some (.int (ps.getD i.toNat 0)) := by
  have hi : i.toNat < ps.length := by omega
  refine at_of (j := i.toNat) (by omega) ?_
  rw [List.getElem?_map, List.getD_eq_getElem?_getD, List.getElem?_eq_getElem hi]
  rfl
theorem getD_mem {ps : List Int} {i : Int} (h0 : 0 ≤ i) (h1 : i < ps.length) : ps.getD i.toNat 0 ∈ ps := by
  have hi : i.toNat < ps.length := by omega
  rw [List.getD_eq_getElem?_getD, List.getElem?_eq_getElem hi]
  exact List.getElem_mem hi

/-! ### more loops and values -/
section
variable {K : PySem.W.Frag} {σ : Sg} {H H0 H' : Hp} {ta tb te tx : TE} {t u : TT} {x y z v : V} {D : Ends} {tu tw tz : TS} {g : TG} {P P' : V → Hp → Prop} {r : Ring}
theorem s_forR' {a : Addr} {tl : TE} {j k : Nat} (e0 : Ex H0 H) (h : Ev tl σ H (.ref a)) (hr : RingAt K H0 a r) (Pv : Nat → Sg → Hp → Prop) (h0 : ∀ H1, Ex H H1 → Pv 0 σ H1) (hx : ∀ i σ' H', Pv i σ' H' → Ex H0 H')
    (hs : ∀ i x σ' H', r[i]? = some x → Pv i σ' H' → tu { D with nx := Pv (i + 1), ct := Pv (i + 1), bk := D.nx } ((σ'.set j (some (.str (kl x.1)))).set k (some (.int x.2))) H') (hd : ∀ σ' H', Pv r.length σ' H' → D.nx σ' H') :
    tFor (iList K tl) (gTup K 2 (gCons (gName j) (gCons (gName k) gNil))) tu D σ H := by
  obtain ⟨vs, hvs, hit⟩ := hr
  refine s_forL h (ex_l e0 hvs) Pv h0 (fun i σ' H' _ p => ex_l (hx i σ' H' p) hvs) (fun i v σ' H' hv p => ?_) (by rw [hit.1]; exact hd)
  have hi : i < r.length := by
    rw [← hit.1]
    exact (List.getElem?_eq_some_iff.mp hv).1
  have ex := List.getElem?_eq_getElem hi
  obtain ⟨t, e, ht⟩ := hit.2 i v _ hv ex
  refine ⟨t, _, e, ex_t (hx i σ' H' p) ht, rfl, _, _, rfl, _, _, rfl, rfl, ?_⟩
  exact hs i _ σ' H' ex p
theorem q_forR' {a : Addr} {tl : TE} {j k : Nat} (e0 : Ex H0 H) (h : Ev tl σ H (.ref a)) (hr : RingAt K H0 a r) (Pv : Nat → Sg → Hp → Prop) (h0 : ∀ H1, Ex H H1 → Pv 0 σ H1) (hx : ∀ i σ' H', Pv i σ' H' → Ex H0 H')
    (hs : ∀ i x σ' H', r[i]? = some x → Pv i σ' H' → tu { D with nx := Pv (i + 1), ct := Pv (i + 1), bk := tz D } ((σ'.set j (some (.str (kl x.1)))).set k (some (.int x.2))) H') (hd : ∀ σ' H', Pv r.length σ' H' → tz D σ' H') :
    tSeq (tFor (iList K tl) (gTup K 2 (gCons (gName j) (gCons (gName k) gNil))) tu) tz D σ H := s_forR' (D := { D with nx := tz D }) e0 h hr Pv h0 hx hs hd
/-- a, b = [..], [..] -/
theorem q_parLL {i j : Nat} {ta tb : TE} {xs ys : List V} (ha : EvL ta σ H xs) (hb : ∀ H1, Ex H H1 → EvL tb σ H1 ys) (k : ∀ p q H2, H p = none → H q = none → p ≠ q → Ex H H2 → H2 p = some (.lst xs) → H2 q = some (.lst ys) → tz D ((σ.set i (some (.ref p))).set j (some (.ref q))) H2) :
    tSeq (tPar i j (tCons ta (tCons tb tNil))) tz D σ H :=
  ha H (Ex.refl H) _ fun p H1 hp e1 h1 => hb H1 e1 H1 (Ex.refl H1) _ fun q H2 hq e2 h2 => ⟨.ref p, .ref q, rfl, k p q H2 hp (fresh_back e1 hq) (ne_of_none h1 hq) (e1.trans e2) (e2 _ _ h1) h2⟩
theorem ev_ifI {b : Bool} {i j : Int} (h : EvT t σ H b) (h1 : b = true → Ev ta σ H (.int i)) (h2 : b = false → Ev tb σ H (.int j)) : Ev (tIf t ta tb) σ H (.int (if b = true then i else j)) := by
  refine ev_if h (fun hb => ?_) (fun hb => ?_)
  · rw [if_pos hb]
    exact h1 hb
  · rw [if_neg (by rw [hb]; decide)]
    exact h2 hb
/-- sep.join(list of texts) -/
def tJoin (K : PySem.W.Frag) (to te : TE) : TE := tM1 (fun x xs H Q => ∃ a p, ∃ ys : List Str, x = .str a ∧ xs = [.ref p] ∧ (SqL K H p (ys.map V.str) ∨ SqT K H p (ys.map V.str)) ∧ (ys.map (·.length)).sum + ys.length * a.length ≤ 16777216 ∧ Q (.str (Txt.join a ys)) H) to te
theorem ev_join {to : TE} {s : Str} {ys : List Str} {xs : List V} (ho : Ev to σ H (.str s)) (he : EvL te σ H xs) (e : xs = ys.map V.str) (hz : (ys.map (·.length)).sum + ys.length * s.length ≤ 16777216) : Ev (tJoin K to te) σ H (.str (Txt.join s ys)) := fun H1 e1 Q q =>
  ho H1 e1 _ fun H2 e2 => ⟨⟨s, rfl⟩, he H2 (e1.trans e2) _ fun p H3 _ e3 h3 => ⟨s, p, ys, rfl, rfl, .inl (sq_of (e ▸ h3)), hz, q H3 (e2.trans e3)⟩⟩
end
section
variable {X : Cx} {o e : Expr} {to te : TE} {apos pos : PySem.Pos}
theorem pe_joinN (ho : PE X o to) (he : PE X e te) (hs : starEach [e] X.env = [(false, eval e X.env)] := by rfl) (hbase : attributeBase o "join" X.env (eval o X.env) = eval o X.env := by rfl) (hline : (apos.endLine == pos.line) = true := by rfl) :
    PE X (.Call (.Attribute o "join" apos) [e] [] pos) (tJoin X.K to te) := pe_join ho he hs hbase hline
end
/-! ### tables -/
def endsTo (r : Ring) (n : Nat) : List V := (List.range (n + 1)).map fun j => V.int (sizeR (r.take j))
def sumsTo (r : Ring) (n : Nat) : List V := (List.range (n + 1)).map fun j => V.int (cntA (r.take j))
theorem ends_succ (r : Ring) (n : Nat) : endsTo r (n + 1) = endsTo r n ++ [V.int (sizeR (r.take (n + 1)))] := by
  unfold endsTo
  rw [List.range_succ (n := n + 1), List.map_append]
  rfl
theorem sums_succ (r : Ring) (n : Nat) : sumsTo r (n + 1) = sumsTo r n ++ [V.int (cntA (r.take (n + 1)))] := by
  unfold sumsTo
  rw [List.range_succ (n := n + 1), List.map_append]
  rfl
theorem ends_last (r : Ring) (n : Nat) : atI (endsTo r n) (-1) = some (V.int (sizeR (r.take n))) := by
  unfold endsTo
  rw [List.range_succ, List.map_append]
  exact atI_last _ _
theorem sums_last (r : Ring) (n : Nat) : atI (sumsTo r n) (-1) = some (V.int (cntA (r.take n))) := by
  unfold sumsTo
  rw [List.range_succ, List.map_append]
  exact atI_last _ _
theorem ends_len (r : Ring) (n : Nat) : (endsTo r n).length = n + 1 := by
  unfold endsTo
  rw [List.length_map, List.length_range]
theorem sums_len (r : Ring) (n : Nat) : (sumsTo r n).length = n + 1 := by
  unfold sumsTo
  rw [List.length_map, List.length_range]
theorem ends_at (r : Ring) {n i : Nat} (h : i ≤ n) : atI (endsTo r n) (i : Int) = some (V.int (sizeR (r.take i))) := by
  refine atI_nat ?_
  unfold endsTo
  rw [List.getElem?_map, List.getElem?_range (by omega)]
  rfl
theorem sums_at (r : Ring) {n i : Nat} (h : i ≤ n) : atI (sumsTo r n) (i : Int) = some (V.int (cntA (r.take i))) := by
  refine atI_nat ?_
  unfold sumsTo
  rw [List.getElem?_map, List.getElem?_range (by omega)]
  rfl
def IsTab (K : PySem.W.Frag) (r : Ring) : V → Hp → Prop := fun v H => ∃ t a b, v = .ref t ∧ SqT K H t [.ref a, .ref b] ∧ SqL K H a (endsTo r r.length) ∧ SqL K H b (sumsTo r r.length)
theorem IsTab.mono {K : PySem.W.Frag} {r : Ring} {v : V} {H H' : Hp} (e : Ex H H') (h : IsTab K r v H) : IsTab K r v H' := by
  obtain ⟨t, a, b, e1, h1, h2, h3⟩ := h
  exact ⟨t, a, b, e1, ex_t e h1, ex_l e h2, ex_l e h3⟩
/-! ### new lists whose items are told -/
def EvF (K : PySem.W.Frag) (te : TE) (σ : Sg) (H : Hp) (r : Ring) : Prop := ∀ H1, Ex H H1 → ∀ Q : VK, (∀ p vs H2, H1 p = none → Ex H1 H2 → H2 p = some (.lst vs) → Items K H2 vs r → Q (.ref p) H2) → te σ H1 Q
def EvI (K : PySem.W.Frag) (ta : TA) (σ : Sg) (H : Hp) (r : Ring) : Prop := ∀ H1, Ex H H1 → ∀ Q : List V → Hp → Prop, (∀ vs H2, Ex H1 H2 → Items K H2 vs r → Q vs H2) → ta σ H1 Q
section
variable {K : PySem.W.Frag} {σ : Sg} {H H0 H' : Hp} {ta tb te tx : TE} {t u : TT} {x y z v : V} {D : Ends} {tu tw tz : TS} {g : TG} {P P' : V → Hp → Prop} {r r' : Ring} {vs : List V} {a l : Addr} {tr : TA}
theorem EvF.mono (e : Ex H H') (h : EvF K te σ H r) : EvF K te σ H' r := fun H1 a Q q => h H1 (e.trans a) Q q
theorem ei_nil : EvI K tNil σ H [] := fun H1 _ _ q => q [] H1 (Ex.refl H1) Items.nil
theorem ei_cons {b : Bool} {n : Int} (h : EvU te σ H [.str (kl b), .int n]) (hr : EvI K tr σ H r) : EvI K (tCons te tr) σ H ((b, n) :: r) := fun H1 e Q q =>
  h H1 e _ fun p H2 hp e2 h2 => hr H2 (e.trans e2) _ fun vs H3 e3 hi => q _ H3 (e2.trans e3) ((Items.one (x := (b, n)) ⟨p, rfl, st_of (e3 _ _ h2)⟩).append hi)
theorem ef_lst (h : EvI K tr σ H r) (hl : r.length ≤ 100000) : EvF K (tLst tr) σ H r := fun H1 e Q q =>
  h H1 e _ fun vs H2 e2 hi => ⟨sz_of (by rw [hi.1]; exact hl), fun p hp => q p vs _ (fresh_back e2 hp) (e2.trans (Ex.new hp)) upd_same (hi.mono (Ex.new hp))⟩
theorem ef_cat (ha : Ev ta σ H (.ref l)) (hl : H l = some (.lst vs)) (hi : Items K H vs r) (hb : EvF K tb σ H r') (hz : r.length + r'.length ≤ 100000) : EvF K (tOp rCat ta tb) σ H (r ++ r') := fun H1 e Q q =>
  ha H1 e _ fun H2 e2 => hb H2 (e.trans e2) _ fun b ws H3 nb e3 hb hj =>
    ⟨l, b, vs, ws, rfl, rfl, (e.trans (e2.trans e3)) _ _ hl, hb, sz_of (by rw [hi.1, hj.1]; exact hz), fun p hp => q p _ _ (fresh_back (e2.trans e3) hp) ((e2.trans e3).trans (Ex.new hp)) upd_same ((hi.mono ((e.trans (e2.trans e3)).trans (Ex.new hp))).append (hj.mono (Ex.new hp)))⟩
theorem ef_cat2 (ha : EvF K ta σ H r) (hb : EvF K tb σ H r') (hz : r.length + r'.length ≤ 100000) : EvF K (tOp rCat ta tb) σ H (r ++ r') := fun H1 e Q q =>
  ha H1 e _ fun l vs H2 nl e2 hl hi => hb H2 (e.trans e2) _ fun b ws H3 nb e3 hb hj =>
    ⟨l, b, vs, ws, rfl, rfl, e3 _ _ hl, hb, sz_of (by rw [hi.1, hj.1]; exact hz), fun p hp => q p _ _ (fresh_back (e2.trans e3) hp) ((e2.trans e3).trans (Ex.new hp)) upd_same ((hi.mono (e3.trans (Ex.new hp))).append (hj.mono (Ex.new hp)))⟩
theorem ef_from {n : Nat} {tl : TE} (h : Ev te σ H (.ref a)) (hn : Ev tl σ H (.int (n : Int))) (hR : RingAt K H a r) : EvF K (tSl (rSlL K) te (tPart tl) tNoPart) σ H (r.drop n) := fun H1 e Q q => by
  obtain ⟨vs, h1, h2⟩ := hR
  refine el_sl (xs := vs) (lo := some (n : Int)) (hi := none) h (eo_some hn) eo_none h1 H1 e Q fun p H2 hp e2 hl => q p _ H2 hp e2 hl ?_
  rw [cut_from]
  exact (h2.drop n).mono (e.trans e2)
theorem ef_to {n : Nat} {tl : TE} (h : Ev te σ H (.ref a)) (hn : Ev tl σ H (.int (n : Int))) (hR : RingAt K H a r) : EvF K (tSl (rSlL K) te tNoPart (tPart tl)) σ H (r.take n) := fun H1 e Q q => by
  obtain ⟨vs, h1, h2⟩ := hR
  refine el_sl (xs := vs) (lo := none) (hi := some (n : Int)) h eo_none (eo_some hn) h1 H1 e Q fun p H2 hp e2 hl => q p _ H2 hp e2 hl ?_
  rw [cut_none]
  exact (h2.take n).mono (e.trans e2)
theorem ef_list (h : Ev te σ H (.ref a)) (hR : RingAt K H a r) : EvF K (tCB (rListS K) (tCons te tNil)) σ H r := fun H1 e Q q => by
  obtain ⟨vs, h1, h2⟩ := hR
  exact el_list h h1 H1 e Q fun p H2 hp e2 hl => q p _ H2 hp e2 hl (h2.mono (e.trans e2))
theorem ep_F (h : EvF K te σ H r) : EvP te σ H (IsRing K r) := fun H1 e Q q => h H1 e Q fun p vs H2 _ e2 hl hi => q _ H2 e2 ⟨p, rfl, vs, sq_of hl, hi⟩
theorem q_asgF {i : Nat} (h : EvF K te σ H r) (k : ∀ p vs H1, H p = none → Ex H H1 → H1 p = some (.lst vs) → Items K H1 vs r → tz D (σ.set i (some (.ref p))) H1) : tSeq (tAsg te (gName i)) tz D σ H := h H (Ex.refl H) _ k
theorem s_asgF {i : Nat} (h : EvF K te σ H r) (k : ∀ p vs H1, H p = none → Ex H H1 → H1 p = some (.lst vs) → Items K H1 vs r → D.nx (σ.set i (some (.ref p))) H1) : tAsg te (gName i) D σ H := h H (Ex.refl H) _ k
/-- for k, x in enumerate(xs): what holds of the list and the heap is told at the start -/
theorem q_forG {ta : TA} {xs : List V} (F : Addr → Hp → Prop) (h : ∀ Q : List V → Hp → Prop, (∀ a H1, F a H1 → Q [.ref a] H1) → ta σ H Q) (Pv : Addr → Nat → Sg → Hp → Prop) (h0 : ∀ a H1, F a H1 → Pv a 0 σ H1) (hl : ∀ a i σ' H', Pv a i σ' H' → SqL K H' a xs)
    (hs : ∀ a i x σ' H' T, xs[i]? = some x → Pv a i σ' H' → H' T = none → g (.ref T) σ' (upd H' T (.tup [.int (i : Nat), x])) fun σ2 H2 => tu { D with nx := Pv a (i + 1), ct := Pv a (i + 1), bk := tz D } σ2 H2) (hd : ∀ a σ' H', Pv a xs.length σ' H' → tz D σ' H') :
    tSeq (tFor (iEnum K ta) g tu) tz D σ H := by
  refine h _ fun a H1 hF => ⟨a, xs, rfl, hl a 0 σ H1 (h0 a H1 hF), fun i m σ' H' => m = xs.length - i ∧ i ≤ xs.length ∧ Pv a i σ' H', ⟨xs.length, by simp, Nat.zero_le _, h0 a H1 hF⟩, ?_⟩
  rintro i m σ' H' ⟨rfl, hi, p⟩
  have q := hl a i σ' H' p
  by_cases hlt : i < xs.length
  · refine .inr ⟨⟨xs, xs[i], q, List.getElem?_eq_getElem hlt⟩, Pv a (i + 1), fun σ' H' p' => ⟨xs.length - (i + 1), by omega, rfl, hlt, p'⟩, fun x H'' hy => ?_⟩
    obtain ⟨T, x', rfl, nT, rfl, f1⟩ := hy
    exact hs a i x' σ' H' T (f1 xs q) p nT
  · have ei : i = xs.length := by omega
    subst ei
    exact .inl ⟨⟨xs, q, Nat.le_refl _⟩, hd a σ' H' p⟩
/-- tuples stand where a list is written -/
theorem sqT_upd {t l : Addr} {xs ys : List V} {o : HO} (h : SqT K H t xs) (hl : H l = some (.lst ys)) : SqT K (upd H l o) t xs := by
  rcases h with (h | ⟨ob, h⟩) | h
  · refine .inl (.inl ?_)
    rw [upd_ne (ne_of h hl (by intro z; cases z))]
    exact h
  · refine .inl (.inr ⟨ob, ?_⟩)
    rw [upd_ne (ne_of h hl (by intro z; cases z))]
    exact h
  · exact .inr h
theorem Items.upd {ys : List V} {o : HO} (h : Items K H vs r) (hl : H l = some (.lst ys)) : Items K (upd H l o) vs r := ⟨h.1, fun i v x h1 h2 => by
  obtain ⟨t, e, ht⟩ := h.2 i v x h1 h2
  exact ⟨t, e, sqT_upd ht hl⟩⟩
/-- a letter of a written text -/
theorem ev_ab {ti : TE} {n : Int} (h : Ev ti σ H (.int (n % 2))) : Ev (tOp rIxS (tC (.str "ab")) ti) σ H (.str (kl (decide (n % 2 = 0)))) := by
  have h0 := Int.emod_nonneg n (show (2 : Int) ≠ 0 by decide)
  have h1 := Int.emod_lt_of_pos n (show (0 : Int) < 2 by decide)
  generalize n % 2 = k at *
  have hk : k = 0 ∨ k = 1 := by omega
  rcases hk with rfl | rfl
  · exact ev_is (ev_op ev_c h (rv_ixS (c := 97) (by decide +kernel) (by decide +kernel))) (by decide +kernel)
  · exact ev_is (ev_op ev_c h (rv_ixS (c := 98) (by decide +kernel) (by decide +kernel))) (by decide +kernel)
theorem ev_aab {ti : TE} {n : Int} (h : Ev ti σ H (.int (n % 3))) : Ev (tOp rIxS (tC (.str "aab")) ti) σ H (.str (kl (decide (n % 3 ≠ 2)))) := by
  have h0 := Int.emod_nonneg n (show (3 : Int) ≠ 0 by decide)
  have h1 := Int.emod_lt_of_pos n (show (0 : Int) < 3 by decide)
  generalize n % 3 = k at *
  have hk : k = 0 ∨ k = 1 ∨ k = 2 := by omega
  rcases hk with rfl | rfl | rfl
  · exact ev_is (ev_op ev_c h (rv_ixS (c := 97) (by decide +kernel) (by decide +kernel))) (by decide +kernel)
  · exact ev_is (ev_op ev_c h (rv_ixS (c := 97) (by decide +kernel) (by decide +kernel))) (by decide +kernel)
  · exact ev_is (ev_op ev_c h (rv_ixS (c := 98) (by decide +kernel) (by decide +kernel))) (by decide +kernel)
theorem int_eq {i j : Int} : decide (V.int i = V.int j) = decide (i = j) := by
  by_cases h : i = j
  · subst h
    simp
  · rw [decide_eq_false h, decide_eq_false fun z => h (V.int.inj z)]
/-- a ring against an empty list -/
theorem et_neNil (h : Ev te σ H (.ref a)) (hR : RingAt K H a r) : EvT (tTest (tOp (rNeD K) te (tLst tNil))) σ H (!decide (r = [])) := by
  refine et_test (ev_opL (xs := []) h (el_lst ea_nil (by decide)) fun p H1 hp e1 => ?_)
  refine rv_val fun H2 e2 Q q => ⟨datR r, .list [], dp_ring (hR.mono (e1.trans e2)), .lst (sq_of (e2 _ _ hp)) .nil, dat_shaped r, by decide +kernel, ?_⟩
  rw [dat_nil]
  exact q
end
/-! ### small rings and their texts -/
structure Small (r : Ring) : Prop where
  len : r.length ≤ 10
  size : ∀ x ∈ r, 1 ≤ x.2 ∧ x.2 ≤ 3
def rowS (r : Ring) : Str := Txt.join "" (r.map fun x => Txt.mul (kl x.1) x.2)
def codeB (b : Bool) : Nat := if b = true then 97 else 98
theorem three {n : Int} (h : 1 ≤ n ∧ n ≤ 3) : n = 1 ∨ n = 2 ∨ n = 3 := by omega
theorem mul_ok (b : Bool) {n : Int} (h : 1 ≤ n ∧ n ≤ 3) : MulOk (kl b) n := by
  unfold MulOk
  rcases three h with rfl | rfl | rfl <;> cases b <;> decide +kernel
theorem mul_tl (b : Bool) {n : Int} (h : 1 ≤ n ∧ n ≤ 3) : TL.tl (Txt.mul (kl b) n) = List.replicate n.toNat (codeB b) := by
  rcases three h with rfl | rfl | rfl <;> cases b <;> decide +kernel
theorem join_tl (ys : List Str) : TL.tl (Txt.join "" ys) = (ys.map TL.tl).flatten := by
  rw [TL.join_eq, TL.tl_join]
  have e : TL.tl ("" : Str) = [] := by decide +kernel
  rw [e]
  generalize ys.map TL.tl = ps
  induction ps with
  | nil => rfl
  | cons p ps ih =>
    cases ps with
    | nil => simp [TL.joinL]
    | cons q ps =>
      show p ++ ([] ++ TL.joinL [] (q :: ps)) = (p :: q :: ps).flatten
      rw [ih, List.nil_append, List.flatten_cons (l := p)]
theorem row_tl {r : Ring} (h : ∀ x ∈ r, 1 ≤ x.2 ∧ x.2 ≤ 3) : TL.tl (rowS r) = (rowL r).map codeB := by
  unfold rowS
  rw [join_tl]
  induction r with
  | nil => rfl
  | cons x r ih =>
    rw [List.map_cons, List.map_cons, List.flatten_cons, mul_tl x.1 (h x List.mem_cons_self), ih fun y hy => h y (List.mem_cons_of_mem _ hy)]
    show _ = (List.replicate x.2.toNat x.1 ++ rowL r).map codeB
    rw [List.map_append, List.map_replicate]
theorem Small.pos {r : Ring} (h : Small r) : Pos r := fun x hx => (h.size x hx).1
theorem row_len {r : Ring} (h : Small r) : ((rowS r).length : Int) = sizeR r := by
  rw [TL.len_tl, row_tl h.size, List.length_map]
  exact rowL_len h.pos
theorem row_kinds {r : Ring} (h : Small r) : Txt.join "" ((List.range (sizeR r).toNat).map fun (i : Nat) => kl (kindR r (i : Int))) = rowS r := by
  apply TL.ext_tl
  rw [join_tl, row_tl h.size, List.map_map]
  have hl := rowL_len h.pos
  have key : ∀ n, n ≤ (rowL r).length → (((List.range n).map (TL.tl ∘ fun (i : Nat) => kl (kindR r (i : Int)))).flatten) = ((rowL r).take n).map codeB := by
    intro n
    induction n with
    | zero => exact fun _ => rfl
    | succ n ih =>
      intro hn
      rw [List.range_succ, List.map_append, List.flatten_append, ih (by omega), List.take_add_one, rowL_kind h.pos (by omega), List.map_append]
      have : TL.tl (kl (kindR r (n : Int))) = [codeB (kindR r (n : Int))] := by
        cases kindR r (n : Int) <;> decide +kernel
      simp [this]
  rw [show (sizeR r).toNat = (rowL r).length by omega, key _ (Nat.le_refl _), List.take_length]
theorem Small.sum {r : Ring} (h : Small r) : ((r.map fun x => Txt.mul (kl x.1) x.2).map (·.length)).sum ≤ 3 * r.length := by
  have hs := h.size
  clear h
  induction r with
  | nil => exact Nat.le_refl _
  | cons x r ih =>
    have i2 := ih fun y hy => hs y (List.mem_cons_of_mem _ hy)
    have h1 := hs x List.mem_cons_self
    have e : (Txt.mul (kl x.1) x.2).length = x.2.toNat := by
      rw [TL.len_tl, mul_tl x.1 h1, List.length_replicate]
    rw [List.map_cons, List.map_cons, List.sum_cons, e, List.length_cons]
    omega
/-! ### loops over two lists at once, lists of numbers, chains -/
def rMax2' : List V → Hp → VK → Prop := fun xs H Q => ∃ i j, xs = [.int i, .int j] ∧ Q (.int (if j > i then j else i)) H
def rAbs : List V → Hp → VK → Prop := fun xs H Q => ∃ i, xs = [.int i] ∧ Q (.int (if i < 0 then -i else i)) H
def rAddStr : R2 := fun x y H Q => ∃ i j, x = .str i ∧ y = .str j ∧ i.length + j.length ≤ sizeLine ∧ Q (.str (i ++ j)) H
section
variable {X : Cx}
theorem c_max2 (hc : X.calm = true) : CallR X (.builtin "max") rMax2' := call_max2 hc
theorem c_abs : CallR X (.builtin "abs") rAbs := call_abs
theorem op_addS : OpR X (binaryOp .Add) rAddStr := op_add_str
theorem op_inK {K : PySem.W.Frag} (h : X.K = K) : OpR X (compareOp .In) (rIn K false) := h ▸ op_in_seq
theorem ix_listK {K : PySem.W.Frag} (h : X.K = K) : IxR X (rIxL K) := h ▸ ix_list
theorem ix_tupK {K : PySem.W.Frag} (h : X.K = K) : IxR X (rIxT K) := h ▸ ix_tup
theorem c_lenK {K : PySem.W.Frag} (h : X.K = K) : CallR X (.builtin "len") (rLenS K) := h ▸ c_len
theorem c_isiK {K : PySem.W.Frag} (h : X.K = K) : CallR X (.builtin "isinstance") (rIsi K) := h ▸ call_isi
end
section
variable {K : PySem.W.Frag} {σ : Sg} {H H0 H' : Hp} {ta tb te tx tc : TE} {t u : TT} {x y z v : V} {D : Ends} {tu tw tz : TS} {g : TG} {P P' : V → Hp → Prop} {r : Ring} {a b : Addr} {xs ys : List V}
theorem rc_max2 {i j : Int} : RC rMax2' [.int i, .int j] H (.int (if j > i then j else i)) := fun H1 _ _ q => ⟨i, j, rfl, q H1 (Ex.refl H1)⟩
theorem rc_abs {i : Int} : RC rAbs [.int i] H (.int (if i < 0 then -i else i)) := fun H1 _ _ q => ⟨i, rfl, q H1 (Ex.refl H1)⟩
theorem rc_minK {ns : List Int} {m : Int} (h : SqL K H a (ns.map V.int)) (hm : m ∈ ns) (hl : ∀ y ∈ ns, m ≤ y) : RC (rMin K) [.ref a] H (.int m) := fun H1 e Q q => ⟨a, ns, rfl, ex_l e h, List.length_pos_of_mem hm, fun m' h1 h2 => by
  have e1 := hl m' h1
  have e2 := h2 m hm
  have e3 : m' = m := by omega
  rw [e3]
  exact q H1 (Ex.refl H1)⟩
theorem rc_maxK {ns : List Int} {m : Int} (h : SqL K H a (ns.map V.int)) (hm : m ∈ ns) (hl : ∀ y ∈ ns, y ≤ m) : RC (rMax K) [.ref a] H (.int m) := fun H1 e Q q => ⟨a, ns, rfl, ex_l e h, List.length_pos_of_mem hm, fun m' h1 h2 => by
  have e1 := hl m' h1
  have e2 := h2 m hm
  have e3 : m' = m := by omega
  rw [e3]
  exact q H1 (Ex.refl H1)⟩
/-- a call of a built-in on a new list -/
theorem ev_cbL {rr : List V → Hp → VK → Prop} (h : EvL te σ H xs) (hr : ∀ p H1, Ex H H1 → H1 p = some (.lst xs) → RC rr [.ref p] H1 z) : Ev (tCB rr (tCons te tNil)) σ H z := fun H1 e Q q =>
  h H1 e _ fun p H2 _ e2 h2 => hr p H2 (e.trans e2) h2 H2 (Ex.refl H2) Q fun H3 e3 => q H3 (e2.trans e3)
theorem ev_min {ns : List Int} {m : Int} (h : EvL te σ H (ns.map V.int)) (hm : m ∈ ns) (hl : ∀ y ∈ ns, m ≤ y) : Ev (tCB (rMin K) (tCons te tNil)) σ H (.int m) := ev_cbL h fun p H1 _ h1 => rc_minK (sq_of h1) hm hl
theorem ev_max {ns : List Int} {m : Int} (h : EvL te σ H (ns.map V.int)) (hm : m ∈ ns) (hl : ∀ y ∈ ns, y ≤ m) : Ev (tCB (rMax K) (tCons te tNil)) σ H (.int m) := ev_cbL h fun p H1 _ h1 => rc_maxK (sq_of h1) hm hl
theorem ev_all {bs : List Bool} {c : Bool} (h : EvL te σ H (bs.map V.bl)) (hc : bs.all id = c) : Ev (tCB (rAll K) (tCons te tNil)) σ H (.bl c) := ev_cbL h fun p H1 _ h1 H2 e2 Q q => ⟨p, bs, rfl, sq_of (e2 _ _ h1), by rw [hc]; exact q H2 (Ex.refl H2)⟩
/-- xs + ys, new -/
theorem el_cat (ha : Ev ta σ H (.ref a)) (h1 : H a = some (.lst xs)) (hb : EvL tb σ H ys) (hz : xs.length + ys.length ≤ 100000) : EvL (tOp rCat ta tb) σ H (xs ++ ys) := fun H1 e Q q =>
  ha H1 e _ fun H2 e2 => hb H2 (e.trans e2) _ fun b H3 nb e3 h3 => ⟨a, b, xs, ys, rfl, rfl, (e.trans (e2.trans e3)) _ _ h1, h3, sz_of hz, fun p hp => q p _ (fresh_back (e2.trans e3) hp) ((e2.trans e3).trans (Ex.new hp)) upd_same⟩
theorem el_cat2 (ha : EvL ta σ H xs) (hb : EvL tb σ H ys) (hz : xs.length + ys.length ≤ 100000) : EvL (tOp rCat ta tb) σ H (xs ++ ys) := fun H1 e Q q =>
  ha H1 e _ fun a H2 na e2 h1 => hb H2 (e.trans e2) _ fun b H3 nb e3 h3 => ⟨a, b, xs, ys, rfl, rfl, e3 _ _ h1, h3, sz_of hz, fun p hp => q p _ (fresh_back (e2.trans e3) hp) ((e2.trans e3).trans (Ex.new hp)) upd_same⟩
/-- a < b < c -/
theorem ev_chain {i j k : Int} {g1 g2 : Int → Int → Bool} (ha : Ev ta σ H (.int i)) (hb : Ev tb σ H (.int j)) (hc : Ev tc σ H (.int k)) : Ev (tChain (rI0 fun i j => .bl (g1 i j)) (rI0 fun i j => .bl (g2 i j)) ta tb tc) σ H (.bl (g1 i j && g2 j k)) := fun H1 e Q q =>
  ha H1 e _ fun H2 e2 => hb H2 (e.trans e2) _ fun H3 e3 => ⟨i, j, rfl, rfl, g1 i j, rfl, by
    cases hg : g1 i j with
    | true =>
      show tc σ H3 _
      refine hc H3 ((e.trans e2).trans e3) _ fun H4 e4 => ⟨j, k, rfl, rfl, ?_⟩
      have := q H4 ((e2.trans e3).trans e4)
      rw [hg] at this
      exact this
    | false =>
      show Q (.bl false) H3
      have := q H3 (e2.trans e3)
      rw [hg] at this
      exact this⟩
/-- for x, y in zip(xs, ys) -/
theorem q_forZ {ta : TA} {j k : Nat} (e0 : Ex H0 H) (h : EvA ta σ H [.ref a, .ref b]) (hx : SqL K H0 a xs) (hy : SqL K H0 b ys) (hl : xs.length = ys.length) (Pv : Nat → Sg → Hp → Prop) (h0 : ∀ H1, Ex H H1 → Pv 0 σ H1) (hE : ∀ i σ' H', Pv i σ' H' → Ex H0 H')
    (hs : ∀ i x y σ' H' H2, xs[i]? = some x → ys[i]? = some y → Pv i σ' H' → Ex H' H2 → tu { D with nx := Pv (i + 1), ct := Pv (i + 1), bk := tz D } ((σ'.set j (some x)).set k (some y)) H2) (hd : ∀ σ' H', Pv xs.length σ' H' → tz D σ' H') :
    tSeq (tFor (iZip K ta) (gTup K 2 (gCons (gName j) (gCons (gName k) gNil))) tu) tz D σ H :=
  h H (Ex.refl H) _ fun H1 e1 => ⟨a, b, xs, ys, rfl, ex_l (e0.trans e1) hx, ex_l (e0.trans e1) hy, RZ.for_zipL (D := { D with nx := tz D }) hl Pv (h0 H1 e1) (fun i σ' H' p => ⟨ex_l (hE i σ' H' p) hx, ex_l (hE i σ' H' p) hy⟩)
    (fun i x y T σ' H' h1 h2 p nT => ⟨T, [x, y], rfl, st_of upd_same, rfl, x, [y], rfl, y, [], rfl, rfl, hs i x y σ' H' _ h1 h2 p (Ex.new nT)⟩) hd⟩
/-- [e for x, y in zip(xs, ys)] -/
theorem el_lcZip {ta : TA} {j k : Nat} {vs : List Nat} (w : Nat → V) (h : EvA ta σ H [.ref a, .ref b]) (hx : SqL K H a xs) (hy : SqL K H b ys) (hl : xs.length = ys.length) (hz : xs.length ≤ 40000)
    (hw : ∀ x y, wipe (((wipe σ vs).set j (some x)).set k (some y)) vs = wipe σ vs)
    (he : ∀ i x y H1, xs[i]? = some x → ys[i]? = some y → Ex H H1 → Ev te (((wipe σ vs).set j (some x)).set k (some y)) H1 (w i)) :
    EvL (tLc (iZip K ta) (gTup K 2 (gCons (gName j) (gCons (gName k) gNil))) tYes te vs) σ H ((List.range xs.length).map w) := by
  intro H0 e Q q
  refine h H0 e _ fun H1 e1 => ⟨a, b, xs, ys, rfl, ex_l (e.trans e1) hx, ex_l (e.trans e1) hy, fun Dl hD => ?_⟩
  refine ⟨fun i m H' => m = xs.length - i ∧ i ≤ xs.length ∧ H1 Dl = none ∧ Ex H1 H' ∧ H' Dl = some (.lst ((List.range i).map w)), ⟨xs.length, by simp, Nat.zero_le _, hD, Ex.new hD, upd_same⟩, ?_⟩
  rintro i m H' ⟨rfl, hi, p1, p2, p3⟩
  have qx := ex_l ((e.trans e1).trans p2) hx
  have qy := ex_l ((e.trans e1).trans p2) hy
  by_cases hlt : i < xs.length
  · have hlt2 : i < ys.length := by omega
    refine .inr ⟨⟨xs, ys, _, _, qx, qy, List.getElem?_eq_getElem hlt, List.getElem?_eq_getElem hlt2⟩, fun H'' => H1 Dl = none ∧ Ex H1 H'' ∧ H'' Dl = some (.lst ((List.range (i + 1)).map w)), fun H'' p' => ⟨xs.length - (i + 1), by omega, rfl, hlt, p'⟩, fun v H'' hyl => ?_⟩
    obtain ⟨T, x', y', rfl, nT, rfl, f1, f2⟩ := hyl
    have eT : Ex H' (upd H' T (.tup [x', y'])) := Ex.new nT
    refine ⟨T, [x', y'], rfl, st_of upd_same, rfl, x', [y'], rfl, y', [], rfl, rfl, hw _ _, ?_⟩
    show te _ _ _
    refine he i x' y' _ (f1 xs qx) (f2 ys qy) (((e.trans e1).trans p2).trans eT) _ (Ex.refl _) _ fun H4 e4 => ⟨(List.range i).map w, e4 _ _ (eT _ _ p3), sz_lt (by rw [List.length_map, List.length_range]; omega), p1, Ex.mut ((p2.trans eT).trans e4) p1, ?_⟩
    rw [upd_same, List.range_succ, List.map_append]
    rfl
  · have ei : i = xs.length := by omega
    subst ei
    exact .inl ⟨⟨xs, ys, qx, qy, .inl (Nat.le_refl _)⟩, q Dl H' (fresh_back e1 p1) (e1.trans p2) p3⟩
/-- for x in a list just made, told by its ints -/
def IsInts (K : PySem.W.Frag) (C : List Int → Prop) : V → Hp → Prop := fun v H => ∃ a ns, v = .ref a ∧ SqL K H a (ns.map V.int) ∧ C ns
theorem q_forI {C : List Int → Prop} {tl : TE} {j : Nat} (h : EvP tl σ H (IsInts K C)) (Pv : Hp → List Int → Nat → Sg → Hp → Prop) (h0 : ∀ H1 ns, Ex H H1 → C ns → Pv H1 ns 0 σ H1) (hx : ∀ H1 ns i σ' H', Ex H H1 → Pv H1 ns i σ' H' → Ex H1 H')
    (hs : ∀ H1 ns i n σ' H', Ex H H1 → C ns → ns[i]? = some n → Pv H1 ns i σ' H' → tu { D with nx := Pv H1 ns (i + 1), ct := Pv H1 ns (i + 1), bk := tz D } (σ'.set j (some (.int n))) H') (hd : ∀ H1 ns σ' H', Ex H H1 → C ns → Pv H1 ns ns.length σ' H' → tz D σ' H') :
    tSeq (tFor (iList K tl) (gName j) tu) tz D σ H :=
  h H (Ex.refl H) _ fun v H1 e1 ⟨a, ns, ea, ha, hC⟩ => ⟨a, ea, ⟨_, ha⟩, for_list (D := { D with nx := tz D }) (xs := ns.map V.int) (Pv H1 ns) (h0 H1 ns e1 hC) (fun i σ' H' _ p => ex_l (hx H1 ns i σ' H' e1 p) ha) (fun i x σ' H' hi p => by
    rw [List.getElem?_map] at hi
    cases e : ns[i]? with
    | none =>
      rw [e] at hi
      cases hi
    | some n =>
      rw [e] at hi
      have ex : V.int n = x := Option.some.inj hi
      subst ex
      exact hs H1 ns i n σ' H' e1 hC e p) (fun σ' H' p => hd H1 ns σ' H' e1 hC (by rw [List.length_map] at p; exact p))⟩
theorem bl_eq (a b : Bool) : decide (V.bl a = V.bl b) = (a == b) := by
  cases a <;> cases b <;> decide
end
/-! ### set(xs) of a list of ints: the new set holds just its ints (the road: the built-in's own steps, one turn of its loop by set_update_ints) -/
abbrev freshSet (w : World) : Obj := { cls := .type "set", dict := none, data := .set #[] 0 (.fresh 0 0 (!w.params.followText "set-order")) }
abbrev withSet (w : World) (s : Shared) : Shared := { s with heap := s.heap.push (freshSet w) }
section
variable {P : Program} {w : World} {A : Around} {E : Value → Shared → Prop} {s : Shared}
/-- the walk over the list's items into the new set, and what is left behind it -/
theorem fill_set {l : Addr} {items : Array Value} {ns : List Int} (hh : A.handled = none) (hl : s.heap.IsList l items) (hit : IntsAre items.toList ns) (hb : ns.length + 1 < scanBound) {R : Result → Shared → Prop}
    (hR : ∀ (h' : Heap) (tk c : Nat), SetR w h' s.heap.objs.size (fun j => decide (j ∈ ns)) c → c ≤ ns.length → (∀ b o, s.heap.get? b = some o → h'.get? b = some o) → R (.ok (.ret .none)) { s with heap := h', toks := tk }) :
    codeAny (model P w) A (.builtin "set.update.loop" ⟨[.ref s.heap.objs.size, .ref (withSet w s).heap.objs.size], []⟩) R { s with heap := (withSet w s).heap.push { cls := .type "list_iterator", data := .fields #[.ref l, .int 0 0] } } := by
  have hsz : items.size = ns.length := by
    have q := hit.length
    rwa [Array.length_toList] at q
  obtain ⟨ol, hol, hcl⟩ := id hl
  have hlt : l < s.heap.objs.size := Heap.lt_size hol
  have hps : (withSet w s).heap.objs.size = s.heap.objs.size + 1 := Heap.size_push ..
  have hl1 : (withSet w s).heap.IsList l items := hl.push _
  have hne : l ≠ (withSet w s).heap.objs.size := Nat.ne_of_lt (by rw [hps]; exact Nat.lt_succ_of_lt hlt)
  have hnot : s.heap.objs.size ∉ [(withSet w s).heap.objs.size, l] := fun hm => by
    rcases List.mem_cons.mp hm with e | e
    · rw [hps] at e
      exact absurd e (Nat.ne_of_lt (Nat.lt_succ_self _))
    · exact absurd (List.mem_singleton.mp e) (Nat.ne_of_gt hlt)
  have hv : ∀ (i : Nat) (v : Value), items[i]? = some v → ∃ k t, ns[i]? = some k ∧ v = .int k t := fun i v hi => by
    have h1 : i < ns.length := by
      rw [← hsz]
      exact (Array.getElem?_eq_some_iff.mp hi).1
    obtain ⟨t, e⟩ := PyProof.Rows.IntsAre.int_at hit i v (by rw [Array.getElem?_toList]; exact hi)
    refine ⟨ns[i], t, List.getElem?_eq_getElem h1, ?_⟩
    rw [e, List.getD_eq_getElem?_getD, List.getElem?_eq_getElem h1]
    rfl
  have hh1 : A.in1.handled = none := by simp [hh]
  refine set_update_ints ((Walks.list hh1 _ l hne items).toS) s.heap.objs.size hnot ns hsz hb hv (items.size - 0) 0 _ (by omega) (Nat.zero_le _) ⟨⟨_, Heap.get?_push_size _ rfl, rfl, rfl⟩, hl1.push _⟩ ⟨0, Nat.le_refl 0, setR_new_at (Heap.get?_push_of_some _ (Heap.get?_push_size _ rfl))⟩ fun s' c hm hc hS => ?_
  obtain ⟨h', g', d', tk, os'⟩ := s'
  have e1 : g' = s.gens := hm.gens
  have e2 : d' = s.drawn := hm.drawn
  have e3 : os' = s.os := hm.os
  subst e1
  subst e2
  subst e3
  rw [hsz] at hc
  refine hR h' tk c hS hc fun b o e => ?_
  have hbl := Heap.lt_size e
  refine hm.heap b o (fun hmem => ?_) (Heap.get?_push_of_some _ (Heap.get?_push_of_some _ e))
  rcases List.mem_cons.mp hmem with z | z
  · exact absurd z (Nat.ne_of_lt hbl)
  · have y := List.mem_singleton.mp z
    rw [hps] at y
    exact absurd y (Nat.ne_of_lt (Nat.lt_succ_of_lt hbl))
def SetDone (w : World) (s : Shared) (ns : List Int) : Value → Shared → Prop := fun r s2 => r = Value.none ∧ ∃ (h' : Heap) (tk c : Nat), s2 = { s with heap := h', toks := tk } ∧ SetR w h' s.heap.objs.size (fun j => decide (j ∈ ns)) c ∧ c ≤ ns.length ∧ ∀ b o, s.heap.get? b = some o → h'.get? b = some o
/-- set(xs), the class called -/
theorem set_of_list {l : Addr} {items : Array Value} {ns : List Int} {Q : Value → Shared → Prop} (hh : A.handled = none) (hl : s.heap.IsList l items) (hit : IntsAre items.toList ns) (hb : ns.length + 1 < scanBound)
    (h : ∀ (h' : Heap) (tk c : Nat), SetR w h' s.heap.objs.size (fun j => decide (j ∈ ns)) c → c ≤ ns.length → (∀ b o, s.heap.get? b = some o → h'.get? b = some o) → Q (.ref s.heap.objs.size) { s with heap := h', toks := tk }) : wpAny (model P w) A (call (.type "set") [.ref l]) Q E s := by
  have ⟨c0, tl0, mro0⟩ := F.called_set.mro; have made0 := F.called_set.made; have sub0 := F.called_set.sub
  have n0 := F.called_set.notType; have n1 := F.called_set.canCreate; have n2 := F.typeCall_set_1 (.ref l)
  refine wpAny_call (codeAny_of_tree (show wpAny _ _ (callAny (.type "set") _) _ _ _ from wpAny_pure ⟨Code.quiet_builtin _ (by decide +kernel), codeAny_builtin F.entry_type_call ?_⟩))
  rw [Around.under_plain (weight_type_call_type "set" [Value.ref l] []) rfl]
  repeat (any_goals (first | assumption | wp_step))
  refine codeAny_mono (code_set_led1 (w := w) (Value.ref l) (E := E) (Q₁ := fun v s1 => v = Value.ref s.heap.objs.size ∧ s1 = withSet w s) ⟨rfl, rfl⟩) fun res s1 hres => ?_
  match res, hres with
  | .error _, z => exact z
  | .ok .next, z => exact z.elim
  | .ok .brk, z => exact z.elim
  | .ok .cont, z => exact z.elim
  | .ok (.ret v), ⟨ev, es⟩ =>
    subst ev
    subst es
    have hS : (withSet w s).heap.get? s.heap.objs.size = some (freshSet w) := Heap.get?_push_size _ rfl
    have hT : (withSet w s).TypeIs (Value.ref s.heap.objs.size) "set" := ⟨_, hS, rfl⟩
    have i0 := F.called_set.init.lookup; have i1 := F.called_set.init.bind (Value.ref s.heap.objs.size)
    repeat (any_goals (first | assumption | wp_step))
    refine codeAny_mono (codeAny_call_builtin (R := wants (SetDone w s ns) E) F.called_set.init.plain F.entry_set_init (check_set_init_1 hT ?_)) fun res2 s2 hres2 => ?_
    · obtain ⟨⟨oc, od, dt, sl⟩, ho, hc, nl, hd⟩ := id hl
      have z1 : oc = .type "list" := hc; have z2 : dt = .seq items nl := hd
      subst z1
      subst z2
      have go : (withSet w s).heap.get? l = some ⟨.type "list", od, .seq items nl, sl⟩ := Heap.get?_push_of_some _ ho
      have u0 := F.sub_list_set; have u1 := F.sub_list_frozenset; have u2 : (Value.type "list" == Value.type "dict") = false := by decide
      unfold Builtin.«set.__init__» noKeywords Builtin.Frozenset.updateFrom
      generalize hIt : pyIter = theIter
      wp_walk
      subst hIt
      refine wpAny_pyIter_list (show (withSet w s).heap.IsList l items from ⟨_, go, rfl, nl, rfl⟩) (wpAny_bind (wpAny_runValue (fill_set (w := w) (by simp [hh]) hl hit hb fun h' tk c k1 k2 k3 => ?_)))
      show wpAny (model P w) A.in1.in1 (pure ()) _ _ _
      refine wpAny_pure ?_
      show wpAny (model P w) A.in1.in1 (ret Value.none) _ _ _
      exact wpAny_pure ⟨rfl, h', tk, c, rfl, k1, k2, k3⟩
    · match res2, hres2 with
      | .error _, z => exact z
      | .ok .next, z => exact z.elim
      | .ok .brk, z => exact z.elim
      | .ok .cont, z => exact z.elim
      | .ok (.ret v), ⟨ev, h', tk, c, es, k1, k2, k3⟩ =>
        subst ev
        subst es
        repeat (any_goals (first | assumption | wp_step))
        exact h h' tk c k1 k2 k3
end
def rSetL (K : PySem.W.Frag) (w : World) : List V → Hp → VK → Prop := fun xs H Q => ∃ (a : Addr) (ns : List Int), xs = [.ref a] ∧ SqL K H a (ns.map V.int) ∧ ns.length < 60 ∧ ∀ p c, H p = none → c ≤ ns.length → Q (.ref p) (upd H p (SetO w p (fun j => decide (j ∈ ns)) c))
theorem c_setL {X : Cx} (hc : X.calm = true) : CallR X (.type "set") (rSetL X.K X.w) := by
  intro pins s σ H vs us Q I r h
  obtain ⟨a, ns, rfl, hs, hl, q⟩ := h
  obtain ⟨its, rv, hL, _⟩ := I.list hs
  rw [Vals.ref1 r]
  have hn : H s.heap.objs.size = none := I.hok.fresh (Nat.le_refl _)
  refine set_of_list (ns := ns) (I.ok.hd hc) hL.isList (by simpa using rv.ints) (by unfold scanBound; omega) fun h' tk c k1 k2 k3 => ?_
  exact ⟨.ref s.heap.objs.size, _, I.laid (t' := tk) k3 (Nat.le_refl _) (setO_new k1), rfl, q _ c hn k2⟩
section
variable {K : PySem.W.Frag} {σ : Sg} {H H0 H' : Hp} {ta tb te tx tc : TE} {t u : TT} {x y z v : V} {D : Ends} {tu tw tz : TS} {g : TG} {P P' : V → Hp → Prop} {r : Ring} {a b : Addr} {xs ys : List V}
theorem ep_sortedSet {w : World} {ns : List Int} (ha : Ev ta σ H (.ref a)) (h : SqL K H a (ns.map V.int)) (hl : ns.length < 60) :
    EvP (tCB (rSortedSet w) (tCons (tCB (rSetL K w) (tCons ta tNil)) tNil)) σ H (IsInts K fun ms => ms.Pairwise (· < ·) ∧ ∀ k, k ∈ ms ↔ k ∈ ns) := fun H1 e Q q =>
  ha H1 e _ fun H2 e2 => ⟨a, ns, rfl, ex_l (e.trans e2) h, hl, fun p c hp hc => ⟨p, _, c, rfl, upd_same, by omega, fun ms l h1 h2 h3 hl' => by
    have eN : Ex H2 (upd H2 p (SetO w p (fun j => decide (j ∈ ns)) c)) := Ex.new hp
    exact q _ _ ((e2.trans eN).trans (Ex.new hl')) ⟨l, ms, rfl, sq_of upd_same, h1, fun k => by rw [h2 k]; exact decide_eq_true_iff⟩⟩⟩
/-- a, b = x, y of any kind -/
theorem q_parPP {i j : Nat} (ha : EvP ta σ H P) (hb : ∀ H1, Ex H H1 → EvP tb σ H1 P') (k : ∀ v w H1 H2, Ex H H1 → Ex H1 H2 → P v H1 → P' w H2 → tz D ((σ.set i (some v)).set j (some w)) H2) : tSeq (tPar i j (tCons ta (tCons tb tNil))) tz D σ H :=
  ha H (Ex.refl H) _ fun v H1 e1 hv => hb H1 e1 H1 (Ex.refl H1) _ fun w H2 e2 hw => ⟨v, w, rfl, k v w H1 H2 e1 e2 hv hw⟩
theorem q_parVL {i j : Nat} (ha : Ev ta σ H x) (hb : EvL tb σ H ys) (k : ∀ p H1, H p = none → Ex H H1 → H1 p = some (.lst ys) → tz D ((σ.set i (some x)).set j (some (.ref p))) H1) : tSeq (tPar i j (tCons ta (tCons tb tNil))) tz D σ H :=
  ha H (Ex.refl H) _ fun H1 e1 => hb H1 e1 _ fun p H2 hp e2 h2 => ⟨x, .ref p, rfl, k p H2 (fresh_back e1 hp) (e1.trans e2) h2⟩
/-- a, b = x, [..] where the pair is made -/
theorem q_unpSL {i j : Nat} (ha : Ev ta σ H x) (hb : EvL tb σ H ys) (k : ∀ p H1, H p = none → Ex H H1 → H1 p = some (.lst ys) → tz D ((σ.set i (some x)).set j (some (.ref p))) H1) :
    tSeq (tAsg (tTup (tCons ta (tCons tb tNil))) (gTup K 2 (gCons (gName i) (gCons (gName j) gNil)))) tz D σ H :=
  ha H (Ex.refl H) _ fun H1 e1 => hb H1 e1 _ fun p H2 hp e2 h2 => ⟨by show 2 ≤ sizeLine; decide, fun q hq => ⟨q, [x, .ref p], rfl, st_of upd_same, rfl, x, [.ref p], rfl, .ref p, [], rfl, rfl, k p _ (fresh_back e1 hp) ((e1.trans e2).trans (Ex.new hq)) (Ex.new hq _ _ h2)⟩⟩
theorem q_unpPP {i j : Nat} (ha : EvP ta σ H P) (hb : ∀ H1, Ex H H1 → EvP tb σ H1 P') (k : ∀ v w H1 H2 H3, Ex H H1 → Ex H1 H2 → Ex H2 H3 → P v H1 → P' w H2 → tz D ((σ.set i (some v)).set j (some w)) H3) :
    tSeq (tAsg (tTup (tCons ta (tCons tb tNil))) (gTup K 2 (gCons (gName i) (gCons (gName j) gNil)))) tz D σ H :=
  ha H (Ex.refl H) _ fun v H1 e1 hv => hb H1 e1 H1 (Ex.refl H1) _ fun w H2 e2 hw => ⟨by show 2 ≤ sizeLine; decide, fun q hq => ⟨q, [v, w], rfl, st_of upd_same, rfl, v, [w], rfl, w, [], rfl, rfl, k v w H1 H2 _ e1 e2 (Ex.new hq) hv hw⟩⟩
/-- for c in text -/
theorem q_forS {j : Nat} {s : Str} (h : Ev te σ H (.str s)) (Pv : Nat → Sg → Hp → Prop) (h0 : ∀ H1, Ex H H1 → Pv 0 σ H1)
    (hs : ∀ i c σ' H', s.cps[i]? = some c → Pv i σ' H' → tu { D with nx := Pv (i + 1), ct := Pv (i + 1), bk := tz D } (σ'.set j (some (.str ⟨#[c]⟩))) H') (hd : ∀ σ' H', Pv s.cps.size σ' H' → tz D σ' H') : tSeq (tFor (iStr te) (gName j) tu) tz D σ H := by
  refine h H (Ex.refl H) _ fun H1 e1 => ⟨s, rfl, fun i m σ' H' => m = s.cps.size - i ∧ i ≤ s.cps.size ∧ Pv i σ' H', ⟨s.cps.size, by simp, Nat.zero_le _, h0 H1 e1⟩, ?_⟩
  rintro i m σ' H' ⟨rfl, hi, p⟩
  by_cases hlt : i < s.cps.size
  · refine .inr ⟨hlt, Pv (i + 1), fun σ' H' p' => ⟨s.cps.size - (i + 1), by omega, rfl, hlt, p'⟩, fun v H'' hy => ?_⟩
    obtain ⟨rfl, c, hc, rfl⟩ := hy
    exact hs i c σ' H'' hc p
  · have ei : i = s.cps.size := by omega
    subst ei
    exact .inl ⟨Nat.le_refl _, hd σ' H' p⟩
/-- [e for x in (a, b, ..)] -/
theorem el_lcU {tl : TE} {j : Nat} {vs : List Nat} (w : Nat → V) (h : EvU tl σ H xs) (hz : xs.length ≤ 40000) (hw : ∀ x, wipe ((wipe σ vs).set j (some x)) vs = wipe σ vs)
    (he : ∀ i x H1, xs[i]? = some x → Ex H H1 → Ev te ((wipe σ vs).set j (some x)) H1 (w i)) : EvL (tLc (iTup K tl) (gName j) tYes te vs) σ H ((List.range xs.length).map w) := by
  intro H0 e Q q
  refine h H0 e _ fun a H1 na e1 ha => ⟨a, rfl, ⟨xs, st_of ha⟩, fun Dl hD => ?_⟩
  refine lc_tup (K := K) (a := a) (xs := xs) (fun i H' => H1 Dl = none ∧ Ex H1 H' ∧ H' Dl = some (.lst ((List.range i).map w))) ⟨hD, Ex.new hD, upd_same⟩ (fun i H' _ p => ex_t p.2.1 (st_of ha)) (fun i x H' hi p => ⟨hw x, ?_⟩) (fun H' p => q Dl H' (fresh_back e1 p.1) (e1.trans p.2.1) p.2.2)
  obtain ⟨p1, p2, p3⟩ := p
  show te _ _ _
  have hil := (List.getElem?_eq_some_iff.mp hi).1
  refine he i x H' hi ((e.trans e1).trans p2) H' (Ex.refl _) _ fun H4 e4 => ⟨(List.range i).map w, e4 _ _ p3, sz_lt (by rw [List.length_map, List.length_range]; omega), p1, Ex.mut (p2.trans e4) p1, ?_⟩
  rw [upd_same, List.range_succ, List.map_append]
  rfl
theorem inV_ints (p : Int) (ns : List Int) : inV (.int p) (ns.map V.int) = decide (p ∈ ns) := by
  unfold inV
  induction ns with
  | nil => rfl
  | cons n ns ih =>
    rw [List.map_cons, List.any_cons, ih]
    show ((n == p) || decide (p ∈ ns)) = decide (p ∈ n :: ns)
    by_cases h : n = p
    · subst h
      simp
    · have h2 : (n == p) = false := beq_eq_false_iff_ne.mpr h
      have h3 : ¬ p = n := fun z => h z.symm
      rw [h2]
      simp [h3]
theorem ints_flat (ns : List Int) : (ns.map V.int).all flatV = true := by
  induction ns with
  | nil => rfl
  | cons n ns ih =>
    rw [List.map_cons, List.all_cons, ih]
    rfl
theorem dp_intsAll : ∀ ns : List Int, DpAll K H (ns.map V.int) (ns.map PyData.int)
  | [] => .nil
  | n :: ns => .cons (.int n) (dp_intsAll ns)
theorem dp_ints {ns : List Int} (h : SqL K H a (ns.map V.int)) : Dp K H (.ref a) (.list (ns.map PyData.int)) := .lst h (dp_intsAll ns)
theorem ints_lay : ∀ ns : List Int, PyData.canLayAll0 (ns.map PyData.int) = true
  | [] => rfl
  | n :: ns => by
    rw [List.map_cons, PyData.canLayAll0, ints_lay ns]
    rfl
theorem ints_depth : ∀ ns : List Int, PyData.depthAll (ns.map PyData.int) = 0
  | [] => rfl
  | n :: ns => by
    rw [List.map_cons, PyData.depthAll, ints_depth ns]
    rfl
theorem ints_shaped (ns : List Int) : SeqAt.shaped (.list (ns.map PyData.int)) = true := by
  unfold SeqAt.shaped
  rw [PyData.canLay0, ints_lay, PyData.depth, ints_depth]
  decide
theorem ints_refl (ns : List Int) : PyData.eqv (.list (ns.map PyData.int)) (.list (ns.map PyData.int)) = true := PySem.SeqAt.eqv_refl _ (by rw [PyData.canLay0]; exact ints_lay ns)
/-- a list of ints is not unlike a new one of the same -/
theorem et_neInts {ns : List Int} (ha : Ev ta σ H (.ref a)) (h : SqL K H a (ns.map V.int)) (hb : EvL tb σ H (ns.map V.int)) : EvT (tTest (tOp (rNeD K) ta tb)) σ H false := by
  refine et_test (ev_opL ha hb fun p H1 hp e1 => rv_val fun H2 e2 Q q => ⟨_, _, dp_ints (ex_l (e1.trans e2) h), dp_ints (sq_of (e2 _ _ hp)), ints_shaped ns, ints_shaped ns, ?_⟩)
  rw [ints_refl]
  exact q
theorem et_neInts2 {ns : List Int} (ha : EvL ta σ H (ns.map V.int)) (hb : EvL tb σ H (ns.map V.int)) : EvT (tTest (tOp (rNeD K) ta tb)) σ H false := by
  refine et_test (ev_opLL ha hb fun p q H1 hp hq e1 => rv_val fun H2 e2 Q q' => ⟨_, _, dp_ints (sq_of (e2 _ _ hp)), dp_ints (sq_of (e2 _ _ hq)), ints_shaped ns, ints_shaped ns, ?_⟩)
  rw [ints_refl]
  exact q'
theorem ev_slS {tl th : TO} {s : Str} {lo hi : Option Int} (h : Ev te σ H (.str s)) (h1 : EvO tl σ H lo) (h2 : EvO th σ H hi) (hz : s.length ≤ 100000) : Ev (tSl rSlS te tl th) σ H (.str (cutS s lo hi)) := fun H1 e _ q =>
  h H1 e _ fun H2 e2 => h1 H2 (e.trans e2) _ fun H3 e3 => h2 H3 ((e.trans e2).trans e3) _ fun H4 e4 => ⟨s, rfl, sz_of hz, q H4 ((e2.trans e3).trans e4)⟩
theorem rv_addS {s s' : Str} (hz : s.length + s'.length ≤ 100000) : RV rAddStr (.str s) (.str s') H (.str (s ++ s')) := rv_val fun H1 e1 Q q => ⟨s, s', rfl, rfl, sz_of hz, q⟩
end
theorem cutS_from (s : Str) (n : Nat) (h : n ≤ s.length) : TL.tl (cutS s (some (n : Int)) none) = (TL.tl s).drop n := by
  show (_ : Array Nat).toList = _
  unfold cutS
  rw [List.toList_toArray, HT.sIx_none, HT.sIx_nat, Nat.min_eq_left h, List.take_of_length_le]
  rw [List.length_drop, TL.len_tl]
  exact Nat.le_refl _
theorem cutS_to (s : Str) (n : Nat) (h : n ≤ s.length) : TL.tl (cutS s none (some (n : Int))) = (TL.tl s).take n := by
  show (_ : Array Nat).toList = _
  unfold cutS
  rw [List.toList_toArray, HT.sIx_none, HT.sIx_nat, Nat.min_eq_left h, List.drop_zero, Nat.sub_zero]
theorem one_kl (b : Bool) : (⟨#[codeB b]⟩ : Str) = kl b := by
  cases b <;> decide +kernel
/-- the beads from a place on, once around -/
theorem rot_len {r : Ring} (h : Small r) {p : Nat} (hp : (p : Int) < sizeR r) : ((cutS (rowS r) (some (p : Int)) none ++ cutS (rowS r) none (some (p : Int))).cps.size : Int) = sizeR r := by
  have hl := row_len h
  have e : (cutS (rowS r) (some (p : Int)) none ++ cutS (rowS r) none (some (p : Int))).cps.size = (TL.tl (cutS (rowS r) (some (p : Int)) none ++ cutS (rowS r) none (some (p : Int)))).length := TL.len_tl _
  rw [e, TL.tl_append, cutS_from _ _ (by omega), cutS_to _ _ (by omega), List.length_append, List.length_drop, List.length_take, ← TL.len_tl]
  omega
theorem rot_at {r : Ring} (h : Small r) {p : Nat} (hp : (p : Int) < sizeR r) {i c : Nat} (hc : (cutS (rowS r) (some (p : Int)) none ++ cutS (rowS r) none (some (p : Int))).cps[i]? = some c) : c = codeB (kindR r (((p : Int) + (i : Int)) % sizeR r)) := by
  have hl := row_len h
  have hrl := rowL_len h.pos
  have hi : (i : Int) < sizeR r := by
    have h1 := (Array.getElem?_eq_some_iff.mp hc).1
    have h2 := rot_len h hp
    omega
  have hc2 : (TL.tl (cutS (rowS r) (some (p : Int)) none ++ cutS (rowS r) none (some (p : Int))))[i]? = some c := by
    rw [← hc]
    exact Array.getElem?_toList ..
  rw [TL.tl_append, cutS_from _ _ (by omega), cutS_to _ _ (by omega), row_tl h.size] at hc2
  have hdl : (List.drop p ((rowL r).map codeB)).length = (rowL r).length - p := by rw [List.length_drop, List.length_map]
  by_cases hw : p + i < (rowL r).length
  · rw [List.getElem?_append_left (by omega), List.getElem?_drop, List.getElem?_map, rowL_kind h.pos hw] at hc2
    rw [Int.emod_eq_of_lt (by omega) (by omega)]
    exact (Option.some.inj hc2).symm
  · rw [List.getElem?_append_right (by omega), hdl, List.getElem?_take, if_pos (by omega), List.getElem?_map, rowL_kind h.pos (by omega)] at hc2
    have e : ((p : Int) + (i : Int)) % sizeR r = ((i - ((rowL r).length - p) : Nat) : Int) := by
      rw [show (p : Int) + (i : Int) = ((i - ((rowL r).length - p) : Nat) : Int) + sizeR r * 1 by omega, Int.add_mul_emod_self_left, Int.emod_eq_of_lt (by omega) (by omega)]
    rw [e]
    exact (Option.some.inj hc2).symm
/-! ### sorted(d) of a dict whose keys are ints, however many: the keys are gathered, then sorted as any list of ints -/
def rSortedDk : List V → Hp → VK → Prop := fun xs H Q => ∃ (a : Addr) (kvs : List (Key × V)) (ks : List Int), xs = [.ref a] ∧ Rd H a (.dK kvs) ∧ kvs.map (·.1) = ks.map Sum.inl ∧ ks.length ≤ 1000 ∧
  ∀ (ys : List Int) (p : Addr), ys.Perm ks → ys.Pairwise (· ≤ ·) → H p = none → Q (.ref p) (upd H p (.lst (ys.map V.int)))
theorem int_keys {vs : List (Key × Value)} {ks : List Int} (hk : vs.map (·.1) = ks.map Sum.inl) {acc : Array Value} (hl : acc.size = vs.length) (h : ∀ (j : Nat) (v : Value), acc[j]? = some v → ∃ (k : Key) (x : Value), vs[j]? = some (k, x) ∧ keyIs k v = true) : IntsAre acc.toList ks := by
  have hlen : vs.length = ks.length := by
    have e := congrArg List.length hk
    rwa [List.length_map, List.length_map] at e
  refine ints_each (by rw [Array.length_toList, hl, hlen]) fun j v e => ?_
  obtain ⟨k, x, e1, e2⟩ := h j v (by rw [← Array.getElem?_toList]; exact e)
  have e3 := congrArg (fun l : List Key => l[j]?) hk
  simp only [List.getElem?_map, e1] at e3
  match hj : ks[j]?, e3 with
  | some y, e3 =>
    have e5 : k = Sum.inl y := Option.some.inj (by simpa [hj] using e3)
    subst e5
    rcases keyIs_shape e2 with ⟨i, t, ek, ev⟩ | ⟨z, t, ek, ev⟩
    · exact ⟨y, t, rfl, by cases ek; exact ev⟩
    · exact absurd ek (by intro z; cases z)
  | none, e3 => simp [hj] at e3
theorem c_sortedD {X : Cx} (hcalm : X.calm = true) : CallR X (.builtin "sorted") rSortedDk := by
  intro pins s σ H xs us Q I r q
  obtain ⟨a, kvs, ks, rfl, hd, hks, hle, q⟩ := q
  rw [Vals.ref1 r]
  obtain ⟨z, lo, vs, rel, dd⟩ := dk_rd I.hok hd
  obtain ⟨ep, hat⟩ := dd.dictAt
  have hkeys : vs.map (·.1) = ks.map Sum.inl := rel.keys.symm.trans hks
  have hlen : vs.length = ks.length := by
    have e := congrArg List.length hkeys
    rwa [List.length_map, List.length_map] at e
  have hsl : ks.length ≤ sizeLine := Nat.le_trans hle (by rw [sizeLine_eq]; decide)
  refine Calls.call_function_entry kind_sorted plain_sorted entry_sorted (args_sorted1 _) (show wpAny _ _ (Builtin.«sorted» _) _ _ _ from ?_)
  unfold Builtin.«sorted»
  refine wpAny_bind (m := checkCount "sorted" 1 1 _) (wpAny_pure (wpAny_bind (PySem.W.kdu_collect (A := X.A.in1) (PySem.W.kdl_dict (knd := mixKind X.prog X.w) (kvs := vs) (ep := ep) lo) (I.ok.hd hcalm) hat (by rw [hlen]; exact hsl) fun h' tk acc hk hacc => ?_)))
  have hS := int_keys hkeys hacc.1 hacc.2
  have hal : acc.toList.length = ks.length := hS.length
  have I1 : Inv X pins σ H { s with heap := h', toks := tk } := I.kept hk
  refine wpAny_bind (wpAny_newList (show wpAny _ _ _ _ _ { s with heap := h'.push (seqObj "list" acc.toList.toArray 0), toks := tk } from ?_) (by rw [hal]; exact hsl))
  have hoL : (h'.push (seqObj "list" acc.toList.toArray 0)).get? h'.objs.size = some (seqObj "list" acc.toList.toArray 0) := Heap.get?_push_size _ rfl
  refine wpAny_bind (wpAny_holding (wpAny_call_entry slot_list_sort ⟨_, hoL, rfl⟩ entry_list_sort (SrtO.list_sort_ord (s := { s with heap := h'.push (seqObj "list" acc.toList.toArray 0), toks := tk }) SrtO.swo_int hoL (by rw [hal]; exact hsl) (fun h2 => SrtO.ints_sortable hS h2) fun out g1 g2 => ⟨_, rfl, ?_⟩) (args_list_sort _)))
  obtain ⟨k1, k2, k3⟩ := SrtO.ints_out hS g1 g2
  obtain ⟨e', he'⟩ := sortedHeap_at (vs := acc.toList) (out := out.toArray) hoL
  have hn := I1.hok.fresh (Nat.le_refl _)
  have hnl : ((out.map SrtO.iv).map V.int).length ≤ sizeLine := by
    rw [List.length_map, k2.length_eq]
    exact hsl
  refine wpAny_pure ⟨_, rfl, .ref h'.objs.size, upd H h'.objs.size (.lst ((out.map SrtO.iv).map V.int)), I1.laid (t' := tk) (fun b u e => ?_) (Nat.le_refl _) ⟨hnl, out, e', vals_of_ints k1, he'⟩, rfl, q _ _ k2 k3 hn⟩
  have hb : b < h'.objs.size := Heap.lt_size e
  exact (sortedHeap_old (Nat.ne_of_lt hb) (by rw [size_push']; exact Nat.lt_succ_of_lt hb)).trans (Heap.get?_push_of_some _ e)
/-! ### how often a sign stands in a text -/
theorem occ_size (x : Str) (c hi L : Nat) (hh : hi = x.length) : ∀ (n a : Nat) (acc : Array Nat) (free : Nat), free ≤ a → acc.size + n ≤ L →
    ((forIn (List.range' a n) (acc, free) (StrLaws.occBody x ⟨#[c]⟩ hi L)).run.fst).size = acc.size + ((List.range' a n).filter fun i => decide (x.cps.toList[i]? = some c)).length
  | 0, a, acc, free, _, _ => by
    show acc.size = acc.size + 0
    rfl
  | n + 1, a, acc, free, hf, hL => by
    rw [List.range'_succ, List.forIn_cons, List.filter_cons]
    unfold StrLaws.occBody
    have key := StrLaws.subAt_one x c a
    rw [← hh] at key
    by_cases hc : x.cps.toList[a]? = some c
    · obtain ⟨k1, k2⟩ := key.mpr hc
      have c1 : ((acc, free).fst.size < L ∧ (acc, free).snd ≤ a) ∧ a + (⟨#[c]⟩ : Str).length ≤ hi := ⟨⟨by show acc.size < L; omega, hf⟩, k1⟩
      rw [if_pos ⟨c1, k2⟩, if_pos (decide_eq_true hc)]
      have ih := occ_size x c hi L hh n (a + 1) (acc.push a) (a + (⟨#[c]⟩ : Str).length) (Nat.le_refl _) (by rw [Array.size_push]; omega)
      rw [Array.size_push] at ih
      show _ = acc.size + (_ + 1)
      rw [show acc.size + (((List.range' (a + 1) n).filter fun i => decide (x.cps.toList[i]? = some c)).length + 1) = acc.size + 1 + ((List.range' (a + 1) n).filter fun i => decide (x.cps.toList[i]? = some c)).length by omega]
      exact ih
    · have c2 : ¬ ((((acc, free).fst.size < L ∧ (acc, free).snd ≤ a) ∧ a + (⟨#[c]⟩ : Str).length ≤ hi) ∧ Builtin.Str.subAt x ⟨#[c]⟩ a = true) := fun h => hc (key.mp ⟨h.1.2, h.2⟩)
      rw [if_neg c2, if_neg (by rw [decide_eq_false hc]; decide)]
      exact occ_size x c hi L hh n (a + 1) acc free (by omega) (by omega)
theorem filter_at : ∀ (l : List Nat) (c a : Nat), ((List.range' a (l.length + 1)).filter fun i => decide (l[i - a]? = some c)).length = l.countP fun y => y == c
  | [], c, a => by simp [List.range'_succ]
  | y :: l, c, a => by
    have ih := filter_at l c (a + 1)
    rw [show (y :: l).length + 1 = (l.length + 1) + 1 by simp, List.range'_succ, List.filter_cons, List.countP_cons]
    have e : ((List.range' (a + 1) (l.length + 1)).filter fun i => decide ((y :: l)[i - a]? = some c)) = (List.range' (a + 1) (l.length + 1)).filter fun i => decide (l[i - (a + 1)]? = some c) := by
      refine List.filter_congr fun i hi => ?_
      have h1 := (List.mem_range'_1.mp hi).1
      rw [show i - a = (i - (a + 1)) + 1 by omega, List.getElem?_cons_succ]
    rw [e, Nat.sub_self, List.getElem?_cons_zero]
    by_cases hy : y = c
    · subst hy
      rw [if_pos (by simp), if_pos (by simp), List.length_cons, ih]
    · rw [if_neg (by simpa using hy), if_neg (by simpa using hy), ih]
      rfl
theorem count_one (x : Str) (c : Nat) : Txt.count x ⟨#[c]⟩ = ((TL.tl x).countP fun y => y == c : Nat) := by
  unfold Txt.count
  rw [StrLaws.occ_eq, Array.length_toList, occ_size x c x.length (x.length + 1) rfl (x.length + 1 - 0) 0 #[] 0 (Nat.le_refl _) (by show 0 + _ ≤ _; omega)]
  have e := filter_at (TL.tl x) c 0
  rw [← TL.len_tl] at e
  rw [← e]
  show ((0 + _ : Nat) : Int) = _
  rw [Nat.zero_add]
  rfl
def rCount : V → List V → Hp → VK → Prop := fun x xs H Q => ∃ a b, x = .str a ∧ xs = [.str b] ∧ Q (.int (Txt.count a b)) H
theorem mt_countN {X : Cx} : MtR X "str.count" rCount := mt_count
/-! ### instances -/
structure InsFacts (K : PySem.W.Frag) (C : Addr) : Prop where
  ha : PySem.W.findIn K (.ref C) "__class__" = some (some (.builtin "object.__class__"))
  hn : PySem.W.specialIn K (.builtin "object.__class__") "__get__" = some (some (.builtin "getset_descriptor.__get__"))
  htk : PySem.W.takesIn K (.builtin "object.__class__") = some true
  hm : PySem.W.mroIn K C (.type "object") = some true
section
variable {K : PySem.W.Frag} {σ : Sg} {H H0 H' : Hp} {ta tb te tx tc : TE} {t u : TT} {x y z v : V} {D : Ends} {tu tw tz : TS} {g : TG} {P P' : V → Hp → Prop} {r : Ring} {a b : Addr} {xs ys : List V} {C C' dx : Addr} {fs : List (Str × V)}
theorem ev_isC {bb : Bool} (ha : Ev ta σ H (.ref a)) (ho : H a = some (.ins C dx fs)) (cl : Cls K C) (i : InsFacts K C) (hk : PySem.W.kitOne K (.ref C) (.ref C') = some bb) : Ev (tCB (rIsi K) (tCons ta (tCons (tC (.ref C')) tNil))) σ H (.bl bb) :=
  fun H1 e Q q => ha H1 e _ fun H2 e2 => ⟨.ref a, .ref C', .ref C, .ref C', bb, rfl, .own C', .base (.ins ((e.trans e2) _ _ ho) cl i.ha i.hn i.htk i.hm), hk, q H2 e2⟩
theorem ev_fld {f : Str} (ha : Ev ta σ H (.ref a)) (ho : H a = some (.ins C dx fs)) (cl : Cls K C) (hn : NoAttr K C f) (hl : fs.lookup f = some v) : Ev (tFld K ta f) σ H v :=
  fun H1 e Q q => ha H1 e _ fun H2 e2 => ⟨a, C, dx, fs, v, rfl, (e.trans e2) _ _ ho, cl, hn, hl, q H2 e2⟩
theorem ev_meth {m : Str} {sp : Sp} {E : XK} {tt : TA} {vs : List V} (ha : Ev ta σ H (.ref a)) (ho : H a = some (.ins C dx fs)) (hm : fs.lookup m = none) (h : EvA tt σ H vs) (hs : SpV sp (.ref a :: (vs ++ [])) H z) : Ev (tMeth C m sp [] E ta tt) σ H z :=
  fun H1 e Q q => ha H1 e _ fun H2 e2 => ⟨a, dx, fs, rfl, (e.trans e2) _ _ ho, hm, h H2 (e.trans e2) _ fun H3 e3 => hs H3 ((e.trans e2).trans e3) Q (fun H4 e4 => q H4 ((e2.trans e3).trans e4)) E⟩
theorem rv_notBl {p q : Bool} : RV rNotB (.bl p) (.bl q) H (.bl (!decide (p = q))) := rv_val fun H1 e1 Q k => ⟨p, q, rfl, rfl, k⟩
theorem rv_isBl {p q : Bool} : RV rIsB (.bl p) (.bl q) H (.bl (decide (p = q))) := rv_val fun H1 e1 Q k => ⟨p, q, rfl, rfl, k⟩
/-! ### dicts of ints -/
theorem put_keys {kvs : List (Key × V)} {ks : List Int} (hk : kvs.map (·.1) = ks.map Sum.inl) (k : Int) (v : V) : ∃ ks' : List Int, (putK kvs (Sum.inl k) v).map (·.1) = ks'.map Sum.inl ∧ (∀ x, x ∈ ks' ↔ x ∈ ks ∨ x = k) ∧ ks'.length ≤ ks.length + 1 := by
  unfold putK
  by_cases hc : (kvs.any fun kv => decide (kv.1 = Sum.inl k)) = true
  · rw [if_pos hc]
    refine ⟨ks, ?_, fun x => ?_, Nat.le_succ _⟩
    · rw [← hk, List.map_map]
      refine List.map_congr_left fun kv _ => ?_
      show (if kv.1 = Sum.inl k then (kv.1, v) else kv).1 = kv.1
      split <;> rfl
    · obtain ⟨kv, hkv, he⟩ := List.any_eq_true.mp hc
      have he' := of_decide_eq_true he
      have hm : Sum.inl k ∈ ks.map (Sum.inl (β := Str)) := by
        rw [← hk]
        exact List.mem_map.mpr ⟨kv, hkv, he'⟩
      obtain ⟨y, hy, e⟩ := List.mem_map.mp hm
      have e' : y = k := Sum.inl.inj e
      subst e'
      exact ⟨fun z => .inl z, fun z => z.elim id fun z => z ▸ hy⟩
  · rw [if_neg hc]
    refine ⟨ks ++ [k], ?_, fun x => ?_, by simp⟩
    · rw [List.map_append, hk, List.map_append]
      rfl
    · simp
theorem q_dput {td ty tv : TE} {d : Addr} {k : Int} {kvs : List (Key × V)} (hv : Ev tv σ H v) (hd : Ev td σ H (.ref d)) (hk : Ev ty σ H (.int k)) (h : H d = some (.dK kvs)) (hl : kvs.length < 100000) (kk : ∀ H1, Ex H H1 → tz D σ (upd H1 d (.dK (putK kvs (Sum.inl k) v)))) : tSeq (sDPut td ty tv) tz D σ H :=
  hv H (Ex.refl H) _ fun H1 e1 => hd H1 e1 _ fun H2 e2 => hk H2 (e1.trans e2) _ fun H3 e3 => ⟨d, _, rfl, DPut.k (k := Sum.inl k) (((e1.trans e2).trans e3) _ _ h) (sz_lt hl), kk H3 ((e1.trans e2).trans e3)⟩
/-- a, b, d = x, y, {} -/
theorem q_par3D {i j l : Nat} (ha : Ev ta σ H x) (hb : Ev tb σ H y) (k : ∀ p H1, H p = none → Ex H H1 → H1 p = some (.dK []) → tz D (((σ.set i (some x)).set j (some y)).set l (some (.ref p))) H1) : tSeq (tPar3 i j l (tCons ta (tCons tb (tCons tDNewK tNil)))) tz D σ H :=
  ha H (Ex.refl H) _ fun H1 e1 => hb H1 e1 _ fun H2 e2 => fun p hp => ⟨x, y, .ref p, rfl, k p _ (fresh_back (e1.trans e2) hp) ((e1.trans e2).trans (Ex.new hp)) upd_same⟩
/-! ### lists of ints made out of lists of ints -/
theorem ep_lcI {C D' : List Int → Prop} {tl : TE} {j : Nat} {vs : List Nat} (wf : Int → Int) (h : EvP tl σ H (IsInts K C)) (hz : ∀ ns, C ns → ns.length ≤ 40000) (hw : ∀ x, wipe ((wipe σ vs).set j (some x)) vs = wipe σ vs)
    (he : ∀ n H1, Ex H H1 → (∃ ns, C ns ∧ n ∈ ns) → Ev te ((wipe σ vs).set j (some (.int n))) H1 (.int (wf n))) (hD : ∀ ns, C ns → D' (ns.map wf)) : EvP (tLc (iList K tl) (gName j) tYes te vs) σ H (IsInts K D') := by
  intro H0 e Q q
  refine h H0 e _ fun v H1 e1 ⟨a, ns, ea, ha, hC⟩ => ⟨a, ea, ⟨_, ha⟩, fun Dl hD0 => ?_⟩
  refine lc_list (K := K) (a := a) (xs := ns.map V.int) (fun i H' => H1 Dl = none ∧ Ex H1 H' ∧ H' Dl = some (.lst ((ns.take i).map (V.int ∘ wf)))) ⟨hD0, Ex.new hD0, upd_same⟩ (fun i H' _ p => ex_l p.2.1 ha) (fun i x H' hi p => ⟨hw x, ?_⟩) (fun H' p => ?_)
  · obtain ⟨p1, p2, p3⟩ := p
    show te _ _ _
    rw [List.getElem?_map] at hi
    cases hn : ns[i]? with
    | none =>
      rw [hn] at hi
      cases hi
    | some n =>
      rw [hn] at hi
      have ex : V.int n = x := Option.some.inj hi
      subst ex
      have hil := (List.getElem?_eq_some_iff.mp hn).1
      have hl := hz ns hC
      refine he n H' ((e.trans e1).trans p2) ⟨ns, hC, List.mem_of_getElem? hn⟩ H' (Ex.refl _) _ fun H4 e4 => ⟨(ns.take i).map (V.int ∘ wf), e4 _ _ p3, sz_lt (by rw [List.length_map, List.length_take]; omega), p1, Ex.mut (p2.trans e4) p1, ?_⟩
      rw [upd_same, List.take_add_one, hn, List.map_append]
      rfl
  · obtain ⟨p1, p2, p3⟩ := p
    rw [List.length_map, List.take_length, ← List.map_map] at p3
    exact q _ H' (e1.trans p2) ⟨Dl, ns.map wf, rfl, sq_of p3, hD ns hC⟩
theorem ev_count {to : TE} {s : Str} {c : Nat} (ho : Ev to σ H (.str s)) (he : Ev te σ H (.str ⟨#[c]⟩)) : Ev (tM1 rCount to te) σ H (.int (((TL.tl s).countP fun y => y == c : Nat) : Int)) := fun H1 e1 Q q =>
  ho H1 e1 _ fun H2 e2 => ⟨⟨s, rfl⟩, he H2 (e1.trans e2) _ fun H3 e3 => ⟨s, ⟨#[c]⟩, rfl, rfl, by rw [count_one]; exact q H3 (e2.trans e3)⟩⟩
/-- two pairs of ints -/
theorem pair_sh (a b : Int) : SeqAt.shaped (.tuple [.int a, .int b]) = true := by
  unfold SeqAt.shaped
  simp [PyData.canLay0, PyData.canLayAll0, PyData.depth, PyData.depthAll]
theorem pair_eqv (a b c d : Int) : PyData.eqv (.tuple [.int a, .int b]) (.tuple [.int c, .int d]) = (a == c && b == d) := by
  simp [PyData.eqv, PyData.eqvAll]
theorem dp_pr {a b : Int} {t : Addr} (h : SqT K H t [.int a, .int b]) : Dp K H (.ref t) (.tuple [.int a, .int b]) := .tup h (.cons (.int _) (.cons (.int _) .nil))
theorem ev_eqPr {i j k l : Int} (ha : EvP ta σ H (IsT K [.int i, .int j])) (hb : ∀ H1, Ex H H1 → EvP tb σ H1 (IsT K [.int k, .int l])) : Ev (tOp (rEqD K) ta tb) σ H (.bl (i == k && j == l)) := by
  refine ev_opP ha hb fun v w H1 H2 e1 e2 hv hw => ?_
  obtain ⟨t1, rfl, h1⟩ := hv
  obtain ⟨t2, rfl, h2⟩ := hw
  refine rv_val fun H3 e3 Q q => ⟨_, _, dp_pr (ex_t (e2.trans e3) h1), dp_pr (ex_t e3 h2), pair_sh _ _, pair_sh _ _, ?_⟩
  rw [pair_eqv]
  exact q
theorem ev_nePr {i j k l : Int} (ha : EvP ta σ H (IsT K [.int i, .int j])) (hb : ∀ H1, Ex H H1 → EvP tb σ H1 (IsT K [.int k, .int l])) : Ev (tOp (rNeD K) ta tb) σ H (.bl (!(i == k && j == l))) := by
  refine ev_opP ha hb fun v w H1 H2 e1 e2 hv hw => ?_
  obtain ⟨t1, rfl, h1⟩ := hv
  obtain ⟨t2, rfl, h2⟩ := hw
  refine rv_val fun H3 e3 Q q => ⟨_, _, dp_pr (ex_t (e2.trans e3) h1), dp_pr (ex_t e3 h2), pair_sh _ _, pair_sh _ _, ?_⟩
  rw [pair_eqv]
  exact q
theorem et_neRing (ha : Ev ta σ H (.ref a)) (hb : Ev tb σ H (.ref b)) (h1 : RingAt K H a r) (h2 : RingAt K H b r) : EvT (tTest (tOp (rNeD K) ta tb)) σ H false := by
  refine et_test (ev_op ha hb (rv_val fun H3 e3 Q q => ⟨_, _, dp_ring (h1.mono e3), dp_ring (h2.mono e3), dat_shaped r, dat_shaped r, ?_⟩))
  rw [dat_refl]
  exact q
end
section
variable {K : PySem.W.Frag} {σ : Sg} {H H0 H' : Hp} {ta tb te tx tc : TE} {t u : TT} {x y z v : V} {D : Ends} {tu tw tz : TS} {g : TG} {P P' P2 : V → Hp → Prop} {r : Ring} {a b : Addr} {xs ys : List V}
theorem nrm {tz : TS} {D : Ends} {σ σ' : Sg} {H : Hp} (e : σ = σ') (h : tz D σ' H) : tz D σ H := e ▸ h
/-- a, b, d = x, y, z of which two are told by what they are -/
theorem q_par3PP {i j l : Nat} (ha : EvP ta σ H P) (hb : ∀ H1, Ex H H1 → EvP tb σ H1 P') (hc : ∀ H1, Ex H H1 → Ev tc σ H1 z) (k : ∀ v w H1 H2 H3, Ex H H1 → Ex H1 H2 → Ex H2 H3 → P v H1 → P' w H2 → tz D (((σ.set i (some v)).set j (some w)).set l (some z)) H3) :
    tSeq (tPar3 i j l (tCons ta (tCons tb (tCons tc tNil)))) tz D σ H :=
  ha H (Ex.refl H) _ fun v H1 e hP => hb H1 e H1 (Ex.refl H1) _ fun w H2 e2 hP' => hc H2 (e.trans e2) H2 (Ex.refl H2) _ fun H3 e3 => ⟨v, w, z, rfl, k v w H1 H2 H3 e e2 e3 hP hP'⟩
theorem s_forR2N {ta : TA} {j : Nat} {lo n : Int} (h : EvA ta σ H [.int lo, .int n]) (hn : -100000 ≤ lo ∧ lo ≤ 100000 ∧ -100000 ≤ n ∧ n ≤ 100000) (Pv : Nat → Sg → Hp → Prop) (h0 : ∀ H1, Ex H H1 → Pv 0 σ H1)
    (hs : ∀ (i : Nat) σ' H', lo + (i : Int) < n → Pv i σ' H' → tu { D with nx := Pv (i + 1), ct := Pv (i + 1), bk := D.nx } (σ'.set j (some (.int (lo + (i : Int))))) H') (hd : ∀ σ' H', Pv (n - lo).toNat σ' H' → D.nx σ' H') : tFor (iRng2 ta) (gName j) tu D σ H :=
  h H (Ex.refl H) _ fun H1 e => ⟨lo, n, rfl, ⟨by omega, by omega, by omega, by omega⟩, for_range (lo := lo) (n := (n - lo).toNat) Pv (h0 H1 e) (fun i σ' H' hi p => hs i σ' H' (by omega) p) hd⟩
theorem q_forR2N {ta : TA} {j : Nat} {lo n : Int} (h : EvA ta σ H [.int lo, .int n]) (hn : -100000 ≤ lo ∧ lo ≤ 100000 ∧ -100000 ≤ n ∧ n ≤ 100000) (Pv : Nat → Sg → Hp → Prop) (h0 : ∀ H1, Ex H H1 → Pv 0 σ H1)
    (hs : ∀ (i : Nat) σ' H', lo + (i : Int) < n → Pv i σ' H' → tu { D with nx := Pv (i + 1), ct := Pv (i + 1), bk := tz D } (σ'.set j (some (.int (lo + (i : Int))))) H') (hd : ∀ σ' H', Pv (n - lo).toNat σ' H' → tz D σ' H') : tSeq (tFor (iRng2 ta) (gName j) tu) tz D σ H :=
  s_forR2N (D := { D with nx := tz D }) h hn Pv h0 hs hd
end
theorem cutS_mid (s : Str) (p m : Nat) (h : p + m ≤ s.length) : TL.tl (cutS s (some (p : Int)) (some ((p + m : Nat) : Int))) = ((TL.tl s).drop p).take m := by
  show (_ : Array Nat).toList = _
  unfold cutS
  rw [List.toList_toArray, HT.sIx_nat, HT.sIx_nat, Nat.min_eq_left h, Nat.min_eq_left (show p ≤ s.length by omega), Nat.add_sub_cancel_left]
/-- how many of the kind a stand in a window of the row written twice -/
theorem win_text {r : Ring} (h : Small r) (hne : r ≠ []) {p m : Nat} (hp : (p : Int) < sizeR r) (hm : (m : Int) ≤ sizeR r) :
    (((TL.tl (cutS (rowS r ++ rowS r) (some (p : Int)) (some ((p : Int) + (m : Int))))).countP fun y => y == 97 : Nat) : Int) = amongF r (p : Int) (m : Int) := by
  have hl := row_len h
  have hlen : (rowS r ++ rowS r).length = (rowS r).length + (rowS r).length := by
    rw [TL.len_tl, TL.tl_append, List.length_append, ← TL.len_tl]
  rw [show (p : Int) + (m : Int) = ((p + m : Nat) : Int) by omega, cutS_mid _ _ _ (by omega), TL.tl_append, row_tl h.size, ← List.map_append, ← List.map_drop, ← List.map_take, List.countP_map, ← win_count h.pos hne hp m hm]
  congr 1
  refine List.countP_congr fun b _ => ?_
  cases b <;> decide
/-! ### lists of tuples -/
def Tups (K : PySem.W.Frag) (H : Hp) (vs : List V) (xss : List (List V)) : Prop := vs.length = xss.length ∧ ∀ (i : Nat) (v : V) (xs : List V), vs[i]? = some v → xss[i]? = some xs → ∃ t, v = .ref t ∧ SqT K H t xs
def TupsAt (K : PySem.W.Frag) (H : Hp) (a : Addr) (xss : List (List V)) : Prop := ∃ vs : List V, SqL K H a vs ∧ Tups K H vs xss
/-- a list told by what its tuples hold -/
def IsTups {α : Type} (K : PySem.W.Frag) (f : α → List V) (C : List α → Prop) : V → Hp → Prop := fun v H => ∃ a xs, v = .ref a ∧ TupsAt K H a (xs.map f) ∧ C xs
section
variable {K : PySem.W.Frag} {σ : Sg} {H H0 H' : Hp} {ta tb te tx tc tl : TE} {tt : TA} {t u : TT} {x y z v : V} {D : Ends} {tu tw tz : TS} {g : TG} {P P' : V → Hp → Prop} {r r' : Ring} {a b l : Addr} {xs ys vs : List V} {xss : List (List V)}
theorem Tups.mono (e : Ex H H') (h : Tups K H vs xss) : Tups K H' vs xss := ⟨h.1, fun i v xs h1 h2 => by
  obtain ⟨t, e1, ht⟩ := h.2 i v xs h1 h2
  exact ⟨t, e1, ex_t e ht⟩⟩
theorem TupsAt.mono (e : Ex H H') (h : TupsAt K H a xss) : TupsAt K H' a xss := by
  obtain ⟨vs, h1, h2⟩ := h
  exact ⟨vs, ex_l e h1, h2.mono e⟩
theorem Tups.nil : Tups K H [] [] := ⟨rfl, fun i v xs h => by simp at h⟩
theorem Tups.snoc {t : Addr} (h : Tups K H vs xss) (ht : SqT K H t xs) : Tups K H (vs ++ [.ref t]) (xss ++ [xs]) := by
  refine ⟨by rw [List.length_append, List.length_append, h.1]; rfl, fun i v ys e1 e2 => ?_⟩
  by_cases hi : i < vs.length
  · rw [List.getElem?_append_left hi] at e1
    rw [List.getElem?_append_left (by rw [← h.1]; exact hi)] at e2
    exact h.2 i v ys e1 e2
  · rw [List.getElem?_append_right (by omega)] at e1
    rw [List.getElem?_append_right (by rw [← h.1]; omega), ← h.1] at e2
    cases hk : i - vs.length with
    | zero =>
      rw [hk] at e1 e2
      obtain rfl : V.ref t = v := Option.some.inj e1
      obtain rfl : xs = ys := Option.some.inj e2
      exact ⟨t, rfl, ht⟩
    | succ k =>
      rw [hk] at e1
      simp at e1
theorem Tups.upd {o : HO} (h : Tups K H vs xss) (hl : H l = some (.lst ys)) : Tups K (L2.upd H l o) vs xss := ⟨h.1, fun i v xs h1 h2 => by
  obtain ⟨t, e, ht⟩ := h.2 i v xs h1 h2
  exact ⟨t, e, sqT_upd ht hl⟩⟩
theorem Tups.get (h : Tups K H vs xss) {i : Nat} (hx : xss[i]? = some xs) : ∃ t, vs[i]? = some (.ref t) ∧ SqT K H t xs := by
  have hi : i < vs.length := by
    rw [h.1]
    exact (List.getElem?_eq_some_iff.mp hx).1
  obtain ⟨t, e, ht⟩ := h.2 i _ xs (List.getElem?_eq_getElem hi) hx
  exact ⟨t, by rw [List.getElem?_eq_getElem hi, e], ht⟩
theorem Tups.reverse (h : Tups K H vs xss) : Tups K H vs.reverse xss.reverse := by
  refine ⟨by rw [List.length_reverse, List.length_reverse, h.1], fun i v ys e1 e2 => ?_⟩
  have hi : i < vs.length := by
    have := (List.getElem?_eq_some_iff.mp e1).1
    rwa [List.length_reverse] at this
  rw [List.getElem?_reverse hi] at e1
  rw [List.getElem?_reverse (by rw [← h.1]; exact hi), ← h.1] at e2
  exact h.2 _ v ys e1 e2
/-- xs.append((..)) -/
theorem q_appT (hl : H l = some (.lst vs)) (hT : Tups K H vs xss) (ha : Ev ta σ H (.ref l)) (h : EvA tt σ H xs) (hx : xs.length ≤ 100000) (hz : vs.length < 100000) (k : ∀ v H1, Ex H H1 → Tups K (upd H1 l (.lst (vs ++ [v]))) (vs ++ [v]) (xss ++ [xs]) → tz D σ (upd H1 l (.lst (vs ++ [v])))) :
    tSeq (tDrop (tBM K "list" rAppend ta (tCons (tTup tt) tNil))) tz D σ H := ha H (Ex.refl H) _ fun H1 e1 =>
  ⟨Or.inl ⟨rfl, vs, sq_of (e1 l _ hl)⟩, (ep_U (K := K) (eu_tup (h.mono e1) hx)) H1 (Ex.refl H1) _ fun v H2 e2 ⟨t, ev, ht⟩ => ⟨l, vs, v, rfl, rfl, e2 l _ (e1 l _ hl), sz_lt hz, k v H2 (e1.trans e2) (by
    subst ev
    exact ((hT.mono (e1.trans e2)).snoc ht).upd (e2 l _ (e1 l _ hl)))⟩⟩
theorem s_appT (hl : H l = some (.lst vs)) (hT : Tups K H vs xss) (ha : Ev ta σ H (.ref l)) (h : EvA tt σ H xs) (hx : xs.length ≤ 100000) (hz : vs.length < 100000) (k : ∀ v H1, Ex H H1 → Tups K (upd H1 l (.lst (vs ++ [v]))) (vs ++ [v]) (xss ++ [xs]) → D.nx σ (upd H1 l (.lst (vs ++ [v])))) :
    tDrop (tBM K "list" rAppend ta (tCons (tTup tt) tNil)) D σ H := q_appT (tz := fun D σ H => D.nx σ H) (D := D) hl hT ha h hx hz k
/-- .. of a stretch -/
theorem s_appR {c : Bool} {n : Int} (hl : H l = some (.lst vs)) (hI : Items K H vs r) (ha : Ev ta σ H (.ref l)) (h : EvA tt σ H [.str (kl c), .int n]) (hz : vs.length < 100000) (k : ∀ v H1, Ex H H1 → Items K (upd H1 l (.lst (vs ++ [v]))) (vs ++ [v]) (r ++ [(c, n)]) → D.nx σ (upd H1 l (.lst (vs ++ [v])))) :
    tDrop (tBM K "list" rAppend ta (tCons (tTup tt) tNil)) D σ H := ha H (Ex.refl H) _ fun H1 e1 =>
  ⟨Or.inl ⟨rfl, vs, sq_of (e1 l _ hl)⟩, (ep_U (K := K) (eu_tup (h.mono e1) (by show (2 : Nat) ≤ 100000; decide))) H1 (Ex.refl H1) _ fun v H2 e2 ⟨t, ev, ht⟩ => ⟨l, vs, v, rfl, rfl, e2 l _ (e1 l _ hl), sz_lt hz, k v H2 (e1.trans e2) (by
    subst ev
    exact ((hI.mono (e1.trans e2)).append (Items.one (x := (c, n)) ⟨t, rfl, ht⟩)).upd (e2 l _ (e1 l _ hl)))⟩⟩
/-- xs + ys of two rings that stand -/
theorem ef_catV (ha : Ev ta σ H (.ref a)) (hb : Ev tb σ H (.ref b)) (h1 : H a = some (.lst xs)) (h2 : H b = some (.lst ys)) (hi : Items K H xs r) (hj : Items K H ys r') (hz : r.length + r'.length ≤ 100000) : EvF K (tOp rCat ta tb) σ H (r ++ r') := fun H1 e Q q =>
  ha H1 e _ fun H2 e2 => hb H2 (e.trans e2) _ fun H3 e3 => ⟨a, b, xs, ys, rfl, rfl, ((e.trans e2).trans e3) _ _ h1, ((e.trans e2).trans e3) _ _ h2, sz_of (by rw [hi.1, hj.1]; exact hz), fun p hp =>
    q p _ _ (fresh_back (e2.trans e3) hp) ((e2.trans e3).trans (Ex.new hp)) upd_same ((hi.mono (((e.trans e2).trans e3).trans (Ex.new hp))).append (hj.mono (((e.trans e2).trans e3).trans (Ex.new hp))))⟩
/-- an item -/
theorem ep_item {i : Nat} (ha : Ev ta σ H (.ref a)) (hb : Ev tb σ H (.int (i : Int))) (h : TupsAt K H a xss) (hx : xss[i]? = some xs) : EvP (tOp (rIxL K) ta tb) σ H (IsT K xs) := by
  obtain ⟨vs, hvs, hT⟩ := h
  obtain ⟨t, e, ht⟩ := hT.get hx
  exact ep_ev (ev_op ha hb (rv_ixL hvs (atI_nat e))) fun H1 e1 => ⟨t, rfl, ex_t e1 ht⟩
theorem ev_itemT {i j : Nat} (ha : Ev ta σ H (.ref a)) (hb : Ev tb σ H (.int (i : Int))) (hc : Ev tc σ H (.int (j : Int))) (h : TupsAt K H a xss) (hx : xss[i]? = some xs) (hv : xs[j]? = some v) : Ev (tOp (rIxT K) (tOp (rIxL K) ta tb) tc) σ H v := by
  obtain ⟨vs, hvs, hT⟩ := h
  obtain ⟨t, e, ht⟩ := hT.get hx
  exact ev_op (ev_op ha hb (rv_ixL hvs (atI_nat e))) hc (rv_ixT ht (atI_nat hv))
theorem ev_lenTup (ha : Ev ta σ H (.ref a)) (h : TupsAt K H a xss) : Ev (tCB (rLenS K) (tCons ta tNil)) σ H (.int (xss.length : Int)) := by
  obtain ⟨vs, hvs, hT⟩ := h
  have := ev_len ha hvs
  rw [hT.1] at this
  exact this
/-- a, b = a pair that is told by a word -/
theorem q_unpG {i j : Nat} (h : EvP te σ H P) (k : ∀ v H1, Ex H H1 → P v H1 → ∃ x y, IsT K [x, y] v H1 ∧ tz D ((σ.set i (some x)).set j (some y)) H1) : tSeq (tAsg te (gTup K 2 (gCons (gName i) (gCons (gName j) gNil)))) tz D σ H := h H (Ex.refl H) _ fun v H1 e hP => by
  obtain ⟨x, y, ⟨a, ea, ha⟩, hk⟩ := k v H1 e hP
  exact ⟨a, [x, y], ea, ha, rfl, x, [y], rfl, y, [], rfl, rfl, hk⟩
/-- a = b = e -/
theorem q_asg2 {i j : Nat} (h : Ev te σ H v) (k : ∀ H1, Ex H H1 → tz D ((σ.set i (some v)).set j (some v)) H1) : tSeq (tAsg2 te (gName i) (gName j)) tz D σ H := h H (Ex.refl H) _ fun H1 e1 => k H1 e1
/-- xs.reverse() -/
theorem q_rev (hl : H l = some (.lst xs)) (ha : Ev ta σ H (.ref l)) (k : ∀ H1, Ex H H1 → tz D σ (upd H1 l (.lst xs.reverse))) : tSeq (tDrop (tBM0 K "list" rReverse ta)) tz D σ H := ha H (Ex.refl H) _ fun H1 e1 =>
  ⟨Or.inl ⟨rfl, xs, sq_of (e1 l _ hl)⟩, l, xs, rfl, rfl, e1 l _ hl, k H1 e1⟩
/-- for i in reversed(range(n)) -/
theorem q_forRev {n : Nat} {j : Nat} (h : Ev te σ H (.int (n : Int))) (hn : n ≤ 100000) (Pv : Nat → Sg → Hp → Prop) (h0 : ∀ H1, Ex H H1 → Pv 0 σ H1)
    (hs : ∀ (i : Nat) (z : Int) σ' H', i < n → z = (n : Int) - 1 - (i : Int) → Pv i σ' H' → tu { D with nx := Pv (i + 1), ct := Pv (i + 1), bk := tz D } (σ'.set j (some (.int z))) H') (hd : ∀ σ' H', Pv n σ' H' → tz D σ' H') : tSeq (tFor (iRevR (tRg1 te)) (gName j) tu) tz D σ H :=
  h H (Ex.refl H) _ fun H1 e1 => ⟨n, rfl, by decide, by decide, by omega, by omega, by
    have en : ((n : Int) - 0).toNat = n := by omega
    rw [en]
    exact for_rangeC (D := { D with nx := tz D }) Pv (h0 H1 e1) (fun i σ' H' hi p => hs i _ σ' H' hi (by omega) p) hd⟩
/-- [e for x, y in a list of tuples] -/
theorem lc_tups {α : Type} {f : α → List V} {as : List α} {ws : List Nat} (st : α → Sg) (w : α → V) {H1 : Hp} {Q : VK} (hT : TupsAt K H1 a (as.map f)) (hz : as.length ≤ 40000)
    (hg : ∀ x t H1 (Q : Sg → Hp → Prop), SqT K H1 t (f x) → Q (st x) H1 → g (.ref t) (wipe σ ws) H1 Q)
    (hw : ∀ x, wipe (st x) ws = wipe σ ws)
    (he : ∀ x H2, Ex H1 H2 → x ∈ as → Ev te (st x) H2 (w x)) (q : ∀ Dl H2, H1 Dl = none → Ex H1 H2 → H2 Dl = some (.lst (as.map w)) → Q (.ref Dl) H2) :
    tLc (iList K fun _ H Q => Q (.ref a) H) g tYes te ws σ H1 Q := by
  obtain ⟨vs, hvs, hTs⟩ := hT
  refine ⟨a, rfl, ⟨vs, hvs⟩, fun Dl hD0 => ?_⟩
  refine lc_list (K := K) (a := a) (xs := vs) (fun i H' => H1 Dl = none ∧ Ex H1 H' ∧ H' Dl = some (.lst ((as.take i).map w))) ⟨hD0, Ex.new hD0, upd_same⟩ (fun i H' _ p => ex_l p.2.1 hvs) (fun i v H' hi p => ?_) (fun H' p => ?_)
  · obtain ⟨p1, p2, p3⟩ := p
    have hil : i < as.length := by
      have := (List.getElem?_eq_some_iff.mp hi).1
      rw [hTs.1, List.length_map] at this
      exact this
    have hx := List.getElem?_eq_getElem hil
    obtain ⟨t, rfl, ht⟩ := hTs.2 i v (f as[i]) hi (by rw [List.getElem?_map, hx]; rfl)
    refine hg _ t H' _ (ex_t p2 ht) ⟨hw _, ?_⟩
    show te _ _ _
    refine he _ H' p2 (List.getElem_mem hil) H' (Ex.refl _) _ fun H4 e4 => ⟨(as.take i).map w, e4 _ _ p3, sz_lt (by rw [List.length_map, List.length_take]; omega), p1, Ex.mut (p2.trans e4) p1, ?_⟩
    rw [upd_same, List.take_add_one, hx, List.map_append]
    rfl
  · obtain ⟨p1, p2, p3⟩ := p
    rw [hTs.1, List.length_map, List.take_length] at p3
    exact q Dl H' p1 p2 p3
theorem el_lcT {α : Type} {f : α → List V} {as : List α} {ws : List Nat} (st : α → Sg) (w : α → V) (h : Ev tl σ H (.ref a)) (hT : TupsAt K H a (as.map f)) (hz : as.length ≤ 40000)
    (hg : ∀ x t H1 (Q : Sg → Hp → Prop), SqT K H1 t (f x) → Q (st x) H1 → g (.ref t) (wipe σ ws) H1 Q)
    (hw : ∀ x, wipe (st x) ws = wipe σ ws) (he : ∀ x H2, Ex H H2 → x ∈ as → Ev te (st x) H2 (w x)) : EvL (tLc (iList K tl) g tYes te ws) σ H (as.map w) := fun H0 e Q q =>
  h H0 e _ fun H1 e1 => lc_tups (Q := Q) st w (hT.mono (e.trans e1)) hz hg hw (fun x H2 e2 hx => he x H2 ((e.trans e1).trans e2) hx) fun Dl H2 h1 h2 h3 => q Dl H2 (fresh_back e1 h1) (e1.trans h2) h3
/-- .. over a list that is told by a word -/
theorem ep_lcT {α : Type} {f : α → List V} {C : List α → Prop} {ws : List Nat} (st : α → Sg) (w : α → V) (h : EvP tl σ H (IsTups K f C)) (hz : ∀ as, C as → as.length ≤ 40000)
    (hg : ∀ x t H1 (Q : Sg → Hp → Prop), SqT K H1 t (f x) → Q (st x) H1 → g (.ref t) (wipe σ ws) H1 Q)
    (hw : ∀ x, wipe (st x) ws = wipe σ ws) (he : ∀ x H2, Ex H H2 → (∃ as, C as ∧ x ∈ as) → Ev te (st x) H2 (w x)) : EvP (tLc (iList K tl) g tYes te ws) σ H (fun v H' => ∃ p as, v = .ref p ∧ SqL K H' p (as.map w) ∧ C as) := fun H0 e Q q =>
  h H0 e _ fun v H1 e1 hv => by
    obtain ⟨a, as, rfl, hT, hC⟩ := hv
    exact lc_tups (Q := Q) st w hT (hz as hC) hg hw (fun x H2 e2 hx => he x H2 ((e.trans e1).trans e2) ⟨as, hC, hx⟩) fun Dl H2 h1 h2 h3 => q _ H2 (e1.trans h2) ⟨Dl, as, rfl, sq_of h3, hC⟩
/-- for a, b .. in a list of tuples told by a word -/
theorem q_forT {α : Type} {f : α → List V} {C : List α → Prop} (h : EvP tl σ H (IsTups K f C)) (Pv : Hp → List α → Nat → Sg → Hp → Prop) (h0 : ∀ H1 as, Ex H H1 → C as → Pv H1 as 0 σ H1) (hx : ∀ H1 as i σ' H', Ex H H1 → Pv H1 as i σ' H' → Ex H1 H')
    (hs : ∀ H1 as i x t σ' H', Ex H H1 → C as → as[i]? = some x → SqT K H' t (f x) → Pv H1 as i σ' H' → g (.ref t) σ' H' fun σ2 H2 => tu { D with nx := Pv H1 as (i + 1), ct := Pv H1 as (i + 1), bk := tz D } σ2 H2) (hd : ∀ H1 as σ' H', Ex H H1 → C as → Pv H1 as as.length σ' H' → tz D σ' H') :
    tSeq (tFor (iList K tl) g tu) tz D σ H :=
  h H (Ex.refl H) _ fun v H1 e1 hv => by
    obtain ⟨a, as, rfl, ⟨vs, hvs, hT⟩, hC⟩ := hv
    have el : vs.length = as.length := by rw [hT.1, List.length_map]
    refine ⟨a, rfl, ⟨vs, hvs⟩, for_list (D := { D with nx := tz D }) (xs := vs) (Pv H1 as) (h0 H1 as e1 hC) (fun i σ' H' _ p => ex_l (hx H1 as i σ' H' e1 p) hvs) (fun i v σ' H' hi p => ?_) (fun σ' H' p => hd H1 as σ' H' e1 hC (el ▸ p))⟩
    have hil : i < as.length := by
      have := (List.getElem?_eq_some_iff.mp hi).1
      omega
    have hx' := List.getElem?_eq_getElem hil
    obtain ⟨t, rfl, ht⟩ := hT.2 i v (f as[i]) hi (by rw [List.getElem?_map, hx']; rfl)
    exact hs H1 as i _ t σ' H' e1 hC hx' (ex_t (hx H1 as i σ' H' e1 p) ht) p
/-- a call of a built-in on what is told by a word -/
theorem ev_cbP {rr : List V → Hp → VK → Prop} (h : EvP te σ H P) (hr : ∀ v H1, Ex H H1 → P v H1 → RC rr [v] H1 z) : Ev (tCB rr (tCons te tNil)) σ H z := fun H1 e Q q =>
  h H1 e _ fun v H2 e2 hP => hr v H2 (e.trans e2) hP H2 (Ex.refl H2) Q fun H3 e3 => q H3 (e2.trans e3)
theorem rc_anyK {bs : List Bool} {c : Bool} (h : SqL K H a (bs.map V.bl)) (hc : bs.any id = c) : RC (rAny K) [.ref a] H (.bl c) := fun H1 e Q q => ⟨a, bs, rfl, ex_l e h, by rw [hc]; exact q H1 (Ex.refl H1)⟩
end
/-- pairs of numbers -/
def prI (x : Int × Int) : List V := [.int x.1, .int x.2]
section
variable {K : PySem.W.Frag} {σ : Sg} {H H0 H' : Hp} {ta tb te tx tc : TE} {t u : TT} {x y z v : V} {D : Ends} {tu tw tz : TS} {g : TG} {P P' P2 : V → Hp → Prop} {r : Ring} {a b l : Addr} {xs ys vs vs' : List V} {tr tt : TA}
/-- for x in (a, what is made) -/
theorem q_forU2 {j : Nat} (hm : ∀ v H H', Ex H H' → P v H → P v H') (ha : Ev ta σ H x) (hb : EvP tb σ H P) (Pv : V → Hp → Nat → Sg → Hp → Prop) (h0 : ∀ v H1, Ex H H1 → P v H1 → Pv v H1 0 σ H1) (hx : ∀ v H1 i σ' H', Ex H H1 → Pv v H1 i σ' H' → Ex H1 H')
    (hs : ∀ v H1 i w σ' H', Ex H H1 → P v H1 → ([x, v] : List V)[i]? = some w → Pv v H1 i σ' H' → tu { D with nx := Pv v H1 (i + 1), ct := Pv v H1 (i + 1), bk := tz D } (σ'.set j (some w)) H') (hd : ∀ v H1 σ' H', Ex H H1 → P v H1 → Pv v H1 2 σ' H' → tz D σ' H') :
    tSeq (tFor (iTup K (tTup (tCons ta (tCons tb tNil)))) (gName j) tu) tz D σ H :=
  ha H (Ex.refl H) _ fun H1 e1 => hb H1 e1 _ fun v H2 e2 hv => ⟨by show 2 ≤ sizeLine; decide, fun p hp => by
    have e3 : Ex H2 (upd H2 p (.tup [x, v])) := Ex.new hp
    have e03 := (e1.trans e2).trans e3
    have hv3 := hm _ _ _ e3 hv
    exact ⟨p, rfl, ⟨[x, v], st_of upd_same⟩, for_tup (D := { D with nx := tz D }) (K := K) (a := p) (xs := [x, v]) (Pv v _) (h0 v _ e03 hv3) (fun i σ' H' _ q => ex_t (hx v _ i σ' H' e03 q) (st_of upd_same)) (fun i w σ' H' hi q => hs v _ i w σ' H' e03 hv3 hi q) (fun σ' H' q => hd v _ σ' H' e03 hv3 q)⟩⟩
/-- o.m(what is made, ..) of an object just made -/
theorem ev_methP2 {C : Addr} {m : Str} {sp : Sp} {E : XK} (hm : ∀ v H H', Ex H H' → P v H → P v H') (hm' : ∀ v H H', Ex H H' → P' v H → P' v H') (ha : EvP ta σ H P) (hP : ∀ v H1, P v H1 → ∃ a dx fs, v = .ref a ∧ H1 a = some (.ins C dx fs) ∧ fs.lookup m = none)
    (hr : EvP te σ H P') (ht : EvA tr σ H vs) (hs : ∀ a v H1, P (.ref a) H1 → P' v H1 → SpV sp (.ref a :: ((v :: vs) ++ [])) H1 z) : Ev (tMeth C m sp [] E ta (tCons te tr)) σ H z := fun H1 e Q q => ha H1 e _ fun v H2 e2 hv => by
  obtain ⟨a, dx, fs, rfl, ho, hl⟩ := hP v H2 hv
  exact ⟨a, dx, fs, rfl, ho, hl, hr H2 (e.trans e2) _ fun w H3 e3 hw => ht H3 ((e.trans e2).trans e3) _ fun H4 e4 => hs a w H4 (hm _ _ _ (e3.trans e4) hv) (hm' _ _ _ e4 hw) H4 (Ex.refl H4) Q (fun H5 e5 => q H5 (((e2.trans e3).trans e4).trans e5)) E⟩
theorem ep_slI {n : Nat} {i : Int} {C : List Int → Prop} (hi : i = (n : Int)) (h : EvP te σ H (IsInts K C)) : EvP (tSl (rSlL K) te tNoPart (tPart (tC (.int i)))) σ H (IsInts K fun cs => ∃ ds, C ds ∧ cs = ds.take n) := fun H1 e Q q =>
  h H1 e _ fun v H2 e2 ⟨a, ns, ea, ha, hC⟩ => ⟨i, rfl, a, ns.map V.int, ea, ha, fun p hp => q (.ref p) _ (e2.trans (Ex.new hp)) ⟨p, ns.take n, rfl, by rw [List.map_take, ← cut_none, ← hi]; exact sq_of upd_same, ns, hC, rfl⟩⟩
theorem s_forI {C : List Int → Prop} {tl : TE} {j : Nat} (h : EvP tl σ H (IsInts K C)) (Pv : Hp → List Int → Nat → Sg → Hp → Prop) (h0 : ∀ H1 ns, Ex H H1 → C ns → Pv H1 ns 0 σ H1) (hx : ∀ H1 ns i σ' H', Ex H H1 → Pv H1 ns i σ' H' → Ex H1 H')
    (hs : ∀ H1 ns i n σ' H', Ex H H1 → C ns → ns[i]? = some n → Pv H1 ns i σ' H' → tu { D with nx := Pv H1 ns (i + 1), ct := Pv H1 ns (i + 1), bk := D.nx } (σ'.set j (some (.int n))) H') (hd : ∀ H1 ns σ' H', Ex H H1 → C ns → Pv H1 ns ns.length σ' H' → D.nx σ' H') :
    tFor (iList K tl) (gName j) tu D σ H :=
  h H (Ex.refl H) _ fun v H1 e1 ⟨a, ns, ea, ha, hC⟩ => ⟨a, ea, ⟨_, ha⟩, for_list (D := D) (xs := ns.map V.int) (Pv H1 ns) (h0 H1 ns e1 hC) (fun i σ' H' _ p => ex_l (hx H1 ns i σ' H' e1 p) ha) (fun i x σ' H' hi p => by
    rw [List.getElem?_map] at hi
    cases e : ns[i]? with
    | none =>
      rw [e] at hi
      cases hi
    | some n =>
      rw [e] at hi
      have ex : V.int n = x := Option.some.inj hi
      subst ex
      exact hs H1 ns i n σ' H' e1 hC e p) (fun σ' H' p => hd H1 ns σ' H' e1 hC (by rw [List.length_map] at p; exact p))⟩
/-! ### arguments of which the last is made -/
def EvAP (ta : TA) (σ : Sg) (H : Hp) (PL : List V → Hp → Prop) : Prop := ∀ H1, Ex H H1 → ∀ Q : List V → Hp → Prop, (∀ vs H2, Ex H1 H2 → PL vs H2 → Q vs H2) → ta σ H1 Q
theorem eap_one (h : EvP te σ H P) : EvAP (tCons te tNil) σ H (fun vs H' => ∃ v, vs = [v] ∧ P v H') := fun H1 e Q q => h H1 e _ fun v H2 e2 hv => q [v] H2 e2 ⟨v, rfl, hv⟩
theorem eap_cons {PL : List V → Hp → Prop} (h : Ev te σ H x) (hr : EvAP tr σ H PL) : EvAP (tCons te tr) σ H (fun vs H' => ∃ ws, vs = x :: ws ∧ PL ws H') := fun H1 e Q q =>
  h H1 e _ fun H2 e2 => hr H2 (e.trans e2) _ fun ws H3 e3 hw => q (x :: ws) H3 (e2.trans e3) ⟨ws, rfl, hw⟩
theorem ev_callAP {PL : List V → Hp → Prop} {sp : Sp} {E : XK} (h : EvAP tr σ H PL) (hs : ∀ vs H1, Ex H H1 → PL vs H1 → SpV sp (vs ++ []) H1 z) : Ev (tCall sp [] E tr) σ H z := fun H1 e Q q =>
  h H1 e _ fun vs H2 e2 hv => hs vs H2 (e.trans e2) hv H2 (Ex.refl H2) Q (fun H3 e3 => q H3 (e2.trans e3)) E
/-! ### lists of pairs of ints -/
def PrAll (K : PySem.W.Frag) (H : Hp) (vs : List V) : Prop := ∀ v ∈ vs, ∃ (t : Addr) (l u : Int), v = .ref t ∧ SqT K H t [.int l, .int u]
theorem PrAll.mono (e : Ex H H') (h : PrAll K H vs) : PrAll K H' vs := fun v hv => by
  obtain ⟨t, l, u, rfl, ht⟩ := h v hv
  exact ⟨t, l, u, rfl, ex_t e ht⟩
def EvQ (K : PySem.W.Frag) (te : TE) (σ : Sg) (H : Hp) (n : Nat) : Prop := ∀ H1, Ex H H1 → ∀ Q : VK, (∀ p vs H2, H1 p = none → Ex H1 H2 → H2 p = some (.lst vs) → vs.length = n → PrAll K H2 vs → Q (.ref p) H2) → te σ H1 Q
def EvQa (K : PySem.W.Frag) (ta : TA) (σ : Sg) (H : Hp) (n : Nat) : Prop := ∀ H1, Ex H H1 → ∀ Q : List V → Hp → Prop, (∀ vs H2, Ex H1 H2 → vs.length = n → PrAll K H2 vs → Q vs H2) → ta σ H1 Q
theorem eqa_nil : EvQa K tNil σ H 0 := fun H1 _ _ q => q [] H1 (Ex.refl H1) rfl fun v h => by simp at h
theorem eqa_cons {n : Nat} {i j : Int} (h : EvU te σ H [.int i, .int j]) (hr : EvQa K tr σ H n) : EvQa K (tCons te tr) σ H (n + 1) := fun H1 e Q q =>
  h H1 e _ fun p H2 hp e2 h2 => hr H2 (e.trans e2) _ fun vs H3 e3 hl hA => q (.ref p :: vs) H3 (e2.trans e3) (by rw [List.length_cons, hl]) fun v hv => by
    rcases List.mem_cons.mp hv with rfl | hv
    · exact ⟨p, i, j, rfl, ex_t e3 (st_of h2)⟩
    · exact hA v hv
theorem eq_lst {n : Nat} (h : EvQa K tr σ H n) (hn : n ≤ 100000) : EvQ K (tLst tr) σ H n := fun H1 e Q q =>
  h H1 e _ fun vs H2 e2 hl hA => ⟨sz_of (by omega), fun p hp => q p vs _ (fresh_back e2 hp) (e2.trans (Ex.new hp)) upd_same hl (hA.mono (Ex.new hp))⟩
theorem eq_cat {n m : Nat} (ha : Ev ta σ H (.ref l)) (hl : H l = some (.lst vs)) (hn : vs.length = n) (hA : PrAll K H vs) (hb : EvQ K tb σ H m) (hz : n + m ≤ 100000) : EvQ K (tOp rCat ta tb) σ H (n + m) := fun H1 e Q q =>
  ha H1 e _ fun H2 e2 => hb H2 (e.trans e2) _ fun p vs' H3 hp e3 h3 hm hA' => ⟨l, p, vs, vs', rfl, rfl, ((e.trans e2).trans e3) _ _ hl, h3, sz_of (by omega), fun c hc => q c _ _ (fresh_back (e2.trans e3) hc) ((e2.trans e3).trans (Ex.new hc)) upd_same (by rw [List.length_append, hn, hm]) fun v hv => by
    rcases List.mem_append.mp hv with hv | hv
    · exact hA.mono (((e.trans e2).trans e3).trans (Ex.new hc)) v hv
    · exact hA'.mono (Ex.new hc) v hv⟩
theorem q_asgQ {i n : Nat} (h : EvQ K te σ H n) (k : ∀ p vs H1, Ex H H1 → H1 p = some (.lst vs) → vs.length = n → PrAll K H1 vs → tz D (σ.set i (some (.ref p))) H1) : tSeq (tAsg te (gName i)) tz D σ H := h H (Ex.refl H) _ fun p vs H1 _ e h1 hl hA => k p vs H1 e h1 hl hA
end
theorem given_all3 (n : Nat) (v : Nat → V) : given n (fun _ => true) v = (List.range n).map v := by
  unfold given
  rw [List.filter_eq_self.mpr (fun _ _ => rfl)]
theorem all_true (n : Nat) : ((List.range n).map fun _ => true).all id = true := by
  rw [List.all_eq_true]
  intro b hb
  obtain ⟨_, _, rfl⟩ := List.mem_map.mp hb
  rfl
/-! ### defs that raise -/
section
variable {P : Program} {w : World} {K : PySem.W.Frag} {mg : Str → Option Value} {base : Heap} {x qual : Str} {st : Stmt} {f : Addr} {fd : FuncData} {N ps : List Str} {k : Nat} {sp : Sp}
theorem okN (F : Fun K x qual st f fd) (S : FnScope N ps (defScope st)) (len : ∀ vs H Q E, sp vs H Q E → vs.length = ps.length)
    (bd : ∀ cdv A outer (s : Shared) H vs Q E, Room k (A.deeper (envOfC qual (defScope st) s.heap.objs.size f cdv)) → sp vs H Q E →
      ∃ t, PSs (cxOf (L2N.CX P w) P w K mg base N qual (defScope st) f cdv A outer s H E) (defBody st) t ∧ t { nx := fun _ H' => Q .non H', rt := Q } (start N vs) H) :
    FnOk P w K mg base (L2N.CX P w) (k + 1) f fd ps sp := by
  obtain ⟨_, _, _, _, _, _, c, _, _, e, l, i⟩ := F.ex
  subst e
  exact fn_of l i S len (fun A o s H vs Q E => bd c A o s H vs Q E)
end
theorem passN {X : Cx} : Passes (L2N.CX X.prog X.w) X E0 := fun _ _ _ _ _ _ _ h => by
  obtain ⟨_, _, _, _, _, _, _, _, _, _, _, _, z⟩ := h
  exact z.elim
theorem takesN0 {X : Cx} : L2N.Takes X (fun _ _ _ _ => False) := fun _ _ y => by
  obtain ⟨_, _, _, _, _, _, _, _, _, _, _, _, _, _, _, _, z⟩ := y
  exact z.elim
/-- what is always raised: an own error of the class at C -/
def SpX (sp : Sp) (vs : List V) (H : Hp) (C : Addr) : Prop := ∀ H1, Ex H H1 → ∀ (Q : VK) (E : XK), (∀ H2, Ex H1 H2 → E (.ref C) none H2) → sp vs H1 Q E
def ErrX (C : Addr) (H : Hp) (E : XK) : Prop := ∀ H2, Ex H H2 → E (.ref C) none H2
def Rz (te : TE) (σ : Sg) (H : Hp) (W : WX) (C : Addr) : Prop := (∀ H2, Ex H H2 → W (.ref C) none σ H2) → ∀ Q : VK, te σ H Q
section
variable {K : PySem.W.Frag} {σ : Sg} {H H' : Hp} {ta tb te : TE} {tt : TA} {t : TT} {W : WX} {C : Addr} {D : Ends} {sp : Sp} {vs : List V}
theorem rz_call (h : EvA tt σ H vs) (hs : SpX sp vs H C) : Rz (tCallS sp (WE W) tt) σ H W C := fun hw Q => h H (Ex.refl H) _ fun H1 e1 => hs H1 e1 Q _ fun H2 e2 => hw H2 (e1.trans e2)
theorem rz_if {b : Bool} (h : EvT t σ H b) (h1 : b = true → ∀ H1, Ex H H1 → Rz ta σ H1 W C) (h2 : b = false → ∀ H1, Ex H H1 → Rz tb σ H1 W C) : Rz (tIf t ta tb) σ H W C := fun hw Q => h H (Ex.refl H) _ fun H1 e1 => by
  cases b with
  | true => exact h1 rfl H1 e1 (fun H2 e2 => hw H2 (e1.trans e2)) Q
  | false => exact h2 rfl H1 e1 (fun H2 e2 => hw H2 (e1.trans e2)) Q
theorem s_retX (h : Rz te σ H W C) (hw : ∀ H2, Ex H H2 → W (.ref C) none σ H2) : tRet te D σ H := h hw _
end
/-- a local that holds a def, called for what it raises -/
def tCallLS (i : Nat) (f : Addr) (sp : Sp) (E : Sg → XK) (t : TA) : TE := fun σ H Q => σ[i]? = some (some (.ref f)) ∧ t σ H fun vs H1 => sp vs H1 Q (E σ)
section
variable {X : Cx} {CX : CXT} {k i : Nat} {f : Addr} {fd : FuncData} {ps : List Str} {sp : Sp} {E : Sg → XK} {x : Str} {p pos : PySem.Pos} {e : Expr} {es : List Expr} {t : TA}
theorem pe_callLS (F : FnOk X.prog X.w X.K X.mg X.base CX k f fd ps sp) (room : Room k X.A) (hN : X.N[i]? = some x) (hv : Vis X.env.scope x) (kp : PySem.W.keepIn X.K (.ref f) = true) (bs : Binds X.K fd ps []) (pass : ∀ σ, PassesAt CX X σ (E σ)) (args : PA X (e :: es) t)
    (n1 : (x == ("__debug__" : Str)) = false := by decide) (n2 : (x == ("__classdict__" : Str)) = false := by decide)
    (st : starEach (e :: es) X.env = (false, eval e X.env) :: starEach es X.env := by rfl) (pl : (backTo pos (starEach es X.env)).any (·.1) = false := by rfl) : PE X (.Call (.Name x p) (e :: es) [] pos) (tCallLS i f sp E t) :=
  ⟨fun pins s σ H Q I ⟨holds, rest⟩ => wpAny_Call_Name_kw (thn ((pe_var (pos := p) hN hv n1 n2).run pins s σ H (fun v H1 => v = .ref f ∧ H1 = H) I ⟨.ref f, holds, rfl, rfl⟩) fun u s1 ⟨v, H1, I1, r1, ev, eH⟩ => by
    subst ev eH
    cases r1
    exact PySem.W.callWith_K (h₀ := X.base) I.ok.mod.kin kp (thn (args.run pos pins s1 σ _ _ I1 rest) fun us s2 ⟨vs, H2, I2, r, q⟩ => ⟨I2.kIn, run_fnS F room bs (pass σ) I2 r q⟩) st pl)⟩
end
/-! ### defs called with the error that a suite handles: the promise knows where it lies -/
abbrev Pin := Addr × Obj
structure FnE (P : Program) (w : World) (K : PySem.W.Frag) (mg : Str → Option Value) (base : Heap) (k : Nat) (f : Addr) (fd : FuncData) (ps : List Str) (sp : Pin → Sp) : Prop where
  cnt : ∀ p vs H Q E, sp p vs H Q E → vs.length = ps.length
  go : ∀ (A : Around) (outer : List Env) (s : Shared) (H : Hp) (args : Args) (us : List Value) (vs : List V) (Q : VK) (E : XK) (p : Pin), L2H.RoomH k A → L2H.Hot1 A p → L2H.PinOk outer H s p → Env0 P w K mg base A outer s H →
    BindsTo s fd args (ps.zip us) → Vals vs us → sp p vs H Q E → codeAny (model P w) A (.call (.ref f) args) (CR CX0 outer P w H s Q E) s
section
variable {P : Program} {w : World} {K : PySem.W.Frag} {mg : Str → Option Value} {base : Heap} {x qual : Str} {st : Stmt} {f : Addr} {fd : FuncData} {N ps : List Str} {k : Nat} {sp : Pin → Sp}
theorem okE (F : Fun K x qual st f fd) (S : FnScope N ps (defScope st)) (cnt : ∀ p vs H Q E, sp p vs H Q E → vs.length = ps.length)
    (bd : ∀ cdv A outer (s : Shared) H vs Q E (p : Pin), L2H.Hot1 A p → L2H.RoomH k (A.deeper (envOfC qual (defScope st) s.heap.objs.size f cdv)) → sp p vs H Q E →
      ∃ t, PSs (L2H.cxH CX0 P w K mg base N qual (defScope st) f cdv A outer s H E p) (defBody st) t ∧ t { nx := fun _ H' => Q .non H', rt := Q } (start N vs) H) : FnE P w K mg base (k + 1) f fd ps sp := by
  obtain ⟨_, _, _, _, _, _, c, _, _, e, l, i⟩ := F.ex
  subst e
  constructor
  · exact cnt
  · intro A outer s H args us vs Q E p room hot pin env bnd rel holds
    have there : ∀ b o, base.get? b = some o → s.heap.get? b = some o := fun b o z => (env.bs b o z).1
    have kin := env.mod.kin.keeps there
    have known : ∀ y ∈ ps.zip us, (defScope st).names.lookup y.1 = some .local ∨ ((defScope st).names.lookup y.1 = some .cell ∧ ((cellsFrom (s.heap.objs.size + 1) (defScope st).names []).lookup y.1).isSome = true) := fun y hy =>
      (S.par y.1 (List.of_mem_zip (a := y.1) (b := y.2) hy).1).imp id fun z => ⟨z, PySem.W.cellsFrom_some _ _ _ (.inl z)⟩
    refine codeAny_call_function room.depth (kin f _ l) rfl S.co S.gen rfl (PySem.W.codeRec_of kin i) (bnd _ _ _ _ (wpAny_newFunctionEnv_cells S.kind known fun env' same s1 inn => ?_))
    subst same
    obtain ⟨t, body, reads⟩ := bd c A outer s H vs Q E p hot (room.deeper _) holds
    have I := L2H.inv_startH (CX := CX0) (E := E) S pin env (cnt p vs H Q E holds) rel inn
    refine ⟨(env.mod.nolimit.keeps there).keeps inn.toInCall.keep, codeAny_func (wpAny_mono (body.run [] s1 _ H _ I reads) (fun fl s' end_ => ?_) fun _ _ z => z)⟩
    cases fl with
    | brk => exact end_.elim fun _ z => z.elim fun _ z => z.2.elim
    | cont => exact end_.elim fun _ z => z.elim fun _ z => z.2.elim
    | next =>
      obtain ⟨_, H', J, q⟩ := end_
      exact ⟨.non, H', J.os, J.bare, J.base, J.hok, rfl, q⟩
    | ret u =>
      obtain ⟨v, _, H', J, rv, q⟩ := end_
      exact ⟨v, H', J.os, J.bare, J.base, J.hok, rv, q⟩
end
def tCallE (sp : Sp) (t : TA) : TE := fun σ H Q => t σ H fun vs H1 => sp vs H1 Q E0
section
variable {X : Cx} {k : Nat} {f : Addr} {fd : FuncData} {ps : List Str} {sp : Pin → Sp} {x : Str} {q pos : PySem.Pos} {e : Expr} {es : List Expr} {t : TA} {a : Addr} {oe : Obj} {pn : List Pin}
theorem pe_callE {spK : Addr → Value → Option Addr → Sp} {cls : Value} {d : Option Addr} (F : FnE X.prog X.w X.K X.mg X.base k f fd ps (fun p => spK p.1 p.2.cls p.2.dict)) (room : L2H.RoomH k X.A) (hz : L2N.Zn cls d oe) (hf : ∃ vs, oe.data = .fields vs) (gl : Gl X x) (hm : X.mg x = some (.ref f)) (kp : PySem.W.keepIn X.K (.ref f) = true) (bs : Binds X.K fd ps [])
    (args : PA (X.suite a ((a, oe) :: pn)) (e :: es) t) (n1 : (x == ("__debug__" : Str)) = false := by decide) (st : starEach (e :: es) X.env = (false, eval e X.env) :: starEach es X.env := by rfl) (pl : (backTo pos (starEach es X.env)).any (·.1) = false := by rfl) :
    PE (X.suite a ((a, oe) :: pn)) (.Call (.Name x q) (e :: es) [] pos) (tCallE (spK a cls d) t) := by
  obtain ⟨h1, h2, h3⟩ := hz
  subst h1 h2
  refine ⟨fun pins s σ H Q I h => wpAny_Call_Name_kw (ld_glob I gl hm (PySem.W.callWith_K (h₀ := X.base) I.ok.mod.kin kp (thn (args.run pos pins s σ H _ I h) fun us s1 ⟨vs, H1, I1, r, holds⟩ => ⟨I1.kIn, ?_⟩) st pl) n1)⟩
  have cnt := F.cnt (a, oe) _ _ _ _ holds
  have bnd := bs s1 us I1.kIn (by rw [List.append_nil, ← r.length]; exact cnt)
  rw [List.append_nil] at bnd
  have pin := I1.pin (a, oe) (List.mem_append_left _ List.mem_cons_self)
  have out : L2H.PinOk (X.suite a ((a, oe) :: pn)).stack H1 s1 (a, oe) := ⟨pin.1, pin.2.1, fun hm => (List.mem_cons.mp (I1.stkSub a hm)).elim pin.2.2.1 pin.2.2.2.1, pin.2.2.2.2⟩
  have hot : L2H.Hot1 (X.suite a ((a, oe) :: pn)).A (a, oe) := by
    obtain ⟨vs, hv⟩ := hf
    exact ⟨rfl, vs, hv, h3 vs hv⟩
  refine wpAny_call (codeAny_mono (F.go _ _ s1 H1 ⟨us, []⟩ us vs Q E0 (a, oe) ⟨room.dp, room.un⟩ hot out I1.env0 bnd r holds) fun res s2 z => ?_)
  cases res with
  | error _ => exact z.elim
  | ok fl =>
    cases fl with
    | ret u => exact I1.after z
    | next => exact z.elim
    | brk => exact z.elim
    | cont => exact z.elim
end
/-- isinstance of that error, in the def that was called with it -/
theorem call_isP {X : Cx} {a C : Addr} {oe : Obj} (ex : ExcC X.K C) (hz : Zc (.ref C) none oe) (hf : ∃ vs, oe.data = .fields vs) (hp : (a, oe) ∈ X.pn) : CallR X (.builtin "isinstance") (rIsE X.K C a) := fun pins s σ H xs us Q I r h => by
  obtain ⟨c, cv, b, rfl, only, e, q⟩ := h
  obtain ⟨u1, u2, rfl, r1, r2⟩ := vals2 r
  cases r1
  have e2 := only _ r2
  subst e2
  have there := (I.pin (a, oe) (List.mem_append_left _ hp)).1
  obtain ⟨vs, hv⟩ := hf
  obtain ⟨oc, od, oda, osl⟩ := oe
  obtain ⟨h1, h2⟩ := hz
  dsimp only at h1 h2 hv
  subst h1 h2 hv
  exact PySem.W.kia_one (PySem.W.handS_kitx_exc ex.hg ex.hk ex.hs ex.hd ex.ha ex.hn ex.ht ex.hm) I.kIn (show PySem.W.InstAt s.heap a _ C none from ⟨there, rfl, rfl, trivial⟩) e (fun z => nomatch z) fun tk => ⟨.bl b, H, I.kept (t' := tk) fun _ _ z => z, rfl, q⟩
theorem ev_isE {K : PySem.W.Frag} {σ : Sg} {H : Hp} {ta tc : TE} {C a : Addr} {c : V} {cv : Value} {b : Bool} (ha : Ev ta σ H (.ref a)) (hc : Ev tc σ H c) (only : ∀ u, RelV c u → u = cv) (hk : PySem.W.kitOne K (.ref C) cv = some b) : Ev (tCB (rIsE K C a) (tCons ta (tCons tc tNil))) σ H (.bl b) :=
  fun H1 e Q q => ha H1 e _ fun H2 e2 => hc H2 (e.trans e2) _ fun H3 e3 => ⟨c, cv, b, rfl, only, hk, q H3 (e2.trans e3)⟩
/-! ### lists of things of a kind -/
def Mono (R : V → Hp → Prop) : Prop := ∀ v H H', Ex H H' → R v H → R v H'
def AllR (R : V → Hp → Prop) (H : Hp) (vs : List V) : Prop := ∀ v ∈ vs, R v H
def EvB (R : V → Hp → Prop) (te : TE) (σ : Sg) (H : Hp) (n : Nat) : Prop := ∀ H1, Ex H H1 → ∀ Q : VK, (∀ p vs H2, H1 p = none → Ex H1 H2 → H2 p = some (.lst vs) → vs.length = n → AllR R H2 vs → Q (.ref p) H2) → te σ H1 Q
def EvBt (R : V → Hp → Prop) (te : TE) (σ : Sg) (H : Hp) (n : Nat) : Prop := ∀ H1, Ex H H1 → ∀ Q : VK, (∀ p vs H2, H1 p = none → Ex H1 H2 → H2 p = some (.tup vs) → vs.length = n → AllR R H2 vs → Q (.ref p) H2) → te σ H1 Q
def EvBa (R : V → Hp → Prop) (ta : TA) (σ : Sg) (H : Hp) (n : Nat) : Prop := ∀ H1, Ex H H1 → ∀ Q : List V → Hp → Prop, (∀ vs H2, Ex H1 H2 → vs.length = n → AllR R H2 vs → Q vs H2) → ta σ H1 Q
section
variable {K : PySem.W.Frag} {R : V → Hp → Prop} {σ : Sg} {H H' : Hp} {ta tb te ti tl : TE} {tr : TA} {n m : Nat} {vs xs : List V} {l a : Addr} {P : V → Hp → Prop} {D : Ends} {tz : TS} {x y v : V} {bs : List Bool}
theorem AllR.mono (hm : Mono R) (e : Ex H H') (h : AllR R H vs) : AllR R H' vs := fun v hv => hm v _ _ e (h v hv)
theorem eb_nil : EvBa R tNil σ H 0 := fun H1 _ _ q => q [] H1 (Ex.refl H1) rfl fun v h => by simp at h
theorem eb_cons (hm : Mono R) (h : EvP te σ H R) (hr : EvBa R tr σ H n) : EvBa R (tCons te tr) σ H (n + 1) := fun H1 e Q q =>
  h H1 e _ fun w H2 e2 hw => hr H2 (e.trans e2) _ fun vs H3 e3 hl hA => q (w :: vs) H3 (e2.trans e3) (by rw [List.length_cons, hl]) fun v hv => (List.mem_cons.mp hv).elim (fun z => z ▸ hm _ _ _ e3 hw) fun z => hA v z
theorem eb_lst (hm : Mono R) (h : EvBa R tr σ H n) (hn : n ≤ 100000) : EvB R (tLst tr) σ H n := fun H1 e Q q =>
  h H1 e _ fun vs H2 e2 hl hA => ⟨sz_of (by omega), fun p hp => q p vs _ (fresh_back e2 hp) (e2.trans (Ex.new hp)) upd_same hl (hA.mono hm (Ex.new hp))⟩
theorem eb_tup (hm : Mono R) (h : EvBa R tr σ H n) (hn : n ≤ 100000) : EvBt R (tTup tr) σ H n := fun H1 e Q q =>
  h H1 e _ fun vs H2 e2 hl hA => ⟨sz_of (by omega), fun p hp => q p vs _ (fresh_back e2 hp) (e2.trans (Ex.new hp)) upd_same hl (hA.mono hm (Ex.new hp))⟩
theorem eb_cat (hm : Mono R) (ha : Ev ta σ H (.ref l)) (hl : H l = some (.lst vs)) (hn : vs.length = n) (hA : AllR R H vs) (hb : EvB R tb σ H m) (hz : n + m ≤ 100000) : EvB R (tOp rCat ta tb) σ H (n + m) := fun H1 e Q q =>
  ha H1 e _ fun H2 e2 => hb H2 (e.trans e2) _ fun p ws H3 hp e3 h3 hk hB => ⟨l, p, vs, ws, rfl, rfl, ((e.trans e2).trans e3) _ _ hl, h3, sz_of (by omega), fun c hc => q c _ _ (fresh_back (e2.trans e3) hc) ((e2.trans e3).trans (Ex.new hc)) upd_same (by rw [List.length_append, hn, hk]) fun v hv =>
    (List.mem_append.mp hv).elim (fun z => hA.mono hm (((e.trans e2).trans e3).trans (Ex.new hc)) v z) fun z => hB.mono hm (Ex.new hc) v z⟩
theorem q_asgB {i : Nat} (h : EvB R te σ H n) (k : ∀ p vs H1, H p = none → Ex H H1 → H1 p = some (.lst vs) → vs.length = n → AllR R H1 vs → tz D (σ.set i (some (.ref p))) H1) : tSeq (tAsg te (gName i)) tz D σ H := h H (Ex.refl H) _ fun p vs H1 hp e h1 hl hA => k p vs H1 hp e h1 hl hA
/-- one of a tuple just made -/
theorem ep_pick {i : Int} (h : EvBt R te σ H n) (hi : ∀ H1, Ex H H1 → Ev ti σ H1 (.int i)) (h0 : 0 ≤ i) (h1 : i < n) (hm : Mono R) : EvP (tOp (rIxT K) te ti) σ H R := fun H1 e Q q =>
  h H1 e _ fun p vs H2 hp e2 h2 hl hA => hi H2 (e.trans e2) H2 (Ex.refl H2) _ fun H3 e3 => by
    have hlt : i.toNat < vs.length := by omega
    exact ⟨p, vs, i, vs[i.toNat], rfl, rfl, ex_t e3 (st_of h2), at_of (j := i.toNat) (by omega) (List.getElem?_eq_getElem hlt), q _ H3 (e2.trans e3) (hm _ _ _ e3 (hA _ (List.getElem_mem hlt)))⟩
theorem q_appP {P : V → Hp → Prop} (hl : H l = some (.lst xs)) (ha : Ev ta σ H (.ref l)) (h : EvP te σ H P) (hz : xs.length < 100000) (k : ∀ v H1, Ex H H1 → P v H1 → tz D σ (upd H1 l (.lst (xs ++ [v])))) :
    tSeq (tDrop (tBM K "list" rAppend ta (tCons te tNil))) tz D σ H := ha H (Ex.refl H) _ fun H1 e1 =>
  ⟨Or.inl ⟨rfl, xs, sq_of (e1 l _ hl)⟩, h H1 e1 _ fun v H2 e2 hv => ⟨l, xs, v, rfl, rfl, e2 l _ (e1 l _ hl), sz_lt hz, k v H2 (e1.trans e2) hv⟩⟩
theorem s_appP {P : V → Hp → Prop} (hl : H l = some (.lst xs)) (ha : Ev ta σ H (.ref l)) (h : EvP te σ H P) (hz : xs.length < 100000) (k : ∀ v H1, Ex H H1 → P v H1 → D.nx σ (upd H1 l (.lst (xs ++ [v])))) :
    tDrop (tBM K "list" rAppend ta (tCons te tNil)) D σ H := q_appP (tz := fun D σ H => D.nx σ H) (D := D) hl ha h hz k
/-- [e], (e,) of what is made -/
theorem ep_lst1 (hm : Mono P) (h : EvP te σ H P) : EvP (tLst (tCons te tNil)) σ H (fun v H' => ∃ a x, v = .ref a ∧ SqL K H' a [x] ∧ P x H') := fun H1 e Q q =>
  h H1 e _ fun x H2 e2 hx => ⟨sz_of (by show 1 ≤ 100000; decide), fun p hp => q _ _ (e2.trans (Ex.new hp)) ⟨p, x, rfl, sq_of upd_same, hm _ _ _ (Ex.new hp) hx⟩⟩
theorem ep_tup1 (hm : Mono P) (h : EvP te σ H P) : EvP (tTup (tCons te tNil)) σ H (fun v H' => ∃ a x, v = .ref a ∧ SqT K H' a [x] ∧ P x H') := fun H1 e Q q =>
  h H1 e _ fun x H2 e2 hx => ⟨sz_of (by show 1 ≤ 100000; decide), fun p hp => q _ _ (e2.trans (Ex.new hp)) ⟨p, x, rfl, st_of upd_same, hm _ _ _ (Ex.new hp) hx⟩⟩
/-- a step range -/
theorem q_forR3 {tu : TS} {j : Nat} {lo hi c : Int} (h : EvA tr σ H [.int lo, .int hi, .int c]) (hn : RgC lo hi c n) (Pv : Nat → Sg → Hp → Prop) (h0 : ∀ H1, Ex H H1 → Pv 0 σ H1)
    (step : ∀ (i : Nat) σ' H', i < n → Pv i σ' H' → tu { D with nx := Pv (i + 1), ct := Pv (i + 1), bk := tz D } (σ'.set j (some (.int (lo + (i : Int) * c)))) H') (fin : ∀ σ' H', Pv n σ' H' → tz D σ' H') : tSeq (tFor (iRng3 tr) (gName j) tu) tz D σ H :=
  h H (Ex.refl H) _ fun H1 e => ⟨lo, hi, c, n, rfl, hn, for_rangeC (D := { D with nx := tz D }) Pv (h0 H1 e) (fun i σ' H' hi p => step i σ' H' hi p) fin⟩
/-! ### lists of truths -/
theorem dp_bls : ∀ bs : List Bool, DpAll K H (bs.map V.bl) (bs.map PyData.bool)
  | [] => .nil
  | b :: bs => .cons (.bl b) (dp_bls bs)
theorem bls_lay : ∀ bs : List Bool, PyData.canLayAll0 (bs.map PyData.bool) = true
  | [] => rfl
  | b :: bs => by
    rw [List.map_cons, PyData.canLayAll0, bls_lay bs]
    rfl
theorem bls_depth : ∀ bs : List Bool, PyData.depthAll (bs.map PyData.bool) = 0
  | [] => rfl
  | b :: bs => by
    rw [List.map_cons, PyData.depthAll, bls_depth bs]
    rfl
theorem bls_shaped (bs : List Bool) : SeqAt.shaped (.list (bs.map PyData.bool)) = true := by
  unfold SeqAt.shaped
  rw [PyData.canLay0, bls_lay, PyData.depth, bls_depth]
  decide
theorem bls_refl (bs : List Bool) : PyData.eqv (.list (bs.map PyData.bool)) (.list (bs.map PyData.bool)) = true := PySem.SeqAt.eqv_refl _ (by rw [PyData.canLay0]; exact bls_lay bs)
/-- a new list of truths is like that one -/
theorem ev_eqBls (ha : EvL ta σ H (bs.map V.bl)) (hb : ∀ H1, Ex H H1 → Ev tb σ H1 (.ref a)) (h : SqL K H a (bs.map V.bl)) : Ev (tOp (rEqD K) ta tb) σ H (.bl true) :=
  ev_opL1 ha hb fun p H1 hp e1 => rv_val fun H2 e2 Q q => ⟨_, _, .lst (sq_of (e2 _ _ hp)) (dp_bls bs), .lst (ex_l (e1.trans e2) h) (dp_bls bs), bls_shaped bs, bls_shaped bs, by rw [bls_refl]; exact q⟩
end
/-! ### what is no ring, no whole number -/
def Sc (v : V) : Prop := v = .non ∨ (∃ n, v = .int n) ∨ (∃ b, v = .bl b) ∨ (∃ s, v = .str s)
def BadPair (x y : V) : Prop := Sc x ∧ Sc y ∧ ∀ (b : Bool) (n : Int), x = .str (kl b) → y = .int n → n < 1
def BadItem (K : PySem.W.Frag) : V → Hp → Prop := fun v H => Sc v ∨ (∃ a xs, v = .ref a ∧ SqL K H a xs) ∨ (∃ a xs, v = .ref a ∧ SqT K H a xs ∧ (xs.length ≠ 2 ∨ ∃ x y, xs = [x, y] ∧ BadPair x y))
def NoRing (K : PySem.W.Frag) : V → Hp → Prop := fun v H => Sc v ∨ (∃ a xs, v = .ref a ∧ SqT K H a xs) ∨ (∃ a, v = .ref a ∧ H a = some (.dK [])) ∨
  (∃ a vs, v = .ref a ∧ SqL K H a vs ∧ vs.length ≤ 1000 ∧ (vs = [] ∨ ∃ (i : Nat) (w : V), vs[i]? = some w ∧ BadItem K w H ∧ ∀ (j : Nat) (u : V), j < i → vs[j]? = some u → ∃ x, StAt K H u x ∧ 1 ≤ x.2))
def NoWhole (K : PySem.W.Frag) : V → Hp → Prop := fun v H => v = .non ∨ (∃ b, v = .bl b) ∨ (∃ s, v = .str s) ∨ (∃ a xs, v = .ref a ∧ SqL K H a xs) ∨ (∃ a xs, v = .ref a ∧ SqT K H a xs) ∨ (∃ a, v = .ref a ∧ H a = some (.dK []))
/-- no whole number, or one that C holds of -/
def NoNum (K : PySem.W.Frag) (C : Int → Prop) : V → Hp → Prop := fun v H => NoWhole K v H ∨ ∃ n, v = .int n ∧ C n
section
variable {K : PySem.W.Frag} {σ : Sg} {H : Hp} {te : TE} {v x y : V} {xs : List V} {C : Int → Prop}
theorem bi_mono : Mono (BadItem K) := fun v H H' e h => by
  rcases h with h | ⟨a, xs, rfl, h⟩ | ⟨a, xs, rfl, h, k⟩
  · exact .inl h
  · exact .inr (.inl ⟨a, xs, rfl, ex_l e h⟩)
  · exact .inr (.inr ⟨a, xs, rfl, ex_t e h, k⟩)
theorem nr_mono : Mono (NoRing K) := fun v H H' e h => by
  rcases h with h | ⟨a, xs, rfl, h⟩ | ⟨a, rfl, h⟩ | ⟨a, vs, rfl, h, hl, k⟩
  · exact .inl h
  · exact .inr (.inl ⟨a, xs, rfl, ex_t e h⟩)
  · exact .inr (.inr (.inl ⟨a, rfl, e _ _ h⟩))
  · refine .inr (.inr (.inr ⟨a, vs, rfl, ex_l e h, hl, k.imp id fun ⟨i, w, h1, h2, h3⟩ => ⟨i, w, h1, bi_mono _ _ _ e h2, fun j u hj hu => ?_⟩⟩))
    obtain ⟨x, hx, hp⟩ := h3 j u hj hu
    exact ⟨x, hx.mono e, hp⟩
theorem nw_mono : Mono (NoWhole K) := fun v H H' e h => by
  rcases h with h | h | h | ⟨a, xs, rfl, h⟩ | ⟨a, xs, rfl, h⟩ | ⟨a, rfl, h⟩
  · exact .inl h
  · exact .inr (.inl h)
  · exact .inr (.inr (.inl h))
  · exact .inr (.inr (.inr (.inl ⟨a, xs, rfl, ex_l e h⟩)))
  · exact .inr (.inr (.inr (.inr (.inl ⟨a, xs, rfl, ex_t e h⟩))))
  · exact .inr (.inr (.inr (.inr (.inr ⟨a, rfl, e _ _ h⟩))))
theorem nn_mono : Mono (NoNum K C) := fun v H H' e h => h.imp (nw_mono v H H' e) id
theorem sc_non : Sc .non := .inl rfl
theorem sc_int {n : Int} : Sc (.int n) := .inr (.inl ⟨n, rfl⟩)
theorem sc_bl {b : Bool} : Sc (.bl b) := .inr (.inr (.inl ⟨b, rfl⟩))
theorem sc_str {s : Str} : Sc (.str s) := .inr (.inr (.inr ⟨s, rfl⟩))
theorem nr_sc (h : Ev te σ H v) (hs : Sc v) : EvP te σ H (NoRing K) := ep_ev h fun _ _ => .inl hs
theorem nr_tup (h : EvU te σ H xs) : EvP te σ H (NoRing K) := (ep_U (K := K) h).imp fun v H1 _ ⟨a, e, h1⟩ => .inr (.inl ⟨a, xs, e, h1⟩)
theorem nr_dict : EvP tDNewK σ H (NoRing K) := fun H1 e Q q => fun p hp => q _ _ (Ex.new hp) (.inr (.inr (.inl ⟨p, rfl, upd_same⟩)))
theorem nr_empty : EvP (tLst tNil) σ H (NoRing K) := (ep_L (K := K) (el_lst ea_nil (by decide))).imp fun v H1 _ ⟨a, e, h1⟩ => .inr (.inr (.inr ⟨a, [], e, h1, by decide, .inl rfl⟩))
theorem nr_one (h : EvP te σ H (BadItem K)) : EvP (tLst (tCons te tNil)) σ H (NoRing K) := (ep_lst1 (K := K) bi_mono h).imp fun v H1 _ ⟨a, x, e, h1, h2⟩ => .inr (.inr (.inr ⟨a, [x], e, h1, by simp, .inr ⟨0, x, rfl, h2, fun j u hj => absurd hj (Nat.not_lt_zero j)⟩⟩))
theorem bi_sc (h : Ev te σ H v) (hs : Sc v) : EvP te σ H (BadItem K) := ep_ev h fun _ _ => .inl hs
theorem bi_lst (h : EvL te σ H xs) : EvP te σ H (BadItem K) := (ep_L (K := K) h).imp fun v H1 _ ⟨a, e, h1⟩ => .inr (.inl ⟨a, xs, e, h1⟩)
theorem bi_tup (h : EvU te σ H xs) (hl : xs.length ≠ 2) : EvP te σ H (BadItem K) := (ep_U (K := K) h).imp fun v H1 _ ⟨a, e, h1⟩ => .inr (.inr ⟨a, xs, e, h1, .inl hl⟩)
theorem bi_pair (h : EvU te σ H [x, y]) (hb : BadPair x y) : EvP te σ H (BadItem K) := (ep_U (K := K) h).imp fun v H1 _ ⟨a, e, h1⟩ => .inr (.inr ⟨a, [x, y], e, h1, .inr ⟨x, y, rfl, hb⟩⟩)
theorem nn_int {n : Int} (h : Ev te σ H (.int n)) (hc : C n) : EvP te σ H (NoNum K C) := ep_ev h fun _ _ => .inr ⟨n, rfl, hc⟩
theorem nn_no (h : EvP te σ H (NoWhole K)) : EvP te σ H (NoNum K C) := h.imp fun v H1 _ k => .inl k
theorem nw_non (h : Ev te σ H .non) : EvP te σ H (NoWhole K) := ep_ev h fun _ _ => .inl rfl
theorem nw_bl {b : Bool} (h : Ev te σ H (.bl b)) : EvP te σ H (NoWhole K) := ep_ev h fun _ _ => .inr (.inl ⟨b, rfl⟩)
theorem nw_str {s : Str} (h : Ev te σ H (.str s)) : EvP te σ H (NoWhole K) := ep_ev h fun _ _ => .inr (.inr (.inl ⟨s, rfl⟩))
theorem nw_lst (h : EvL te σ H xs) : EvP te σ H (NoWhole K) := (ep_L (K := K) h).imp fun v H1 _ ⟨a, e, h1⟩ => .inr (.inr (.inr (.inl ⟨a, xs, e, h1⟩)))
theorem nw_tup (h : EvU te σ H xs) : EvP te σ H (NoWhole K) := (ep_U (K := K) h).imp fun v H1 _ ⟨a, e, h1⟩ => .inr (.inr (.inr (.inr (.inl ⟨a, xs, e, h1⟩))))
theorem nw_dict : EvP tDNewK σ H (NoWhole K) := fun H1 e Q q => fun p hp => q _ _ (Ex.new hp) (.inr (.inr (.inr (.inr (.inr ⟨p, rfl, upd_same⟩)))))
/-- the letter is none -/
theorem bp_letter {s : Str} (hy : Sc y) (h : ∀ b, s ≠ kl b) : BadPair (.str s) y := ⟨sc_str, hy, fun b n e _ => absurd (V.str.inj e) (h b)⟩
theorem bp_first (hx : Sc x) (hy : Sc y) (h : ∀ s, x ≠ .str s) : BadPair x y := ⟨hx, hy, fun b n e _ => absurd e (h _)⟩
theorem bp_small (hx : Sc x) {n : Int} (h : n < 1) : BadPair x (.int n) := ⟨hx, sc_int, fun b m _ e => V.int.inj e ▸ h⟩
theorem bp_count (hx : Sc x) (hy : Sc y) (h : ∀ n, y ≠ .int n) : BadPair x y := ⟨hx, hy, fun b n _ e => absurd e (h n)⟩
theorem kl_not {s : Str} (h1 : s ≠ "a") (h2 : s ≠ "b") : ∀ b, s ≠ kl b := fun b => by
  cases b
  · exact h2
  · exact h1
end
theorem op_eqDK {X : Cx} {K : PySem.W.Frag} (h : X.K = K) (hu : X.A.units + 64 < cLine) : OpR X (compareOp .Eq) (rEqD K) := h ▸ op_eqD hu
/-! ### calls in defs that raise -/
section
variable {K : PySem.W.Frag} {σ : Sg} {H : Hp} {te tr tn tm tw : TE} {tt : TA} {W : WX} {C : Addr} {D : Ends} {tz : TS} {sp : Sp} {vs : List V} {z w : V} {E : Sg → XK} {P : V → Hp → Prop} {a : Addr} {r : Ring} {n : Nat}
theorem ev_callS (h : EvA tt σ H vs) (hs : SpV sp vs H z) : Ev (tCallS sp E tt) σ H z := fun H1 e Q q => h H1 e _ fun H2 e2 => hs H2 (e.trans e2) Q (fun H3 e3 => q H3 (e2.trans e3)) _
theorem ev_callSP (h : EvA tt σ H vs) (hs : SpP sp vs H P) : EvP (tCallS sp E tt) σ H P := fun H1 e Q q => h H1 e _ fun H2 e2 => hs H2 (e.trans e2) Q (fun v H3 e3 hv => q v H3 (e2.trans e3) hv) _
theorem q_dropX (h : Rz te σ H W C) (hw : ∀ H2, Ex H H2 → W (.ref C) none σ H2) : tSeq (tDrop te) tz D σ H := h hw _
theorem s_dropX (h : Rz te σ H W C) (hw : ∀ H2, Ex H H2 → W (.ref C) none σ H2) : tDrop te D σ H := h hw _
theorem q_tryX {tb : WX → TS} {ts : Addr → Value → Option Addr → TS} {c : Value} {i : Nat} {Wo : WX} (h : (tb (L2.wAs K c i ts Wo { D with nx := tz D })) { D with nx := tz D } σ H) : tSeq (fun D σ H => tb (L2.wAs K c i ts Wo D) D σ H) tz D σ H := h
theorem rz_callL {f : Addr} {i : Nat} (hi : σ[i]? = some (some (.ref f))) (h : EvA tt σ H vs) (hs : SpX sp vs H C) : Rz (tCallLS i f sp (WE W) tt) σ H W C := fun hw Q => ⟨hi, h H (Ex.refl H) _ fun H1 e1 => hs H1 e1 Q _ fun H2 e2 => hw H2 (e1.trans e2)⟩
theorem el_callAP {PL : List V → Hp → Prop} {xs : List V} {E1 : XK} (h : EvAP tt σ H PL) (hs : ∀ vs H1, Ex H H1 → PL vs H1 → SpL sp (vs ++ []) H1 xs) : EvL (tCall sp [] E1 tt) σ H xs := fun H1 e Q q =>
  h H1 e _ fun vs H2 e2 hv => hs vs H2 (e.trans e2) hv H2 (Ex.refl H2) Q (fun p H3 hp e3 h3 => q p H3 (fresh_back e2 hp) (e2.trans e3) h3) _
theorem eap_consP {PL : List V → Hp → Prop} (hm : Mono P) (h : EvP te σ H P) (hr : EvAP tt σ H PL) : EvAP (tCons te tt) σ H (fun vs H' => ∃ v ws, vs = v :: ws ∧ P v H' ∧ PL ws H') := fun H1 e Q q =>
  h H1 e _ fun v H2 e2 hv => hr H2 (e.trans e2) _ fun ws H3 e3 hw => q (v :: ws) H3 (e2.trans e3) ⟨v, ws, rfl, hm _ _ _ e3 hv, hw⟩
theorem s_retE (h : EvA tt σ H vs) (hs : ∀ H1, Ex H H1 → sp vs H1 D.rt E0) : tRet (tCallE sp tt) D σ H := h H (Ex.refl H) _ fun H1 e1 => hs H1 e1
theorem eap_nil : EvAP tNil σ H (fun vs _ => vs = []) := fun H1 e Q q => q [] H1 (Ex.refl H1) rfl
/-- a ring with a strange thing in it -/
theorem nr_strange (hR : RingAt K H a r) (hp : Pos r) (hl : r.length ≤ 400) (hn : n < r.length) (ha : Ev tr σ H (.ref a)) (h1 : Ev tn σ H (.int (n : Int))) (h2 : Ev tm σ H (.int ((n + 1 : Nat) : Int))) (hv : Ev tw σ H w) (hw : BadItem K w H) :
    EvP (tOp rCat (tOp rCat (tSl (rSlL K) tr tNoPart (tPart tn)) (tLst (tCons tw tNil))) (tSl (rSlL K) tr (tPart tm) tNoPart)) σ H (NoRing K) := by
  obtain ⟨vs, hs, hi⟩ := hR
  have hlen := hi.1
  have e1 : EvL (tSl (rSlL K) tr tNoPart (tPart tn)) σ H (vs.take n) := by
    rw [← cut_none]
    exact el_sl ha eo_none (eo_some h1) hs
  have e2 : EvL (tSl (rSlL K) tr (tPart tm) tNoPart) σ H (vs.drop (n + 1)) := by
    rw [← cut_from]
    exact el_sl ha (eo_some h2) eo_none hs
  have hsz : (vs.take n ++ [w] ++ vs.drop (n + 1)).length ≤ 1000 := by
    simp only [List.length_append, List.length_take, List.length_drop, List.length_cons, List.length_nil]
    omega
  refine (ep_L (K := K) (el_cat2 (el_cat2 e1 (el_lst (ea_cons hv ea_nil) (by simp)) (by simp only [List.length_take, List.length_cons, List.length_nil]; omega)) e2 (by simp only [List.length_append, List.length_take, List.length_drop, List.length_cons, List.length_nil]; omega))).imp fun v H1 ex ⟨p, e, hp1⟩ => ?_
  refine .inr (.inr (.inr ⟨p, _, e, hp1, hsz, .inr ⟨n, w, ?_, bi_mono _ _ _ ex hw, fun j u hj hu => ?_⟩⟩))
  · rw [List.append_assoc, List.getElem?_append_right (by rw [List.length_take]; omega), List.length_take, Nat.min_eq_left (by omega), Nat.sub_self]
    rfl
  · rw [List.append_assoc, List.getElem?_append_left (by rw [List.length_take]; omega), List.getElem?_take_of_lt hj] at hu
    have hx := List.getElem?_eq_getElem (l := r) (i := j) (by omega)
    exact ⟨_, (hi.2 j u _ hu hx).mono ex, hp _ (mem_at hx)⟩
end
/-! ### a step range of few turns -/
theorem step_small : ∀ L : Fin 201, Builtin.Range.small 0 ((L.val : Nat) : Int) (1 + ((L.val : Nat) : Int) / 6) = true := by decide +kernel
theorem step_rg {L : Nat} (h : L < 201) : RgC 0 (L : Int) (1 + (L : Int) / 6) (Builtin.Range.rangeSize 0 (L : Int) (1 + (L : Int) / 6)).toNat :=
  ⟨by omega, by omega, step_small ⟨L, h⟩, rangeSize_toNat _ _ _⟩
theorem step_lt {L i : Nat} (h : i < (Builtin.Range.rangeSize 0 (L : Int) (1 + (L : Int) / 6)).toNat) : (i : Int) * (1 + (L : Int) / 6) < L := by
  have e := rangeSize_toNat 0 (L : Int) (1 + (L : Int) / 6)
  have hc : 0 < 1 + (L : Int) / 6 := by omega
  unfold Builtin.Range.rangeSize at e h
  rw [if_pos hc] at e h
  split at h
  · rename_i h0
    have h1 : (i : Int) ≤ ((L : Int) - 0 - 1) / (1 + (L : Int) / 6) := by
      have h2 := Int.ediv_nonneg (a := (L : Int) - 0 - 1) (b := 1 + (L : Int) / 6) (by omega) (by omega)
      omega
    have h3 := Int.mul_le_mul_of_nonneg_right h1 (Int.le_of_lt hc)
    have h4 := Int.ediv_mul_le ((L : Int) - 0 - 1) (show 1 + (L : Int) / 6 ≠ 0 by omega)
    omega
  · simp at h
/-! ### a heap without one list that grows -/
def hide (H : Hp) (q : Addr) : Hp := fun b => if b = q then none else H b
section
variable {K : PySem.W.Frag} {σ : Sg} {H H' H0 : Hp} {te tr tn tm tw : TE} {tt : TA} {q p a : Addr} {o : HO} {v x y w : V} {xs : List V} {r : Ring} {n : Nat} {D : Ends} {tz : TS} {i : Nat}
theorem hide_le : Ex (hide H q) H := fun b o h => by
  unfold hide at h
  split at h
  · cases h
  · exact h
theorem hide_mono (e : Ex H H') : Ex (hide H q) (hide H' q) := fun b o h => by
  unfold hide at h ⊢
  split at h
  · cases h
  · rename_i hb
    rw [if_neg hb]
    exact e b o h
theorem hide_upd : hide (upd H q o) q = hide H q := by
  funext b
  unfold hide
  by_cases hb : b = q
  · rw [if_pos hb, if_pos hb]
  · rw [if_neg hb, if_neg hb, upd_ne hb]
theorem hide_old (e : Ex H H') (h : H q = none) : Ex H (hide H' q) := fun b o hb => by
  have : b ≠ q := fun z => by
    rw [z, h] at hb
    cases hb
  unfold hide
  rw [if_neg this]
  exact e b o hb
theorem hide_at (h : H p = some o) (hp : p ≠ q) : hide H q p = some o := by
  unfold hide
  rw [if_neg hp]
  exact h
def There (H : Hp) (q : Addr) : Prop := ∃ o, H q = some o
theorem There.mono (e : Ex H H') (h : There H q) : There H' q := by
  obtain ⟨o, h⟩ := h
  exact ⟨o, e _ _ h⟩
theorem fresh_ne (h : There H q) (hp : H p = none) : p ≠ q := fun z => by
  obtain ⟨o, h⟩ := h
  rw [z, h] at hp
  cases hp
def BadH (K : PySem.W.Frag) (q : Addr) : V → Hp → Prop := fun v H => BadItem K v (hide H q)
def NoH (K : PySem.W.Frag) (q : Addr) : V → Hp → Prop := fun v H => NoRing K v (hide H q)
theorem bh_mono : Mono (BadH K q) := fun v H H' e h => bi_mono _ _ _ (hide_mono e) h
theorem nh_mono : Mono (NoH K q) := fun v H H' e h => nr_mono _ _ _ (hide_mono e) h
theorem bh_sc (h : Ev te σ H v) (hs : Sc v) : EvP te σ H (BadH K q) := ep_ev h fun _ _ => .inl hs
theorem bh_lst (hq : There H q) (h : EvL te σ H xs) : EvP te σ H (BadH K q) := fun H1 e Q k =>
  h H1 e _ fun p H2 hp e2 h2 => k _ H2 e2 (.inr (.inl ⟨p, xs, rfl, sq_of (hide_at h2 (fresh_ne (hq.mono e) hp))⟩))
theorem bh_pair (hq : There H q) (h : EvU te σ H [x, y]) (hb : BadPair x y) : EvP te σ H (BadH K q) := fun H1 e Q k =>
  h H1 e _ fun p H2 hp e2 h2 => k _ H2 e2 (.inr (.inr ⟨p, _, rfl, st_of (hide_at h2 (fresh_ne (hq.mono e) hp)), .inr ⟨x, y, rfl, hb⟩⟩))
theorem nh_one (hq : There H q) (h : EvP te σ H (BadH K q)) : EvP (tLst (tCons te tNil)) σ H (NoH K q) := fun H1 e Q k =>
  h H1 e _ fun x H2 e2 hx => ⟨sz_of (by show 1 ≤ 100000; decide), fun p hp => k _ _ (e2.trans (Ex.new hp)) (.inr (.inr (.inr ⟨p, [x], rfl, sq_of (hide_at upd_same (fresh_ne (hq.mono (e.trans e2)) hp)), by simp, .inr ⟨0, x, rfl, bi_mono _ _ _ (hide_mono (Ex.new hp)) hx, fun j u hj => absurd hj (Nat.not_lt_zero j)⟩⟩)))⟩
theorem nh_strange (hq : There H q) (hR : RingAt K (hide H q) a r) (hpos : Pos r) (hl : r.length ≤ 400) (hn : n < r.length) (ha : Ev tr σ H (.ref a)) (h1 : Ev tn σ H (.int (n : Int))) (h2 : Ev tm σ H (.int ((n + 1 : Nat) : Int))) (hv : Ev tw σ H w) (hw : BadH K q w H) :
    EvP (tOp rCat (tOp rCat (tSl (rSlL K) tr tNoPart (tPart tn)) (tLst (tCons tw tNil))) (tSl (rSlL K) tr (tPart tm) tNoPart)) σ H (NoH K q) := by
  obtain ⟨vs, hs, hi⟩ := hR
  have hlen := hi.1
  have e1 : EvL (tSl (rSlL K) tr tNoPart (tPart tn)) σ H (vs.take n) := by
    rw [← cut_none]
    exact el_sl ha eo_none (eo_some h1) (ex_l hide_le hs)
  have e2 : EvL (tSl (rSlL K) tr (tPart tm) tNoPart) σ H (vs.drop (n + 1)) := by
    rw [← cut_from]
    exact el_sl ha (eo_some h2) eo_none (ex_l hide_le hs)
  have hsz : (vs.take n ++ [w] ++ vs.drop (n + 1)).length ≤ 1000 := by
    simp only [List.length_append, List.length_take, List.length_drop, List.length_cons, List.length_nil]
    omega
  have key := el_cat2 (el_cat2 e1 (el_lst (ea_cons hv ea_nil) (by simp)) (by simp only [List.length_take, List.length_cons, List.length_nil]; omega)) e2 (by simp only [List.length_append, List.length_take, List.length_drop, List.length_cons, List.length_nil]; omega)
  intro H1 e Q k
  refine key H1 e _ fun p H2 hp e2 h2 => k _ H2 e2 (.inr (.inr (.inr ⟨p, _, rfl, sq_of (hide_at h2 (fresh_ne (hq.mono e) hp)), hsz, .inr ⟨n, w, ?_, bi_mono _ _ _ (hide_mono (e.trans e2)) hw, fun j u hj hu => ?_⟩⟩)))
  · rw [List.append_assoc, List.getElem?_append_right (by rw [List.length_take]; omega), List.length_take, Nat.min_eq_left (by omega), Nat.sub_self]
    rfl
  · rw [List.append_assoc, List.getElem?_append_left (by rw [List.length_take]; omega), List.getElem?_take_of_lt hj] at hu
    have hx := List.getElem?_eq_getElem (l := r) (i := j) (by omega)
    exact ⟨_, (hi.2 j u _ hu hx).mono (hide_mono (e.trans e2)), hpos _ (mem_at hx)⟩
/-- a new list of what is known of its items, apart from the list itself -/
theorem q_asgA {PL : List V → Hp → Prop} (h : EvAP tt σ H PL) (k : ∀ vs H1, Ex H H1 → PL vs H1 → vs.length ≤ 100000 ∧ ∀ p H2, H1 p = none → Ex H1 H2 → H2 p = some (.lst vs) → tz D (σ.set i (some (.ref p))) H2) : tSeq (tAsg (tLst tt) (gName i)) tz D σ H :=
  h H (Ex.refl H) _ fun vs H1 e1 hv => ⟨sz_of (k vs H1 e1 hv).1, fun p hp => (k vs H1 e1 hv).2 p _ hp (Ex.new hp) upd_same⟩
theorem q_asgC {R : V → Hp → Prop} {l : Addr} {vs : List V} {m : Nat} {ta tb : TE} (hm : Mono R) (ha : Ev ta σ H (.ref l)) (hl : H l = some (.lst vs)) (hA : AllR R H vs) (hb : EvB R tb σ H m) (hz : vs.length + m ≤ 100000)
    (k : ∀ ws H1, Ex H H1 → ws.length = vs.length + m → AllR R H1 ws → ∀ p H2, H1 p = none → Ex H1 H2 → H2 p = some (.lst ws) → tz D (σ.set i (some (.ref p))) H2) : tSeq (tAsg (tOp rCat ta tb) (gName i)) tz D σ H :=
  ha H (Ex.refl H) _ fun H1 e1 => hb H1 e1 _ fun p ws H2 hp e2 h2 hk hB => ⟨l, p, vs, ws, rfl, rfl, (e1.trans e2) _ _ hl, h2, sz_of (by omega), fun c hc => k (vs ++ ws) H2 (e1.trans e2) (by rw [List.length_append, hk]) (fun v hv => (List.mem_append.mp hv).elim (fun z => hm _ _ _ (e1.trans e2) (hA v z)) fun z => hB v z) c _ hc (Ex.new hc) upd_same⟩
theorem isL_mono : Mono (IsL K xs) := fun v H H' e h => by
  obtain ⟨b, rfl, hb⟩ := h
  exact ⟨b, rfl, ex_l e hb⟩
theorem eb_ap {R : V → Hp → Prop} (h : EvBa R tt σ H n) : EvAP tt σ H (fun vs H' => vs.length = n ∧ AllR R H' vs) := fun H1 e Q k => h H1 e _ fun vs H2 e2 hl hA => k vs H2 e2 ⟨hl, hA⟩
end
local macro_rules | `(tactic| walk_at "side") => `(tactic| first | rfl | assumption | omega | decide +kernel)
local macro_rules | `(tactic| walk_at "ev") => `(tactic| first
  | exact ev_c
  | exact ev_var rfl
  | exact ea_nil
  | (refine' ea_cons ?e1 ?e2; (case e1 => walk_at "ev"); (case e2 => walk_at "ev"))
  | (refine' ev_op ?e1 ?e2 rv_I0; (case e1 => walk_at "ev"); (case e2 => walk_at "ev"))
  | (refine' ev_op ?e1 ?e2 (rv_I ?e3); (case e1 => walk_at "ev"); (case e2 => walk_at "ev"); (case e3 => walk_at "side"))
  | (refine' ev_op ?e1 ?e2 (rv_eq ?e3); (case e1 => walk_at "ev"); (case e2 => walk_at "ev"); (case e3 => rfl))
  | (refine' ev_op ?e1 ?e2 (rv_ne ?e3); (case e1 => walk_at "ev"); (case e2 => walk_at "ev"); (case e3 => rfl))
  | (refine' ev_isInt ?e1 ?e2; (case e1 => walk_at "ev"); (case e2 => decide +kernel))
  | (refine' ev_isStr ?e1 ?e2; (case e1 => walk_at "ev"); (case e2 => decide +kernel))
  | (refine' ev_un ?e1 ru_neg; (case e1 => walk_at "ev"))
  | (refine' ev_cb ?e1 rc_min2; (case e1 => walk_at "ev"))
  | (refine' et_test ?e1; (case e1 => walk_at "ev"))
  | (refine' et_B ?e1; (case e1 => walk_at "ev"))
  | (refine' et_not ?e1; (case e1 => walk_at "ev"))
  | (refine' ev_notV ?e1; (case e1 => walk_at "ev"))
  | (refine' ev_call ?e1 ?e2; (case e1 => walk_at "ev"); (case e2 => walk_at "spv"))
  | (refine' ep_U ?e1; (case e1 => walk_at "ev"))
  | (refine' eu_tup ?e1 ?e2; (case e1 => walk_at "ev"); (case e2 => simp only [List.length_cons, List.length_nil]; decide)))
/-! ### the program's defs -/
def topS (i : Nat) : Stmt := PySem.Challenge.pw_ringbeads_k05_refused.main.body.getD i (.Pass ⟨0, 0, 0, 0⟩)
structure Txt (K : PySem.W.Frag) (mg : Str → Option Value) (tKIND_A tKIND_B : Tok) (C_RingError C_BadRing C_BadPlace C_BadTimes C_BadCount C_Found C_Never : Addr) : Prop where
  g_RingError : mg "RingError" = some (.ref C_RingError)
  g_BadRing : mg "BadRing" = some (.ref C_BadRing)
  g_BadPlace : mg "BadPlace" = some (.ref C_BadPlace)
  g_BadTimes : mg "BadTimes" = some (.ref C_BadTimes)
  g_BadCount : mg "BadCount" = some (.ref C_BadCount)
  g_Found : mg "Found" = some (.ref C_Found)
  g_Never : mg "Never" = some (.ref C_Never)
  ex_BadRing : ExcC K C_BadRing
  xm_BadRing : PySem.W.exmOne K (.ref C_BadRing) (.ref C_RingError) = some true
  xi_BadRing : PySem.W.excIn K C_BadRing [.type "ValueError", .type "Exception", .type "BaseException", .type "object"] "ValueError.__new__" = true
  xk_BadRing : PySem.W.keepIn K (.ref C_BadRing) = true
  xe_BadRing : PySem.W.subIn K (.ref C_BadRing) (.type "BaseException") = some true
  xt_BadRing : PySem.W.typeIn K (.ref C_BadRing) = some (.type "type")
  is_BadRing_BadRing : PySem.W.kitOne K (.ref C_BadRing) (.ref C_BadRing) = some true
  is_BadRing_BadPlace : PySem.W.kitOne K (.ref C_BadRing) (.ref C_BadPlace) = some false
  is_BadRing_BadTimes : PySem.W.kitOne K (.ref C_BadRing) (.ref C_BadTimes) = some false
  is_BadRing_BadCount : PySem.W.kitOne K (.ref C_BadRing) (.ref C_BadCount) = some false
  is_BadRing_V : PySem.W.kitOne K (.ref C_BadRing) (.type "ValueError") = some true
  ex_BadPlace : ExcC K C_BadPlace
  xm_BadPlace : PySem.W.exmOne K (.ref C_BadPlace) (.ref C_RingError) = some true
  xi_BadPlace : PySem.W.excIn K C_BadPlace [.type "ValueError", .type "Exception", .type "BaseException", .type "object"] "ValueError.__new__" = true
  xk_BadPlace : PySem.W.keepIn K (.ref C_BadPlace) = true
  xe_BadPlace : PySem.W.subIn K (.ref C_BadPlace) (.type "BaseException") = some true
  xt_BadPlace : PySem.W.typeIn K (.ref C_BadPlace) = some (.type "type")
  is_BadPlace_BadRing : PySem.W.kitOne K (.ref C_BadPlace) (.ref C_BadRing) = some false
  is_BadPlace_BadPlace : PySem.W.kitOne K (.ref C_BadPlace) (.ref C_BadPlace) = some true
  is_BadPlace_BadTimes : PySem.W.kitOne K (.ref C_BadPlace) (.ref C_BadTimes) = some false
  is_BadPlace_BadCount : PySem.W.kitOne K (.ref C_BadPlace) (.ref C_BadCount) = some false
  is_BadPlace_V : PySem.W.kitOne K (.ref C_BadPlace) (.type "ValueError") = some true
  ex_BadTimes : ExcC K C_BadTimes
  xm_BadTimes : PySem.W.exmOne K (.ref C_BadTimes) (.ref C_RingError) = some true
  xi_BadTimes : PySem.W.excIn K C_BadTimes [.type "ValueError", .type "Exception", .type "BaseException", .type "object"] "ValueError.__new__" = true
  xk_BadTimes : PySem.W.keepIn K (.ref C_BadTimes) = true
  xe_BadTimes : PySem.W.subIn K (.ref C_BadTimes) (.type "BaseException") = some true
  xt_BadTimes : PySem.W.typeIn K (.ref C_BadTimes) = some (.type "type")
  is_BadTimes_BadRing : PySem.W.kitOne K (.ref C_BadTimes) (.ref C_BadRing) = some false
  is_BadTimes_BadPlace : PySem.W.kitOne K (.ref C_BadTimes) (.ref C_BadPlace) = some false
  is_BadTimes_BadTimes : PySem.W.kitOne K (.ref C_BadTimes) (.ref C_BadTimes) = some true
  is_BadTimes_BadCount : PySem.W.kitOne K (.ref C_BadTimes) (.ref C_BadCount) = some false
  is_BadTimes_V : PySem.W.kitOne K (.ref C_BadTimes) (.type "ValueError") = some true
  ex_BadCount : ExcC K C_BadCount
  xm_BadCount : PySem.W.exmOne K (.ref C_BadCount) (.ref C_RingError) = some true
  xi_BadCount : PySem.W.excIn K C_BadCount [.type "ValueError", .type "Exception", .type "BaseException", .type "object"] "ValueError.__new__" = true
  xk_BadCount : PySem.W.keepIn K (.ref C_BadCount) = true
  xe_BadCount : PySem.W.subIn K (.ref C_BadCount) (.type "BaseException") = some true
  xt_BadCount : PySem.W.typeIn K (.ref C_BadCount) = some (.type "type")
  is_BadCount_BadRing : PySem.W.kitOne K (.ref C_BadCount) (.ref C_BadRing) = some false
  is_BadCount_BadPlace : PySem.W.kitOne K (.ref C_BadCount) (.ref C_BadPlace) = some false
  is_BadCount_BadTimes : PySem.W.kitOne K (.ref C_BadCount) (.ref C_BadTimes) = some false
  is_BadCount_BadCount : PySem.W.kitOne K (.ref C_BadCount) (.ref C_BadCount) = some true
  is_BadCount_V : PySem.W.kitOne K (.ref C_BadCount) (.type "ValueError") = some true
  m_KIND_A : mg "KIND_A" = some (.str "a" tKIND_A)
  m_KIND_B : mg "KIND_B" = some (.str "b" tKIND_B)
  z_ValueError : mg "ValueError" = none
  z_all : mg "all" = none
  z_any : mg "any" = none
  z_bool : mg "bool" = none
  z_divmod : mg "divmod" = none
  z_enumerate : mg "enumerate" = none
  z_int : mg "int" = none
  z_isinstance : mg "isinstance" = none
  z_len : mg "len" = none
  z_list : mg "list" = none
  z_max : mg "max" = none
  z_min : mg "min" = none
  z_range : mg "range" = none
  z_reversed : mg "reversed" = none
  z_str : mg "str" = none
  z_sum : mg "sum" = none
  z_tuple : mg "tuple" = none
section
variable {P : Program} {w : World} {K : PySem.W.Frag} {mg : Str → Option Value} {base : Heap} {tKIND_A tKIND_B : Tok} {C_RingError C_BadRing C_BadPlace C_BadTimes C_BadCount C_Found C_Never : Addr}
def spWhole : Sp := fun vs H Q _ => ∃ n : Int, vs = [.int n] ∧ RetV (.bl true) H Q
theorem sv_whole {H : Hp} {n : Int} : SpV spWhole ([.int n] ++ []) H (.bl true) := fun H1 e Q q E => ⟨n, rfl, q⟩
def spLetter : Sp := fun vs H Q _ => ∃ b : Bool, vs = [.str (kl b)] ∧ RetV (.bl true) H Q
theorem sv_letter {H : Hp} {b : Bool} : SpV spLetter ([.str (kl b)] ++ []) H (.bl true) := fun H1 e Q q E => ⟨b, rfl, q⟩
def spStretch (K : PySem.W.Frag) : Sp := fun vs H Q _ => ∃ (t : Addr) (b : Bool) (n : Int), vs = [.ref t] ∧ SqT K H t [.str (kl b), .int n] ∧ 1 ≤ n ∧ RetV (.bl true) H Q
theorem sv_stretch {H : Hp} {t : Addr} {b : Bool} {n : Int} (h : SqT K H t [.str (kl b), .int n]) (hn : 1 ≤ n) : SpV (spStretch K) ([.ref t] ++ []) H (.bl true) := fun H1 e Q q E => ⟨t, b, n, rfl, ex_t e h, hn, q⟩
end
section
variable {P : Program} {w : World} {K : PySem.W.Frag} {mg : Str → Option Value} {base : Heap} {tKIND_A tKIND_B : Tok} {C_RingError C_BadRing C_BadPlace C_BadTimes C_BadCount C_Found C_Never : Addr}
def spCheckRing (K : PySem.W.Frag) : Sp := fun vs H Q _ => ∃ (a : Addr) (r : Ring), vs = [.ref a] ∧ RingAt K H a r ∧ r ≠ [] ∧ Pos r ∧ RetV .non H Q
theorem sv_check_ring {H : Hp} {a : Addr} {r : Ring} (h : RingAt K H a r) (hn : r ≠ []) (hp : Pos r) : SpV (spCheckRing K) ([.ref a] ++ []) H .non := fun H1 e Q q E => ⟨a, r, rfl, h.mono e, hn, hp, q⟩
def spSize (K : PySem.W.Frag) : Sp := fun vs H Q _ => ∃ (a : Addr) (r : Ring), vs = [.ref a] ∧ RingAt K H a r ∧ r.length ≤ 40000 ∧ RetV (.int (sizeR r)) H Q
theorem sv_size {H : Hp} {a : Addr} {r : Ring} (h : RingAt K H a r) (hl : r.length ≤ 40000) : SpV (spSize K) ([.ref a] ++ []) H (.int (sizeR r)) := fun H1 e Q q E => ⟨a, r, rfl, h.mono e, hl, q⟩
abbrev s_size : Stmt := topS 16
theorem sc_size : FnScope ["ring", "_", "length"] ["ring"] (defScope s_size) := ⟨rfl, rfl, rfl, by decide +kernel, rfl, by decide +kernel, by decide +kernel⟩
theorem ok_size {f : Addr} {fd : FuncData} (F : Fun K "size" "size" s_size f fd) (T : Txt K mg tKIND_A tKIND_B C_RingError C_BadRing C_BadPlace C_BadTimes C_BadCount C_Found C_Never)  : FnOk P w K mg base CX0 1 f fd ["ring"] (spSize K) := by
  have nd := sc_size.nd
  refine F.ok sc_size (fun vs H Q E h => ?_) (fun cdv A outer s H vs Q E hr h => ?_)
  · obtain ⟨a, r, rfl, _⟩ := h
    rfl
  · obtain ⟨a, r, rfl, hR, hl, q⟩ := h
    refine ⟨_, (pss_one (ps_ret (pe_callB (cr_sum rfl) (by rfl) T.z_sum (by decide +kernel) (pa_cons (pe_lc (g := (gTup K 2 (gCons (gName 1) (gCons (gName 2) gNil)))) (own := [("_", 1), ("length", 2)]) (by rfl) nd (pi_list (pv 0)) (blkOk_by (own := [("_", 1), ("length", 2)]) (N := ["ring", "_", "length"]) (sc := defScope s_size) (by decide +kernel)) (fun _ _ _ _ _ => (pg_tup rfl (pgs_cons (pg_name (i := 1) nd rfl (Or.inl rfl) (.inr rfl)) (pgs_cons (pg_name (i := 2) nd rfl (Or.inl rfl) (.inr rfl)) pgs_nil)))) (fun _ _ _ _ _ => pts_nil) (fun _ _ _ _ _ => (pv 2))) pa_nil)))), ?_⟩
    refine s_ret (v := .int (sizeR r)) ?_ q
    rw [← size_sum]
    refine ev_sum (el_lcRing (fun _ => true) (fun x => .int x.2) (ev_var rfl) hR hl (fun _ _ => rfl) (fun x H1 _ _ H2 _ Q q => q H2 (Ex.refl H2)) (fun x H1 _ _ _ => ev_var rfl)) ?_
    rw [List.filter_eq_self.mpr (fun _ _ => rfl), List.map_map]
    rfl
def spMany (K : PySem.W.Frag) : Sp := fun vs H Q _ => ∃ (a : Addr) (r : Ring) (b : Bool), vs = [.ref a, .str (kl b)] ∧ RingAt K H a r ∧ r.length ≤ 40000 ∧ RetV (.int (if b = true then cntA r else cntB r)) H Q
theorem sv_manyA {H : Hp} {a : Addr} {r : Ring} (h : RingAt K H a r) (hl : r.length ≤ 40000) : SpV (spMany K) ([.ref a, .str "a"] ++ []) H (.int (cntA r)) := fun H1 e Q q E => ⟨a, r, true, rfl, h.mono e, hl, q⟩
theorem sv_manyB {H : Hp} {a : Addr} {r : Ring} (h : RingAt K H a r) (hl : r.length ≤ 40000) : SpV (spMany K) ([.ref a, .str "b"] ++ []) H (.int (cntB r)) := fun H1 e Q q E => ⟨a, r, false, rfl, h.mono e, hl, q⟩
abbrev s_many_of : Stmt := topS 15
theorem sc_many_of : FnScope ["ring", "letter", "kind", "length"] ["ring", "letter"] (defScope s_many_of) := ⟨rfl, rfl, rfl, by decide +kernel, rfl, by decide +kernel, by decide +kernel⟩
theorem ok_many_of {f : Addr} {fd : FuncData} (F : Fun K "many_of" "many_of" s_many_of f fd) (T : Txt K mg tKIND_A tKIND_B C_RingError C_BadRing C_BadPlace C_BadTimes C_BadCount C_Found C_Never)  : FnOk P w K mg base CX0 1 f fd ["ring", "letter"] (spMany K) := by
  have nd := sc_many_of.nd
  refine F.ok sc_many_of (fun vs H Q E h => ?_) (fun cdv A outer s H vs Q E hr h => ?_)
  · obtain ⟨a, r, b, rfl, _⟩ := h
    rfl
  · obtain ⟨a, r, b, rfl, hR, hl, q⟩ := h
    refine ⟨_, (pss_one (ps_ret (pe_callB (cr_sum rfl) (by rfl) T.z_sum (by decide +kernel) (pa_cons (pe_lc (g := (gTup K 2 (gCons (gName 2) (gCons (gName 3) gNil)))) (own := [("kind", 2), ("length", 3)]) (by rfl) nd (pi_list (pv 0)) (blkOk_by (own := [("kind", 2), ("length", 3)]) (N := ["ring", "letter", "kind", "length"]) (sc := defScope s_many_of) (by decide +kernel)) (fun _ _ _ _ _ => (pg_tup rfl (pgs_cons (pg_name (i := 2) nd rfl (Or.inl rfl) (.inr rfl)) (pgs_cons (pg_name (i := 3) nd rfl (Or.inl rfl) (.inr rfl)) pgs_nil)))) (fun _ _ _ _ _ => (pts_one (pt_cmpR op_eq (pv 2) (pv 1) (nomark _)))) (fun _ _ _ _ _ => (pv 3))) pa_nil)))), ?_⟩
    have es : ((r.filter (fun x => x.1 == b)).map (·.2)).sum = if b = true then cntA r else cntB r := by
      cases b with
      | true =>
        rw [if_pos rfl, ← cntA_sum]
        congr 3
        funext x
        cases x.1 <;> rfl
      | false =>
        rw [if_neg (by decide), ← cntB_sum]
        congr 3
        funext x
        cases x.1 <;> rfl
    refine s_ret (v := .int (if b = true then cntA r else cntB r)) ?_ q
    rw [← es]
    refine ev_sum (el_lcRing (fun x => x.1 == b) (fun x => .int x.2) (ev_var rfl) hR hl (fun _ _ => rfl) (fun x H1 _ _ => ?_) (fun x H1 _ _ _ => ev_var rfl)) ?_
    · refine et_is (et_test (ev_op (ev_var rfl) (ev_var (v := .str (kl b)) rfl) (rv_eq rfl))) (kl_eq x.1 b)
    · rw [List.map_map]
      rfl
def spIsPlace (K : PySem.W.Frag) : Sp := fun vs H Q _ => ∃ (a : Addr) (r : Ring) (p : Int), vs = [.ref a, .int p] ∧ RingAt K H a r ∧ r.length ≤ 40000 ∧ RetV (.bl (decide (0 ≤ p) && decide (p < sizeR r))) H Q
theorem sv_is_place {H : Hp} {a : Addr} {r : Ring} {p : Int} (h : RingAt K H a r) (hl : r.length ≤ 40000) : SpV (spIsPlace K) ([.ref a, .int p] ++ []) H (.bl (decide (0 ≤ p) && decide (p < sizeR r))) := fun H1 e Q q E => ⟨a, r, p, rfl, h.mono e, hl, q⟩
def spCheckPlace (K : PySem.W.Frag) : Sp := fun vs H Q _ => ∃ (a : Addr) (r : Ring) (p : Int), vs = [.ref a, .int p] ∧ RingAt K H a r ∧ r.length ≤ 40000 ∧ 0 ≤ p ∧ p < sizeR r ∧ RetV .non H Q
theorem sv_check_place {H : Hp} {a : Addr} {r : Ring} {p : Int} (h : RingAt K H a r) (hl : r.length ≤ 40000) (h0 : 0 ≤ p) (h1 : p < sizeR r) : SpV (spCheckPlace K) ([.ref a, .int p] ++ []) H .non := fun H1 e Q q E => ⟨a, r, p, rfl, h.mono e, hl, h0, h1, q⟩
def spCheckMany : Sp := fun vs H Q _ => ∃ (p : Int), vs = [.int p] ∧ 0 ≤ p ∧ RetV .non H Q
theorem sv_check_many {H : Hp} {p : Int} (h0 : 0 ≤ p) : SpV spCheckMany ([.int p] ++ []) H .non := fun H1 e Q q E => ⟨p, rfl, h0, q⟩
end
section
variable {P : Program} {w : World} {K : PySem.W.Frag} {mg : Str → Option Value} {base : Heap} {tKIND_A tKIND_B : Tok} {C_RingError C_BadRing C_BadPlace C_BadTimes C_BadCount C_Found C_Never : Addr}
/-! ### what the checks tell, what they refuse -/
def spWholeX (K : PySem.W.Frag) : Sp := fun vs H Q _ => ∃ (v : V) (b : Bool), vs = [v] ∧ ((∃ n, v = .int n ∧ b = true) ∨ (NoWhole K v H ∧ b = false)) ∧ RetV (.bl b) H Q
theorem sx_int {H : Hp} {n : Int} : SpV (spWholeX K) ([.int n] ++ []) H (.bl true) := fun H1 e Q q E => ⟨_, true, rfl, .inl ⟨n, rfl, rfl⟩, q⟩
theorem sx_no {H : Hp} {v : V} (h : NoWhole K v H) : SpV (spWholeX K) ([v] ++ []) H (.bl false) := fun H1 e Q q E => ⟨v, false, rfl, .inr ⟨nw_mono _ _ _ e h, rfl⟩, q⟩
theorem nw_ty {H : Hp} {v : V} (h : NoWhole K v H) : ∃ t : String, TyX K H v (.type t) ∧ ((kitB t "int" = some true ∧ kitB t "bool" = some true) ∨ kitB t "int" = some false) := by
  rcases h with rfl | ⟨b, rfl⟩ | ⟨s, rfl⟩ | ⟨a, xs, rfl, h⟩ | ⟨a, xs, rfl, h⟩ | ⟨a, rfl, h⟩
  · exact ⟨_, .base .non, .inr (by decide +kernel)⟩
  · exact ⟨_, .base (.bl b), .inl (by decide +kernel)⟩
  · exact ⟨_, .base (.str s), .inr (by decide +kernel)⟩
  · exact ⟨_, tyL h, .inr (by decide +kernel)⟩
  · exact ⟨_, tyT h, .inr (by decide +kernel)⟩
  · exact ⟨_, .base (.dK h), .inr (by decide +kernel)⟩
theorem ev_isX {σ : Sg} {H : Hp} {ta : TE} {x : V} {c d : String} {b : Bool} (ha : Ev ta σ H x) (ht : TyX K H x (.type d)) (hm : ∀ H1, Ex H H1 → TyX K H1 x (.type d)) (hk : kitB d c = some b) : Ev (tCB (rIsi K) (tCons ta (tCons (tC (.ty c)) tNil))) σ H (.bl b) := ev_isi ha hm hk
abbrev s_is_whole : Stmt := topS 23
theorem sc_is_whole : FnScope ["thing"] ["thing"] (defScope s_is_whole) := ⟨rfl, rfl, rfl, by decide +kernel, rfl, by decide +kernel, by decide +kernel⟩
theorem ok_is_whole {f : Addr} {fd : FuncData} (F : Fun K "is_whole" "is_whole" s_is_whole f fd) (T : Txt K mg tKIND_A tKIND_B C_RingError C_BadRing C_BadPlace C_BadTimes C_BadCount C_Found C_Never)  : FnOk P w K mg base CX0 1 f fd ["thing"] (spWholeX K) := by
  have nd := sc_is_whole.nd
  refine F.ok sc_is_whole (fun vs H Q E h => ?_) (fun cdv A outer s H vs Q E hr h => ?_)
  · obtain ⟨v, b, rfl, _⟩ := h
    rfl
  · obtain ⟨v, b, rfl, hv, q⟩ := h
    refine ⟨_, (pss_one (ps_ret (pe_and (pe_callB call_isi (by rfl) T.z_isinstance (by decide +kernel) (pa_cons (pv 0) (pa_cons (pe_bltn (v := .ty "int") (by rfl) T.z_int (by decide +kernel) rfl) pa_nil))) (pe_one (pe_not (pe_callB call_isi (by rfl) T.z_isinstance (by decide +kernel) (pa_cons (pv 0) (pa_cons (pe_bltn (v := .ty "bool") (by rfl) T.z_bool (by decide +kernel) rfl) pa_nil)))))))), ?_⟩
    rcases hv with ⟨n, rfl, rfl⟩ | ⟨hn, rfl⟩
    · refine s_ret (v := .bl true) (ev_is (v := .bl (true && !false)) (ev_andV (ev_isInt (ev_var rfl) (by decide +kernel)) fun _ => ev_notV (ev_isInt (ev_var rfl) (by decide +kernel))) rfl) q
    · have all := fun H1 (e : Ex H H1) => nw_ty (nw_mono _ _ _ e hn)
      rcases hn with rfl | ⟨b, rfl⟩ | ⟨z, rfl⟩ | ⟨a, xs, rfl, h⟩ | ⟨a, xs, rfl, h⟩ | ⟨a, rfl, h⟩
      · exact s_ret (v := .bl false) (ev_is (v := .bl (false && false)) (ev_andV (ev_isi (d := "NoneType") (ev_var rfl) (fun H1 e1 => .base .non) (by decide +kernel)) fun z => nomatch z) rfl) q
      · exact s_ret (v := .bl false) (ev_is (v := .bl (true && !true)) (ev_andV (ev_isi (d := "bool") (ev_var rfl) (fun H1 e1 => .base (.bl b)) (by decide +kernel)) fun _ => ev_notV (ev_isi (d := "bool") (ev_var rfl) (fun H1 e1 => .base (.bl b)) (by decide +kernel))) rfl) q
      · exact s_ret (v := .bl false) (ev_is (v := .bl (false && false)) (ev_andV (ev_isi (d := "str") (ev_var rfl) (fun H1 e1 => .base (.str z)) (by decide +kernel)) fun z => nomatch z) rfl) q
      · exact s_ret (v := .bl false) (ev_is (v := .bl (false && false)) (ev_andV (ev_isi (d := "list") (ev_var rfl) (fun H1 e1 => tyL (ex_l e1 h)) (by decide +kernel)) fun z => nomatch z) rfl) q
      · exact s_ret (v := .bl false) (ev_is (v := .bl (false && false)) (ev_andV (ev_isi (d := "tuple") (ev_var rfl) (fun H1 e1 => tyT (ex_t e1 h)) (by decide +kernel)) fun z => nomatch z) rfl) q
      · exact s_ret (v := .bl false) (ev_is (v := .bl (false && false)) (ev_andV (ev_isi (d := "dict") (ev_var rfl) (fun H1 e1 => .base (.dK (e1 _ _ h))) (by decide +kernel)) fun z => nomatch z) rfl) q
def isKl : V → Bool
  | .str s => decide (V.str s = V.str "a") || decide (V.str s = V.str "b")
  | _ => false
theorem isKl_yes (b : Bool) : isKl (.str (kl b)) = true := by
  cases b <;> decide +kernel
theorem isKl_of {x : V} (h : isKl x = true) : ∃ b, x = .str (kl b) := by
  cases x with
  | str s =>
    unfold isKl at h
    rw [Bool.or_eq_true] at h
    rcases h with h | h
    · exact ⟨true, of_decide_eq_true h⟩
    · exact ⟨false, of_decide_eq_true h⟩
  | _ => exact nomatch h
def spLetterX (K : PySem.W.Frag) : Sp := fun vs H Q _ => ∃ v : V, vs = [v] ∧ Sc v ∧ RetV (.bl (isKl v)) H Q
theorem sx_letter {H : Hp} {v : V} (h : Sc v) : SpV (spLetterX K) ([v] ++ []) H (.bl (isKl v)) := fun H1 e Q q E => ⟨v, rfl, h, q⟩
abbrev s_is_letter : Stmt := topS 22
theorem sc_is_letter : FnScope ["thing"] ["thing"] (defScope s_is_letter) := ⟨rfl, rfl, rfl, by decide +kernel, rfl, by decide +kernel, by decide +kernel⟩
theorem ok_is_letter {f : Addr} {fd : FuncData} (F : Fun K "is_letter" "is_letter" s_is_letter f fd) (T : Txt K mg tKIND_A tKIND_B C_RingError C_BadRing C_BadPlace C_BadTimes C_BadCount C_Found C_Never)  : FnOk P w K mg base CX0 1 f fd ["thing"] (spLetterX K) := by
  have nd := sc_is_letter.nd
  refine F.ok sc_is_letter (fun vs H Q E h => ?_) (fun cdv A outer s H vs Q E hr h => ?_)
  · obtain ⟨v, rfl, _⟩ := h
    rfl
  · obtain ⟨v, rfl, hv, q⟩ := h
    refine ⟨_, (pss_one (ps_ret (pe_and (pe_callB call_isi (by rfl) T.z_isinstance (by decide +kernel) (pa_cons (pv 0) (pa_cons (pe_bltn (v := .ty "str") (by rfl) T.z_str (by decide +kernel) rfl) pa_nil))) (pe_one (pe_or (pe_cmpR op_eq (pv 0) (pe_glob (v := .str "a") (by rfl) T.m_KIND_A ⟨_, rfl⟩) (nomark _)) (pe_one (pe_cmpR op_eq (pv 0) (pe_glob (v := .str "b") (by rfl) T.m_KIND_B ⟨_, rfl⟩) (nomark _)))))))), ?_⟩
    rcases hv with rfl | ⟨n, rfl⟩ | ⟨b, rfl⟩ | ⟨z, rfl⟩
    · exact s_ret (v := .bl false) (ev_is (v := .bl (false && false)) (ev_andV (ev_isi (d := "NoneType") (ev_var rfl) (fun H1 e1 => .base .non) (by decide +kernel)) fun z => nomatch z) rfl) q
    · exact s_ret (v := .bl false) (ev_is (v := .bl (false && false)) (ev_andV (ev_isInt (ev_var rfl) (by decide +kernel)) fun z => nomatch z) rfl) q
    · exact s_ret (v := .bl false) (ev_is (v := .bl (false && false)) (ev_andV (ev_isi (d := "bool") (ev_var rfl) (fun H1 e1 => .base (.bl b)) (by decide +kernel)) fun z => nomatch z) rfl) q
    · refine s_ret (v := .bl (isKl (.str z))) (ev_is (v := .bl (true && (decide (V.str z = V.str "a") || decide (V.str z = V.str "b")))) (ev_andV (ev_isStr (ev_var rfl) (by decide +kernel)) fun _ => ev_orV (ev_op (ev_var rfl) ev_c (rv_eq rfl)) fun _ => ev_op (ev_var rfl) ev_c (rv_eq rfl)) (by rw [Bool.true_and]; rfl)) q
def spStretchX (K : PySem.W.Frag) : Sp := fun vs H Q _ => ∃ v : V, vs = [v] ∧ ((∃ x, StAt K H v x ∧ 1 ≤ x.2 ∧ RetV (.bl true) H Q) ∨ (BadItem K v H ∧ RetV (.bl false) H Q))
theorem sx_good {H : Hp} {v : V} {x : Bool × Int} (h : StAt K H v x) (hx : 1 ≤ x.2) : SpV (spStretchX K) ([v] ++ []) H (.bl true) := fun H1 e Q q E => ⟨v, rfl, .inl ⟨x, h.mono e, hx, q⟩⟩
theorem sx_bad {H : Hp} {v : V} (h : BadItem K v H) : SpV (spStretchX K) ([v] ++ []) H (.bl false) := fun H1 e Q q E => ⟨v, rfl, .inr ⟨bi_mono _ _ _ e h, q⟩⟩
theorem sc_whole {H : Hp} {v : V} (h : Sc v) : (∃ n, v = .int n) ∨ NoWhole K v H := by
  rcases h with rfl | ⟨n, rfl⟩ | ⟨b, rfl⟩ | ⟨z, rfl⟩
  · exact .inr (.inl rfl)
  · exact .inl ⟨n, rfl⟩
  · exact .inr (.inr (.inl ⟨b, rfl⟩))
  · exact .inr (.inr (.inr (.inl ⟨z, rfl⟩)))
abbrev s_is_stretch : Stmt := topS 21
theorem sc_is_stretch : FnScope ["thing", "letter", "length"] ["thing"] (defScope s_is_stretch) := ⟨rfl, rfl, rfl, by decide +kernel, rfl, by decide +kernel, by decide +kernel⟩
theorem ok_is_stretch {f : Addr} {fd : FuncData} (F : Fun K "is_stretch" "is_stretch" s_is_stretch f fd) (T : Txt K mg tKIND_A tKIND_B C_RingError C_BadRing C_BadPlace C_BadTimes C_BadCount C_Found C_Never) {f_is_letter : Addr} {fd_is_letter : FuncData} (G_is_letter : FnOk P w K mg base CX0 1 f_is_letter fd_is_letter ["thing"] (spLetterX K)) (m_is_letter : mg "is_letter" = some (.ref f_is_letter)) (k_is_letter : PySem.W.keepIn K (.ref f_is_letter) = true) (b_is_letter : Binds K fd_is_letter ["thing"] []) {f_is_whole : Addr} {fd_is_whole : FuncData} (G_is_whole : FnOk P w K mg base CX0 1 f_is_whole fd_is_whole ["thing"] (spWholeX K)) (m_is_whole : mg "is_whole" = some (.ref f_is_whole)) (k_is_whole : PySem.W.keepIn K (.ref f_is_whole) = true) (b_is_whole : Binds K fd_is_whole ["thing"] []) : FnOk P w K mg base CX0 2 f fd ["thing"] (spStretchX K) := by
  have nd := sc_is_stretch.nd
  refine F.ok sc_is_stretch (fun vs H Q E h => ?_) (fun cdv A outer s H vs Q E hr h => ?_)
  · obtain ⟨v, rfl, _⟩ := h
    rfl
  · obtain ⟨v, rfl, hv⟩ := h
    refine ⟨_, (pss_cons (ps_if (PW.pt (pw_or (pt_not (pt_val (pe_callB call_isi (by rfl) T.z_isinstance (by decide +kernel) (pa_cons (pv 0) (pa_cons (pe_bltn (v := .ty "tuple") (by rfl) T.z_tuple (by decide +kernel) rfl) pa_nil))))) (pw_or1 (pt_cmpR op_ne (pe_callB c_len (by rfl) T.z_len (by decide +kernel) (pa_cons (pv 0) pa_nil)) pe_int (nomark _))))) (pss_one (ps_ret pe_bl)) pss_nil)
  (pss_cons (ps_asg (pv 0) (pg_tup rfl (pgs_cons (pg_name (i := 1) nd rfl (Or.inl rfl)) (pgs_cons (pg_name (i := 2) nd rfl (Or.inl rfl)) pgs_nil))))
  (pss_one (ps_ret (pe_and (pe_call G_is_letter (hr.mono (by decide)) (by rfl) m_is_letter k_is_letter b_is_letter .nil pass0 (pa_cons (pv 1) pa_nil)) (pe_and (pe_call G_is_whole (hr.mono (by decide)) (by rfl) m_is_whole k_is_whole b_is_whole .nil pass0 (pa_cons (pv 2) pa_nil)) (pe_one (pe_cmpR op_ge (pv 2) pe_int (nomark _))))))))), ?_⟩
    have no : ∀ {d : String}, (∀ H1, Ex H H1 → TyX K H1 v (.type d)) → kitB d "tuple" = some false → EvT (tOr (tNot (tB (tCB (rIsi K) (tCons (tVar 0) (tCons (tC (.ty "tuple")) tNil))))) (tTest (tOp rNe (tCB (rLenS K) (tCons (tVar 0) tNil)) (tC (.int 2))))) [some v, none, none] H true := fun ht hk => et_is (et_or (et_not (et_B (ev_isi (ev_var rfl) ht hk))) fun z => nomatch z) (b := (!false || true)) rfl
    have pr : ∀ {t : Addr} {xs : List V}, v = .ref t → SqT K H t xs → EvT (tOr (tNot (tB (tCB (rIsi K) (tCons (tVar 0) (tCons (tC (.ty "tuple")) tNil))))) (tTest (tOp rNe (tCB (rLenS K) (tCons (tVar 0) tNil)) (tC (.int 2))))) [some v, none, none] H (!true || !decide (V.int (xs.length : Int) = V.int 2)) := fun e ht => by
      subst e
      exact et_or (et_not (et_B (ev_isi (d := "tuple") (ev_var rfl) (fun H1 e => tyT (ex_t e ht)) (by decide +kernel)))) fun _ => et_test (ev_op (ev_lenT (ev_var rfl) ht) ev_c (rv_ne rfl))
    rcases hv with ⟨x, ⟨t, rfl, ht⟩, hx, q⟩ | ⟨hb, q⟩
    · refine q_when (b := false) (et_is (pr rfl ht) rfl) (fun hb => nomatch hb) fun _ H1 e1 => ?_
      refine q_unp (K := K) (x := .str (kl x.1)) (y := .int x.2) (ep_var rfl fun H2 e2 => ⟨t, rfl, ex_t (e1.trans e2) ht⟩) fun H2 e2 => ?_
      refine s_ret (v := .bl true) (ev_is (v := .bl (isKl (.str (kl x.1)) && (true && decide (1 ≤ x.2)))) (ev_andV (ev_call (ea_cons (ev_var rfl) ea_nil) (sx_letter sc_str)) fun _ => ev_andV (ev_call (ea_cons (ev_var rfl) ea_nil) sx_int) fun _ => ev_op (ev_var rfl) ev_c rv_I0) (by rw [isKl_yes, decide_eq_true hx]; rfl)) fun H3 e3 => q H3 ((e1.trans e2).trans e3)
    · rcases hb with hs | ⟨a, xs, rfl, h⟩ | ⟨t, xs, rfl, ht, hx⟩
      · refine q_when (b := true) ?_ (fun _ H1 e1 => s_ret ev_c fun H2 e2 => q H2 (e1.trans e2)) (fun hb => nomatch hb)
        rcases hs with rfl | ⟨n, rfl⟩ | ⟨b, rfl⟩ | ⟨z, rfl⟩
        · exact no (fun H1 e1 => .base .non) (by decide +kernel)
        · exact no (fun H1 e1 => .base (.int n)) (by decide +kernel)
        · exact no (fun H1 e1 => .base (.bl b)) (by decide +kernel)
        · exact no (fun H1 e1 => .base (.str z)) (by decide +kernel)
      · exact q_when (b := true) (no (fun H1 e1 => tyL (ex_l e1 h)) (by decide +kernel)) (fun _ H1 e1 => s_ret ev_c fun H2 e2 => q H2 (e1.trans e2)) (fun hb => nomatch hb)
      · by_cases hl : xs.length = 2
        · rcases hx with hx | ⟨x, y, rfl, h1, h2, h3⟩
          · exact absurd hl hx
          · refine q_when (b := false) (et_is (pr rfl ht) rfl) (fun hb => nomatch hb) fun _ H1 e1 => ?_
            refine q_unp (K := K) (x := x) (y := y) (ep_var rfl fun H2 e2 => ⟨t, rfl, ex_t (e1.trans e2) ht⟩) fun H2 e2 => ?_
            have e02 := e1.trans e2
            cases hk : isKl x with
            | false => exact s_ret (v := .bl false) (ev_is (v := .bl (isKl x && false)) (ev_andV (ev_call (ea_cons (ev_var rfl) ea_nil) (sx_letter h1)) fun z => absurd z (by rw [hk]; decide)) (by rw [hk]; rfl)) fun H3 e3 => q H3 (e02.trans e3)
            | true =>
              obtain ⟨b, rfl⟩ := isKl_of hk
              rcases sc_whole (K := K) (H := H2) h2 with ⟨n, rfl⟩ | hn
              · have hn1 := h3 b n rfl rfl
                exact s_ret (v := .bl false) (ev_is (v := .bl (isKl (.str (kl b)) && (true && decide (1 ≤ n)))) (ev_andV (ev_call (ea_cons (ev_var rfl) ea_nil) (sx_letter h1)) fun _ => ev_andV (ev_call (ea_cons (ev_var rfl) ea_nil) sx_int) fun _ => ev_op (ev_var rfl) ev_c rv_I0) (by rw [hk, decide_eq_false (show ¬ 1 ≤ n by omega)]; rfl)) fun H3 e3 => q H3 (e02.trans e3)
              · exact s_ret (v := .bl false) (ev_is (v := .bl (isKl (.str (kl b)) && (false && false))) (ev_andV (ev_call (ea_cons (ev_var rfl) ea_nil) (sx_letter h1)) fun _ => ev_andV (ev_call (ea_cons (ev_var rfl) ea_nil) (sx_no hn)) fun z => nomatch z) (by rw [hk]; rfl)) fun H3 e3 => q H3 (e02.trans e3)
        · refine q_when (b := true) (et_is (pr rfl ht) ?_) (fun _ H1 e1 => s_ret ev_c fun H2 e2 => q H2 (e1.trans e2)) (fun hb => nomatch hb)
          rw [int_eq, decide_eq_false (show ¬ (xs.length : Int) = 2 by omega)]
          rfl
def spCheckRingX (K : PySem.W.Frag) (CR : Addr) : Sp := fun vs H Q E => ∃ v : V, vs = [v] ∧ ((∃ a r, v = .ref a ∧ RingAt K H a r ∧ r ≠ [] ∧ Pos r ∧ RetV .non H Q) ∨ (NoRing K v H ∧ ErrX CR H E))
theorem sx_ring {H : Hp} {CR a : Addr} {r : Ring} (h : RingAt K H a r) (hn : r ≠ []) (hp : Pos r) : SpV (spCheckRingX K CR) [.ref a] H .non := fun H1 e Q q E => ⟨_, rfl, .inl ⟨a, r, rfl, h.mono e, hn, hp, q⟩⟩
theorem sx_noring {H : Hp} {CR : Addr} {v : V} (h : NoRing K v H) : SpX (spCheckRingX K CR) [v] H CR := fun H1 e Q E hE => ⟨v, rfl, .inr ⟨nr_mono _ _ _ e h, hE⟩⟩
abbrev s_check_ring : Stmt := topS 17
theorem sc_check_ring : FnScope ["ring", "stretch"] ["ring"] (defScope s_check_ring) := ⟨rfl, rfl, rfl, by decide +kernel, rfl, by decide +kernel, by decide +kernel⟩
theorem ok_check_ring {f : Addr} {fd : FuncData} (F : Fun K "check_ring" "check_ring" s_check_ring f fd) (T : Txt K mg tKIND_A tKIND_B C_RingError C_BadRing C_BadPlace C_BadTimes C_BadCount C_Found C_Never) {f_is_stretch : Addr} {fd_is_stretch : FuncData} (G_is_stretch : FnOk P w K mg base CX0 2 f_is_stretch fd_is_stretch ["thing"] (spStretchX K)) (m_is_stretch : mg "is_stretch" = some (.ref f_is_stretch)) (k_is_stretch : PySem.W.keepIn K (.ref f_is_stretch) = true) (b_is_stretch : Binds K fd_is_stretch ["thing"] []) : FnOk P w K mg base (L2N.CX P w) 3 f fd ["ring"] (spCheckRingX K C_BadRing) := by
  have nd := sc_check_ring.nd
  refine okN F sc_check_ring (fun vs H Q E h => ?_) (fun cdv A outer s H vs Q E hr h => ?_)
  · obtain ⟨v, rfl, _⟩ := h
    rfl
  · obtain ⟨v, rfl, hv⟩ := h
    refine ⟨_, (pss_cons (ps_if (PW.pt (pw_or (pt_not (pt_val (pe_callB call_isi (by rfl) T.z_isinstance (by decide +kernel) (pa_cons (pv 0) (pa_cons (pe_bltn (v := .ty "list") (by rfl) T.z_list (by decide +kernel) rfl) pa_nil))))) (pw_or1 (pt_cmpR op_eq (pe_callB c_len (by rfl) T.z_len (by decide +kernel) (pa_cons (pv 0) pa_nil)) pe_int (nomark _))))) (pss_one (L2N.ps_raise rfl (L2N.takes_of rfl rfl rfl rfl) (L2N.pmk_own PySem.F.excBase_ValueError T.xi_BadRing T.g_BadRing T.xk_BadRing (raises_own T.xe_BadRing T.xt_BadRing) (by rfl)))) pss_nil)
  (pss_one (ps_for PassesOwn.leaving rfl (pi_list (pv 0)) (pg_name (i := 1) nd rfl (Or.inl rfl))
  (pss_one (ps_if (pt_not (pt_val (pe_call G_is_stretch (hr.mono (by decide)) (by rfl) m_is_stretch k_is_stretch b_is_stretch .nil pass0 (pa_cons (pv 1) pa_nil)))) (pss_one (L2N.ps_raise rfl (L2N.takes_of rfl rfl rfl rfl) (L2N.pmk_own PySem.F.excBase_ValueError T.xi_BadRing T.g_BadRing T.xk_BadRing (raises_own T.xe_BadRing T.xt_BadRing) (by rfl)))) pss_nil))))), ?_⟩
    have no : ∀ {d : String}, (∀ H1, Ex H H1 → TyX K H1 v (.type d)) → kitB d "list" = some false → EvT (tOr (tNot (tB (tCB (rIsi K) (tCons (tVar 0) (tCons (tC (.ty "list")) tNil))))) (tTest (tOp rEq (tCB (rLenS K) (tCons (tVar 0) tNil)) (tC (.int 0))))) [some v, none] H true := fun ht hk => et_is (et_or (et_not (et_B (ev_isi (ev_var rfl) ht hk))) fun z => nomatch z) (b := (!false || true)) rfl
    have ls : ∀ {a : Addr} {xs : List V}, v = .ref a → SqL K H a xs → EvT (tOr (tNot (tB (tCB (rIsi K) (tCons (tVar 0) (tCons (tC (.ty "list")) tNil))))) (tTest (tOp rEq (tCB (rLenS K) (tCons (tVar 0) tNil)) (tC (.int 0))))) [some v, none] H (!true || decide (V.int (xs.length : Int) = V.int 0)) := fun e ht => by
      subst e
      exact et_or (et_not (et_B (ev_isi (d := "list") (ev_var rfl) (fun H1 e => tyL (ex_l e ht)) (by decide +kernel)))) fun _ => et_test (ev_op (ev_len (ev_var rfl) ht) ev_c (rv_eq rfl))
    rcases hv with ⟨a, r, rfl, hR, hne, hp, q⟩ | ⟨hN, hE⟩
    · obtain ⟨vs, hvs, hit⟩ := id hR
      have hlen : vs.length ≠ 0 := by
        rw [hit.1]
        cases r with
        | nil => exact absurd rfl hne
        | cons x r => simp
      refine q_when (b := false) (et_is (ls rfl hvs) ?_) (fun hb => nomatch hb) fun _ H1 e1 => ?_
      · rw [int_eq, decide_eq_false (show ¬ (vs.length : Int) = 0 by omega)]
        rfl
      · refine s_forLn (ev_var rfl) (ex_l e1 hvs) (fun i σ' H' => Ex H H' ∧ ∃ y, σ' = [some (.ref a), y]) (fun H2 e2 => ⟨e1.trans e2, none, rfl⟩) (fun i σ' H' _ p => ex_l p.1 hvs) (fun i v σ' H' hv p => ?_) (fun σ' H' p => q H' p.1)
        obtain ⟨e2, y, rfl⟩ := p
        have hi : i < r.length := by
          rw [← hit.1]
          exact (List.getElem?_eq_some_iff.mp hv).1
        have hx := List.getElem?_eq_getElem hi
        have hst := (hit.2 i v _ hv hx).mono e2
        exact s_when (b := !true) (et_not (et_B (ev_call (ea_cons (ev_var rfl) ea_nil) (sx_good hst (hp _ (mem_at hx)))))) (fun hb => nomatch hb) fun _ H3 e3 => ⟨e2.trans e3, _, rfl⟩
    · rcases hN with hs | ⟨a, xs, rfl, h⟩ | ⟨a, rfl, h⟩ | ⟨a, vs, rfl, hvs, hl, hbad⟩
      · refine q_when (b := true) ?_ (fun _ H1 e1 => hE H1 e1) (fun hb => nomatch hb)
        rcases hs with rfl | ⟨n, rfl⟩ | ⟨b, rfl⟩ | ⟨z, rfl⟩
        · exact no (fun H1 e1 => .base .non) (by decide +kernel)
        · exact no (fun H1 e1 => .base (.int n)) (by decide +kernel)
        · exact no (fun H1 e1 => .base (.bl b)) (by decide +kernel)
        · exact no (fun H1 e1 => .base (.str z)) (by decide +kernel)
      · exact q_when (b := true) (no (fun H1 e1 => tyT (ex_t e1 h)) (by decide +kernel)) (fun _ H1 e1 => hE H1 e1) (fun hb => nomatch hb)
      · exact q_when (b := true) (no (fun H1 e1 => .base (.dK (e1 _ _ h))) (by decide +kernel)) (fun _ H1 e1 => hE H1 e1) (fun hb => nomatch hb)
      · rcases hbad with rfl | ⟨i, u, hi, hbi, hgood⟩
        · exact q_when (b := true) (et_is (ls rfl hvs) rfl) (fun _ H1 e1 => hE H1 e1) (fun hb => nomatch hb)
        · have hilt := (List.getElem?_eq_some_iff.mp hi).1
          refine q_when (b := false) (et_is (ls rfl hvs) ?_) (fun hb => nomatch hb) fun _ H1 e1 => ?_
          · rw [int_eq, decide_eq_false (show ¬ (vs.length : Int) = 0 by omega)]
            rfl
          · refine s_forLn (ev_var rfl) (ex_l e1 hvs) (fun j σ' H' => Ex H H' ∧ j ≤ i ∧ ∃ y, σ' = [some (.ref a), y]) (fun H2 e2 => ⟨e1.trans e2, Nat.zero_le _, none, rfl⟩) (fun j σ' H' _ p => ex_l p.1 hvs) (fun j v σ' H' hv p => ?_) (fun σ' H' p => absurd p.2.1 (by omega))
            obtain ⟨e2, hj, y, rfl⟩ := p
            by_cases hji : j = i
            · subst hji
              rw [hi] at hv
              obtain rfl := Option.some.inj hv
              exact s_when (b := !false) (et_not (et_B (ev_call (ea_cons (ev_var rfl) ea_nil) (sx_bad (bi_mono _ _ _ e2 hbi))))) (fun _ H3 e3 => hE H3 (e2.trans e3)) (fun hb => nomatch hb)
            · obtain ⟨x, hx, hx1⟩ := hgood j v (by omega) hv
              exact s_when (b := !true) (et_not (et_B (ev_call (ea_cons (ev_var rfl) ea_nil) (sx_good (hx.mono e2) hx1)))) (fun hb => nomatch hb) fun _ H3 e3 => ⟨e2.trans e3, by omega, _, rfl⟩
def spIsPlaceX (K : PySem.W.Frag) : Sp := fun vs H Q _ => ∃ (a : Addr) (r : Ring) (v : V) (b : Bool), vs = [.ref a, v] ∧ RingAt K H a r ∧ r.length ≤ 40000 ∧ ((∃ p, v = .int p ∧ b = (decide (0 ≤ p) && decide (p < sizeR r))) ∨ (NoWhole K v H ∧ b = false)) ∧ RetV (.bl b) H Q
theorem sx_isplace {H : Hp} {a : Addr} {r : Ring} {p : Int} (h : RingAt K H a r) (hl : r.length ≤ 40000) : SpV (spIsPlaceX K) ([.ref a, .int p] ++ []) H (.bl (decide (0 ≤ p) && decide (p < sizeR r))) := fun H1 e Q q E => ⟨a, r, _, _, rfl, h.mono e, hl, .inl ⟨p, rfl, rfl⟩, q⟩
theorem sx_isno {H : Hp} {a : Addr} {r : Ring} {v : V} (h : RingAt K H a r) (hl : r.length ≤ 40000) (hv : NoWhole K v H) : SpV (spIsPlaceX K) ([.ref a, v] ++ []) H (.bl false) := fun H1 e Q q E => ⟨a, r, v, false, rfl, h.mono e, hl, .inr ⟨nw_mono _ _ _ e hv, rfl⟩, q⟩
abbrev s_is_place : Stmt := topS 20
theorem sc_is_place : FnScope ["ring", "thing"] ["ring", "thing"] (defScope s_is_place) := ⟨rfl, rfl, rfl, by decide +kernel, rfl, by decide +kernel, by decide +kernel⟩
theorem ok_is_place {f : Addr} {fd : FuncData} (F : Fun K "is_place" "is_place" s_is_place f fd) (T : Txt K mg tKIND_A tKIND_B C_RingError C_BadRing C_BadPlace C_BadTimes C_BadCount C_Found C_Never) {f_is_whole : Addr} {fd_is_whole : FuncData} (G_is_whole : FnOk P w K mg base CX0 1 f_is_whole fd_is_whole ["thing"] (spWholeX K)) (m_is_whole : mg "is_whole" = some (.ref f_is_whole)) (k_is_whole : PySem.W.keepIn K (.ref f_is_whole) = true) (b_is_whole : Binds K fd_is_whole ["thing"] []) {f_size : Addr} {fd_size : FuncData} (G_size : FnOk P w K mg base CX0 1 f_size fd_size ["ring"] (spSize K)) (m_size : mg "size" = some (.ref f_size)) (k_size : PySem.W.keepIn K (.ref f_size) = true) (b_size : Binds K fd_size ["ring"] []) : FnOk P w K mg base CX0 2 f fd ["ring", "thing"] (spIsPlaceX K) := by
  have nd := sc_is_place.nd
  refine F.ok sc_is_place (fun vs H Q E h => ?_) (fun cdv A outer s H vs Q E hr h => ?_)
  · obtain ⟨a, r, v, b, rfl, _⟩ := h
    rfl
  · obtain ⟨a, r, v, b, rfl, hR, hl, hv, q⟩ := h
    refine ⟨_, (pss_one (ps_ret (pe_and (pe_call G_is_whole (hr.mono (by decide)) (by rfl) m_is_whole k_is_whole b_is_whole .nil pass0 (pa_cons (pv 1) pa_nil)) (pe_one (pe_chain op_le op_lt pe_int (pv 1) (pe_call G_size (hr.mono (by decide)) (by rfl) m_size k_size b_size .nil pass0 (pa_cons (pv 0) pa_nil))))))), ?_⟩
    rcases hv with ⟨p, rfl, rfl⟩ | ⟨hn, rfl⟩
    · exact s_ret (v := .bl (decide (0 ≤ p) && decide (p < sizeR r))) (ev_is (v := .bl (true && (decide (0 ≤ p) && decide (p < sizeR r)))) (ev_andV (ev_call (ea_cons (ev_var rfl) ea_nil) sx_int) fun _ => ev_chain ev_c (ev_var rfl) (ev_call (ea_cons (ev_var rfl) ea_nil) (sv_size hR hl))) (by rw [Bool.true_and])) q
    · exact s_ret (v := .bl false) (ev_is (v := .bl (false && false)) (ev_andV (ev_call (ea_cons (ev_var rfl) ea_nil) (sx_no hn)) fun z => nomatch z) rfl) q
def spCheckPlaceX (K : PySem.W.Frag) (CP : Addr) : Sp := fun vs H Q E => ∃ (a : Addr) (r : Ring) (v : V), vs = [.ref a, v] ∧ RingAt K H a r ∧ r.length ≤ 40000 ∧ ((∃ p, v = .int p ∧ 0 ≤ p ∧ p < sizeR r ∧ RetV .non H Q) ∨ (NoNum K (fun n => n < 0 ∨ sizeR r ≤ n) v H ∧ ErrX CP H E))
theorem sx_place {H : Hp} {CP a : Addr} {r : Ring} {p : Int} (h : RingAt K H a r) (hl : r.length ≤ 40000) (h0 : 0 ≤ p) (h1 : p < sizeR r) : SpV (spCheckPlaceX K CP) [.ref a, .int p] H .non := fun H1 e Q q E => ⟨a, r, _, rfl, h.mono e, hl, .inl ⟨p, rfl, h0, h1, q⟩⟩
theorem sx_noplace {H : Hp} {CP a : Addr} {r : Ring} {v : V} (h : RingAt K H a r) (hl : r.length ≤ 40000) (hv : NoNum K (fun n => n < 0 ∨ sizeR r ≤ n) v H) : SpX (spCheckPlaceX K CP) [.ref a, v] H CP := fun H1 e Q E hE => ⟨a, r, v, rfl, h.mono e, hl, .inr ⟨nn_mono _ _ _ e hv, hE⟩⟩
abbrev s_check_place : Stmt := topS 18
theorem sc_check_place : FnScope ["ring", "place"] ["ring", "place"] (defScope s_check_place) := ⟨rfl, rfl, rfl, by decide +kernel, rfl, by decide +kernel, by decide +kernel⟩
theorem ok_check_place {f : Addr} {fd : FuncData} (F : Fun K "check_place" "check_place" s_check_place f fd) (T : Txt K mg tKIND_A tKIND_B C_RingError C_BadRing C_BadPlace C_BadTimes C_BadCount C_Found C_Never) {f_is_place : Addr} {fd_is_place : FuncData} (G_is_place : FnOk P w K mg base CX0 2 f_is_place fd_is_place ["ring", "thing"] (spIsPlaceX K)) (m_is_place : mg "is_place" = some (.ref f_is_place)) (k_is_place : PySem.W.keepIn K (.ref f_is_place) = true) (b_is_place : Binds K fd_is_place ["ring", "thing"] []) : FnOk P w K mg base (L2N.CX P w) 3 f fd ["ring", "place"] (spCheckPlaceX K C_BadPlace) := by
  have nd := sc_check_place.nd
  refine okN F sc_check_place (fun vs H Q E h => ?_) (fun cdv A outer s H vs Q E hr h => ?_)
  · obtain ⟨a, r, v, rfl, _⟩ := h
    rfl
  · obtain ⟨a, r, v, rfl, hR, hl, hv⟩ := h
    refine ⟨_, (pss_one (ps_if (pt_not (pt_val (pe_call G_is_place (hr.mono (by decide)) (by rfl) m_is_place k_is_place b_is_place .nil pass0 (pa_cons (pv 0) (pa_cons (pv 1) pa_nil))))) (pss_one (L2N.ps_raise rfl (L2N.takes_of rfl rfl rfl rfl) (L2N.pmk_own PySem.F.excBase_ValueError T.xi_BadPlace T.g_BadPlace T.xk_BadPlace (raises_own T.xe_BadPlace T.xt_BadPlace) (by rfl)))) pss_nil)), ?_⟩
    rcases hv with ⟨p, rfl, h0, h1, q⟩ | ⟨hn | ⟨n, rfl, hn⟩, hE⟩
    · exact s_when (b := false) (et_is (et_not (et_B (ev_call (ea_cons (ev_var rfl) (ea_cons (ev_var rfl) ea_nil)) (sx_isplace hR hl)))) (by rw [decide_eq_true h0, decide_eq_true h1]; rfl)) (fun hb => nomatch hb) fun _ H1 e1 => q H1 e1
    · exact s_when (b := true) (et_is (et_not (et_B (ev_call (ea_cons (ev_var rfl) (ea_cons (ev_var rfl) ea_nil)) (sx_isno hR hl hn)))) rfl) (fun _ H1 e1 => hE H1 e1) (fun hb => nomatch hb)
    · refine s_when (b := true) (et_is (et_not (et_B (ev_call (ea_cons (ev_var rfl) (ea_cons (ev_var rfl) ea_nil)) (sx_isplace hR hl)))) ?_) (fun _ H1 e1 => hE H1 e1) (fun hb => nomatch hb)
      rcases hn with hn | hn
      · rw [decide_eq_false (show ¬ 0 ≤ n by omega)]
        rfl
      · rw [decide_eq_false (show ¬ n < sizeR r by omega), Bool.and_false]
        rfl
def spCheckManyX (K : PySem.W.Frag) (CC : Addr) : Sp := fun vs H Q E => ∃ v : V, vs = [v] ∧ ((∃ p, v = .int p ∧ 0 ≤ p ∧ RetV .non H Q) ∨ (NoNum K (fun n => n < 0) v H ∧ ErrX CC H E))
theorem sx_many {H : Hp} {CC : Addr} {p : Int} (h0 : 0 ≤ p) : SpV (spCheckManyX K CC) [.int p] H .non := fun H1 e Q q E => ⟨_, rfl, .inl ⟨p, rfl, h0, q⟩⟩
theorem sx_nomany {H : Hp} {CC : Addr} {v : V} (hv : NoNum K (fun n => n < 0) v H) : SpX (spCheckManyX K CC) [v] H CC := fun H1 e Q E hE => ⟨v, rfl, .inr ⟨nn_mono _ _ _ e hv, hE⟩⟩
abbrev s_check_many : Stmt := topS 19
theorem sc_check_many : FnScope ["many"] ["many"] (defScope s_check_many) := ⟨rfl, rfl, rfl, by decide +kernel, rfl, by decide +kernel, by decide +kernel⟩
theorem ok_check_many {f : Addr} {fd : FuncData} (F : Fun K "check_many" "check_many" s_check_many f fd) (T : Txt K mg tKIND_A tKIND_B C_RingError C_BadRing C_BadPlace C_BadTimes C_BadCount C_Found C_Never) {f_is_whole : Addr} {fd_is_whole : FuncData} (G_is_whole : FnOk P w K mg base CX0 1 f_is_whole fd_is_whole ["thing"] (spWholeX K)) (m_is_whole : mg "is_whole" = some (.ref f_is_whole)) (k_is_whole : PySem.W.keepIn K (.ref f_is_whole) = true) (b_is_whole : Binds K fd_is_whole ["thing"] []) : FnOk P w K mg base (L2N.CX P w) 2 f fd ["many"] (spCheckManyX K C_BadCount) := by
  have nd := sc_check_many.nd
  refine okN F sc_check_many (fun vs H Q E h => ?_) (fun cdv A outer s H vs Q E hr h => ?_)
  · obtain ⟨v, rfl, _⟩ := h
    rfl
  · obtain ⟨v, rfl, hv⟩ := h
    refine ⟨_, (pss_one (ps_if (PW.pt (pw_or (pt_not (pt_val (pe_call G_is_whole (hr.mono (by decide)) (by rfl) m_is_whole k_is_whole b_is_whole .nil pass0 (pa_cons (pv 0) pa_nil)))) (pw_or1 (pt_cmpR op_lt (pv 0) pe_int (nomark _))))) (pss_one (L2N.ps_raise rfl (L2N.takes_of rfl rfl rfl rfl) (L2N.pmk_own PySem.F.excBase_ValueError T.xi_BadCount T.g_BadCount T.xk_BadCount (raises_own T.xe_BadCount T.xt_BadCount) (by rfl)))) pss_nil)), ?_⟩
    rcases hv with ⟨p, rfl, h0, q⟩ | ⟨hn | ⟨n, rfl, hn⟩, hE⟩
    · exact s_when (b := false) (et_is (a := (!true || decide (p < 0))) (et_or (et_not (et_B (ev_call (ea_cons (ev_var rfl) ea_nil) sx_int))) fun _ => et_test (ev_op (ev_var rfl) ev_c rv_I0)) (by rw [decide_eq_false (show ¬ p < 0 by omega)]; rfl)) (fun hb => nomatch hb) fun _ H1 e1 => q H1 e1
    · exact s_when (b := true) (et_is (a := (!false || true)) (et_or (et_not (et_B (ev_call (ea_cons (ev_var rfl) ea_nil) (sx_no hn)))) fun z => nomatch z) rfl) (fun _ H1 e1 => hE H1 e1) (fun hb => nomatch hb)
    · exact s_when (b := true) (et_is (a := (!true || decide (n < 0))) (et_or (et_not (et_B (ev_call (ea_cons (ev_var rfl) ea_nil) sx_int))) fun _ => et_test (ev_op (ev_var rfl) ev_c rv_I0)) (by rw [decide_eq_true hn]; rfl)) (fun _ H1 e1 => hE H1 e1) (fun hb => nomatch hb)
end
section
variable {P : Program} {w : World} {K : PySem.W.Frag} {mg : Str → Option Value} {base : Heap} {tKIND_A tKIND_B : Tok} {C_RingError C_BadRing C_BadPlace C_BadTimes C_BadCount C_Found C_Never : Addr}
theorem ev_item1 {σ : Sg} {H : Hp} {ta tb : TE} {a : Addr} {i : Nat} {r : Ring} {x : Bool × Int} (ha : Ev ta σ H (.ref a)) (hb : Ev tb σ H (.int (i : Int))) (hR : RingAt K H a r) (hx : r[i]? = some x) : Ev (tOp (rIxT K) (tOp (rIxL K) ta tb) (tC (.int 1))) σ H (.int x.2) := by
  obtain ⟨vs, hvs, hit⟩ := hR
  obtain ⟨t, e, ht⟩ := hit.get hx
  exact ev_op (ev_op ha hb (rv_ixL hvs (atI_nat e))) ev_c (rv_ixT ht (atI_nat (j := 1) rfl))
theorem ev_item0 {σ : Sg} {H : Hp} {ta tb : TE} {a : Addr} {i : Nat} {r : Ring} {x : Bool × Int} (ha : Ev ta σ H (.ref a)) (hb : Ev tb σ H (.int (i : Int))) (hR : RingAt K H a r) (hx : r[i]? = some x) : Ev (tOp (rIxT K) (tOp (rIxL K) ta tb) (tC (.int 0))) σ H (.str (kl x.1)) := by
  obtain ⟨vs, hvs, hit⟩ := hR
  obtain ⟨t, e, ht⟩ := hit.get hx
  exact ev_op (ev_op ha hb (rv_ixL hvs (atI_nat e))) ev_c (rv_ixT ht (atI_nat (j := 0) rfl))
def spFirst (K : PySem.W.Frag) : Sp := fun vs H Q _ => ∃ (a : Addr) (r : Ring) (m : Int), vs = [.ref a, .int m] ∧ RingAt K H a r ∧ Good r ∧ 0 ≤ m ∧ m < 2 ^ 400 ∧ RetV (.int (firstF r m)) H Q
theorem sv_first {H : Hp} {a : Addr} {r : Ring} {m : Int} (h : RingAt K H a r) (g : Good r) (h0 : 0 ≤ m) (h1 : m < 2 ^ 400) : SpV (spFirst K) ([.ref a, .int m] ++ []) H (.int (firstF r m)) := fun H1 e Q q E => ⟨a, r, m, rfl, h.mono e, g, h0, h1, q⟩
abbrev s_from_first : Stmt := topS 14
theorem sc_from_first : FnScope ["ring", "many", "rounds", "left", "found", "kind", "length", "here"] ["ring", "many"] (defScope s_from_first) := ⟨rfl, rfl, rfl, by decide +kernel, rfl, by decide +kernel, by decide +kernel⟩
theorem ok_from_first {f : Addr} {fd : FuncData} (F : Fun K "from_first" "from_first" s_from_first f fd) (T : Txt K mg tKIND_A tKIND_B C_RingError C_BadRing C_BadPlace C_BadTimes C_BadCount C_Found C_Never) {f_many_of : Addr} {fd_many_of : FuncData} (G_many_of : FnOk P w K mg base CX0 1 f_many_of fd_many_of ["ring", "letter"] (spMany K)) (m_many_of : mg "many_of" = some (.ref f_many_of)) (k_many_of : PySem.W.keepIn K (.ref f_many_of) = true) (b_many_of : Binds K fd_many_of ["ring", "letter"] []) {f_size : Addr} {fd_size : FuncData} (G_size : FnOk P w K mg base CX0 1 f_size fd_size ["ring"] (spSize K)) (m_size : mg "size" = some (.ref f_size)) (k_size : PySem.W.keepIn K (.ref f_size) = true) (b_size : Binds K fd_size ["ring"] []) : FnOk P w K mg base CX0 2 f fd ["ring", "many"] (spFirst K) := by
  have nd := sc_from_first.nd
  refine F.ok sc_from_first (fun vs H Q E h => ?_) (fun cdv A outer s H vs Q E hr h => ?_)
  · obtain ⟨a, r, m, rfl, _⟩ := h
    rfl
  · obtain ⟨a, r, m, rfl, hR, g, h0, h1, q⟩ := h
    refine ⟨_, (pss_cons (ps_asg (pe_callB c_dm (by rfl) T.z_divmod (by decide +kernel) (pa_cons (pv 1) (pa_cons (pe_call G_size (hr.mono (by decide)) (by rfl) m_size k_size b_size .nil pass0 (pa_cons (pv 0) pa_nil)) pa_nil))) (pg_tup rfl (pgs_cons (pg_name (i := 2) nd rfl (Or.inl rfl)) (pgs_cons (pg_name (i := 3) nd rfl (Or.inl rfl)) pgs_nil))))
  (pss_cons (ps_set (i := 4) nd rfl (Or.inl rfl) (pe_op op_mulX (pv 2) (pe_call G_many_of (hr.mono (by decide)) (by rfl) m_many_of k_many_of b_many_of .nil pass0 (pa_cons (pv 0) (pa_cons (pe_glob (v := .str "a") (by rfl) T.m_KIND_A ⟨_, rfl⟩) pa_nil)))))
  (pss_cons (ps_for PassesOwn.never rfl (pi_list (pv 0)) (pg_tup rfl (pgs_cons (pg_name (i := 5) nd rfl (Or.inl rfl)) (pgs_cons (pg_name (i := 6) nd rfl (Or.inl rfl)) pgs_nil)))
  (pss_cons (ps_set (i := 7) nd rfl (Or.inl rfl) (pe_callB (c_min2 rfl) (by rfl) T.z_min (by decide +kernel) (pa_cons (pv 3) (pa_cons (pv 6) pa_nil))))
  (pss_cons (ps_if (pt_cmpR op_eq (pv 5) (pe_glob (v := .str "a") (by rfl) T.m_KIND_A ⟨_, rfl⟩) (nomark _)) (pss_one (ps_aug (i := 4) nd rfl (.inl rfl) (pv 7) ip_add)) pss_nil)
  (pss_one (ps_aug (i := 3) nd rfl (.inl rfl) (pv 7) ip_sub)))))
  (pss_one (ps_ret (pv 4)))))), ?_⟩
    have hl : r.length ≤ 40000 := Nat.le_trans g.len (by decide)
    have hs := g.size
    have hst := g.sizeTop
    have hc0 := cnt_nonneg g.pos
    have hc1 := cnt_le g.pos
    have d0 : 0 ≤ m / sizeR r := Int.ediv_nonneg h0 (by omega)
    have d1 : m / sizeR r ≤ m := Int.ediv_le_self _ h0
    have hm : CDivP m (sizeR r) := divp_ok (by omega) (Nat.le_trans (PyProof.Rows.intBits_le (k := 400) (by omega)) (by omega))
    refine q_unp (K := K) (x := .int (m / sizeR r)) (y := .int (m % sizeR r)) (ep_U (eu_dm (ea_cons (ev_var rfl) (ea_cons (ev_call (ea_cons (ev_var rfl) ea_nil) (sv_size hR hl)) ea_nil)) hm)) fun H1 e1 => ?_
    refine q_asg (v := .int (m / sizeR r * cntA r)) (ev_op (ev_var rfl) (ev_call (ea_cons (ev_var rfl) (ea_cons ev_c ea_nil)) (sv_manyA (hR.mono e1) hl)) (rv_I (mulx_ok (a := 400) (b := 208) (by omega) (by omega) (by decide)))) fun H2 e2 => ?_
    have hR2 := hR.mono (e1.trans e2)
    refine q_forR (ev_var rfl) hR2 (fun i σ' H' => Ex H2 H' ∧ ∃ (fo le : Int) (y5 y6 y7 : Option V), σ' = [some (.ref a), some (.int m), some (.int (m / sizeR r)), some (.int le), some (.int fo), y5, y6, y7] ∧ fo + ahead (r.drop i) le = firstF r m)
      (fun H3 e3 => ⟨e3, _, _, none, none, none, rfl, rfl⟩) (fun i σ' H' p => p.1) (fun i x σ' H' hx p => ?_) (fun σ' H' p => ?_)
    · obtain ⟨e3, fo, le, y5, y6, y7, rfl, inv⟩ := p
      rw [drop_at hx] at inv
      have inv' : fo + ((if x.1 = true then mn le x.2 else 0) + ahead (r.drop (i + 1)) (le - mn le x.2)) = firstF r m := inv
      refine q_asg (v := .int (mn le x.2)) (by walk_at "ev") fun H4 e4 => ?_
      have ht : ∀ σ0, σ0 = [some (.ref a), some (.int m), some (.int (m / sizeR r)), some (.int le), some (.int fo), some (V.str (kl x.1)), some (.int x.2), some (.int (mn le x.2))] → EvT (tTest (tOp rEq (tVar 5) (tC (.str "a")))) σ0 H4 x.1 := fun σ0 e0 => by
        subst e0
        exact et_is (et_test (ev_op (ev_var rfl) ev_c (rv_eq rfl))) (kl_a x.1)
      cases hk : x.1 with
      | true =>
        rw [hk] at ht inv'
        refine q_when (ht _ rfl) (fun _ H5 e5 => ?_) (fun hb => nomatch hb)
        refine s_aug (f := fun i j => i + j) (a := fo) (b := mn le x.2) rfl (ev_var rfl) fun H6 e6 => ?_
        refine s_aug (f := fun i j => i - j) (a := le) (b := mn le x.2) rfl (ev_var rfl) fun H7 e7 => ?_
        refine ⟨(((e3.trans e4).trans e5).trans e6).trans e7, fo + mn le x.2, le - mn le x.2, _, _, _, rfl, ?_⟩
        rw [if_pos rfl] at inv'
        omega
      | false =>
        rw [hk] at ht inv'
        refine q_when (ht _ rfl) (fun hb => nomatch hb) (fun _ H5 e5 => ?_)
        refine s_aug (f := fun i j => i - j) (a := le) (b := mn le x.2) rfl (ev_var rfl) fun H7 e7 => ?_
        refine ⟨((e3.trans e4).trans e5).trans e7, fo, le - mn le x.2, _, _, _, rfl, ?_⟩
        rw [if_neg (by decide)] at inv'
        omega
    · obtain ⟨e3, fo, le, y5, y6, y7, rfl, inv⟩ := p
      rw [List.drop_length] at inv
      have inv' : fo + 0 = firstF r m := inv
      refine s_ret (v := .int fo) (ev_var rfl) fun H4 e4 => ?_
      rw [show fo = firstF r m by omega]
      exact q H4 (((e1.trans e2).trans e3).trans e4)
def spInside (K : PySem.W.Frag) : Sp := fun vs H Q _ => ∃ (a : Addr) (r : Ring) (p m : Int), vs = [.ref a, .int p, .int m] ∧ RingAt K H a r ∧ Good r ∧ 0 ≤ p ∧ p < sizeR r ∧ 0 ≤ m ∧ m < 2 ^ 399 ∧ RetV (.int (amongF r p m)) H Q
theorem sv_inside {H : Hp} {a : Addr} {r : Ring} {p m : Int} (h : RingAt K H a r) (g : Good r) (h0 : 0 ≤ p) (h1 : p < sizeR r) (h2 : 0 ≤ m) (h3 : m < 2 ^ 399) : SpV (spInside K) ([.ref a, .int p, .int m] ++ []) H (.int (amongF r p m)) := fun H1 e Q q E => ⟨a, r, p, m, rfl, h.mono e, g, h0, h1, h2, h3, q⟩
abbrev s_inside : Stmt := topS 13
theorem sc_inside : FnScope ["ring", "place", "many"] ["ring", "place", "many"] (defScope s_inside) := ⟨rfl, rfl, rfl, by decide +kernel, rfl, by decide +kernel, by decide +kernel⟩
theorem ok_inside {f : Addr} {fd : FuncData} (F : Fun K "inside" "inside" s_inside f fd) (T : Txt K mg tKIND_A tKIND_B C_RingError C_BadRing C_BadPlace C_BadTimes C_BadCount C_Found C_Never) {f_from_first : Addr} {fd_from_first : FuncData} (G_from_first : FnOk P w K mg base CX0 2 f_from_first fd_from_first ["ring", "many"] (spFirst K)) (m_from_first : mg "from_first" = some (.ref f_from_first)) (k_from_first : PySem.W.keepIn K (.ref f_from_first) = true) (b_from_first : Binds K fd_from_first ["ring", "many"] []) : FnOk P w K mg base CX0 3 f fd ["ring", "place", "many"] (spInside K) := by
  have nd := sc_inside.nd
  refine F.ok sc_inside (fun vs H Q E h => ?_) (fun cdv A outer s H vs Q E hr h => ?_)
  · obtain ⟨a, r, p, m, rfl, _⟩ := h
    rfl
  · obtain ⟨a, r, p, m, rfl, hR, g, h0, h1, h2, h3, q⟩ := h
    refine ⟨_, (pss_one (ps_ret (pe_op op_sub (pe_call G_from_first (hr.mono (by decide)) (by rfl) m_from_first k_from_first b_from_first .nil pass0 (pa_cons (pv 0) (pa_cons (pe_op op_add (pv 1) (pv 2)) pa_nil))) (pe_call G_from_first (hr.mono (by decide)) (by rfl) m_from_first k_from_first b_from_first .nil pass0 (pa_cons (pv 0) (pa_cons (pv 1) pa_nil)))))), ?_⟩
    have hst := g.sizeTop
    exact s_ret (v := .int (firstF r (p + m) - firstF r p)) (ev_op (ev_call (ea_cons (ev_var rfl) (ea_cons (ev_op (ev_var rfl) (ev_var rfl) rv_I0) ea_nil)) (sv_first hR g (by omega) (by omega)))
      (ev_call (ea_cons (ev_var rfl) (ea_cons (ev_var rfl) ea_nil)) (sv_first hR g h0 (by omega))) rv_I0) q
def spAmong (K : PySem.W.Frag) : Sp := fun vs H Q _ => ∃ (a : Addr) (r : Ring) (p m : Int), vs = [.ref a, .int p, .int m] ∧ RingAt K H a r ∧ Good r ∧ 0 ≤ p ∧ p < sizeR r ∧ 0 ≤ m ∧ m < 2 ^ 399 ∧ RetV (.int (amongF r p m)) H Q
theorem sv_among {H : Hp} {a : Addr} {r : Ring} {p m : Int} (h : RingAt K H a r) (g : Good r) (h0 : 0 ≤ p) (h1 : p < sizeR r) (h2 : 0 ≤ m) (h3 : m < 2 ^ 399) : SpV (spAmong K) ([.ref a, .int p, .int m] ++ []) H (.int (amongF r p m)) := fun H1 e Q q E => ⟨a, r, p, m, rfl, h.mono e, g, h0, h1, h2, h3, q⟩
def spBeads (K : PySem.W.Frag) : Sp := fun vs H Q _ => ∃ (a : Addr) (r : Ring), vs = [.ref a] ∧ RingAt K H a r ∧ Good r ∧ RetP (IsT K [.int (cntA r), .int (sizeR r - cntA r)]) H Q
theorem sv_beads {H : Hp} {a : Addr} {r : Ring} (h : RingAt K H a r) (g : Good r) : SpP (spBeads K) ([.ref a] ++ []) H (IsT K [.int (cntA r), .int (sizeR r - cntA r)]) := fun H1 e Q q E => ⟨a, r, rfl, h.mono e, g, q⟩
def spKind (K : PySem.W.Frag) : Sp := fun vs H Q _ => ∃ (a : Addr) (r : Ring) (p : Int), vs = [.ref a, .int p] ∧ RingAt K H a r ∧ Good r ∧ 0 ≤ p ∧ p < sizeR r ∧ RetV (.str (kl (kindR r p))) H Q
theorem sv_kind {H : Hp} {a : Addr} {r : Ring} {p : Int} (h : RingAt K H a r) (g : Good r) (h0 : 0 ≤ p) (h1 : p < sizeR r) : SpV (spKind K) ([.ref a, .int p] ++ []) H (.str (kl (kindR r p))) := fun H1 e Q q E => ⟨a, r, p, rfl, h.mono e, g, h0, h1, q⟩
end
section
variable {P : Program} {w : World} {K : PySem.W.Frag} {mg : Str → Option Value} {base : Heap} {tKIND_A tKIND_B : Tok} {C_RingError C_BadRing C_BadPlace C_BadTimes C_BadCount C_Found C_Never : Addr}
abbrev s_l_size : Stmt := topS 50
theorem sc_l_size : FnScope ["_law_ring_here", "_law_kind", "_law_many"] ["_law_ring_here"] (defScope s_l_size) := ⟨rfl, rfl, rfl, by decide +kernel, rfl, by decide +kernel, by decide +kernel⟩
theorem ok_l_size {f : Addr} {fd : FuncData} (F : Fun K "_law_size" "_law_size" s_l_size f fd) (T : Txt K mg tKIND_A tKIND_B C_RingError C_BadRing C_BadPlace C_BadTimes C_BadCount C_Found C_Never)  : FnOk P w K mg base CX0 1 f fd ["_law_ring_here"] (spSize K) := by
  have nd := sc_l_size.nd
  refine F.ok sc_l_size (fun vs H Q E h => ?_) (fun cdv A outer s H vs Q E hr h => ?_)
  · obtain ⟨a, r, rfl, _⟩ := h
    rfl
  · obtain ⟨a, r, rfl, hR, hl, q⟩ := h
    refine ⟨_, (pss_one (ps_ret (pe_callB (cr_sum rfl) (by rfl) T.z_sum (by decide +kernel) (pa_cons (pe_lc (g := (gTup K 2 (gCons (gName 1) (gCons (gName 2) gNil)))) (own := [("_law_kind", 1), ("_law_many", 2)]) (by rfl) nd (pi_list (pv 0)) (blkOk_by (own := [("_law_kind", 1), ("_law_many", 2)]) (N := ["_law_ring_here", "_law_kind", "_law_many"]) (sc := defScope s_l_size) (by decide +kernel)) (fun _ _ _ _ _ => (pg_tup rfl (pgs_cons (pg_name (i := 1) nd rfl (Or.inl rfl) (.inr rfl)) (pgs_cons (pg_name (i := 2) nd rfl (Or.inl rfl) (.inr rfl)) pgs_nil)))) (fun _ _ _ _ _ => pts_nil) (fun _ _ _ _ _ => (pv 2))) pa_nil)))), ?_⟩
    refine s_ret (v := .int (sizeR r)) ?_ q
    rw [← size_sum]
    refine ev_sum (el_lcRing (fun _ => true) (fun x => .int x.2) (ev_var rfl) hR hl (fun _ _ => rfl) (fun x H1 _ _ H2 _ Q q => q H2 (Ex.refl H2)) (fun x H1 _ _ _ => ev_var rfl)) ?_
    rw [List.filter_eq_self.mpr (fun _ _ => rfl), List.map_map]
    rfl
def cellF (ns : List Int) (k : Nat) : Int := ns.getD k 0
def spCell (K : PySem.W.Frag) : Sp := fun vs H Q _ => ∃ (a : Addr) (ns : List Int) (k : Nat), vs = [.ref a, .int (k : Int)] ∧ SqL K H a (ns.map V.int) ∧ RetV (.int (cellF ns k)) H Q
theorem sv_cell {H : Hp} {a : Addr} {ns : List Int} (k : Nat) (h : SqL K H a (ns.map V.int)) : SpV (spCell K) ([.ref a, .int (k : Int)] ++ []) H (.int (cellF ns k)) := fun H1 e Q q E => ⟨a, ns, k, rfl, ex_l e h, q⟩
abbrev s_l_cell_at : Stmt := topS 46
theorem sc_l_cell_at : FnScope ["_law_script", "_law_k"] ["_law_script", "_law_k"] (defScope s_l_cell_at) := ⟨rfl, rfl, rfl, by decide +kernel, rfl, by decide +kernel, by decide +kernel⟩
theorem ok_l_cell_at {f : Addr} {fd : FuncData} (F : Fun K "_law_cell_at" "_law_cell_at" s_l_cell_at f fd) (T : Txt K mg tKIND_A tKIND_B C_RingError C_BadRing C_BadPlace C_BadTimes C_BadCount C_Found C_Never)  : FnOk P w K mg base CX0 1 f fd ["_law_script", "_law_k"] (spCell K) := by
  have nd := sc_l_cell_at.nd
  refine F.ok sc_l_cell_at (fun vs H Q E h => ?_) (fun cdv A outer s H vs Q E hr h => ?_)
  · obtain ⟨a, ns, k, rfl, _⟩ := h
    rfl
  · obtain ⟨a, ns, k, rfl, hS, q⟩ := h
    refine ⟨_, (pss_cons (ps_if (pt_cmpR op_lt (pv 1) (pe_callB c_len (by rfl) T.z_len (by decide +kernel) (pa_cons (pv 0) pa_nil)) (nomark _)) (pss_one (ps_ret (pe_ix ix_list (pv 0) (pv 1) (fun _ _ => rfl)))) pss_nil)
  (pss_one (ps_ret pe_int))), ?_⟩
    have e0 : ((ns.map V.int).length : Int) = (ns.length : Int) := by rw [List.length_map]
    refine q_when (b := decide ((k : Int) < ((ns.map V.int).length : Int))) (et_test (ev_op (ev_var rfl) (ev_len (ev_var rfl) hS) rv_I0)) (fun hb H1 e1 => ?_) fun hb H1 e1 => ?_
    · have hk : k < ns.length := by
        have := of_decide_eq_true hb
        omega
      refine s_ret (v := .int (cellF ns k)) (ev_op (ev_var rfl) (ev_var rfl) (rv_ixL (ex_l e1 hS) (atI_nat ?_))) fun H2 e2 => q H2 (e1.trans e2)
      unfold cellF
      rw [List.getElem?_map, List.getD_eq_getElem?_getD, List.getElem?_eq_getElem hk]
      rfl
    · have hk : ¬ k < ns.length := by
        have := of_decide_eq_false hb
        omega
      have hc : cellF ns k = 0 := by
        unfold cellF
        rw [List.getD_eq_getElem?_getD, List.getElem?_eq_none (by omega)]
        rfl
      rw [hc] at q
      exact s_ret (v := .int 0) ev_c fun H2 e2 => q H2 (e1.trans e2)
def primesL : List Int := [1000003, 1000033, 1000037, 1000039, 1000081, 1000099, 1000117, 1000121, 1000133, 1000151, 1000159, 1000171, 1000183, 1000187, 1000193, 1000199]
def primeF (k : Int) : Int := primesL.getD (k % 16).toNat 0
theorem prime_pos (k : Int) : 0 < primeF k := by
  have h : ∀ p ∈ primesL, 0 < p := by decide
  exact h _ (getD_mem (Int.emod_nonneg _ (by decide)) (by
    show k % 16 < 16
    omega))
theorem prime_at (k : Int) : atI (primesL.map V.int) (k % 16) = some (.int (primeF k)) := atI_getD primesL (Int.emod_nonneg _ (by decide)) (by
    show k % 16 < 16
    omega)
def drawF (c k m : Int) : Int := (c * 48271 + k * 69621) % primeF k % m
theorem draw_nonneg (c k : Int) {m : Int} (h : 0 < m) : 0 ≤ drawF c k m := Int.emod_nonneg _ (by omega)
theorem draw_lt (c k : Int) {m : Int} (h : 0 < m) : drawF c k m < m := Int.emod_lt_of_pos _ h
def spDraw : Sp := fun vs H Q _ => ∃ c k m : Int, vs = [.int c, .int k, .int m] ∧ Bt 10000000 c ∧ Bt 1000 k ∧ 0 < m ∧ RetV (.int (drawF c k m)) H Q
theorem sv_draw {H : Hp} {c k m : Int} (hc : Bt 10000000 c) (hk : Bt 1000 k) (hm : 0 < m) : SpV spDraw ([.int c, .int k, .int m] ++ []) H (.int (drawF c k m)) := fun H1 e Q q E => ⟨c, k, m, rfl, hc, hk, hm, q⟩
theorem b48271 : Bt 16 48271 := by unfold Bt; decide
theorem b69621 : Bt 17 69621 := by unfold Bt; decide
abbrev s_l_draw : Stmt := topS 47
theorem sc_l_draw : FnScope ["_law_cell", "_law_k", "_law_many", "_law_primes"] ["_law_cell", "_law_k", "_law_many"] (defScope s_l_draw) := ⟨rfl, rfl, rfl, by decide +kernel, rfl, by decide +kernel, by decide +kernel⟩
theorem ok_l_draw {f : Addr} {fd : FuncData} (F : Fun K "_law_draw" "_law_draw" s_l_draw f fd) (T : Txt K mg tKIND_A tKIND_B C_RingError C_BadRing C_BadPlace C_BadTimes C_BadCount C_Found C_Never)  : FnOk P w K mg base CX0 1 f fd ["_law_cell", "_law_k", "_law_many"] spDraw := by
  have nd := sc_l_draw.nd
  refine F.ok sc_l_draw (fun vs H Q E h => ?_) (fun cdv A outer s H vs Q E hr h => ?_)
  · obtain ⟨c, k, m, rfl, _⟩ := h
    rfl
  · obtain ⟨c, k, m, rfl, hc, hk, hm, q⟩ := h
    refine ⟨_, (pss_cons (ps_set (i := 3) nd rfl (Or.inl rfl) (pe_tup (pa_cons pe_int (pa_cons pe_int (pa_cons pe_int (pa_cons pe_int (pa_cons pe_int (pa_cons pe_int (pa_cons pe_int (pa_cons pe_int (pa_cons pe_int (pa_cons pe_int (pa_cons pe_int (pa_cons pe_int (pa_cons pe_int (pa_cons pe_int (pa_cons pe_int (pa_cons pe_int pa_nil))))))))))))))))))
  (pss_one (ps_ret (pe_op op_mod (pe_op op_mod (pe_op op_add (pe_op op_mulX (pv 0) pe_int) (pe_op op_mulX (pv 1) pe_int)) (pe_ix ix_tup (pv 3) (pe_op op_mod (pv 1) pe_int) (fun _ _ => rfl))) (pv 2))))), ?_⟩
    refine q_asgU (xs := primesL.map V.int) ?_ fun p H1 hp e1 h1 => ?_
    · refine eu_tup ?_ (by decide)
      walk_at "ev"
    · refine s_ret (v := .int (drawF c k m)) ?_ fun H2 e2 => q H2 (e1.trans e2)
      refine ev_op (ev_op (ev_op (ev_op (ev_var rfl) ev_c (rv_I (hc.mulx b48271 (by decide)))) (ev_op (ev_var rfl) ev_c (rv_I (hk.mulx b69621 (by decide)))) rv_I0) (ev_op (ev_var rfl) (ev_op (ev_var rfl) ev_c (rv_I (by decide))) (rv_ixT (st_of h1) (prime_at k))) (rv_I (prime_pos k))) (ev_var rfl) (rv_I hm)
/-- ten to the eighteenth, to the fortieth, as the machine reckons them -/
def t18 : Int := 10 ^ (18 : Int).toNat
def t40 : Int := 10 ^ (40 : Int).toNat
theorem t40_eq : t40 = 10000000000000000000000000000000000000000 := by decide
theorem t18_eq : t18 = 1000000000000000000 := by decide
def numF (c k lim : Int) : Int := if t18 ≤ c then (c - t18) % t40 else drawF ((c + 977 * k) * (c + 31 * k + 5)) (k % 9 + 1) lim
theorem num_nonneg (c k : Int) {lim : Int} (h : 0 < lim) : 0 ≤ numF c k lim := by
  unfold numF
  split
  · exact Int.emod_nonneg _ (by rw [t40_eq]; decide)
  · exact draw_nonneg _ _ h
theorem num_lt (c k : Int) {lim : Int} (h : 0 < lim) (hl : lim ≤ t40) : numF c k lim < t40 := by
  unfold numF
  split
  · exact Int.emod_lt_of_pos _ (by rw [t40_eq]; decide)
  · have := draw_lt ((c + 977 * k) * (c + 31 * k + 5)) (k % 9 + 1) h
    omega
def spNumber : Sp := fun vs H Q _ => ∃ c k m : Int, vs = [.int c, .int k, .int m] ∧ Bt 1048576 c ∧ 0 ≤ k ∧ k < 2 ^ 20 ∧ 0 < m ∧ RetV (.int (numF c k m)) H Q
theorem sv_number {H : Hp} {c k m : Int} (hc : Bt 1048576 c) (h0 : 0 ≤ k) (h1 : k < 2 ^ 20) (hm : 0 < m) : SpV spNumber ([.int c, .int k, .int m] ++ []) H (.int (numF c k m)) := fun H1 e Q q E => ⟨c, k, m, rfl, hc, h0, h1, hm, q⟩
abbrev s_l_number : Stmt := topS 48
theorem sc_l_number : FnScope ["_law_cell", "_law_k", "_law_limit"] ["_law_cell", "_law_k", "_law_limit"] (defScope s_l_number) := ⟨rfl, rfl, rfl, by decide +kernel, rfl, by decide +kernel, by decide +kernel⟩
theorem ok_l_number {f : Addr} {fd : FuncData} (F : Fun K "_law_number" "_law_number" s_l_number f fd) (T : Txt K mg tKIND_A tKIND_B C_RingError C_BadRing C_BadPlace C_BadTimes C_BadCount C_Found C_Never) {f_l_draw : Addr} {fd_l_draw : FuncData} (G_l_draw : FnOk P w K mg base CX0 1 f_l_draw fd_l_draw ["_law_cell", "_law_k", "_law_many"] spDraw) (m_l_draw : mg "_law_draw" = some (.ref f_l_draw)) (k_l_draw : PySem.W.keepIn K (.ref f_l_draw) = true) (b_l_draw : Binds K fd_l_draw ["_law_cell", "_law_k", "_law_many"] []) : FnOk P w K mg base CX0 2 f fd ["_law_cell", "_law_k", "_law_limit"] spNumber := by
  have nd := sc_l_number.nd
  refine F.ok sc_l_number (fun vs H Q E h => ?_) (fun cdv A outer s H vs Q E hr h => ?_)
  · obtain ⟨c, k, m, rfl, _⟩ := h
    rfl
  · obtain ⟨c, k, m, rfl, hc, h0, h1, hm, q⟩ := h
    refine ⟨_, (pss_cons (ps_if (pt_cmpR op_ge (pv 0) (pe_op op_pow pe_int pe_int) (nomark _)) (pss_one (ps_ret (pe_op op_mod (pe_op op_sub (pv 0) (pe_op op_pow pe_int pe_int)) (pe_op op_pow pe_int pe_int)))) pss_nil)
  (pss_one (ps_ret (pe_call G_l_draw (hr.mono (by decide)) (by rfl) m_l_draw k_l_draw b_l_draw .nil pass0 (pa_cons (pe_op op_mulX (pe_op op_add (pv 0) (pe_op op_mulX pe_int (pv 1))) (pe_op op_add (pe_op op_add (pv 0) (pe_op op_mulX pe_int (pv 1))) pe_int)) (pa_cons (pe_op op_add (pe_op op_mod (pv 1) pe_int) pe_int) (pa_cons (pv 2) pa_nil))))))), ?_⟩
    have cp18 : CPow 10 18 := by unfold CPow; decide
    have cp40 : CPow 10 40 := by unfold CPow; decide
    have e18 : ∀ {σ : Sg} {H : Hp}, Ev (tOp (rI CPow fun i j => .int (i ^ j.toNat)) (tC (.int 10)) (tC (.int 18))) σ H (.int t18) := fun {σ H} => ev_op ev_c ev_c (rv_I cp18)
    have e40 : ∀ {σ : Sg} {H : Hp}, Ev (tOp (rI CPow fun i j => .int (i ^ j.toNat)) (tC (.int 10)) (tC (.int 40))) σ H (.int t40) := fun {σ H} => ev_op ev_c ev_c (rv_I cp40)
    have hk : Bt 20 k := Bt.small 20 h0 h1 (by decide)
    have b977 : Bt 20 977 := by unfold Bt; decide
    have b31 : Bt 20 31 := by unfold Bt; decide
    have b5 : Bt 20 5 := by unfold Bt; decide
    have x1 : Bt 1048577 (c + 977 * k) := Bt.add hc ((b977.mul hk).mono (by decide))
    have x2 : Bt 1048578 (c + 31 * k + 5) := Bt.add (Bt.add hc ((b31.mul hk).mono (by decide))) (b5.mono (by decide))
    refine q_when (b := decide (t18 ≤ c)) (et_test (ev_op (ev_var rfl) e18 rv_I0)) (fun hb H1 e1 => ?_) fun hb H1 e1 => ?_
    · have hb' := of_decide_eq_true hb
      refine s_ret (v := .int ((c - t18) % t40)) (ev_op (ev_op (ev_var rfl) e18 rv_I0) e40 (rv_I (by rw [t40_eq]; decide))) fun H2 e2 => ?_
      have := q H2 (e1.trans e2)
      unfold numF at this
      rw [if_pos hb'] at this
      exact this
    · have hb' := of_decide_eq_false hb
      refine s_ret (v := .int (drawF ((c + 977 * k) * (c + 31 * k + 5)) (k % 9 + 1) m)) (ev_call (ea_cons (ev_op (ev_op (ev_var rfl) (ev_op ev_c (ev_var rfl) (rv_I (b977.mulx hk (by decide)))) rv_I0) (ev_op (ev_op (ev_var rfl) (ev_op ev_c (ev_var rfl) (rv_I (b31.mulx hk (by decide)))) rv_I0) ev_c rv_I0) (rv_I (x1.mulx x2 (by decide))))
        (ea_cons (ev_op (ev_op (ev_var rfl) ev_c (rv_I (by decide))) ev_c rv_I0) (ea_cons (ev_var rfl) ea_nil))) (sv_draw ((x1.mul x2).mono (by decide)) (Bt.small 20 (by omega) (by omega) (by decide)) hm)) fun H2 e2 => ?_
      have := q H2 (e1.trans e2)
      unfold numF at this
      rw [if_neg hb'] at this
      exact this
end
section
variable {P : Program} {w : World} {K : PySem.W.Frag} {mg : Str → Option Value} {base : Heap} {tKIND_A tKIND_B : Tok} {C_RingError C_BadRing C_BadPlace C_BadTimes C_BadCount C_Found C_Never : Addr}
def spTable (K : PySem.W.Frag) : Sp := fun vs H Q _ => ∃ (a : Addr) (r : Ring), vs = [.ref a] ∧ RingAt K H a r ∧ r.length ≤ 40000 ∧ RetP (IsTab K r) H Q
theorem sv_table {H : Hp} {a : Addr} {r : Ring} (h : RingAt K H a r) (hl : r.length ≤ 40000) : SpP (spTable K) ([.ref a] ++ []) H (IsTab K r) := fun H1 e Q q E => ⟨a, r, rfl, h.mono e, hl, q⟩
abbrev s_l_table : Stmt := topS 51
theorem sc_l_table : FnScope ["_law_ring_here", "_law_ends", "_law_sums", "_law_kind", "_law_many"] ["_law_ring_here"] (defScope s_l_table) := ⟨rfl, rfl, rfl, by decide +kernel, rfl, by decide +kernel, by decide +kernel⟩
theorem ok_l_table {f : Addr} {fd : FuncData} (F : Fun K "_law_table" "_law_table" s_l_table f fd) (T : Txt K mg tKIND_A tKIND_B C_RingError C_BadRing C_BadPlace C_BadTimes C_BadCount C_Found C_Never)  : FnOk P w K mg base CX0 1 f fd ["_law_ring_here"] (spTable K) := by
  have nd := sc_l_table.nd
  refine F.ok sc_l_table (fun vs H Q E h => ?_) (fun cdv A outer s H vs Q E hr h => ?_)
  · obtain ⟨a, r, rfl, _⟩ := h
    rfl
  · obtain ⟨a, r, rfl, hR, hl, q⟩ := h
    refine ⟨_, (pss_cons (ps_par (i := 1) (j := 2) (by rfl) nd rfl rfl (by decide) rfl rfl (pa_cons (pe_lst (pa_cons pe_int pa_nil)) (pa_cons (pe_lst (pa_cons pe_int pa_nil)) pa_nil)) (by rfl))
  (pss_cons (ps_for PassesOwn.never rfl (pi_list (pv 0)) (pg_tup rfl (pgs_cons (pg_name (i := 3) nd rfl (Or.inl rfl)) (pgs_cons (pg_name (i := 4) nd rfl (Or.inl rfl)) pgs_nil)))
  (pss_cons (ps_expr (pe_bm PySem.F.plainAttrs_list PySem.F.slot_list_append PySem.F.type_list_append mt_append (pv 1) (pa_cons (pe_op op_add (pe_ix ix_list (pv 1) (pe_un un_neg pe_int) (fun _ _ => rfl)) (pv 4)) pa_nil)))
  (pss_one (ps_expr (pe_bm PySem.F.plainAttrs_list PySem.F.slot_list_append PySem.F.type_list_append mt_append (pv 2) (pa_cons (pe_op op_add (pe_ix ix_list (pv 2) (pe_un un_neg pe_int) (fun _ _ => rfl)) (pe_ifExp (pt_cmpR op_eq (pv 3) pe_str (nomark _)) (pv 4) pe_int)) pa_nil))))))
  (pss_one (ps_ret (pe_tup (pa_cons (pv 1) (pa_cons (pv 2) pa_nil))))))), ?_⟩
    refine q_parLL (xs := endsTo r 0) (ys := sumsTo r 0) (el_lst (ea_cons ev_c ea_nil) (by rw [ends_len]; decide)) (fun H1 e1 => el_lst (ea_cons ev_c ea_nil) (by rw [sums_len]; decide)) fun p1 p2 H2 n1 n2 hne e2 h1 h2 => ?_
    refine q_forR' e2 (ev_var rfl) hR (fun i σ' H' => Ex H H' ∧ H' p1 = some (.lst (endsTo r i)) ∧ H' p2 = some (.lst (sumsTo r i)) ∧ ∃ y3 y4 : Option V, σ' = [some (.ref a), some (.ref p1), some (.ref p2), y3, y4])
      (fun H3 e3 => ⟨e2.trans e3, e3 _ _ h1, e3 _ _ h2, none, none, rfl⟩) (fun i σ' H' p => p.1) (fun i x σ' H' hx p => ?_) (fun σ' H' p => ?_)
    · obtain ⟨e3, k1, k2, y3, y4, rfl⟩ := p
      have hi : i < r.length := (List.getElem?_eq_some_iff.mp hx).1
      refine q_app (v := .int (sizeR (r.take i) + x.2)) k1 (ev_var rfl) (ev_op (ev_op (ev_var rfl) (ev_un ev_c ru_neg) (rv_ixL (sq_of k1) (ends_last r i))) (ev_var rfl) rv_I0) (by rw [ends_len]; omega) fun H4 e4 => ?_
      have k2' : upd H4 p1 (.lst (endsTo r i ++ [V.int (sizeR (r.take i) + x.2)])) p2 = some (.lst (sumsTo r i)) := by
        rw [upd_ne hne.symm]
        exact e4 _ _ k2
      refine s_app (v := .int (cntA (r.take i) + (if x.1 = true then x.2 else 0))) k2' (ev_var rfl) (ev_op (ev_op (ev_var rfl) (ev_un ev_c ru_neg) (rv_ixL (sq_of k2') (sums_last r i))) (ev_ifI (et_is (et_test (ev_op (ev_var rfl) ev_c (rv_eq rfl))) (kl_a x.1)) (fun _ => ev_var rfl) (fun _ => ev_c)) rv_I0) (by rw [sums_len]; omega) fun H5 e5 => ?_
      refine ⟨Ex.mut ((Ex.mut (e3.trans e4) n1).trans e5) n2, ?_, ?_, _, _, rfl⟩
      · rw [upd_ne hne, ends_succ, size_take_succ hx]
        exact e5 _ _ upd_same
      · rw [upd_same, sums_succ, cnt_take_succ hx]
    · obtain ⟨e3, k1, k2, y3, y4, rfl⟩ := p
      refine s_retP (P := IsTab K r) ?_ fun v H4 e4 hP => q v H4 (e3.trans e4) hP
      intro H4 e4 Q' q'
      refine (eu_tup (ea_cons (ev_var (v := .ref p1) rfl) (ea_cons (ev_var (v := .ref p2) rfl) ea_nil)) (by simp only [List.length_cons, List.length_nil]; decide)) H4 e4 _ fun p H5 hp e5 h5 => q' _ H5 e5 ⟨p, p1, p2, rfl, st_of h5, sq_of ((e4.trans e5) _ _ k1), sq_of ((e4.trans e5) _ _ k2)⟩
def spAhead (K : PySem.W.Frag) : Sp := fun vs H Q _ => ∃ (v : V) (r : Ring) (p : Int), vs = [v, .int p] ∧ IsTab K r v H ∧ Pos r ∧ r.length ≤ 40000 ∧ 0 ≤ p ∧ p < sizeR r ∧ RetV (.int (ahead r p)) H Q
theorem sv_ahead {H : Hp} {v : V} {r : Ring} {p : Int} (h : IsTab K r v H) (hp : Pos r) (hl : r.length ≤ 40000) (h0 : 0 ≤ p) (h1 : p < sizeR r) : SpV (spAhead K) ([v, .int p] ++ []) H (.int (ahead r p)) := fun H1 e Q q E => ⟨v, r, p, rfl, h.mono e, hp, hl, h0, h1, q⟩
def spAlong (K : PySem.W.Frag) : Sp := fun vs H Q _ => ∃ (v : V) (r : Ring) (p m : Int), vs = [v, .int p, .int m] ∧ IsTab K r v H ∧ Good r ∧ 0 ≤ p ∧ p < sizeR r ∧ 0 ≤ m ∧ m < 2 ^ 399 ∧ RetV (.int (amongF r p m)) H Q
theorem sv_along {H : Hp} {v : V} {r : Ring} {p m : Int} (h : IsTab K r v H) (g : Good r) (h0 : 0 ≤ p) (h1 : p < sizeR r) (h2 : 0 ≤ m) (h3 : m < 2 ^ 399) : SpV (spAlong K) ([v, .int p, .int m] ++ []) H (.int (amongF r p m)) := fun H1 e Q q E => ⟨v, r, p, m, rfl, h.mono e, g, h0, h1, h2, h3, q⟩
end
def Bits (ns : List Int) : Prop := ∀ z ∈ ns, Builtin.Int.intBits z ≤ 1048576
theorem bits_cell {ns : List Int} (h : Bits ns) (k : Nat) : Bt 1048576 (cellF ns k) := by
  unfold cellF
  rw [List.getD_eq_getElem?_getD]
  cases e : ns[k]? with
  | none =>
    refine Bt.of (z := 0) ?_
    exact Nat.zero_le _
  | some z => exact Bt.of (h z (List.mem_of_getElem? e))
theorem bits_take {ns : List Int} (h : Bits ns) (n : Nat) : Bits (ns.take n) := fun z hz => h z (List.mem_of_mem_take hz)
def limF (i : Int) : Int := [2, 4, 40, 400000].getD i.toNat 0
theorem lim_pos {i : Int} (h0 : 0 ≤ i) (h1 : i < 4) : 0 < limF i ∧ limF i ≤ 400000 := by
  have h : ∀ p ∈ ([2, 4, 40, 400000] : List Int), 0 < p ∧ p ≤ 400000 := by decide
  exact h _ (getD_mem h0 (by show i < 4; omega))
theorem lim_at {i : Int} (h0 : 0 ≤ i) (h1 : i < 4) : atI ([2, 4, 40, 400000].map V.int) i = some (.int (limF i)) := atI_getD [2, 4, 40, 400000] h0 (by show i < 4; omega)
def stF (slant lim : Int) (k : Nat) (c : Int) : Bool × Int :=
  ((if slant < 2 then decide (numF c k (2 * lim) % 2 = 0) else decide ((k : Int) % 2 = 0)),
    1 + numF c k (2 * lim) / 2 * (if (decide (slant = 3) && (if slant < 2 then decide (numF c k (2 * lim) % 2 = 0) else decide ((k : Int) % 2 = 0))) = true then 3 else 1))
def foundTo (slant lim : Int) (ms : List Int) (n : Nat) : Ring := (List.range n).map fun k => stF slant lim k (cellF ms k)
theorem found_succ (slant lim : Int) (ms : List Int) (n : Nat) : foundTo slant lim ms (n + 1) = foundTo slant lim ms n ++ [stF slant lim n (cellF ms n)] := by
  unfold foundTo
  rw [List.range_succ, List.map_append]
  rfl
def orOne (n : Int) (r : Ring) : Ring := if r = [] then [(true, n)] else r
def limOf (ms : List Int) : Int := limF (drawF (cellF ms 0) 7 4)
def slantOf (ms : List Int) : Int := drawF (cellF ms 1) 6 4
def ringF (ns : List Int) : Ring := orOne 1 (foundTo (slantOf (ns.take 63)) (limOf (ns.take 63)) (ns.take 63) (ns.take 63).length)
theorem st_good {slant lim : Int} (hl : 0 < lim) (h2 : lim ≤ 400000) (k : Nat) (c : Int) : 1 ≤ (stF slant lim k c).2 ∧ (stF slant lim k c).2 < 2 ^ 200 := by
  have h0 := num_nonneg c k (lim := 2 * lim) (by omega)
  have h1 := num_lt c k (lim := 2 * lim) (by omega) (by rw [t40_eq]; omega)
  rw [t40_eq] at h1
  have key : ∀ cond : Bool, 1 ≤ 1 + numF c k (2 * lim) / 2 * (if cond = true then 3 else 1) ∧ 1 + numF c k (2 * lim) / 2 * (if cond = true then 3 else 1) < 2 ^ 200 := fun cond => by
    cases cond
    · rw [if_neg (by decide)]
      omega
    · rw [if_pos rfl]
      omega
  exact key _
theorem found_len (slant lim : Int) (ms : List Int) (n : Nat) : (foundTo slant lim ms n).length = n := by
  unfold foundTo
  rw [List.length_map, List.length_range]
theorem ring_good (ns : List Int) : Good (ringF ns) := by
  have hl := lim_pos (draw_nonneg (cellF (ns.take 63) 0) 7 (m := 4) (by decide)) (draw_lt (cellF (ns.take 63) 0) 7 (m := 4) (by decide))
  have hall : ∀ x ∈ ringF ns, 1 ≤ x.2 ∧ x.2 < 2 ^ 200 := by
    intro x hx
    unfold ringF orOne at hx
    split at hx
    · rw [List.mem_singleton] at hx
      subst hx
      decide
    · unfold foundTo at hx
      obtain ⟨k, _, rfl⟩ := List.mem_map.mp hx
      exact st_good hl.1 hl.2 _ _
  refine ⟨?_, ?_, fun x hx => (hall x hx).1, fun x hx => (hall x hx).2⟩
  · unfold ringF orOne
    split
    · simp
    · assumption
  · unfold ringF orOne
    split
    · simp
    · rw [found_len, List.length_take]
      omega
theorem ring_len (ns : List Int) : (ringF ns).length ≤ 63 := by
  unfold ringF orOne
  split
  · simp
  · rw [found_len, List.length_take]
    omega
def smSt (by' : Int) (k : Nat) (c : Int) : Bool × Int := (decide (numF c (k + by') 900000 % 3 ≠ 2), 1 + numF c (k + by') 900000 / 3 % 3)
def smallTo (by' : Int) (ms : List Int) (n : Nat) : Ring := (List.range n).map fun k => smSt by' k (cellF ms k)
theorem small_succ (by' : Int) (ms : List Int) (n : Nat) : smallTo by' ms (n + 1) = smallTo by' ms n ++ [smSt by' n (cellF ms n)] := by
  unfold smallTo
  rw [List.range_succ, List.map_append]
  rfl
def smallF (ns : List Int) (by' : Int) : Ring := orOne 2 (smallTo by' (ns.take 10) (ns.take 10).length)
theorem small_ok (ns : List Int) (by' : Int) : Small (smallF ns by') := by
  refine ⟨?_, ?_⟩
  · unfold smallF orOne
    split
    · simp
    · unfold smallTo
      rw [List.length_map, List.length_range, List.length_take]
      omega
  · intro x hx
    unfold smallF orOne at hx
    split at hx
    · rw [List.mem_singleton] at hx
      subst hx
      decide
    · unfold smallTo at hx
      obtain ⟨k, _, rfl⟩ := List.mem_map.mp hx
      unfold smSt
      show 1 ≤ 1 + _ ∧ 1 + _ ≤ 3
      omega
theorem small_ne (ns : List Int) (by' : Int) : smallF ns by' ≠ [] := by
  unfold smallF orOne
  split
  · simp
  · assumption
theorem small_good (ns : List Int) (by' : Int) : Good (smallF ns by') := by
  have h := small_ok ns by'
  exact ⟨small_ne ns by', Nat.le_trans h.len (by decide), h.pos, fun x hx => by have := (h.size x hx).2; omega⟩
section
variable {P : Program} {w : World} {K : PySem.W.Frag} {mg : Str → Option Value} {base : Heap} {tKIND_A tKIND_B : Tok} {C_RingError C_BadRing C_BadPlace C_BadTimes C_BadCount C_Found C_Never : Addr}
def spRing (K : PySem.W.Frag) : Sp := fun vs H Q _ => ∃ (a : Addr) (ns : List Int), vs = [.ref a] ∧ SqL K H a (ns.map V.int) ∧ Bits ns ∧ RetP (IsRing K (ringF ns)) H Q
theorem sv_ring {H : Hp} {a : Addr} {ns : List Int} (h : SqL K H a (ns.map V.int)) (hb : Bits ns) : SpP (spRing K) ([.ref a] ++ []) H (IsRing K (ringF ns)) := fun H1 e Q q E => ⟨a, ns, rfl, ex_l e h, hb, q⟩
abbrev s_l_ring : Stmt := topS 49
theorem sc_l_ring : FnScope ["_law_script", "_law_limit", "_law_slant", "_law_found", "_law_k", "_law_cell", "_law_number_here", "_law_kind"] ["_law_script"] (defScope s_l_ring) := ⟨rfl, rfl, rfl, by decide +kernel, rfl, by decide +kernel, by decide +kernel⟩
theorem ok_l_ring {f : Addr} {fd : FuncData} (F : Fun K "_law_ring" "_law_ring" s_l_ring f fd) (T : Txt K mg tKIND_A tKIND_B C_RingError C_BadRing C_BadPlace C_BadTimes C_BadCount C_Found C_Never) {f_l_cell_at : Addr} {fd_l_cell_at : FuncData} (G_l_cell_at : FnOk P w K mg base CX0 1 f_l_cell_at fd_l_cell_at ["_law_script", "_law_k"] (spCell K)) (m_l_cell_at : mg "_law_cell_at" = some (.ref f_l_cell_at)) (k_l_cell_at : PySem.W.keepIn K (.ref f_l_cell_at) = true) (b_l_cell_at : Binds K fd_l_cell_at ["_law_script", "_law_k"] []) {f_l_draw : Addr} {fd_l_draw : FuncData} (G_l_draw : FnOk P w K mg base CX0 1 f_l_draw fd_l_draw ["_law_cell", "_law_k", "_law_many"] spDraw) (m_l_draw : mg "_law_draw" = some (.ref f_l_draw)) (k_l_draw : PySem.W.keepIn K (.ref f_l_draw) = true) (b_l_draw : Binds K fd_l_draw ["_law_cell", "_law_k", "_law_many"] []) {f_l_number : Addr} {fd_l_number : FuncData} (G_l_number : FnOk P w K mg base CX0 2 f_l_number fd_l_number ["_law_cell", "_law_k", "_law_limit"] spNumber) (m_l_number : mg "_law_number" = some (.ref f_l_number)) (k_l_number : PySem.W.keepIn K (.ref f_l_number) = true) (b_l_number : Binds K fd_l_number ["_law_cell", "_law_k", "_law_limit"] []) : FnOk P w K mg base CX0 3 f fd ["_law_script"] (spRing K) := by
  have nd := sc_l_ring.nd
  refine F.ok sc_l_ring (fun vs H Q E h => ?_) (fun cdv A outer s H vs Q E hr h => ?_)
  · obtain ⟨a, ns, rfl, _⟩ := h
    rfl
  · obtain ⟨a, ns, rfl, hS, hB, q⟩ := h
    refine ⟨_, (pss_cons (ps_set (i := 0) nd rfl (Or.inl rfl) (pe_slice sl_list (pv 0) po_none (po_some pe_int)))
  (pss_cons (ps_set (i := 1) nd rfl (Or.inl rfl) (pe_ix ix_tup (pe_tup (pa_cons pe_int (pa_cons pe_int (pa_cons pe_int (pa_cons pe_int pa_nil))))) (pe_call G_l_draw (hr.mono (by decide)) (by rfl) m_l_draw k_l_draw b_l_draw .nil pass0 (pa_cons (pe_call G_l_cell_at (hr.mono (by decide)) (by rfl) m_l_cell_at k_l_cell_at b_l_cell_at .nil pass0 (pa_cons (pv 0) (pa_cons pe_int pa_nil))) (pa_cons pe_int (pa_cons pe_int pa_nil)))) (fun _ _ => rfl)))
  (pss_cons (ps_set (i := 2) nd rfl (Or.inl rfl) (pe_call G_l_draw (hr.mono (by decide)) (by rfl) m_l_draw k_l_draw b_l_draw .nil pass0 (pa_cons (pe_call G_l_cell_at (hr.mono (by decide)) (by rfl) m_l_cell_at k_l_cell_at b_l_cell_at .nil pass0 (pa_cons (pv 0) (pa_cons pe_int pa_nil))) (pa_cons pe_int (pa_cons pe_int pa_nil)))))
  (pss_cons (ps_set (i := 3) nd rfl (Or.inl rfl) (pe_lst pa_nil))
  (pss_cons (ps_for PassesOwn.never rfl (pi_enum (by rfl) T.z_enumerate (pa_cons (pv 0) pa_nil)) (pg_tup rfl (pgs_cons (pg_name (i := 4) nd rfl (Or.inl rfl)) (pgs_cons (pg_name (i := 5) nd rfl (Or.inl rfl)) pgs_nil)))
  (pss_cons (ps_set (i := 6) nd rfl (Or.inl rfl) (pe_call G_l_number (hr.mono (by decide)) (by rfl) m_l_number k_l_number b_l_number .nil pass0 (pa_cons (pv 5) (pa_cons (pv 4) (pa_cons (pe_op op_mulX pe_int (pv 1)) pa_nil)))))
  (pss_cons (ps_set (i := 7) nd rfl (Or.inl rfl) (pe_ifExp (pt_cmpR op_lt (pv 2) pe_int (nomark _)) (pe_ix ix_str pe_str (pe_op op_mod (pv 6) pe_int) (fun _ _ => rfl)) (pe_ix ix_str pe_str (pe_op op_mod (pv 4) pe_int) (fun _ _ => rfl))))
  (pss_one (ps_expr (pe_bm PySem.F.plainAttrs_list PySem.F.slot_list_append PySem.F.type_list_append mt_append (pv 3) (pa_cons (pe_tup (pa_cons (pv 7) (pa_cons (pe_op op_add pe_int (pe_op op_mulX (pe_op op_fdivW (pv 6) pe_int) (pe_ifExp (PW.pt (pw_and (pt_cmpR op_eq (pv 2) pe_int (nomark _)) (pw_and1 (pt_cmpR op_eq (pv 7) pe_str (nomark _))))) pe_int pe_int))) pa_nil))) pa_nil)))))))
  (pss_one (ps_ret (pe_ifExp (pt_cmpR (op_neD hr.units) (pv 3) (pe_lst pa_nil) (nomark _)) (pv 3) (pe_lst (pa_cons (pe_tup (pa_cons pe_str (pa_cons pe_int pa_nil))) pa_nil)))))))))), ?_⟩
    have hBm := bits_take hB 63
    have q' : RetP (IsRing K (orOne 1 (foundTo (slantOf (ns.take 63)) (limOf (ns.take 63)) (ns.take 63) (ns.take 63).length))) H Q := q
    have hml : (ns.take 63).length ≤ 63 := by
      rw [List.length_take]
      omega
    have ecut : cutV (ns.map V.int) none (some 63) = (ns.take 63).map V.int := by
      have := cut_none (ns.map V.int) 63
      rw [List.map_take]
      exact this
    generalize ns.take 63 = ms at *
    have b7 : Bt 1000 7 := (show Bt 20 7 by unfold Bt; decide).mono (by decide)
    have b6 : Bt 1000 6 := (show Bt 20 6 by unfold Bt; decide).mono (by decide)
    have b2 : Bt 20 2 := by unfold Bt; decide
    refine q_asgL (xs := ms.map V.int) (by rw [← ecut]; exact el_sl (ev_var rfl) eo_none (eo_some ev_c) hS) fun p0 H1 n0 e1 h1 => ?_
    have hM : SqL K H1 p0 (ms.map V.int) := sq_of h1
    have d0 : 0 ≤ drawF (cellF ms 0) 7 4 := draw_nonneg _ _ (by decide)
    have d1 : drawF (cellF ms 0) 7 4 < 4 := draw_lt _ _ (by decide)
    have hlim := lim_pos d0 d1
    refine q_asg (v := .int (limOf ms)) (ev_opP1 (P := IsT K ([2, 4, 40, 400000].map V.int)) (ep_U (eu_tup (ea_cons ev_c (ea_cons ev_c (ea_cons ev_c (ea_cons ev_c ea_nil)))) (by simp only [List.length_map, List.length_cons, List.length_nil]; decide)))
      (ev_call (ea_cons (ev_call (ea_cons (ev_var rfl) (ea_cons ev_c ea_nil)) (sv_cell 0 hM)) (ea_cons ev_c (ea_cons ev_c ea_nil))) (sv_draw (c := cellF ms 0) (k := 7) (m := 4) ((bits_cell hBm 0).mono (by decide)) b7 (by decide))) (fun v H2 e2 hP => by
        obtain ⟨t, rfl, ht⟩ := hP
        exact rv_ixT ht (lim_at d0 d1))) fun H2 e2 => ?_
    refine q_asg (v := .int (slantOf ms)) (ev_call (ea_cons (ev_call (ea_cons (ev_var rfl) (ea_cons ev_c ea_nil)) (sv_cell 1 (ex_l e2 hM))) (ea_cons ev_c (ea_cons ev_c ea_nil))) (sv_draw (c := cellF ms 1) (k := 6) (m := 4) ((bits_cell hBm 1).mono (by decide)) b6 (by decide))) fun H3 e3 => ?_
    have hlim' : 0 < limOf ms ∧ limOf ms ≤ 400000 := hlim
    generalize limOf ms = lim at *
    generalize slantOf ms = slant at *
    have hM3 : SqL K H3 p0 (ms.map V.int) := ex_l (e2.trans e3) hM
    refine q_asgF (K := K) (r := []) (ef_lst ei_nil (by decide)) fun p vs0 H4 n4 e4 h4 i4 => ?_
    have e03 := (e1.trans e2).trans e3
    refine q_forG (K := K) (xs := ms.map V.int) (fun a' H5 => a' = p0 ∧ Ex H4 H5) (fun Q' q' => (ea_cons (ev_var (v := .ref p0) rfl) ea_nil) H4 (Ex.refl H4) _ fun H5 e5 => q' p0 H5 ⟨rfl, e5⟩)
      (fun a' i σ' H' => a' = p0 ∧ Ex H3 H' ∧ ∃ (ws : List V) (y4 y5 y6 y7 : Option V), σ' = [some (.ref p0), some (.int lim), some (.int slant), some (.ref p), y4, y5, y6, y7] ∧ H' p = some (.lst ws) ∧ Items K H' ws (foundTo slant lim ms i)) (fun a' H5 hF => ?_) (fun a' i σ' H' hp => ?_) (fun a' i v σ' H' T hv hp nT => ?_) (fun a' σ' H' hp => ?_)
    · obtain ⟨rfl, e5⟩ := hF
      exact ⟨rfl, e4.trans e5, vs0, none, none, none, none, rfl, e5 _ _ h4, i4.mono e5⟩
    · obtain ⟨rfl, e, _⟩ := hp
      exact ex_l e hM3
    · obtain ⟨rfl, e5, ws, y4, y5, y6, y7, rfl, hp, hi⟩ := hp
      have him : i < ms.length := by
        have := (List.getElem?_eq_some_iff.mp hv).1
        rw [List.length_map] at this
        exact this
      have ev : v = .int (cellF ms i) := by
        rw [List.getElem?_map, List.getElem?_eq_getElem him] at hv
        unfold cellF
        rw [List.getD_eq_getElem?_getD, List.getElem?_eq_getElem him]
        exact (Option.some.inj hv).symm
      subst ev
      have eT : Ex H' (upd H' T (.tup [.int (i : Nat), .int (cellF ms i)])) := Ex.new nT
      refine ⟨T, _, rfl, st_of upd_same, rfl, _, _, rfl, _, _, rfl, rfl, ?_⟩
      have blim : Bt 20 lim := Bt.small 20 (by omega) (by omega) (by decide)
      refine q_asg (v := .int (numF (cellF ms i) (i : Int) (2 * lim))) (ev_call (ea_cons (ev_var rfl) (ea_cons (ev_var rfl) (ea_cons (ev_op ev_c (ev_var rfl) (rv_I (b2.mulx blim (by decide)))) ea_nil))) (sv_number (bits_cell hBm i) (by omega) (by omega) (by omega))) fun H6 e6 => ?_
      have n0' := num_nonneg (cellF ms i) (i : Int) (lim := 2 * lim) (by omega)
      have n1' := num_lt (cellF ms i) (i : Int) (lim := 2 * lim) (by omega) (by rw [t40_eq]; omega)
      rw [t40_eq] at n1'
      have est : stF slant lim i (cellF ms i) = ((if slant < 2 then decide (numF (cellF ms i) i (2 * lim) % 2 = 0) else decide ((i : Int) % 2 = 0)),
        1 + numF (cellF ms i) i (2 * lim) / 2 * (if (decide (slant = 3) && (if slant < 2 then decide (numF (cellF ms i) i (2 * lim) % 2 = 0) else decide ((i : Int) % 2 = 0))) = true then 3 else 1)) := rfl
      generalize numF (cellF ms i) (i : Int) (2 * lim) = n at *
      generalize hk : (if slant < 2 then decide (n % 2 = 0) else decide ((i : Int) % 2 = 0)) = k at est
      have cd2 : ∀ i, CDivW i 2 := fun i => ⟨by decide, by decide⟩
      have b1 : Bt 20 1 := by unfold Bt; decide
      have bn : Bt 200 (n / 2) := Bt.small 200 (by omega) (by omega) (by decide)
      have bf : ∀ b : Bool, Bt 20 (if b = true then 3 else 1) := fun b => by
        cases b <;> (unfold Bt; decide)
      refine q_asg (v := .str (kl k)) (ev_if (b := decide (slant < 2)) (et_test (ev_op (ev_var rfl) ev_c rv_I0)) (fun hb => ?_) (fun hb => ?_)) fun H7 e7 => ?_
      · rw [if_pos (of_decide_eq_true hb)] at hk
        rw [← hk]
        exact ev_ab (ev_op (ev_var rfl) ev_c (rv_I (by decide)))
      · rw [if_neg (of_decide_eq_false hb)] at hk
        rw [← hk]
        exact ev_ab (ev_op (ev_var rfl) ev_c (rv_I (by decide)))
      · have hp7 : H7 p = some (.lst ws) := e7 _ _ (e6 _ _ (eT _ _ hp))
        refine s_appU (ys := [.str (kl k), .int (1 + n / 2 * (if (decide (slant = 3) && k) = true then 3 else 1))]) hp7 (ev_var rfl) (eu_tup (ea_cons (ev_var rfl) (ea_cons (ev_op ev_c (ev_op (ev_op (ev_var rfl) ev_c (rv_I (cd2 _))) (ev_ifI (b := decide (slant = 3) && k) (et_and (et_is (et_test (ev_op (ev_var rfl) ev_c (rv_eq rfl))) int_eq) fun _ => et_is (et_test (ev_op (ev_var rfl) ev_c (rv_eq rfl))) (kl_a k)) (fun _ => ev_c) (fun _ => ev_c)) (rv_I (bn.mulx (bf _) (by decide)))) rv_I0) ea_nil)) (by simp only [List.length_cons, List.length_nil]; decide)) (by rw [hi.1, found_len]; omega) fun q1 H8 nq e8 hq => ?_
        have hp8 := e8 _ _ hp7
        have hpn : H3 p = none := n4
        refine ⟨rfl, Ex.mut ((((e5.trans eT).trans e6).trans e7).trans e8) hpn, _, _, _, _, _, rfl, upd_same, ?_⟩
        rw [found_succ, est]
        exact ((hi.mono (((eT.trans e6).trans e7).trans e8)).append (Items.one ⟨q1, rfl, st_of hq⟩)).upd hp8
    · obtain ⟨rfl, e5, ws, y4, y5, y6, y7, rfl, hp, hi⟩ := hp
      rw [List.length_map] at hi
      have hRf : RingAt K H' p (foundTo slant lim ms ms.length) := ⟨ws, sq_of hp, hi⟩
      refine s_retP (P := IsRing K (orOne 1 (foundTo slant lim ms ms.length))) ?_ fun v H6 e6 hP => q' v H6 ((e03.trans e5).trans e6) hP
      generalize foundTo slant lim ms ms.length = r at *
      unfold orOne
      refine ep_if (et_neNil (ev_var rfl) hRf) (fun hb => ?_) (fun hb => ?_)
      · rw [if_neg (by simpa using hb)]
        exact ep_var rfl fun H6 e6 => ⟨p, rfl, hRf.mono e6⟩
      · rw [if_pos (by simpa using hb)]
        exact ep_F (ef_lst (ei_cons (b := true) (n := 1) (eu_tup (ea_cons ev_c (ea_cons ev_c ea_nil)) (by simp only [List.length_cons, List.length_nil]; decide)) ei_nil) (by decide))
def spSmall (K : PySem.W.Frag) : Sp := fun vs H Q _ => ∃ (a : Addr) (ns : List Int) (b : Int), vs = [.ref a, .int b] ∧ SqL K H a (ns.map V.int) ∧ Bits ns ∧ 0 ≤ b ∧ b < 100 ∧ RetP (IsRing K (smallF ns b)) H Q
theorem sv_small {H : Hp} {a : Addr} {ns : List Int} {b : Int} (h : SqL K H a (ns.map V.int)) (hb : Bits ns) (h0 : 0 ≤ b) (h1 : b < 100) : SpP (spSmall K) ([.ref a, .int b] ++ []) H (IsRing K (smallF ns b)) := fun H1 e Q q E => ⟨a, ns, b, rfl, ex_l e h, hb, h0, h1, q⟩
end
section
variable {P : Program} {w : World} {K : PySem.W.Frag} {mg : Str → Option Value} {base : Heap} {tKIND_A tKIND_B : Tok} {C_RingError C_BadRing C_BadPlace C_BadTimes C_BadCount C_Found C_Never : Addr}
/-! ### what is asked of the program: starts -/
def startsF (r : Ring) (t : Int) : Int := if 0 < surplus r t then surplus r t else 0
def spStarts (K : PySem.W.Frag) : Sp := fun vs H Q _ => ∃ (a : Addr) (r : Ring) (t : Int), vs = [.ref a, .int t] ∧ RingAt K H a r ∧ Good r ∧ 1 ≤ t ∧ t < 2 ^ 300 ∧ RetV (.int (startsF r t)) H Q
theorem sv_starts {H : Hp} {a : Addr} {r : Ring} {t : Int} (h : RingAt K H a r) (g : Good r) (h0 : 1 ≤ t) (h1 : t < 2 ^ 300) : SpV (spStarts K) ([.ref a, .int t] ++ []) H (.int (startsF r t)) := fun H1 e Q q E => ⟨a, r, t, rfl, h.mono e, g, h0, h1, q⟩
def spStartAt (K : PySem.W.Frag) : Sp := fun vs H Q _ => ∃ (a : Addr) (r : Ring) (t n : Int), vs = [.ref a, .int t, .int n] ∧ RingAt K H a r ∧ Good r ∧ 1 ≤ t ∧ t < 2 ^ 300 ∧ 0 ≤ n ∧ n < surplus r t ∧ RetV (.int (startF r t n)) H Q
theorem sv_start_at {H : Hp} {a : Addr} {r : Ring} {t n : Int} (h : RingAt K H a r) (g : Good r) (h0 : 1 ≤ t) (h1 : t < 2 ^ 300) (n0 : 0 ≤ n) (n1 : n < surplus r t) : SpV (spStartAt K) ([.ref a, .int t, .int n] ++ []) H (.int (startF r t n)) := fun H1 e Q q E => ⟨a, r, t, n, rfl, h.mono e, g, h0, h1, n0, n1, q⟩
def spIsStart (K : PySem.W.Frag) : Sp := fun vs H Q _ => ∃ (a : Addr) (r : Ring) (t p : Int), vs = [.ref a, .int t, .int p] ∧ RingAt K H a r ∧ Good r ∧ 1 ≤ t ∧ t < 2 ^ 300 ∧ 0 ≤ p ∧ p < sizeR r ∧ RetV (.bl (isStL r t p)) H Q
theorem sv_is_start {H : Hp} {a : Addr} {r : Ring} {t p : Int} (h : RingAt K H a r) (g : Good r) (h0 : 1 ≤ t) (h1 : t < 2 ^ 300) (p0 : 0 ≤ p) (p1 : p < sizeR r) : SpV (spIsStart K) ([.ref a, .int t, .int p] ++ []) H (.bl (isStL r t p)) := fun H1 e Q q E => ⟨a, r, t, p, rfl, h.mono e, g, h0, h1, p0, p1, q⟩
/-! ### the law's helpers -/
theorem ev_tabS {σ : Sg} {H : Hp} {ta : TE} {r : Ring} {v : V} (ha : Ev ta σ H v) (hT : IsTab K r v H) : Ev (tOp (rIxL K) (tOp (rIxT K) ta (tC (.int 1))) (tUn (rU fun i => .int (-i)) (tC (.int 1)))) σ H (.int (cntA r)) := by
  obtain ⟨t, a, b, rfl, h1, h2, h3⟩ := hT
  exact ev_op (ev_op ha ev_c (rv_ixT h1 (atI_nat (j := 1) rfl))) (ev_un ev_c ru_neg) (rv_ixL h3 (by rw [sums_last, List.take_length]))
theorem ev_tabE {σ : Sg} {H : Hp} {ta : TE} {r : Ring} {v : V} (ha : Ev ta σ H v) (hT : IsTab K r v H) : Ev (tOp (rIxL K) (tOp (rIxT K) ta (tC (.int 0))) (tUn (rU fun i => .int (-i)) (tC (.int 1)))) σ H (.int (sizeR r)) := by
  obtain ⟨t, a, b, rfl, h1, h2, h3⟩ := hT
  exact ev_op (ev_op ha ev_c (rv_ixT h1 (atI_nat (j := 0) rfl))) (ev_un ev_c ru_neg) (rv_ixL h2 (by rw [ends_last, List.take_length]))
def spSurplus (K : PySem.W.Frag) : Sp := fun vs H Q _ => ∃ (v : V) (r : Ring) (t : Int), vs = [v, .int t] ∧ IsTab K r v H ∧ Good r ∧ 1 ≤ t ∧ t < 2 ^ 300 ∧ RetV (.int (surplus r t)) H Q
theorem sv_surplus {H : Hp} {v : V} {r : Ring} {t : Int} (h : IsTab K r v H) (g : Good r) (h0 : 1 ≤ t) (h1 : t < 2 ^ 300) : SpV (spSurplus K) ([v, .int t] ++ []) H (.int (surplus r t)) := fun H1 e Q q E => ⟨v, r, t, rfl, h.mono e, g, h0, h1, q⟩
abbrev s_l_surplus : Stmt := topS 52
theorem sc_l_surplus : FnScope ["_law_table_here", "_law_times"] ["_law_table_here", "_law_times"] (defScope s_l_surplus) := ⟨rfl, rfl, rfl, by decide +kernel, rfl, by decide +kernel, by decide +kernel⟩
theorem ok_l_surplus {f : Addr} {fd : FuncData} (F : Fun K "_law_surplus" "_law_surplus" s_l_surplus f fd) (T : Txt K mg tKIND_A tKIND_B C_RingError C_BadRing C_BadPlace C_BadTimes C_BadCount C_Found C_Never)  : FnOk P w K mg base CX0 1 f fd ["_law_table_here", "_law_times"] (spSurplus K) := by
  have nd := sc_l_surplus.nd
  refine F.ok sc_l_surplus (fun vs H Q E h => ?_) (fun cdv A outer s H vs Q E hr h => ?_)
  · obtain ⟨v, r, t, rfl, _⟩ := h
    rfl
  · obtain ⟨v, r, t, rfl, hT, g, t0, t1, q⟩ := h
    refine ⟨_, (pss_one (ps_ret (pe_op op_sub (pe_ix ix_list (pe_ix ix_tup (pv 0) pe_int (fun _ _ => rfl)) (pe_un un_neg pe_int) (fun _ _ => rfl)) (pe_op op_mulX (pv 1) (pe_op op_sub (pe_ix ix_list (pe_ix ix_tup (pv 0) pe_int (fun _ _ => rfl)) (pe_un un_neg pe_int) (fun _ _ => rfl)) (pe_ix ix_list (pe_ix ix_tup (pv 0) pe_int (fun _ _ => rfl)) (pe_un un_neg pe_int) (fun _ _ => rfl))))))), ?_⟩
    have hst := g.sizeTop
    have hc0 := cnt_nonneg g.pos
    have hc1 := cnt_le g.pos
    have bt : Bt 300 t := Bt.small 300 (by omega) t1 (by decide)
    have bs : Bt 208 (sizeR r - cntA r) := Bt.small 208 (by omega) (by omega) (by decide)
    exact s_ret (v := .int (surplus r t)) (ev_op (ev_tabS (ev_var rfl) hT) (ev_op (ev_var rfl) (ev_op (ev_tabE (ev_var rfl) hT) (ev_tabS (ev_var rfl) hT) rv_I0) (rv_I (bt.mulx bs (by decide)))) rv_I0) q
def spHeight (K : PySem.W.Frag) : Sp := fun vs H Q _ => ∃ (v : V) (r : Ring) (t p : Int), vs = [v, .int t, .int p] ∧ IsTab K r v H ∧ Good r ∧ 1 ≤ t ∧ t < 2 ^ 300 ∧ 0 ≤ p ∧ p < sizeR r ∧ RetV (.int (ht r t p)) H Q
theorem sv_height {H : Hp} {v : V} {r : Ring} {t p : Int} (h : IsTab K r v H) (g : Good r) (h0 : 1 ≤ t) (h1 : t < 2 ^ 300) (p0 : 0 ≤ p) (p1 : p < sizeR r) : SpV (spHeight K) ([v, .int t, .int p] ++ []) H (.int (ht r t p)) := fun H1 e Q q E => ⟨v, r, t, p, rfl, h.mono e, g, h0, h1, p0, p1, q⟩
theorem ahead_bound {r : Ring} (h : Pos r) {l : Int} (h0 : 0 ≤ l) (h1 : l ≤ sizeR r) : 0 ≤ ahead r l ∧ ahead r l ≤ sizeR r := by
  by_cases hl : l = 0
  · subst hl
    rw [ahead_zero h]
    omega
  · obtain ⟨i, x, hx, g0, g1⟩ := stretch_of h (m := l) (by omega) h1
    have e := ahead_in h hx (by omega) g1
    have c0 := cnt_nonneg (h.take i)
    have c1 := cnt_le (h.take i)
    rw [e]
    split <;> omega
def spSays : Sp := fun vs H Q _ => ∃ a b : Bool, vs = [.bl a, .bl b] ∧ RetV (.bl (a == b)) H Q
theorem sv_says {H : Hp} {a b : Bool} : SpV spSays ([.bl a, .bl b] ++ []) H (.bl (a == b)) := fun H1 e Q q E => ⟨a, b, rfl, q⟩
def spIsSt (K : PySem.W.Frag) : Sp := fun vs H Q _ => ∃ (v : V) (r : Ring) (t p : Int), vs = [v, .int t, .int p] ∧ IsTab K r v H ∧ Good r ∧ 1 ≤ t ∧ t < 2 ^ 300 ∧ 0 ≤ p ∧ p < sizeR r ∧ RetV (.bl (isStL r t p)) H Q
theorem sv_isst {H : Hp} {v : V} {r : Ring} {t p : Int} (h : IsTab K r v H) (g : Good r) (h0 : 1 ≤ t) (h1 : t < 2 ^ 300) (p0 : 0 ≤ p) (p1 : p < sizeR r) : SpV (spIsSt K) ([v, .int t, .int p] ++ []) H (.bl (isStL r t p)) := fun H1 e Q q E => ⟨v, r, t, p, rfl, h.mono e, g, h0, h1, p0, p1, q⟩
theorem ends_get (r : Ring) {n i : Nat} {v : V} (h : (endsTo r n)[i]? = some v) : i ≤ n ∧ v = .int (sizeR (r.take i)) := by
  have hi := (List.getElem?_eq_some_iff.mp h).1
  rw [ends_len] at hi
  unfold endsTo at h
  rw [List.getElem?_map, List.getElem?_range (by omega)] at h
  exact ⟨by omega, (Option.some.inj h).symm⟩
theorem sums_get (r : Ring) {n i : Nat} {v : V} (h : (sumsTo r n)[i]? = some v) : i ≤ n ∧ v = .int (cntA (r.take i)) := by
  have hi := (List.getElem?_eq_some_iff.mp h).1
  rw [sums_len] at hi
  unfold sumsTo at h
  rw [List.getElem?_map, List.getElem?_range (by omega)] at h
  exact ⟨by omega, (Option.some.inj h).symm⟩
end
section
variable {P : Program} {w : World} {K : PySem.W.Frag} {mg : Str → Option Value} {base : Heap} {tKIND_A tKIND_B : Tok} {C_RingError C_BadRing C_BadPlace C_BadTimes C_BadCount C_Found C_Never : Addr}
/-! ### the program: starts -/
def spSur (K : PySem.W.Frag) : Sp := fun vs H Q _ => ∃ (a : Addr) (r : Ring) (t : Int), vs = [.ref a, .int t] ∧ RingAt K H a r ∧ Good r ∧ 1 ≤ t ∧ t < 2 ^ 300 ∧ RetV (.int (startsF r t)) H Q
theorem sv_sur {H : Hp} {a : Addr} {r : Ring} {t : Int} (h : RingAt K H a r) (g : Good r) (h0 : 1 ≤ t) (h1 : t < 2 ^ 300) : SpV (spSur K) ([.ref a, .int t] ++ []) H (.int (startsF r t)) := fun H1 e Q q E => ⟨a, r, t, rfl, h.mono e, g, h0, h1, q⟩
theorem bt_neg {n : Nat} {z : Int} (h : Bt n z) : Bt n (-z) := by
  unfold Bt at *
  omega
abbrev s_surplus : Stmt := topS 40
theorem sc_surplus : FnScope ["ring", "times"] ["ring", "times"] (defScope s_surplus) := ⟨rfl, rfl, rfl, by decide +kernel, rfl, by decide +kernel, by decide +kernel⟩
theorem ok_surplus {f : Addr} {fd : FuncData} (F : Fun K "surplus" "surplus" s_surplus f fd) (T : Txt K mg tKIND_A tKIND_B C_RingError C_BadRing C_BadPlace C_BadTimes C_BadCount C_Found C_Never) {f_many_of : Addr} {fd_many_of : FuncData} (G_many_of : FnOk P w K mg base CX0 1 f_many_of fd_many_of ["ring", "letter"] (spMany K)) (m_many_of : mg "many_of" = some (.ref f_many_of)) (k_many_of : PySem.W.keepIn K (.ref f_many_of) = true) (b_many_of : Binds K fd_many_of ["ring", "letter"] []) : FnOk P w K mg base CX0 2 f fd ["ring", "times"] (spSur K) := by
  have nd := sc_surplus.nd
  refine F.ok sc_surplus (fun vs H Q E h => ?_) (fun cdv A outer s H vs Q E hr h => ?_)
  · obtain ⟨a, r, t, rfl, _⟩ := h
    rfl
  · obtain ⟨a, r, t, rfl, hR, g, t0, t1, q⟩ := h
    refine ⟨_, (pss_one (ps_ret (pe_callB (c_max2 rfl) (by rfl) T.z_max (by decide +kernel) (pa_cons pe_int (pa_cons (pe_op op_sub (pe_call G_many_of (hr.mono (by decide)) (by rfl) m_many_of k_many_of b_many_of .nil pass0 (pa_cons (pv 0) (pa_cons (pe_glob (v := .str "a") (by rfl) T.m_KIND_A ⟨_, rfl⟩) pa_nil))) (pe_op op_mulX (pv 1) (pe_call G_many_of (hr.mono (by decide)) (by rfl) m_many_of k_many_of b_many_of .nil pass0 (pa_cons (pv 0) (pa_cons (pe_glob (v := .str "b") (by rfl) T.m_KIND_B ⟨_, rfl⟩) pa_nil))))) pa_nil))))), ?_⟩
    have hl : r.length ≤ 40000 := Nat.le_trans g.len (by decide)
    have hst := g.sizeTop
    have hc0 := cnt_nonneg g.pos
    have hc1 := cnt_le g.pos
    have hca := cnt_all r
    have bt : Bt 300 t := Bt.small 300 (by omega) t1 (by decide)
    have bs : Bt 208 (cntB r) := Bt.small 208 (by omega) (by omega) (by decide)
    have eB : sizeR r - cntA r = cntB r := by omega
    refine s_ret (v := .int (startsF r t)) (ev_is (ev_cb (ea_cons ev_c (ea_cons (ev_op (ev_call (ea_cons (ev_var rfl) (ea_cons ev_c ea_nil)) (sv_manyA hR hl)) (ev_op (ev_var rfl) (ev_call (ea_cons (ev_var rfl) (ea_cons ev_c ea_nil)) (sv_manyB hR hl)) (rv_I (bt.mulx bs (by decide)))) rv_I0) ea_nil)) rc_max2) ?_) q
    unfold startsF surplus
    rw [eB]
def spCheckTimes : Sp := fun vs H Q _ => ∃ (p : Int), vs = [.int p] ∧ 1 ≤ p ∧ RetV .non H Q
theorem sv_check_times {H : Hp} {p : Int} (h0 : 1 ≤ p) : SpV spCheckTimes ([.int p] ++ []) H .non := fun H1 e Q q E => ⟨p, rfl, h0, q⟩
def spCheckNumber : Sp := fun vs H Q _ => ∃ (n m : Int), vs = [.int n, .int m] ∧ 0 ≤ n ∧ n < m ∧ RetV .non H Q
theorem sv_check_number {H : Hp} {n m : Int} (h0 : 0 ≤ n) (h1 : n < m) : SpV spCheckNumber ([.int n, .int m] ++ []) H .non := fun H1 e Q q E => ⟨n, m, rfl, h0, h1, q⟩
/-- the beginnings with their heights, and the height behind the last -/
def IsHts (K : PySem.W.Frag) (r : Ring) (t : Int) : V → Hp → Prop := fun v H => ∃ tt b, v = .ref tt ∧ SqT K H tt [.ref b, .int (surplus r t)] ∧ TupsAt K H b ((begsTo r t r.length).map prI)
def spHeights (K : PySem.W.Frag) : Sp := fun vs H Q _ => ∃ (a : Addr) (r : Ring) (t : Int), vs = [.ref a, .int t] ∧ RingAt K H a r ∧ Good r ∧ 1 ≤ t ∧ t < 2 ^ 300 ∧ RetP (IsHts K r t) H Q
theorem sv_heights {H : Hp} {a : Addr} {r : Ring} {t : Int} (h : RingAt K H a r) (g : Good r) (h0 : 1 ≤ t) (h1 : t < 2 ^ 300) : SpP (spHeights K) ([.ref a, .int t] ++ []) H (IsHts K r t) := fun H1 e Q q E => ⟨a, r, t, rfl, h.mono e, g, h0, h1, q⟩
theorem least_b_ex {r : Ring} (hne : r ≠ []) (t : Int) : ∃ B, LeastB r t B := by
  obtain ⟨n, n1, n2⟩ := least_ex (fun q => he r t q.toNat) r.length (by
    cases r with
    | nil => exact absurd rfl hne
    | cons x r => simp)
  refine ⟨he r t n, fun i hi => ?_, n, n1, rfl⟩
  have := n2 i hi
  simpa using this
def IsRuns (K : PySem.W.Frag) (r : Ring) (t : Int) : V → Hp → Prop := IsTups K prI fun xs => ∃ B, LeastB r t B ∧ xs = runsR r t B
def spRuns (K : PySem.W.Frag) : Sp := fun vs H Q _ => ∃ (a : Addr) (r : Ring) (t : Int), vs = [.ref a, .int t] ∧ RingAt K H a r ∧ Good r ∧ 1 ≤ t ∧ t < 2 ^ 300 ∧ RetP (IsRuns K r t) H Q
theorem sv_runs {H : Hp} {a : Addr} {r : Ring} {t : Int} (h : RingAt K H a r) (g : Good r) (h0 : 1 ≤ t) (h1 : t < 2 ^ 300) : SpP (spRuns K) ([.ref a, .int t] ++ []) H (IsRuns K r t) := fun H1 e Q q E => ⟨a, r, t, rfl, h.mono e, g, h0, h1, q⟩
theorem runs_len (S : Int) : ∀ bs : List (Int × Int), (runsF S bs).length ≤ bs.length
  | [] => Nat.le_refl _
  | x :: bs => by
    have := runs_len S bs
    show (if x.2 < lowF S bs then (x.1, lowF S bs - x.2) :: runsF S bs else runsF S bs).length ≤ bs.length + 1
    split
    · rw [List.length_cons]
      omega
    · omega
theorem drop_nil_walk {xs : List (Int × Int)} {i : Nat} {k p : Int} (h : walkR (xs.drop i) k = some p) : ∃ x, xs[i]? = some x ∧ xs.drop i = x :: xs.drop (i + 1) := by
  have hi : i < xs.length := by
    apply Nat.lt_of_not_le
    intro z
    rw [List.drop_eq_nil_of_le z] at h
    cases h
  exact ⟨xs[i], List.getElem?_eq_getElem hi, List.drop_eq_getElem_cons hi⟩
theorem any_map {α : Type} (xs : List α) (f : α → Bool) : (xs.map f).any id = xs.any f := by
  induction xs with
  | nil => rfl
  | cons x xs ih =>
    rw [List.map_cons, List.any_cons, List.any_cons, ih]
    rfl
end
section
variable {P : Program} {w : World} {K : PySem.W.Frag} {mg : Str → Option Value} {base : Heap} {tKIND_A tKIND_B : Tok} {C_RingError C_BadRing C_BadPlace C_BadTimes C_BadCount C_Found C_Never : Addr}
def NoPlace (K : PySem.W.Frag) (r : Ring) : V → Hp → Prop := NoNum K (fun n => n < 0 ∨ sizeR r ≤ n)
def spBeadsX (K : PySem.W.Frag) (CR : Addr) : Sp := fun vs H Q E => ∃ v : V, vs = [v] ∧ NoRing K v H ∧ ErrX CR H E
theorem sx_beads {H : Hp} {CR : Addr} {v : V} (h : NoRing K v H) : SpX (spBeadsX K CR) [v] H CR := fun H1 e Q E hE => ⟨v, rfl, nr_mono _ _ _ e h, hE⟩
abbrev s_beads : Stmt := topS 10
theorem sc_beads : FnScope ["ring"] ["ring"] (defScope s_beads) := ⟨rfl, rfl, rfl, by decide +kernel, rfl, by decide +kernel, by decide +kernel⟩
theorem ok_beads {f : Addr} {fd : FuncData} (F : Fun K "beads" "beads" s_beads f fd) (T : Txt K mg tKIND_A tKIND_B C_RingError C_BadRing C_BadPlace C_BadTimes C_BadCount C_Found C_Never) {f_check_ring : Addr} {fd_check_ring : FuncData} (G_check_ring : FnOk P w K mg base (L2N.CX P w) 3 f_check_ring fd_check_ring ["ring"] (spCheckRingX K C_BadRing)) (m_check_ring : mg "check_ring" = some (.ref f_check_ring)) (k_check_ring : PySem.W.keepIn K (.ref f_check_ring) = true) (b_check_ring : Binds K fd_check_ring ["ring"] []) {f_many_of : Addr} {fd_many_of : FuncData} (G_many_of : FnOk P w K mg base CX0 1 f_many_of fd_many_of ["ring", "letter"] (spMany K)) (m_many_of : mg "many_of" = some (.ref f_many_of)) (k_many_of : PySem.W.keepIn K (.ref f_many_of) = true) (b_many_of : Binds K fd_many_of ["ring", "letter"] []) : FnOk P w K mg base (L2N.CX P w) 4 f fd ["ring"] (spBeadsX K C_BadRing) := by
  have nd := sc_beads.nd
  refine okN F sc_beads (fun vs H Q E h => ?_) (fun cdv A outer s H vs Q E hr h => ?_)
  · obtain ⟨v, rfl, _⟩ := h
    rfl
  · obtain ⟨v, rfl, hv, hE⟩ := h
    refine ⟨_, (pss_cons (ps_expr (pe_callS G_check_ring (hr.mono (by decide)) (by rfl) m_check_ring k_check_ring b_check_ring (fun σ => L2N.passAt (L2N.takes_of rfl rfl rfl rfl) σ) (pa_cons (pv 0) pa_nil)))
  (pss_one (ps_ret (pe_tup (pa_cons (pe_call G_many_of (hr.mono (by decide)) (by rfl) m_many_of k_many_of b_many_of .nil pass0 (pa_cons (pv 0) (pa_cons (pe_glob (v := .str "a") (by rfl) T.m_KIND_A ⟨_, rfl⟩) pa_nil))) (pa_cons (pe_call G_many_of (hr.mono (by decide)) (by rfl) m_many_of k_many_of b_many_of .nil pass0 (pa_cons (pv 0) (pa_cons (pe_glob (v := .str "b") (by rfl) T.m_KIND_B ⟨_, rfl⟩) pa_nil))) pa_nil)))))), ?_⟩
    exact q_dropX (rz_call (ea_cons (ev_var rfl) ea_nil) (sx_noring hv)) hE
def spKindX (K : PySem.W.Frag) (CR CP : Addr) : Sp := fun vs H Q E => ∃ v p : V, vs = [v, p] ∧ ((NoRing K v H ∧ Sc p ∧ ErrX CR H E) ∨ (∃ a r, v = .ref a ∧ RingAt K H a r ∧ Good r ∧ NoPlace K r p H ∧ ErrX CP H E))
theorem sx_kindR {H : Hp} {CR CP : Addr} {v p : V} (h : NoRing K v H) (hp : Sc p) : SpX (spKindX K CR CP) [v, p] H CR := fun H1 e Q E hE => ⟨v, p, rfl, .inl ⟨nr_mono _ _ _ e h, hp, hE⟩⟩
theorem sx_kindP {H : Hp} {CR CP a : Addr} {r : Ring} {p : V} (h : RingAt K H a r) (g : Good r) (hp : NoPlace K r p H) : SpX (spKindX K CR CP) [.ref a, p] H CP := fun H1 e Q E hE => ⟨_, p, rfl, .inr ⟨a, r, rfl, h.mono e, g, nn_mono _ _ _ e hp, hE⟩⟩
abbrev s_kind_at : Stmt := topS 11
theorem sc_kind_at : FnScope ["ring", "place", "at", "left"] ["ring", "place"] (defScope s_kind_at) := ⟨rfl, rfl, rfl, by decide +kernel, rfl, by decide +kernel, by decide +kernel⟩
theorem ok_kind_at {f : Addr} {fd : FuncData} (F : Fun K "kind_at" "kind_at" s_kind_at f fd) (T : Txt K mg tKIND_A tKIND_B C_RingError C_BadRing C_BadPlace C_BadTimes C_BadCount C_Found C_Never) {f_check_place : Addr} {fd_check_place : FuncData} (G_check_place : FnOk P w K mg base (L2N.CX P w) 3 f_check_place fd_check_place ["ring", "place"] (spCheckPlaceX K C_BadPlace)) (m_check_place : mg "check_place" = some (.ref f_check_place)) (k_check_place : PySem.W.keepIn K (.ref f_check_place) = true) (b_check_place : Binds K fd_check_place ["ring", "place"] []) {f_check_ring : Addr} {fd_check_ring : FuncData} (G_check_ring : FnOk P w K mg base (L2N.CX P w) 3 f_check_ring fd_check_ring ["ring"] (spCheckRingX K C_BadRing)) (m_check_ring : mg "check_ring" = some (.ref f_check_ring)) (k_check_ring : PySem.W.keepIn K (.ref f_check_ring) = true) (b_check_ring : Binds K fd_check_ring ["ring"] []) : FnOk P w K mg base (L2N.CX P w) 4 f fd ["ring", "place"] (spKindX K C_BadRing C_BadPlace) := by
  have nd := sc_kind_at.nd
  refine okN F sc_kind_at (fun vs H Q E h => ?_) (fun cdv A outer s H vs Q E hr h => ?_)
  · obtain ⟨v, p, rfl, _⟩ := h
    rfl
  · obtain ⟨v, p, rfl, hv⟩ := h
    refine ⟨_, (pss_cons (ps_expr (pe_callS G_check_ring (hr.mono (by decide)) (by rfl) m_check_ring k_check_ring b_check_ring (fun σ => L2N.passAt (L2N.takes_of rfl rfl rfl rfl) σ) (pa_cons (pv 0) pa_nil)))
  (pss_cons (ps_expr (pe_callS G_check_place (hr.mono (by decide)) (by rfl) m_check_place k_check_place b_check_place (fun σ => L2N.passAt (L2N.takes_of rfl rfl rfl rfl) σ) (pa_cons (pv 0) (pa_cons (pv 1) pa_nil))))
  (pss_cons (ps_set (i := 2) nd rfl (Or.inl rfl) pe_int)
  (pss_cons (ps_set (i := 3) nd rfl (Or.inl rfl) (pv 1))
  (pss_cons (ps_while PassesOwn.leaving (pt_cmpR op_ge (pv 3) (pe_ix ix_tup (pe_ix ix_list (pv 0) (pv 2) (fun _ _ => rfl)) pe_int (fun _ _ => rfl)) (nomark _)) (pss_cons (ps_aug (i := 3) nd rfl (.inl rfl) (pe_ix ix_tup (pe_ix ix_list (pv 0) (pv 2) (fun _ _ => rfl)) pe_int (fun _ _ => rfl)) ip_sub)
  (pss_one (ps_aug (i := 2) nd rfl (.inl rfl) pe_int ip_add))))
  (pss_one (ps_ret (pe_ifExp (pt_cmpR op_eq (pe_ix ix_tup (pe_ix ix_list (pv 0) (pv 2) (fun _ _ => rfl)) pe_int (fun _ _ => rfl)) (pe_glob (v := .str "a") (by rfl) T.m_KIND_A ⟨_, rfl⟩) (nomark _)) (pe_glob (v := .str "a") (by rfl) T.m_KIND_A ⟨_, rfl⟩) (pe_glob (v := .str "b") (by rfl) T.m_KIND_B ⟨_, rfl⟩))))))))), ?_⟩
    rcases hv with ⟨hv, _, hE⟩ | ⟨a, r, rfl, hR, g, hp, hE⟩
    · exact q_dropX (rz_call (ea_cons (ev_var rfl) ea_nil) (sx_noring hv)) hE
    · refine q_drop (ev_callS (ea_cons (ev_var rfl) ea_nil) (sx_ring hR g.ne g.pos)) fun H1 e1 => ?_
      exact q_dropX (rz_call (ea_cons (ev_var rfl) (ea_cons (ev_var rfl) ea_nil)) (sx_noplace (hR.mono e1) (Nat.le_trans g.len (by decide)) (nn_mono _ _ _ e1 hp))) fun H2 e2 => hE H2 (e1.trans e2)
def spAmongX (K : PySem.W.Frag) (CR CP CC : Addr) : Sp := fun vs H Q E => ∃ v p m : V, vs = [v, p, m] ∧ ((NoRing K v H ∧ Sc p ∧ Sc m ∧ ErrX CR H E) ∨ (∃ a r, v = .ref a ∧ RingAt K H a r ∧ Good r ∧ ((NoPlace K r p H ∧ Sc m ∧ ErrX CP H E) ∨
  (∃ q, p = .int q ∧ 0 ≤ q ∧ q < sizeR r ∧ ((NoNum K (fun n => n < 0) m H ∧ ErrX CC H E) ∨ (∃ n, m = .int n ∧ 0 ≤ n ∧ n < 2 ^ 399 ∧ RetV (.int (amongF r q n)) H Q))))))
theorem sx_amongR {H : Hp} {CR CP CC : Addr} {v p m : V} (h : NoRing K v H) (hp : Sc p) (hm : Sc m) : SpX (spAmongX K CR CP CC) [v, p, m] H CR := fun H1 e Q E hE => ⟨v, p, m, rfl, .inl ⟨nr_mono _ _ _ e h, hp, hm, hE⟩⟩
theorem sx_amongP {H : Hp} {CR CP CC a : Addr} {r : Ring} {p m : V} (h : RingAt K H a r) (g : Good r) (hp : NoPlace K r p H) (hm : Sc m) : SpX (spAmongX K CR CP CC) [.ref a, p, m] H CP := fun H1 e Q E hE => ⟨_, p, m, rfl, .inr ⟨a, r, rfl, h.mono e, g, .inl ⟨nn_mono _ _ _ e hp, hm, hE⟩⟩⟩
theorem sx_amongC {H : Hp} {CR CP CC a : Addr} {r : Ring} {q : Int} {m : V} (h : RingAt K H a r) (g : Good r) (h0 : 0 ≤ q) (h1 : q < sizeR r) (hm : NoNum K (fun n => n < 0) m H) : SpX (spAmongX K CR CP CC) [.ref a, .int q, m] H CC := fun H1 e Q E hE => ⟨_, _, m, rfl, .inr ⟨a, r, rfl, h.mono e, g, .inr ⟨q, rfl, h0, h1, .inl ⟨nn_mono _ _ _ e hm, hE⟩⟩⟩⟩
theorem sx_among {H : Hp} {CR CP CC a : Addr} {r : Ring} {q n : Int} (h : RingAt K H a r) (g : Good r) (h0 : 0 ≤ q) (h1 : q < sizeR r) (n0 : 0 ≤ n) (n1 : n < 2 ^ 399) : SpV (spAmongX K CR CP CC) ([.ref a, .int q, .int n] ++ []) H (.int (amongF r q n)) := fun H1 e Q k E => ⟨_, _, _, rfl, .inr ⟨a, r, rfl, h.mono e, g, .inr ⟨q, rfl, h0, h1, .inr ⟨n, rfl, n0, n1, k⟩⟩⟩⟩
abbrev s_among : Stmt := topS 12
theorem sc_among : FnScope ["ring", "place", "many"] ["ring", "place", "many"] (defScope s_among) := ⟨rfl, rfl, rfl, by decide +kernel, rfl, by decide +kernel, by decide +kernel⟩
theorem ok_among {f : Addr} {fd : FuncData} (F : Fun K "among" "among" s_among f fd) (T : Txt K mg tKIND_A tKIND_B C_RingError C_BadRing C_BadPlace C_BadTimes C_BadCount C_Found C_Never) {f_check_many : Addr} {fd_check_many : FuncData} (G_check_many : FnOk P w K mg base (L2N.CX P w) 2 f_check_many fd_check_many ["many"] (spCheckManyX K C_BadCount)) (m_check_many : mg "check_many" = some (.ref f_check_many)) (k_check_many : PySem.W.keepIn K (.ref f_check_many) = true) (b_check_many : Binds K fd_check_many ["many"] []) {f_check_place : Addr} {fd_check_place : FuncData} (G_check_place : FnOk P w K mg base (L2N.CX P w) 3 f_check_place fd_check_place ["ring", "place"] (spCheckPlaceX K C_BadPlace)) (m_check_place : mg "check_place" = some (.ref f_check_place)) (k_check_place : PySem.W.keepIn K (.ref f_check_place) = true) (b_check_place : Binds K fd_check_place ["ring", "place"] []) {f_check_ring : Addr} {fd_check_ring : FuncData} (G_check_ring : FnOk P w K mg base (L2N.CX P w) 3 f_check_ring fd_check_ring ["ring"] (spCheckRingX K C_BadRing)) (m_check_ring : mg "check_ring" = some (.ref f_check_ring)) (k_check_ring : PySem.W.keepIn K (.ref f_check_ring) = true) (b_check_ring : Binds K fd_check_ring ["ring"] []) {f_inside : Addr} {fd_inside : FuncData} (G_inside : FnOk P w K mg base CX0 3 f_inside fd_inside ["ring", "place", "many"] (spInside K)) (m_inside : mg "inside" = some (.ref f_inside)) (k_inside : PySem.W.keepIn K (.ref f_inside) = true) (b_inside : Binds K fd_inside ["ring", "place", "many"] []) : FnOk P w K mg base (L2N.CX P w) 4 f fd ["ring", "place", "many"] (spAmongX K C_BadRing C_BadPlace C_BadCount) := by
  have nd := sc_among.nd
  refine okN F sc_among (fun vs H Q E h => ?_) (fun cdv A outer s H vs Q E hr h => ?_)
  · obtain ⟨v, p, m, rfl, _⟩ := h
    rfl
  · obtain ⟨v, p, m, rfl, hv⟩ := h
    refine ⟨_, (pss_cons (ps_expr (pe_callS G_check_ring (hr.mono (by decide)) (by rfl) m_check_ring k_check_ring b_check_ring (fun σ => L2N.passAt (L2N.takes_of rfl rfl rfl rfl) σ) (pa_cons (pv 0) pa_nil)))
  (pss_cons (ps_expr (pe_callS G_check_place (hr.mono (by decide)) (by rfl) m_check_place k_check_place b_check_place (fun σ => L2N.passAt (L2N.takes_of rfl rfl rfl rfl) σ) (pa_cons (pv 0) (pa_cons (pv 1) pa_nil))))
  (pss_cons (ps_expr (pe_callS G_check_many (hr.mono (by decide)) (by rfl) m_check_many k_check_many b_check_many (fun σ => L2N.passAt (L2N.takes_of rfl rfl rfl rfl) σ) (pa_cons (pv 2) pa_nil)))
  (pss_one (ps_ret (pe_call G_inside (hr.mono (by decide)) (by rfl) m_inside k_inside b_inside .nil pass0 (pa_cons (pv 0) (pa_cons (pv 1) (pa_cons (pv 2) pa_nil))))))))), ?_⟩
    rcases hv with ⟨hv, _, _, hE⟩ | ⟨a, r, rfl, hR, g, hv⟩
    · exact q_dropX (rz_call (ea_cons (ev_var rfl) ea_nil) (sx_noring hv)) hE
    · have hl : r.length ≤ 40000 := Nat.le_trans g.len (by decide)
      have hst := g.sizeTop
      refine q_drop (ev_callS (ea_cons (ev_var rfl) ea_nil) (sx_ring hR g.ne g.pos)) fun H1 e1 => ?_
      rcases hv with ⟨hp, _, hE⟩ | ⟨q, rfl, h0, h1, hv⟩
      · exact q_dropX (rz_call (ea_cons (ev_var rfl) (ea_cons (ev_var rfl) ea_nil)) (sx_noplace (hR.mono e1) hl (nn_mono _ _ _ e1 hp))) fun H2 e2 => hE H2 (e1.trans e2)
      · refine q_drop (ev_callS (ea_cons (ev_var rfl) (ea_cons (ev_var rfl) ea_nil)) (sx_place (hR.mono e1) hl h0 h1)) fun H2 e2 => ?_
        rcases hv with ⟨hm, hE⟩ | ⟨n, rfl, n0, n1, k⟩
        · exact q_dropX (rz_call (ea_cons (ev_var rfl) ea_nil) (sx_nomany (nn_mono _ _ _ (e1.trans e2) hm))) fun H3 e3 => hE H3 ((e1.trans e2).trans e3)
        · refine q_drop (ev_callS (ea_cons (ev_var rfl) ea_nil) (sx_many n0)) fun H3 e3 => ?_
          have hR3 := hR.mono ((e1.trans e2).trans e3)
          exact s_ret (v := .int (amongF r q n)) (ev_call (ea_cons (ev_var rfl) (ea_cons (ev_var rfl) (ea_cons (ev_var rfl) ea_nil))) (sv_inside hR3 g h0 h1 n0 n1)) fun H4 e4 => k H4 (((e1.trans e2).trans e3).trans e4)
/-! ### what is asked of starts, start_at, is_start, sought -/
def NoTimes (K : PySem.W.Frag) : V → Hp → Prop := NoNum K (fun n => n < 1)
def spStartsX (K : PySem.W.Frag) (CR CT : Addr) : Sp := fun vs H Q E => ∃ v t : V, vs = [v, t] ∧ ((NoRing K v H ∧ Sc t ∧ ErrX CR H E) ∨ (∃ a r, v = .ref a ∧ RingAt K H a r ∧ Good r ∧ ((NoTimes K t H ∧ ErrX CT H E) ∨ (∃ n, t = .int n ∧ 1 ≤ n ∧ n < 2 ^ 300 ∧ RetV (.int (startsF r n)) H Q))))
def spStartAtX (K : PySem.W.Frag) (CR CT CC : Addr) : Sp := fun vs H Q E => ∃ v t n : V, vs = [v, t, n] ∧ ((NoRing K v H ∧ Sc t ∧ Sc n ∧ ErrX CR H E) ∨ (∃ a r, v = .ref a ∧ RingAt K H a r ∧ Good r ∧ ((NoTimes K t H ∧ Sc n ∧ ErrX CT H E) ∨
  (∃ x, t = .int x ∧ 1 ≤ x ∧ x < 2 ^ 300 ∧ NoNum K (fun k => k < 0 ∨ startsF r x ≤ k) n H ∧ ErrX CC H E))))
def spIsStartX (K : PySem.W.Frag) (CR CT CP : Addr) : Sp := fun vs H Q E => ∃ v t p : V, vs = [v, t, p] ∧ ((NoRing K v H ∧ Sc t ∧ Sc p ∧ ErrX CR H E) ∨ (∃ a r, v = .ref a ∧ RingAt K H a r ∧ Good r ∧ ((NoTimes K t H ∧ Sc p ∧ ErrX CT H E) ∨
  (∃ x, t = .int x ∧ 1 ≤ x ∧ x < 2 ^ 300 ∧ NoPlace K r p H ∧ ErrX CP H E))))
def spSoughtX (K : PySem.W.Frag) (CR CC : Addr) : Sp := fun vs H Q E => ∃ v m z : V, vs = [v, m, z] ∧ ((NoRing K v H ∧ Sc m ∧ Sc z ∧ ErrX CR H E) ∨ (∃ a r, v = .ref a ∧ RingAt K H a r ∧ Good r ∧ ErrX CC H E ∧ ((NoNum K (fun k => k < 0 ∨ sizeR r < k) m H ∧ Sc z) ∨
  (∃ k, m = .int k ∧ 0 ≤ k ∧ k ≤ sizeR r ∧ NoWhole K z H))))
theorem sx_startsR {H : Hp} {CR CT : Addr} {v t : V} (h : NoRing K v H) (ht : Sc t) : SpX (spStartsX K CR CT) [v, t] H CR := fun H1 e Q E hE => ⟨v, t, rfl, .inl ⟨nr_mono _ _ _ e h, ht, hE⟩⟩
theorem sx_startsT {H : Hp} {CR CT a : Addr} {r : Ring} {t : V} (h : RingAt K H a r) (g : Good r) (ht : NoTimes K t H) : SpX (spStartsX K CR CT) [.ref a, t] H CT := fun H1 e Q E hE => ⟨_, t, rfl, .inr ⟨a, r, rfl, h.mono e, g, .inl ⟨nn_mono _ _ _ e ht, hE⟩⟩⟩
theorem sx_starts {H : Hp} {CR CT a : Addr} {r : Ring} {n : Int} (h : RingAt K H a r) (g : Good r) (h0 : 1 ≤ n) (h1 : n < 2 ^ 300) : SpV (spStartsX K CR CT) ([.ref a, .int n] ++ []) H (.int (startsF r n)) := fun H1 e Q q E => ⟨_, _, rfl, .inr ⟨a, r, rfl, h.mono e, g, .inr ⟨n, rfl, h0, h1, q⟩⟩⟩
theorem sx_atR {H : Hp} {CR CT CC : Addr} {v t n : V} (h : NoRing K v H) (ht : Sc t) (hn : Sc n) : SpX (spStartAtX K CR CT CC) [v, t, n] H CR := fun H1 e Q E hE => ⟨v, t, n, rfl, .inl ⟨nr_mono _ _ _ e h, ht, hn, hE⟩⟩
theorem sx_atT {H : Hp} {CR CT CC a : Addr} {r : Ring} {t n : V} (h : RingAt K H a r) (g : Good r) (ht : NoTimes K t H) (hn : Sc n) : SpX (spStartAtX K CR CT CC) [.ref a, t, n] H CT := fun H1 e Q E hE => ⟨_, t, n, rfl, .inr ⟨a, r, rfl, h.mono e, g, .inl ⟨nn_mono _ _ _ e ht, hn, hE⟩⟩⟩
theorem sx_atC {H : Hp} {CR CT CC a : Addr} {r : Ring} {x : Int} {n : V} (h : RingAt K H a r) (g : Good r) (h0 : 1 ≤ x) (h1 : x < 2 ^ 300) (hn : NoNum K (fun k => k < 0 ∨ startsF r x ≤ k) n H) : SpX (spStartAtX K CR CT CC) [.ref a, .int x, n] H CC := fun H1 e Q E hE => ⟨_, _, n, rfl, .inr ⟨a, r, rfl, h.mono e, g, .inr ⟨x, rfl, h0, h1, nn_mono _ _ _ e hn, hE⟩⟩⟩
theorem sx_isR {H : Hp} {CR CT CP : Addr} {v t p : V} (h : NoRing K v H) (ht : Sc t) (hp : Sc p) : SpX (spIsStartX K CR CT CP) [v, t, p] H CR := fun H1 e Q E hE => ⟨v, t, p, rfl, .inl ⟨nr_mono _ _ _ e h, ht, hp, hE⟩⟩
theorem sx_isT {H : Hp} {CR CT CP a : Addr} {r : Ring} {t p : V} (h : RingAt K H a r) (g : Good r) (ht : NoTimes K t H) (hp : Sc p) : SpX (spIsStartX K CR CT CP) [.ref a, t, p] H CT := fun H1 e Q E hE => ⟨_, t, p, rfl, .inr ⟨a, r, rfl, h.mono e, g, .inl ⟨nn_mono _ _ _ e ht, hp, hE⟩⟩⟩
theorem sx_isP {H : Hp} {CR CT CP a : Addr} {r : Ring} {x : Int} {p : V} (h : RingAt K H a r) (g : Good r) (h0 : 1 ≤ x) (h1 : x < 2 ^ 300) (hp : NoPlace K r p H) : SpX (spIsStartX K CR CT CP) [.ref a, .int x, p] H CP := fun H1 e Q E hE => ⟨_, _, p, rfl, .inr ⟨a, r, rfl, h.mono e, g, .inr ⟨x, rfl, h0, h1, nn_mono _ _ _ e hp, hE⟩⟩⟩
theorem sx_soR {H : Hp} {CR CC : Addr} {v m z : V} (h : NoRing K v H) (hm : Sc m) (hz : Sc z) : SpX (spSoughtX K CR CC) [v, m, z] H CR := fun H1 e Q E hE => ⟨v, m, z, rfl, .inl ⟨nr_mono _ _ _ e h, hm, hz, hE⟩⟩
theorem sx_soM {H : Hp} {CR CC a : Addr} {r : Ring} {m z : V} (h : RingAt K H a r) (g : Good r) (hm : NoNum K (fun k => k < 0 ∨ sizeR r < k) m H) (hz : Sc z) : SpX (spSoughtX K CR CC) [.ref a, m, z] H CC := fun H1 e Q E hE => ⟨_, m, z, rfl, .inr ⟨a, r, rfl, h.mono e, g, hE, .inl ⟨nn_mono _ _ _ e hm, hz⟩⟩⟩
theorem sx_soZ {H : Hp} {CR CC a : Addr} {r : Ring} {k : Int} {z : V} (h : RingAt K H a r) (g : Good r) (h0 : 0 ≤ k) (h1 : k ≤ sizeR r) (hz : NoWhole K z H) : SpX (spSoughtX K CR CC) [.ref a, .int k, z] H CC := fun H1 e Q E hE => ⟨_, _, z, rfl, .inr ⟨a, r, rfl, h.mono e, g, hE, .inr ⟨k, rfl, h0, h1, nw_mono _ _ _ e hz⟩⟩⟩
end
section
variable {P : Program} {w : World} {K : PySem.W.Frag} {mg : Str → Option Value} {base : Heap} {tKIND_A tKIND_B : Tok} {C_RingError C_BadRing C_BadPlace C_BadTimes C_BadCount C_Found C_Never : Addr}
/-! ### starts, start_at, is_start, sought: what they refuse -/
def spNo : Sp := fun vs H Q _ => False
def spCheckTimesX (K : PySem.W.Frag) (CT : Addr) : Sp := fun vs H Q E => ∃ v : V, vs = [v] ∧ ((∃ p, v = .int p ∧ 1 ≤ p ∧ RetV .non H Q) ∨ (NoTimes K v H ∧ ErrX CT H E))
theorem sx_times {H : Hp} {CT : Addr} {p : Int} (h0 : 1 ≤ p) : SpV (spCheckTimesX K CT) [.int p] H .non := fun H1 e Q q E => ⟨_, rfl, .inl ⟨p, rfl, h0, q⟩⟩
theorem sx_notimes {H : Hp} {CT : Addr} {v : V} (hv : NoTimes K v H) : SpX (spCheckTimesX K CT) [v] H CT := fun H1 e Q E hE => ⟨v, rfl, .inr ⟨nn_mono _ _ _ e hv, hE⟩⟩
abbrev s_check_times : Stmt := topS 43
theorem sc_check_times : FnScope ["times"] ["times"] (defScope s_check_times) := ⟨rfl, rfl, rfl, by decide +kernel, rfl, by decide +kernel, by decide +kernel⟩
theorem ok_check_times {f : Addr} {fd : FuncData} (F : Fun K "check_times" "check_times" s_check_times f fd) (T : Txt K mg tKIND_A tKIND_B C_RingError C_BadRing C_BadPlace C_BadTimes C_BadCount C_Found C_Never) {f_is_whole : Addr} {fd_is_whole : FuncData} (G_is_whole : FnOk P w K mg base CX0 1 f_is_whole fd_is_whole ["thing"] (spWholeX K)) (m_is_whole : mg "is_whole" = some (.ref f_is_whole)) (k_is_whole : PySem.W.keepIn K (.ref f_is_whole) = true) (b_is_whole : Binds K fd_is_whole ["thing"] []) : FnOk P w K mg base (L2N.CX P w) 2 f fd ["times"] (spCheckTimesX K C_BadTimes) := by
  have nd := sc_check_times.nd
  refine okN F sc_check_times (fun vs H Q E h => ?_) (fun cdv A outer s H vs Q E hr h => ?_)
  · obtain ⟨v, rfl, _⟩ := h
    rfl
  · obtain ⟨v, rfl, hv⟩ := h
    refine ⟨_, (pss_one (ps_if (PW.pt (pw_or (pt_not (pt_val (pe_call G_is_whole (hr.mono (by decide)) (by rfl) m_is_whole k_is_whole b_is_whole .nil pass0 (pa_cons (pv 0) pa_nil)))) (pw_or1 (pt_cmpR op_lt (pv 0) pe_int (nomark _))))) (pss_one (L2N.ps_raise rfl (L2N.takes_of rfl rfl rfl rfl) (L2N.pmk_own PySem.F.excBase_ValueError T.xi_BadTimes T.g_BadTimes T.xk_BadTimes (raises_own T.xe_BadTimes T.xt_BadTimes) (by rfl)))) pss_nil)), ?_⟩
    rcases hv with ⟨p, rfl, h0, q⟩ | ⟨hn | ⟨n, rfl, hn⟩, hE⟩
    · exact s_when (b := false) (et_is (a := (!true || decide (p < 1))) (et_or (et_not (et_B (ev_call (ea_cons (ev_var rfl) ea_nil) sx_int))) fun _ => et_test (ev_op (ev_var rfl) ev_c rv_I0)) (by rw [decide_eq_false (show ¬ p < 1 by omega)]; rfl)) (fun hb => nomatch hb) fun _ H1 e1 => q H1 e1
    · exact s_when (b := true) (et_is (a := (!false || true)) (et_or (et_not (et_B (ev_call (ea_cons (ev_var rfl) ea_nil) (sx_no hn)))) fun z => nomatch z) rfl) (fun _ H1 e1 => hE H1 e1) (fun hb => nomatch hb)
    · exact s_when (b := true) (et_is (a := (!true || decide (n < 1))) (et_or (et_not (et_B (ev_call (ea_cons (ev_var rfl) ea_nil) sx_int))) fun _ => et_test (ev_op (ev_var rfl) ev_c rv_I0)) (by rw [decide_eq_true hn]; rfl)) (fun _ H1 e1 => hE H1 e1) (fun hb => nomatch hb)
def spCheckNumberX (K : PySem.W.Frag) (CC : Addr) : Sp := fun vs H Q E => ∃ (v : V) (m : Int), vs = [v, .int m] ∧ NoNum K (fun k => k < 0 ∨ m ≤ k) v H ∧ ErrX CC H E
theorem sx_nonumber {H : Hp} {CC : Addr} {v : V} {m : Int} (hv : NoNum K (fun k => k < 0 ∨ m ≤ k) v H) : SpX (spCheckNumberX K CC) [v, .int m] H CC := fun H1 e Q E hE => ⟨v, m, rfl, nn_mono _ _ _ e hv, hE⟩
abbrev s_check_number : Stmt := topS 44
theorem sc_check_number : FnScope ["number", "many"] ["number", "many"] (defScope s_check_number) := ⟨rfl, rfl, rfl, by decide +kernel, rfl, by decide +kernel, by decide +kernel⟩
theorem ok_check_number {f : Addr} {fd : FuncData} (F : Fun K "check_number" "check_number" s_check_number f fd) (T : Txt K mg tKIND_A tKIND_B C_RingError C_BadRing C_BadPlace C_BadTimes C_BadCount C_Found C_Never) {f_is_whole : Addr} {fd_is_whole : FuncData} (G_is_whole : FnOk P w K mg base CX0 1 f_is_whole fd_is_whole ["thing"] (spWholeX K)) (m_is_whole : mg "is_whole" = some (.ref f_is_whole)) (k_is_whole : PySem.W.keepIn K (.ref f_is_whole) = true) (b_is_whole : Binds K fd_is_whole ["thing"] []) : FnOk P w K mg base (L2N.CX P w) 2 f fd ["number", "many"] (spCheckNumberX K C_BadCount) := by
  have nd := sc_check_number.nd
  refine okN F sc_check_number (fun vs H Q E h => ?_) (fun cdv A outer s H vs Q E hr h => ?_)
  · obtain ⟨v, m, rfl, _⟩ := h
    rfl
  · obtain ⟨v, m, rfl, hv, hE⟩ := h
    refine ⟨_, (pss_one (ps_if (PW.pt (pw_or (pt_not (pt_val (pe_call G_is_whole (hr.mono (by decide)) (by rfl) m_is_whole k_is_whole b_is_whole .nil pass0 (pa_cons (pv 0) pa_nil)))) (pw_or (pt_cmpR op_lt (pv 0) pe_int (nomark _)) (pw_or1 (pt_cmpR op_ge (pv 0) (pv 1) (nomark _)))))) (pss_one (L2N.ps_raise rfl (L2N.takes_of rfl rfl rfl rfl) (L2N.pmk_own PySem.F.excBase_ValueError T.xi_BadCount T.g_BadCount T.xk_BadCount (raises_own T.xe_BadCount T.xt_BadCount) (by rfl)))) pss_nil)), ?_⟩
    rcases hv with hn | ⟨n, rfl, hn⟩
    · exact s_when (b := true) (et_is (a := (!false || true)) (et_or (et_not (et_B (ev_call (ea_cons (ev_var rfl) ea_nil) (sx_no hn)))) fun z => nomatch z) rfl) (fun _ H1 e1 => hE H1 e1) (fun hb => nomatch hb)
    · refine s_when (b := true) (et_is (a := (!true || (decide (n < 0) || decide (m ≤ n)))) (et_or (et_not (et_B (ev_call (ea_cons (ev_var rfl) ea_nil) sx_int))) fun _ => et_or (et_test (ev_op (ev_var rfl) ev_c rv_I0)) fun _ => et_test (ev_op (ev_var rfl) (ev_var rfl) rv_I0)) ?_) (fun _ H1 e1 => hE H1 e1) (fun hb => nomatch hb)
      rcases hn with hn | hn
      · rw [decide_eq_true hn]
        rfl
      · rw [decide_eq_true hn, Bool.or_true]
        rfl
def spCheckAskedX (K : PySem.W.Frag) (CC : Addr) : Sp := fun vs H Q E => ∃ (a : Addr) (r : Ring) (m z : V), vs = [.ref a, m, z] ∧ RingAt K H a r ∧ r.length ≤ 40000 ∧ ErrX CC H E ∧ (NoNum K (fun k => k < 0 ∨ sizeR r < k) m H ∨ (∃ k, m = .int k ∧ 0 ≤ k ∧ k ≤ sizeR r ∧ NoWhole K z H))
theorem sx_noasked {H : Hp} {CC a : Addr} {r : Ring} {m z : V} (h : RingAt K H a r) (hl : r.length ≤ 40000) (hm : NoNum K (fun k => k < 0 ∨ sizeR r < k) m H ∨ (∃ k, m = .int k ∧ 0 ≤ k ∧ k ≤ sizeR r ∧ NoWhole K z H)) : SpX (spCheckAskedX K CC) [.ref a, m, z] H CC := fun H1 e Q E hE => ⟨a, r, m, z, rfl, h.mono e, hl, hE, hm.imp (nn_mono _ _ _ e) fun ⟨k, e1, k0, k1, hz⟩ => ⟨k, e1, k0, k1, nw_mono _ _ _ e hz⟩⟩
abbrev s_check_asked : Stmt := topS 35
theorem sc_check_asked : FnScope ["ring", "many", "number"] ["ring", "many", "number"] (defScope s_check_asked) := ⟨rfl, rfl, rfl, by decide +kernel, rfl, by decide +kernel, by decide +kernel⟩
theorem ok_check_asked {f : Addr} {fd : FuncData} (F : Fun K "check_asked" "check_asked" s_check_asked f fd) (T : Txt K mg tKIND_A tKIND_B C_RingError C_BadRing C_BadPlace C_BadTimes C_BadCount C_Found C_Never) {f_is_whole : Addr} {fd_is_whole : FuncData} (G_is_whole : FnOk P w K mg base CX0 1 f_is_whole fd_is_whole ["thing"] (spWholeX K)) (m_is_whole : mg "is_whole" = some (.ref f_is_whole)) (k_is_whole : PySem.W.keepIn K (.ref f_is_whole) = true) (b_is_whole : Binds K fd_is_whole ["thing"] []) {f_size : Addr} {fd_size : FuncData} (G_size : FnOk P w K mg base CX0 1 f_size fd_size ["ring"] (spSize K)) (m_size : mg "size" = some (.ref f_size)) (k_size : PySem.W.keepIn K (.ref f_size) = true) (b_size : Binds K fd_size ["ring"] []) : FnOk P w K mg base (L2N.CX P w) 2 f fd ["ring", "many", "number"] (spCheckAskedX K C_BadCount) := by
  have nd := sc_check_asked.nd
  refine okN F sc_check_asked (fun vs H Q E h => ?_) (fun cdv A outer s H vs Q E hr h => ?_)
  · obtain ⟨a, r, m, z, rfl, _⟩ := h
    rfl
  · obtain ⟨a, r, m, z, rfl, hR, hl, hE, hv⟩ := h
    refine ⟨_, (pss_cons (ps_if (PW.pt (pw_or (pt_not (pt_val (pe_call G_is_whole (hr.mono (by decide)) (by rfl) m_is_whole k_is_whole b_is_whole .nil pass0 (pa_cons (pv 1) pa_nil)))) (pw_or (pt_cmpR op_lt (pv 1) pe_int (nomark _)) (pw_or1 (pt_cmpR op_gt (pv 1) (pe_call G_size (hr.mono (by decide)) (by rfl) m_size k_size b_size .nil pass0 (pa_cons (pv 0) pa_nil)) (nomark _)))))) (pss_one (L2N.ps_raise rfl (L2N.takes_of rfl rfl rfl rfl) (L2N.pmk_own PySem.F.excBase_ValueError T.xi_BadCount T.g_BadCount T.xk_BadCount (raises_own T.xe_BadCount T.xt_BadCount) (by rfl)))) pss_nil)
  (pss_one (ps_if (pt_not (pt_val (pe_call G_is_whole (hr.mono (by decide)) (by rfl) m_is_whole k_is_whole b_is_whole .nil pass0 (pa_cons (pv 2) pa_nil)))) (pss_one (L2N.ps_raise rfl (L2N.takes_of rfl rfl rfl rfl) (L2N.pmk_own PySem.F.excBase_ValueError T.xi_BadCount T.g_BadCount T.xk_BadCount (raises_own T.xe_BadCount T.xt_BadCount) (by rfl)))) pss_nil))), ?_⟩
    have tst : ∀ (n : Int) (b : Bool), m = .int n → (decide (n < 0) || decide (n > sizeR r)) = b → EvT (tOr (tNot (tB (tCall (spWholeX K) [] (fun _ _ _ => False) (tCons (tVar 1) tNil)))) (tOr (tTest (tOp (rI0 fun i j => .bl (decide (i < j))) (tVar 1) (tC (.int 0)))) (tTest (tOp (rI0 fun i j => .bl (decide (i > j))) (tVar 1) (tCall (spSize K) [] (fun _ _ _ => False) (tCons (tVar 0) tNil)))))) [some (.ref a), some m, some z] H b := fun n b e hb => by
      subst e
      rw [← hb, ← Bool.false_or (decide (n < 0) || decide (n > sizeR r))]
      exact et_or (a := !true) (et_not (et_B (ev_call (ea_cons (ev_var rfl) ea_nil) sx_int))) fun _ => et_or (et_test (ev_op (ev_var rfl) ev_c rv_I0)) fun _ => et_test (ev_op (ev_var rfl) (ev_call (ea_cons (ev_var rfl) ea_nil) (sv_size hR hl)) rv_I0)
    rcases hv with (hn | ⟨n, rfl, hn⟩) | ⟨k, rfl, k0, k1, hz⟩
    · exact q_when (b := true) (et_is (a := (!false || true)) (et_or (et_not (et_B (ev_call (ea_cons (ev_var rfl) ea_nil) (sx_no hn)))) fun z => nomatch z) rfl) (fun _ H1 e1 => hE H1 e1) (fun hb => nomatch hb)
    · refine q_when (b := true) (tst n true rfl ?_) (fun _ H1 e1 => hE H1 e1) (fun hb => nomatch hb)
      rcases hn with hn | hn
      · rw [decide_eq_true hn]
        rfl
      · rw [decide_eq_true (show n > sizeR r from hn), Bool.or_true]
    · refine q_when (b := false) (tst k false rfl ?_) (fun hb => nomatch hb) fun _ H1 e1 => ?_
      · rw [decide_eq_false (show ¬ k < 0 by omega), decide_eq_false (show ¬ k > sizeR r by omega)]
        rfl
      · exact s_when (b := !false) (et_not (et_B (ev_call (ea_cons (ev_var rfl) ea_nil) (sx_no (nw_mono _ _ _ e1 hz))))) (fun _ H2 e2 => hE H2 (e1.trans e2)) (fun hb => nomatch hb)
abbrev s_starts : Stmt := topS 37
theorem sc_starts : FnScope ["ring", "times"] ["ring", "times"] (defScope s_starts) := ⟨rfl, rfl, rfl, by decide +kernel, rfl, by decide +kernel, by decide +kernel⟩
theorem ok_starts {f : Addr} {fd : FuncData} (F : Fun K "starts" "starts" s_starts f fd) (T : Txt K mg tKIND_A tKIND_B C_RingError C_BadRing C_BadPlace C_BadTimes C_BadCount C_Found C_Never) {f_check_ring : Addr} {fd_check_ring : FuncData} (G_check_ring : FnOk P w K mg base (L2N.CX P w) 3 f_check_ring fd_check_ring ["ring"] (spCheckRingX K C_BadRing)) (m_check_ring : mg "check_ring" = some (.ref f_check_ring)) (k_check_ring : PySem.W.keepIn K (.ref f_check_ring) = true) (b_check_ring : Binds K fd_check_ring ["ring"] []) {f_check_times : Addr} {fd_check_times : FuncData} (G_check_times : FnOk P w K mg base (L2N.CX P w) 2 f_check_times fd_check_times ["times"] (spCheckTimesX K C_BadTimes)) (m_check_times : mg "check_times" = some (.ref f_check_times)) (k_check_times : PySem.W.keepIn K (.ref f_check_times) = true) (b_check_times : Binds K fd_check_times ["times"] []) {f_surplus : Addr} {fd_surplus : FuncData} (G_surplus : FnOk P w K mg base CX0 2 f_surplus fd_surplus ["ring", "times"] (spSur K)) (m_surplus : mg "surplus" = some (.ref f_surplus)) (k_surplus : PySem.W.keepIn K (.ref f_surplus) = true) (b_surplus : Binds K fd_surplus ["ring", "times"] []) : FnOk P w K mg base (L2N.CX P w) 4 f fd ["ring", "times"] (spStartsX K C_BadRing C_BadTimes) := by
  have nd := sc_starts.nd
  refine okN F sc_starts (fun vs H Q E h => ?_) (fun cdv A outer s H vs Q E hr h => ?_)
  · obtain ⟨v, t, rfl, _⟩ := h
    rfl
  · obtain ⟨v, t, rfl, hv⟩ := h
    refine ⟨_, (pss_cons (ps_expr (pe_callS G_check_ring (hr.mono (by decide)) (by rfl) m_check_ring k_check_ring b_check_ring (fun σ => L2N.passAt (L2N.takes_of rfl rfl rfl rfl) σ) (pa_cons (pv 0) pa_nil)))
  (pss_cons (ps_expr (pe_callS G_check_times (hr.mono (by decide)) (by rfl) m_check_times k_check_times b_check_times (fun σ => L2N.passAt (L2N.takes_of rfl rfl rfl rfl) σ) (pa_cons (pv 1) pa_nil)))
  (pss_one (ps_ret (pe_call G_surplus (hr.mono (by decide)) (by rfl) m_surplus k_surplus b_surplus .nil pass0 (pa_cons (pv 0) (pa_cons (pv 1) pa_nil))))))), ?_⟩
    rcases hv with ⟨hv, _, hE⟩ | ⟨a, r, rfl, hR, g, hv⟩
    · exact q_dropX (rz_call (ea_cons (ev_var rfl) ea_nil) (sx_noring hv)) hE
    · refine q_drop (ev_callS (ea_cons (ev_var rfl) ea_nil) (sx_ring hR g.ne g.pos)) fun H1 e1 => ?_
      rcases hv with ⟨ht, hE⟩ | ⟨n, rfl, n0, n1, k⟩
      · exact q_dropX (rz_call (ea_cons (ev_var rfl) ea_nil) (sx_notimes (nn_mono _ _ _ e1 ht))) fun H2 e2 => hE H2 (e1.trans e2)
      · refine q_drop (ev_callS (ea_cons (ev_var rfl) ea_nil) (sx_times n0)) fun H2 e2 => ?_
        exact s_ret (v := .int (startsF r n)) (ev_call (ea_cons (ev_var rfl) (ea_cons (ev_var rfl) ea_nil)) (sv_sur (hR.mono (e1.trans e2)) g n0 n1)) fun H3 e3 => k H3 ((e1.trans e2).trans e3)
abbrev s_start_at : Stmt := topS 38
theorem sc_start_at : FnScope ["ring", "times", "number", "runs", "at", "left"] ["ring", "times", "number"] (defScope s_start_at) := ⟨rfl, rfl, rfl, by decide +kernel, rfl, by decide +kernel, by decide +kernel⟩
theorem ok_start_at {f : Addr} {fd : FuncData} (F : Fun K "start_at" "start_at" s_start_at f fd) (T : Txt K mg tKIND_A tKIND_B C_RingError C_BadRing C_BadPlace C_BadTimes C_BadCount C_Found C_Never) {f_check_number : Addr} {fd_check_number : FuncData} (G_check_number : FnOk P w K mg base (L2N.CX P w) 2 f_check_number fd_check_number ["number", "many"] (spCheckNumberX K C_BadCount)) (m_check_number : mg "check_number" = some (.ref f_check_number)) (k_check_number : PySem.W.keepIn K (.ref f_check_number) = true) (b_check_number : Binds K fd_check_number ["number", "many"] []) {f_check_ring : Addr} {fd_check_ring : FuncData} (G_check_ring : FnOk P w K mg base (L2N.CX P w) 3 f_check_ring fd_check_ring ["ring"] (spCheckRingX K C_BadRing)) (m_check_ring : mg "check_ring" = some (.ref f_check_ring)) (k_check_ring : PySem.W.keepIn K (.ref f_check_ring) = true) (b_check_ring : Binds K fd_check_ring ["ring"] []) {f_check_times : Addr} {fd_check_times : FuncData} (G_check_times : FnOk P w K mg base (L2N.CX P w) 2 f_check_times fd_check_times ["times"] (spCheckTimesX K C_BadTimes)) (m_check_times : mg "check_times" = some (.ref f_check_times)) (k_check_times : PySem.W.keepIn K (.ref f_check_times) = true) (b_check_times : Binds K fd_check_times ["times"] []) {f_runs_of_starts : Addr} {fd_runs_of_starts : FuncData} (G_runs_of_starts : FnOk P w K mg base CX0 2 f_runs_of_starts fd_runs_of_starts ["ring", "times"] spNo) (m_runs_of_starts : mg "runs_of_starts" = some (.ref f_runs_of_starts)) (k_runs_of_starts : PySem.W.keepIn K (.ref f_runs_of_starts) = true) (b_runs_of_starts : Binds K fd_runs_of_starts ["ring", "times"] []) {f_surplus : Addr} {fd_surplus : FuncData} (G_surplus : FnOk P w K mg base CX0 2 f_surplus fd_surplus ["ring", "times"] (spSur K)) (m_surplus : mg "surplus" = some (.ref f_surplus)) (k_surplus : PySem.W.keepIn K (.ref f_surplus) = true) (b_surplus : Binds K fd_surplus ["ring", "times"] []) : FnOk P w K mg base (L2N.CX P w) 4 f fd ["ring", "times", "number"] (spStartAtX K C_BadRing C_BadTimes C_BadCount) := by
  have nd := sc_start_at.nd
  refine okN F sc_start_at (fun vs H Q E h => ?_) (fun cdv A outer s H vs Q E hr h => ?_)
  · obtain ⟨v, t, n, rfl, _⟩ := h
    rfl
  · obtain ⟨v, t, n, rfl, hv⟩ := h
    refine ⟨_, (pss_cons (ps_expr (pe_callS G_check_ring (hr.mono (by decide)) (by rfl) m_check_ring k_check_ring b_check_ring (fun σ => L2N.passAt (L2N.takes_of rfl rfl rfl rfl) σ) (pa_cons (pv 0) pa_nil)))
  (pss_cons (ps_expr (pe_callS G_check_times (hr.mono (by decide)) (by rfl) m_check_times k_check_times b_check_times (fun σ => L2N.passAt (L2N.takes_of rfl rfl rfl rfl) σ) (pa_cons (pv 1) pa_nil)))
  (pss_cons (ps_expr (pe_callS G_check_number (hr.mono (by decide)) (by rfl) m_check_number k_check_number b_check_number (fun σ => L2N.passAt (L2N.takes_of rfl rfl rfl rfl) σ) (pa_cons (pv 2) (pa_cons (pe_call G_surplus (hr.mono (by decide)) (by rfl) m_surplus k_surplus b_surplus .nil pass0 (pa_cons (pv 0) (pa_cons (pv 1) pa_nil))) pa_nil))))
  (pss_cons (ps_set (i := 3) nd rfl (Or.inl rfl) (pe_call G_runs_of_starts (hr.mono (by decide)) (by rfl) m_runs_of_starts k_runs_of_starts b_runs_of_starts .nil pass0 (pa_cons (pv 0) (pa_cons (pv 1) pa_nil))))
  (pss_cons (ps_set (i := 4) nd rfl (Or.inl rfl) pe_int)
  (pss_cons (ps_set (i := 5) nd rfl (Or.inl rfl) (pv 2))
  (pss_cons (ps_while PassesOwn.leaving (pt_cmpR op_ge (pv 5) (pe_ix ix_tup (pe_ix ix_list (pv 3) (pv 4) (fun _ _ => rfl)) pe_int (fun _ _ => rfl)) (nomark _)) (pss_cons (ps_aug (i := 5) nd rfl (.inl rfl) (pe_ix ix_tup (pe_ix ix_list (pv 3) (pv 4) (fun _ _ => rfl)) pe_int (fun _ _ => rfl)) ip_sub)
  (pss_one (ps_aug (i := 4) nd rfl (.inl rfl) pe_int ip_add))))
  (pss_one (ps_ret (pe_op op_add (pe_ix ix_tup (pe_ix ix_list (pv 3) (pv 4) (fun _ _ => rfl)) pe_int (fun _ _ => rfl)) (pv 5))))))))))), ?_⟩
    rcases hv with ⟨hv, _, _, hE⟩ | ⟨a, r, rfl, hR, g, hv⟩
    · exact q_dropX (rz_call (ea_cons (ev_var rfl) ea_nil) (sx_noring hv)) hE
    · refine q_drop (ev_callS (ea_cons (ev_var rfl) ea_nil) (sx_ring hR g.ne g.pos)) fun H1 e1 => ?_
      rcases hv with ⟨ht, _, hE⟩ | ⟨x, rfl, x0, x1, hn, hE⟩
      · exact q_dropX (rz_call (ea_cons (ev_var rfl) ea_nil) (sx_notimes (nn_mono _ _ _ e1 ht))) fun H2 e2 => hE H2 (e1.trans e2)
      · refine q_drop (ev_callS (ea_cons (ev_var rfl) ea_nil) (sx_times x0)) fun H2 e2 => ?_
        have e12 := e1.trans e2
        exact q_dropX (rz_call (ea_cons (ev_var rfl) (ea_cons (ev_call (ea_cons (ev_var rfl) (ea_cons (ev_var rfl) ea_nil)) (sv_sur (hR.mono e12) g x0 x1)) ea_nil)) (sx_nonumber (nn_mono _ _ _ e12 hn))) fun H3 e3 => hE H3 (e12.trans e3)
abbrev s_is_start : Stmt := topS 39
theorem sc_is_start : FnScope ["ring", "times", "place", "first", "many"] ["ring", "times", "place"] (defScope s_is_start) := ⟨rfl, rfl, rfl, by decide +kernel, rfl, by decide +kernel, by decide +kernel⟩
theorem ok_is_start {f : Addr} {fd : FuncData} (F : Fun K "is_start" "is_start" s_is_start f fd) (T : Txt K mg tKIND_A tKIND_B C_RingError C_BadRing C_BadPlace C_BadTimes C_BadCount C_Found C_Never) {f_check_place : Addr} {fd_check_place : FuncData} (G_check_place : FnOk P w K mg base (L2N.CX P w) 3 f_check_place fd_check_place ["ring", "place"] (spCheckPlaceX K C_BadPlace)) (m_check_place : mg "check_place" = some (.ref f_check_place)) (k_check_place : PySem.W.keepIn K (.ref f_check_place) = true) (b_check_place : Binds K fd_check_place ["ring", "place"] []) {f_check_ring : Addr} {fd_check_ring : FuncData} (G_check_ring : FnOk P w K mg base (L2N.CX P w) 3 f_check_ring fd_check_ring ["ring"] (spCheckRingX K C_BadRing)) (m_check_ring : mg "check_ring" = some (.ref f_check_ring)) (k_check_ring : PySem.W.keepIn K (.ref f_check_ring) = true) (b_check_ring : Binds K fd_check_ring ["ring"] []) {f_check_times : Addr} {fd_check_times : FuncData} (G_check_times : FnOk P w K mg base (L2N.CX P w) 2 f_check_times fd_check_times ["times"] (spCheckTimesX K C_BadTimes)) (m_check_times : mg "check_times" = some (.ref f_check_times)) (k_check_times : PySem.W.keepIn K (.ref f_check_times) = true) (b_check_times : Binds K fd_check_times ["times"] []) {f_runs_of_starts : Addr} {fd_runs_of_starts : FuncData} (G_runs_of_starts : FnOk P w K mg base CX0 2 f_runs_of_starts fd_runs_of_starts ["ring", "times"] spNo) (m_runs_of_starts : mg "runs_of_starts" = some (.ref f_runs_of_starts)) (k_runs_of_starts : PySem.W.keepIn K (.ref f_runs_of_starts) = true) (b_runs_of_starts : Binds K fd_runs_of_starts ["ring", "times"] []) : FnOk P w K mg base (L2N.CX P w) 4 f fd ["ring", "times", "place"] (spIsStartX K C_BadRing C_BadTimes C_BadPlace) := by
  have nd := sc_is_start.nd
  refine okN F sc_is_start (fun vs H Q E h => ?_) (fun cdv A outer s H vs Q E hr h => ?_)
  · obtain ⟨v, t, p, rfl, _⟩ := h
    rfl
  · obtain ⟨v, t, p, rfl, hv⟩ := h
    refine ⟨_, (pss_cons (ps_expr (pe_callS G_check_ring (hr.mono (by decide)) (by rfl) m_check_ring k_check_ring b_check_ring (fun σ => L2N.passAt (L2N.takes_of rfl rfl rfl rfl) σ) (pa_cons (pv 0) pa_nil)))
  (pss_cons (ps_expr (pe_callS G_check_times (hr.mono (by decide)) (by rfl) m_check_times k_check_times b_check_times (fun σ => L2N.passAt (L2N.takes_of rfl rfl rfl rfl) σ) (pa_cons (pv 1) pa_nil)))
  (pss_cons (ps_expr (pe_callS G_check_place (hr.mono (by decide)) (by rfl) m_check_place k_check_place b_check_place (fun σ => L2N.passAt (L2N.takes_of rfl rfl rfl rfl) σ) (pa_cons (pv 0) (pa_cons (pv 2) pa_nil))))
  (pss_one (ps_ret (pe_callB (cr_any rfl) (by rfl) T.z_any (by decide +kernel) (pa_cons (pe_lc (g := (gTup K 2 (gCons (gName 3) (gCons (gName 4) gNil)))) (own := [("first", 3), ("many", 4)]) (by rfl) nd (pi_list (pe_call G_runs_of_starts (hr.mono (by decide)) (by rfl) m_runs_of_starts k_runs_of_starts b_runs_of_starts .nil pass0 (pa_cons (pv 0) (pa_cons (pv 1) pa_nil)))) (blkOk_by (own := [("first", 3), ("many", 4)]) (N := ["ring", "times", "place", "first", "many"]) (sc := defScope s_is_start) (by decide +kernel)) (fun _ _ _ _ _ => (pg_tup rfl (pgs_cons (pg_name (i := 3) nd rfl (Or.inl rfl) (.inr rfl)) (pgs_cons (pg_name (i := 4) nd rfl (Or.inl rfl) (.inr rfl)) pgs_nil)))) (fun _ _ _ _ _ => pts_nil) (fun _ _ _ _ _ => (pe_chain op_le op_lt pe_int (pe_op op_sub (pv 2) (pv 3)) (pv 4)))) pa_nil))))))), ?_⟩
    rcases hv with ⟨hv, _, _, hE⟩ | ⟨a, r, rfl, hR, g, hv⟩
    · exact q_dropX (rz_call (ea_cons (ev_var rfl) ea_nil) (sx_noring hv)) hE
    · refine q_drop (ev_callS (ea_cons (ev_var rfl) ea_nil) (sx_ring hR g.ne g.pos)) fun H1 e1 => ?_
      rcases hv with ⟨ht, _, hE⟩ | ⟨x, rfl, x0, x1, hp, hE⟩
      · exact q_dropX (rz_call (ea_cons (ev_var rfl) ea_nil) (sx_notimes (nn_mono _ _ _ e1 ht))) fun H2 e2 => hE H2 (e1.trans e2)
      · refine q_drop (ev_callS (ea_cons (ev_var rfl) ea_nil) (sx_times x0)) fun H2 e2 => ?_
        have e12 := e1.trans e2
        exact q_dropX (rz_call (ea_cons (ev_var rfl) (ea_cons (ev_var rfl) ea_nil)) (sx_noplace (hR.mono e12) (Nat.le_trans g.len (by decide)) (nn_mono _ _ _ e12 hp))) fun H3 e3 => hE H3 (e12.trans e3)
abbrev s_sought : Stmt := topS 34
theorem sc_sought : FnScope ["ring", "many", "number", "place", "found", "change", "length", "steps", "least", "most"] ["ring", "many", "number"] (defScope s_sought) := ⟨rfl, rfl, rfl, by decide +kernel, rfl, by decide +kernel, by decide +kernel⟩
theorem ok_sought {f : Addr} {fd : FuncData} (F : Fun K "sought" "sought" s_sought f fd) (T : Txt K mg tKIND_A tKIND_B C_RingError C_BadRing C_BadPlace C_BadTimes C_BadCount C_Found C_Never) {f_Found___init__ : Addr} {fd_Found___init__ : FuncData} (G_Found___init__ : FnOk P w K mg base CX0 1 f_Found___init__ fd_Found___init__ ["self", "place"] spNo) (b_Found___init__ : Binds K fd_Found___init__ ["self", "place"] []) (M_Found : Mk K C_Found f_Found___init__) {f_Never___init__ : Addr} {fd_Never___init__ : FuncData} (G_Never___init__ : FnOk P w K mg base CX0 1 f_Never___init__ fd_Never___init__ ["self", "least", "most"] spNo) (b_Never___init__ : Binds K fd_Never___init__ ["self", "least", "most"] []) (M_Never : Mk K C_Never f_Never___init__) {f_check_asked : Addr} {fd_check_asked : FuncData} (G_check_asked : FnOk P w K mg base (L2N.CX P w) 2 f_check_asked fd_check_asked ["ring", "many", "number"] (spCheckAskedX K C_BadCount)) (m_check_asked : mg "check_asked" = some (.ref f_check_asked)) (k_check_asked : PySem.W.keepIn K (.ref f_check_asked) = true) (b_check_asked : Binds K fd_check_asked ["ring", "many", "number"] []) {f_check_ring : Addr} {fd_check_ring : FuncData} (G_check_ring : FnOk P w K mg base (L2N.CX P w) 3 f_check_ring fd_check_ring ["ring"] (spCheckRingX K C_BadRing)) (m_check_ring : mg "check_ring" = some (.ref f_check_ring)) (k_check_ring : PySem.W.keepIn K (.ref f_check_ring) = true) (b_check_ring : Binds K fd_check_ring ["ring"] []) {f_least_and_most : Addr} {fd_least_and_most : FuncData} (G_least_and_most : FnOk P w K mg base CX0 4 f_least_and_most fd_least_and_most ["ring", "many"] spNo) (m_least_and_most : mg "least_and_most" = some (.ref f_least_and_most)) (k_least_and_most : PySem.W.keepIn K (.ref f_least_and_most) = true) (b_least_and_most : Binds K fd_least_and_most ["ring", "many"] []) {f_spans : Addr} {fd_spans : FuncData} (G_spans : FnOk P w K mg base CX0 3 f_spans fd_spans ["ring", "many"] spNo) (m_spans : mg "spans" = some (.ref f_spans)) (k_spans : PySem.W.keepIn K (.ref f_spans) = true) (b_spans : Binds K fd_spans ["ring", "many"] []) : FnOk P w K mg base (L2N.CX P w) 5 f fd ["ring", "many", "number"] (spSoughtX K C_BadRing C_BadCount) := by
  have nd := sc_sought.nd
  refine okN F sc_sought (fun vs H Q E h => ?_) (fun cdv A outer s H vs Q E hr h => ?_)
  · obtain ⟨v, m, z, rfl, _⟩ := h
    rfl
  · obtain ⟨v, m, z, rfl, hv⟩ := h
    refine ⟨_, (pss_cons (ps_expr (pe_callS G_check_ring (hr.mono (by decide)) (by rfl) m_check_ring k_check_ring b_check_ring (fun σ => L2N.passAt (L2N.takes_of rfl rfl rfl rfl) σ) (pa_cons (pv 0) pa_nil)))
  (pss_cons (ps_expr (pe_callS G_check_asked (hr.mono (by decide)) (by rfl) m_check_asked k_check_asked b_check_asked (fun σ => L2N.passAt (L2N.takes_of rfl rfl rfl rfl) σ) (pa_cons (pv 0) (pa_cons (pv 1) (pa_cons (pv 2) pa_nil)))))
  (pss_cons (ps_for PassesOwn.leaving rfl (pi_list (pe_call G_spans (hr.mono (by decide)) (by rfl) m_spans k_spans b_spans .nil pass0 (pa_cons (pv 0) (pa_cons (pv 1) pa_nil)))) (pg_tup rfl (pgs_cons (pg_name (i := 3) nd rfl (Or.inl rfl)) (pgs_cons (pg_name (i := 4) nd rfl (Or.inl rfl)) (pgs_cons (pg_name (i := 5) nd rfl (Or.inl rfl)) (pgs_cons (pg_name (i := 6) nd rfl (Or.inl rfl)) pgs_nil)))))
  (pss_cons (ps_set (i := 7) nd rfl (Or.inl rfl) (pe_op op_mulX (pe_op op_sub (pv 2) (pv 4)) (pv 5)))
  (pss_one (ps_if (PW.pt (pw_and (pt_chain op_le op_lt pe_int (pv 7) (pv 6)) (pw_and1 (pt_cmpR op_eq (pe_op op_add (pv 4) (pe_op op_mulX (pv 7) (pv 5))) (pv 2) (nomark _))))) (pss_one (ps_ret (pe_make M_Found G_Found___init__ (hr.mono (by decide)) (by rfl) T.g_Found b_Found___init__ .nil pass0 (pa_cons (pe_op op_add (pv 3) (pv 7)) pa_nil)))) pss_nil))))
  (pss_cons (ps_asg (pe_call G_least_and_most (hr.mono (by decide)) (by rfl) m_least_and_most k_least_and_most b_least_and_most .nil pass0 (pa_cons (pv 0) (pa_cons (pv 1) pa_nil))) (pg_tup rfl (pgs_cons (pg_name (i := 8) nd rfl (Or.inl rfl)) (pgs_cons (pg_name (i := 9) nd rfl (Or.inl rfl)) pgs_nil))))
  (pss_one (ps_ret (pe_make M_Never G_Never___init__ (hr.mono (by decide)) (by rfl) T.g_Never b_Never___init__ .nil pass0 (pa_cons (pv 8) (pa_cons (pv 9) pa_nil))))))))), ?_⟩
    rcases hv with ⟨hv, _, _, hE⟩ | ⟨a, r, rfl, hR, g, hE, hv⟩
    · exact q_dropX (rz_call (ea_cons (ev_var rfl) ea_nil) (sx_noring hv)) hE
    · refine q_drop (ev_callS (ea_cons (ev_var rfl) ea_nil) (sx_ring hR g.ne g.pos)) fun H1 e1 => ?_
      refine q_dropX (rz_call (ea_cons (ev_var rfl) (ea_cons (ev_var rfl) (ea_cons (ev_var rfl) ea_nil))) (sx_noasked (hR.mono e1) (Nat.le_trans g.len (by decide)) ?_)) fun H2 e2 => hE H2 (e1.trans e2)
      rcases hv with ⟨hm, _⟩ | ⟨k, e, k0, k1, hz⟩
      · exact .inl (nn_mono _ _ _ e1 hm)
      · exact .inr ⟨k, e, k0, k1, nw_mono _ _ _ e1 hz⟩
end
section
variable {P : Program} {w : World} {K : PySem.W.Frag} {mg : Str → Option Value} {base : Heap} {tKIND_A tKIND_B : Tok} {C_RingError C_BadRing C_BadPlace C_BadTimes C_BadCount C_Found C_Never : Addr}
/-! ### the law's own: what class was told -/
def ErrK (CR CP CT CC D : Addr) (ks : List Bool) : Prop := (D = CR ∧ ks = [true, false, false, false, true]) ∨ (D = CP ∧ ks = [false, true, false, false, true]) ∨ (D = CT ∧ ks = [false, false, true, false, true]) ∨ (D = CC ∧ ks = [false, false, false, true, true])
def spKinds (CR CP CT CC : Addr) : Addr → Value → Option Addr → Sp := fun a cls d vs H Q _ => ∃ (D : Addr) (ks : List Bool), cls = .ref D ∧ d = none ∧ ErrK CR CP CT CC D ks ∧ vs = [.ref a] ∧ RetL (ks.map V.bl) H Q
abbrev s_l_kinds : Stmt := topS 53
theorem sc_l_kinds : FnScope ["_law_error", "_law_told_here"] ["_law_error"] (defScope s_l_kinds) := ⟨rfl, rfl, rfl, by decide +kernel, rfl, by decide +kernel, by decide +kernel⟩
theorem ok_l_kinds {f : Addr} {fd : FuncData} (F : Fun K "_law_kinds" "_law_kinds" s_l_kinds f fd) (T : Txt K mg tKIND_A tKIND_B C_RingError C_BadRing C_BadPlace C_BadTimes C_BadCount C_Found C_Never)  : FnE P w K mg base 1 f fd ["_law_error"] (fun p => (spKinds C_BadRing C_BadPlace C_BadTimes C_BadCount) p.1 p.2.cls p.2.dict) := by
  have nd := sc_l_kinds.nd
  refine okE F sc_l_kinds (fun p vs H Q E h => ?_) (fun cdv A outer s H vs Q E p hot hr h => ?_)
  · obtain ⟨D, ks, _, _, _, rfl, _⟩ := h
    rfl
  · obtain ⟨D, ks, hc, hd, hk, rfl, q⟩ := h
    have hzD : Zc (.ref D) none p.2 := ⟨hc, hd⟩
    have hfD : ∃ vs, p.2.data = .fields vs := by
      obtain ⟨_, vs, hv, _⟩ := hot
      exact ⟨vs, hv⟩
    rcases hk with ⟨hD, rfl⟩ | ⟨hD, rfl⟩ | ⟨hD, rfl⟩ | ⟨hD, rfl⟩
    · have hD' := hD.symm
      subst hD'
      have exD := T.ex_BadRing
      refine ⟨_, (pss_cons (ps_set (i := 1) nd rfl (Or.inl rfl) (pe_lst (pa_cons (pe_callB (call_isP exD hzD hfD List.mem_cons_self) (by rfl) T.z_isinstance (by decide +kernel) (pa_cons (pv 0) (pa_cons (pe_glob (v := .ref C_BadRing) (by rfl) T.g_BadRing rfl) pa_nil))) (pa_cons (pe_callB (call_isP exD hzD hfD List.mem_cons_self) (by rfl) T.z_isinstance (by decide +kernel) (pa_cons (pv 0) (pa_cons (pe_glob (v := .ref C_BadPlace) (by rfl) T.g_BadPlace rfl) pa_nil))) (pa_cons (pe_callB (call_isP exD hzD hfD List.mem_cons_self) (by rfl) T.z_isinstance (by decide +kernel) (pa_cons (pv 0) (pa_cons (pe_glob (v := .ref C_BadTimes) (by rfl) T.g_BadTimes rfl) pa_nil))) pa_nil)))))
  (pss_one (ps_ret (pe_op op_cat (pv 1) (pe_lst (pa_cons (pe_callB (call_isP exD hzD hfD List.mem_cons_self) (by rfl) T.z_isinstance (by decide +kernel) (pa_cons (pv 0) (pa_cons (pe_glob (v := .ref C_BadCount) (by rfl) T.g_BadCount rfl) pa_nil))) (pa_cons (pe_callB (call_isP exD hzD hfD List.mem_cons_self) (by rfl) T.z_isinstance (by decide +kernel) (pa_cons (pv 0) (pa_cons (pe_bltn (v := .ty "ValueError") (by rfl) T.z_ValueError (by decide +kernel) rfl) pa_nil))) pa_nil))))))), ?_⟩
      refine q_asgL (xs := [true, false, false].map V.bl) (el_lst (ea_cons (ev_isE (ev_var rfl) ev_c (fun u r => r) T.is_BadRing_BadRing) (ea_cons (ev_isE (ev_var rfl) ev_c (fun u r => r) T.is_BadRing_BadPlace) (ea_cons (ev_isE (ev_var rfl) ev_c (fun u r => r) T.is_BadRing_BadTimes) ea_nil))) (by decide)) fun p1 H1 n1 e1 h1 => ?_
      exact s_retL (xs := [true, false, false].map V.bl ++ [false, true].map V.bl) (el_cat (ev_var rfl) h1 (el_lst (ea_cons (ev_isE (ev_var rfl) ev_c (fun u r => r) T.is_BadRing_BadCount) (ea_cons (ev_isE (ev_var rfl) ev_c (fun u r => r) T.is_BadRing_V) ea_nil)) (by decide)) (by decide)) fun p2 H2 n2 e2 h2 => q p2 H2 (fresh_back e1 n2) (e1.trans e2) h2
    · have hD' := hD.symm
      subst hD'
      have exD := T.ex_BadPlace
      refine ⟨_, (pss_cons (ps_set (i := 1) nd rfl (Or.inl rfl) (pe_lst (pa_cons (pe_callB (call_isP exD hzD hfD List.mem_cons_self) (by rfl) T.z_isinstance (by decide +kernel) (pa_cons (pv 0) (pa_cons (pe_glob (v := .ref C_BadRing) (by rfl) T.g_BadRing rfl) pa_nil))) (pa_cons (pe_callB (call_isP exD hzD hfD List.mem_cons_self) (by rfl) T.z_isinstance (by decide +kernel) (pa_cons (pv 0) (pa_cons (pe_glob (v := .ref C_BadPlace) (by rfl) T.g_BadPlace rfl) pa_nil))) (pa_cons (pe_callB (call_isP exD hzD hfD List.mem_cons_self) (by rfl) T.z_isinstance (by decide +kernel) (pa_cons (pv 0) (pa_cons (pe_glob (v := .ref C_BadTimes) (by rfl) T.g_BadTimes rfl) pa_nil))) pa_nil)))))
  (pss_one (ps_ret (pe_op op_cat (pv 1) (pe_lst (pa_cons (pe_callB (call_isP exD hzD hfD List.mem_cons_self) (by rfl) T.z_isinstance (by decide +kernel) (pa_cons (pv 0) (pa_cons (pe_glob (v := .ref C_BadCount) (by rfl) T.g_BadCount rfl) pa_nil))) (pa_cons (pe_callB (call_isP exD hzD hfD List.mem_cons_self) (by rfl) T.z_isinstance (by decide +kernel) (pa_cons (pv 0) (pa_cons (pe_bltn (v := .ty "ValueError") (by rfl) T.z_ValueError (by decide +kernel) rfl) pa_nil))) pa_nil))))))), ?_⟩
      refine q_asgL (xs := [false, true, false].map V.bl) (el_lst (ea_cons (ev_isE (ev_var rfl) ev_c (fun u r => r) T.is_BadPlace_BadRing) (ea_cons (ev_isE (ev_var rfl) ev_c (fun u r => r) T.is_BadPlace_BadPlace) (ea_cons (ev_isE (ev_var rfl) ev_c (fun u r => r) T.is_BadPlace_BadTimes) ea_nil))) (by decide)) fun p1 H1 n1 e1 h1 => ?_
      exact s_retL (xs := [false, true, false].map V.bl ++ [false, true].map V.bl) (el_cat (ev_var rfl) h1 (el_lst (ea_cons (ev_isE (ev_var rfl) ev_c (fun u r => r) T.is_BadPlace_BadCount) (ea_cons (ev_isE (ev_var rfl) ev_c (fun u r => r) T.is_BadPlace_V) ea_nil)) (by decide)) (by decide)) fun p2 H2 n2 e2 h2 => q p2 H2 (fresh_back e1 n2) (e1.trans e2) h2
    · have hD' := hD.symm
      subst hD'
      have exD := T.ex_BadTimes
      refine ⟨_, (pss_cons (ps_set (i := 1) nd rfl (Or.inl rfl) (pe_lst (pa_cons (pe_callB (call_isP exD hzD hfD List.mem_cons_self) (by rfl) T.z_isinstance (by decide +kernel) (pa_cons (pv 0) (pa_cons (pe_glob (v := .ref C_BadRing) (by rfl) T.g_BadRing rfl) pa_nil))) (pa_cons (pe_callB (call_isP exD hzD hfD List.mem_cons_self) (by rfl) T.z_isinstance (by decide +kernel) (pa_cons (pv 0) (pa_cons (pe_glob (v := .ref C_BadPlace) (by rfl) T.g_BadPlace rfl) pa_nil))) (pa_cons (pe_callB (call_isP exD hzD hfD List.mem_cons_self) (by rfl) T.z_isinstance (by decide +kernel) (pa_cons (pv 0) (pa_cons (pe_glob (v := .ref C_BadTimes) (by rfl) T.g_BadTimes rfl) pa_nil))) pa_nil)))))
  (pss_one (ps_ret (pe_op op_cat (pv 1) (pe_lst (pa_cons (pe_callB (call_isP exD hzD hfD List.mem_cons_self) (by rfl) T.z_isinstance (by decide +kernel) (pa_cons (pv 0) (pa_cons (pe_glob (v := .ref C_BadCount) (by rfl) T.g_BadCount rfl) pa_nil))) (pa_cons (pe_callB (call_isP exD hzD hfD List.mem_cons_self) (by rfl) T.z_isinstance (by decide +kernel) (pa_cons (pv 0) (pa_cons (pe_bltn (v := .ty "ValueError") (by rfl) T.z_ValueError (by decide +kernel) rfl) pa_nil))) pa_nil))))))), ?_⟩
      refine q_asgL (xs := [false, false, true].map V.bl) (el_lst (ea_cons (ev_isE (ev_var rfl) ev_c (fun u r => r) T.is_BadTimes_BadRing) (ea_cons (ev_isE (ev_var rfl) ev_c (fun u r => r) T.is_BadTimes_BadPlace) (ea_cons (ev_isE (ev_var rfl) ev_c (fun u r => r) T.is_BadTimes_BadTimes) ea_nil))) (by decide)) fun p1 H1 n1 e1 h1 => ?_
      exact s_retL (xs := [false, false, true].map V.bl ++ [false, true].map V.bl) (el_cat (ev_var rfl) h1 (el_lst (ea_cons (ev_isE (ev_var rfl) ev_c (fun u r => r) T.is_BadTimes_BadCount) (ea_cons (ev_isE (ev_var rfl) ev_c (fun u r => r) T.is_BadTimes_V) ea_nil)) (by decide)) (by decide)) fun p2 H2 n2 e2 h2 => q p2 H2 (fresh_back e1 n2) (e1.trans e2) h2
    · have hD' := hD.symm
      subst hD'
      have exD := T.ex_BadCount
      refine ⟨_, (pss_cons (ps_set (i := 1) nd rfl (Or.inl rfl) (pe_lst (pa_cons (pe_callB (call_isP exD hzD hfD List.mem_cons_self) (by rfl) T.z_isinstance (by decide +kernel) (pa_cons (pv 0) (pa_cons (pe_glob (v := .ref C_BadRing) (by rfl) T.g_BadRing rfl) pa_nil))) (pa_cons (pe_callB (call_isP exD hzD hfD List.mem_cons_self) (by rfl) T.z_isinstance (by decide +kernel) (pa_cons (pv 0) (pa_cons (pe_glob (v := .ref C_BadPlace) (by rfl) T.g_BadPlace rfl) pa_nil))) (pa_cons (pe_callB (call_isP exD hzD hfD List.mem_cons_self) (by rfl) T.z_isinstance (by decide +kernel) (pa_cons (pv 0) (pa_cons (pe_glob (v := .ref C_BadTimes) (by rfl) T.g_BadTimes rfl) pa_nil))) pa_nil)))))
  (pss_one (ps_ret (pe_op op_cat (pv 1) (pe_lst (pa_cons (pe_callB (call_isP exD hzD hfD List.mem_cons_self) (by rfl) T.z_isinstance (by decide +kernel) (pa_cons (pv 0) (pa_cons (pe_glob (v := .ref C_BadCount) (by rfl) T.g_BadCount rfl) pa_nil))) (pa_cons (pe_callB (call_isP exD hzD hfD List.mem_cons_self) (by rfl) T.z_isinstance (by decide +kernel) (pa_cons (pv 0) (pa_cons (pe_bltn (v := .ty "ValueError") (by rfl) T.z_ValueError (by decide +kernel) rfl) pa_nil))) pa_nil))))))), ?_⟩
      refine q_asgL (xs := [false, false, false].map V.bl) (el_lst (ea_cons (ev_isE (ev_var rfl) ev_c (fun u r => r) T.is_BadCount_BadRing) (ea_cons (ev_isE (ev_var rfl) ev_c (fun u r => r) T.is_BadCount_BadPlace) (ea_cons (ev_isE (ev_var rfl) ev_c (fun u r => r) T.is_BadCount_BadTimes) ea_nil))) (by decide)) fun p1 H1 n1 e1 h1 => ?_
      exact s_retL (xs := [false, false, false].map V.bl ++ [true, true].map V.bl) (el_cat (ev_var rfl) h1 (el_lst (ea_cons (ev_isE (ev_var rfl) ev_c (fun u r => r) T.is_BadCount_BadCount) (ea_cons (ev_isE (ev_var rfl) ev_c (fun u r => r) T.is_BadCount_V) ea_nil)) (by decide)) (by decide)) fun p2 H2 n2 e2 h2 => q p2 H2 (fresh_back e1 n2) (e1.trans e2) h2
/-- a def that may be asked -/
def Ask (P : Program) (w : World) (K : PySem.W.Frag) (mg : Str → Option Value) (base : Heap) (f : Addr) (sp : Sp) : Prop := ∃ fd ps, FnOk P w K mg base (L2N.CX P w) 14 f fd ps sp ∧ PySem.W.keepIn K (.ref f) = true ∧ Binds K fd ps []
def spTold (P : Program) (w : World) (K : PySem.W.Frag) (mg : Str → Option Value) (base : Heap) (CR CP CT CC : Addr) : Sp := fun vs H Q _ => ∃ (f : Addr) (sp : Sp) (x y : V) (D : Addr) (ks : List Bool), vs = [.ref f, x, y] ∧ Ask P w K mg base f sp ∧ SpX sp [x, y] H D ∧ ErrK CR CP CT CC D ks ∧ RetL (ks.map V.bl) H Q
theorem sv_told {H : Hp} {CR CP CT CC f D : Addr} {sp : Sp} {x y : V} {ks : List Bool} (ha : Ask P w K mg base f sp) (hs : SpX sp [x, y] H D) (hk : ErrK CR CP CT CC D ks) : SpL (spTold P w K mg base CR CP CT CC) ([.ref f, x, y] ++ []) H (ks.map V.bl) :=
  fun H1 e Q q E => ⟨f, sp, x, y, D, ks, rfl, ha, fun H2 e2 => hs H2 (e.trans e2), hk, fun p H2 hp e2 h2 => q p H2 hp e2 h2⟩
abbrev s_l_told : Stmt := topS 58
theorem sc_l_told : FnScope ["_law_ask", "_law_one", "_law_other", "_law_error"] ["_law_ask", "_law_one", "_law_other"] (defScope s_l_told) := ⟨rfl, rfl, rfl, by decide +kernel, rfl, by decide +kernel, by decide +kernel⟩
theorem ok_l_told {f : Addr} {fd : FuncData} (F : Fun K "_law_told" "_law_told" s_l_told f fd) (T : Txt K mg tKIND_A tKIND_B C_RingError C_BadRing C_BadPlace C_BadTimes C_BadCount C_Found C_Never) {f_l_kinds : Addr} {fd_l_kinds : FuncData} (G_l_kinds : FnE P w K mg base 1 f_l_kinds fd_l_kinds ["_law_error"] (fun p => (spKinds C_BadRing C_BadPlace C_BadTimes C_BadCount) p.1 p.2.cls p.2.dict)) (m_l_kinds : mg "_law_kinds" = some (.ref f_l_kinds)) (k_l_kinds : PySem.W.keepIn K (.ref f_l_kinds) = true) (b_l_kinds : Binds K fd_l_kinds ["_law_error"] []) : FnOk P w K mg base CX0 17 f fd ["_law_ask", "_law_one", "_law_other"] (spTold P w K mg base C_BadRing C_BadPlace C_BadTimes C_BadCount) := by
  have nd := sc_l_told.nd
  refine F.ok sc_l_told (fun vs H Q E h => ?_) (fun cdv A outer s H vs Q E hr h => ?_)
  · obtain ⟨f, sp, x, y, D, ks, rfl, _⟩ := h
    rfl
  · obtain ⟨f, sp, x, y, D, ks, rfl, ⟨fd, ps, FA, kA, bA⟩, hs, hk, q⟩ := h
    have hx : PySem.W.exmOne K (.ref D) (.ref C_RingError) = some true := by
      rcases hk with ⟨rfl, _⟩ | ⟨rfl, _⟩ | ⟨rfl, _⟩ | ⟨rfl, _⟩
      · exact T.xm_BadRing
      · exact T.xm_BadPlace
      · exact T.xm_BadTimes
      · exact T.xm_BadCount
    refine ⟨_, (pss_cons (L2N.ps_try_as (i := 3) (Wout := fun _ _ _ _ => False) rfl rfl nd rfl rfl ⟨rfl, by decide, Or.inl T.g_RingError⟩ takesN0 (fun W pn xe tk po => (pss_one (ps_expr (pe_callLS (i := 0) FA (hr.mono (by decide)) rfl (.inl rfl) kA bA (fun σ => L2N.passAt tk σ) (pa_cons (pv 1) (pa_cons (pv 2) pa_nil))))))
  (fun a oe cls d pn hz hf => (pss_one (ps_ret (pe_callE (spK := (spKinds C_BadRing C_BadPlace C_BadTimes C_BadCount)) G_l_kinds (L2H.roomH_of (hr.mono (by decide))) hz hf (by rfl) m_l_kinds k_l_kinds b_l_kinds (pa_cons (pv 3) pa_nil))))))
  (pss_one (ps_ret (pe_lst pa_nil)))), ?_⟩
    refine s_dropX (rz_callL (i := 0) rfl (ea_cons (ev_var rfl) (ea_cons (ev_var rfl) ea_nil)) hs) fun H1 e1 => ⟨true, hx, fun _ a na => ?_, fun z => nomatch z⟩
    exact s_retE (vs := [.ref a]) (ea_cons (ev_var rfl) ea_nil) fun H2 e2 => ⟨D, ks, rfl, rfl, hk, rfl, fun p H3 hp e3 h3 => q p H3 (fresh_back (e1.trans e2) hp) ((e1.trans e2).trans e3) h3⟩
end
section
variable {P : Program} {w : World} {K : PySem.W.Frag} {mg : Str → Option Value} {base : Heap} {tKIND_A tKIND_B : Tok} {C_RingError C_BadRing C_BadPlace C_BadTimes C_BadCount C_Found C_Never : Addr}
def spWithRing (K : PySem.W.Frag) (CR : Addr) : Sp := fun vs H Q E => ∃ (d : Int) (v : V), vs = [.int d, v] ∧ NoRing K v H ∧ ErrX CR H E
theorem sx_withR {H : Hp} {CR : Addr} {d : Int} {v : V} (h : NoRing K v H) : SpX (spWithRing K CR) [.int d, v] H CR := fun H1 e Q E hE => ⟨d, v, rfl, nr_mono _ _ _ e h, hE⟩
abbrev s_l_with_ring : Stmt := topS 54
theorem sc_l_with_ring : FnScope ["_law_door", "_law_ring_here"] ["_law_door", "_law_ring_here"] (defScope s_l_with_ring) := ⟨rfl, rfl, rfl, by decide +kernel, rfl, by decide +kernel, by decide +kernel⟩
theorem ok_l_with_ring {f : Addr} {fd : FuncData} (F : Fun K "_law_with_ring" "_law_with_ring" s_l_with_ring f fd) (T : Txt K mg tKIND_A tKIND_B C_RingError C_BadRing C_BadPlace C_BadTimes C_BadCount C_Found C_Never) {f_among : Addr} {fd_among : FuncData} (G_among : FnOk P w K mg base (L2N.CX P w) 4 f_among fd_among ["ring", "place", "many"] (spAmongX K C_BadRing C_BadPlace C_BadCount)) (m_among : mg "among" = some (.ref f_among)) (k_among : PySem.W.keepIn K (.ref f_among) = true) (b_among : Binds K fd_among ["ring", "place", "many"] []) {f_beads : Addr} {fd_beads : FuncData} (G_beads : FnOk P w K mg base (L2N.CX P w) 4 f_beads fd_beads ["ring"] (spBeadsX K C_BadRing)) (m_beads : mg "beads" = some (.ref f_beads)) (k_beads : PySem.W.keepIn K (.ref f_beads) = true) (b_beads : Binds K fd_beads ["ring"] []) {f_is_start : Addr} {fd_is_start : FuncData} (G_is_start : FnOk P w K mg base (L2N.CX P w) 4 f_is_start fd_is_start ["ring", "times", "place"] (spIsStartX K C_BadRing C_BadTimes C_BadPlace)) (m_is_start : mg "is_start" = some (.ref f_is_start)) (k_is_start : PySem.W.keepIn K (.ref f_is_start) = true) (b_is_start : Binds K fd_is_start ["ring", "times", "place"] []) {f_kind_at : Addr} {fd_kind_at : FuncData} (G_kind_at : FnOk P w K mg base (L2N.CX P w) 4 f_kind_at fd_kind_at ["ring", "place"] (spKindX K C_BadRing C_BadPlace)) (m_kind_at : mg "kind_at" = some (.ref f_kind_at)) (k_kind_at : PySem.W.keepIn K (.ref f_kind_at) = true) (b_kind_at : Binds K fd_kind_at ["ring", "place"] []) {f_sought : Addr} {fd_sought : FuncData} (G_sought : FnOk P w K mg base (L2N.CX P w) 5 f_sought fd_sought ["ring", "many", "number"] (spSoughtX K C_BadRing C_BadCount)) (m_sought : mg "sought" = some (.ref f_sought)) (k_sought : PySem.W.keepIn K (.ref f_sought) = true) (b_sought : Binds K fd_sought ["ring", "many", "number"] []) {f_start_at : Addr} {fd_start_at : FuncData} (G_start_at : FnOk P w K mg base (L2N.CX P w) 4 f_start_at fd_start_at ["ring", "times", "number"] (spStartAtX K C_BadRing C_BadTimes C_BadCount)) (m_start_at : mg "start_at" = some (.ref f_start_at)) (k_start_at : PySem.W.keepIn K (.ref f_start_at) = true) (b_start_at : Binds K fd_start_at ["ring", "times", "number"] []) {f_starts : Addr} {fd_starts : FuncData} (G_starts : FnOk P w K mg base (L2N.CX P w) 4 f_starts fd_starts ["ring", "times"] (spStartsX K C_BadRing C_BadTimes)) (m_starts : mg "starts" = some (.ref f_starts)) (k_starts : PySem.W.keepIn K (.ref f_starts) = true) (b_starts : Binds K fd_starts ["ring", "times"] []) : FnOk P w K mg base (L2N.CX P w) 6 f fd ["_law_door", "_law_ring_here"] (spWithRing K C_BadRing) := by
  have nd := sc_l_with_ring.nd
  refine okN F sc_l_with_ring (fun vs H Q E h => ?_) (fun cdv A outer s H vs Q E hr h => ?_)
  · obtain ⟨d, v, rfl, _⟩ := h
    rfl
  · obtain ⟨d, v, rfl, hv, hE⟩ := h
    refine ⟨_, (pss_cons (ps_if (pt_cmpR op_lt (pv 0) pe_int (nomark _)) (pss_one (ps_ret (pe_ifExp (pt_cmpR op_eq (pv 0) pe_int (nomark _)) (pe_callS G_beads (hr.mono (by decide)) (by rfl) m_beads k_beads b_beads (fun σ => L2N.passAt (L2N.takes_of rfl rfl rfl rfl) σ) (pa_cons (pv 1) pa_nil)) (pe_ifExp (pt_cmpR op_eq (pv 0) pe_int (nomark _)) (pe_callS G_kind_at (hr.mono (by decide)) (by rfl) m_kind_at k_kind_at b_kind_at (fun σ => L2N.passAt (L2N.takes_of rfl rfl rfl rfl) σ) (pa_cons (pv 1) (pa_cons (pe_un un_neg pe_int) pa_nil))) (pe_callS G_among (hr.mono (by decide)) (by rfl) m_among k_among b_among (fun σ => L2N.passAt (L2N.takes_of rfl rfl rfl rfl) σ) (pa_cons (pv 1) (pa_cons pe_non (pa_cons (pe_un un_neg pe_int) pa_nil)))))))) pss_nil)
  (pss_cons (ps_if (pt_cmpR op_lt (pv 0) pe_int (nomark _)) (pss_one (ps_ret (pe_ifExp (pt_cmpR op_eq (pv 0) pe_int (nomark _)) (pe_callS G_starts (hr.mono (by decide)) (by rfl) m_starts k_starts b_starts (fun σ => L2N.passAt (L2N.takes_of rfl rfl rfl rfl) σ) (pa_cons (pv 1) (pa_cons pe_int pa_nil))) (pe_ifExp (pt_cmpR op_eq (pv 0) pe_int (nomark _)) (pe_callS G_start_at (hr.mono (by decide)) (by rfl) m_start_at k_start_at b_start_at (fun σ => L2N.passAt (L2N.takes_of rfl rfl rfl rfl) σ) (pa_cons (pv 1) (pa_cons pe_non (pa_cons (pe_un un_neg pe_int) pa_nil)))) (pe_callS G_is_start (hr.mono (by decide)) (by rfl) m_is_start k_is_start b_is_start (fun σ => L2N.passAt (L2N.takes_of rfl rfl rfl rfl) σ) (pa_cons (pv 1) (pa_cons pe_int (pa_cons (pe_un un_neg pe_int) pa_nil)))))))) pss_nil)
  (pss_one (ps_ret (pe_callS G_sought (hr.mono (by decide)) (by rfl) m_sought k_sought b_sought (fun σ => L2N.passAt (L2N.takes_of rfl rfl rfl rfl) σ) (pa_cons (pv 1) (pa_cons (pe_un un_neg pe_int) (pa_cons pe_non pa_nil)))))))), ?_⟩
    refine q_when (et_test (ev_op (ev_var rfl) ev_c rv_I0)) (fun _ H1 e1 => s_retX (rz_if (et_test (ev_op (ev_var rfl) ev_c (rv_eq rfl))) (fun _ H2 e2 => rz_call (ea_cons (ev_var rfl) ea_nil) (sx_beads (nr_mono _ _ _ (e1.trans e2) hv))) fun _ H2 e2 => rz_if (et_test (ev_op (ev_var rfl) ev_c (rv_eq rfl))) (fun _ H3 e3 => rz_call (ea_cons (ev_var rfl) (ea_cons (ev_un ev_c ru_neg) ea_nil)) (sx_kindR (nr_mono _ _ _ ((e1.trans e2).trans e3) hv) sc_int)) fun _ H3 e3 => rz_call (ea_cons (ev_var rfl) (ea_cons ev_c (ea_cons (ev_un ev_c ru_neg) ea_nil))) (sx_amongR (nr_mono _ _ _ ((e1.trans e2).trans e3) hv) sc_non sc_int)) fun H4 e4 => hE H4 (e1.trans e4)) fun _ H1 e1 => ?_
    refine q_when (et_test (ev_op (ev_var rfl) ev_c rv_I0)) (fun _ H2 e2 => s_retX (rz_if (et_test (ev_op (ev_var rfl) ev_c (rv_eq rfl))) (fun _ H3 e3 => rz_call (ea_cons (ev_var rfl) (ea_cons ev_c ea_nil)) (sx_startsR (nr_mono _ _ _ ((e1.trans e2).trans e3) hv) sc_int)) fun _ H3 e3 => rz_if (et_test (ev_op (ev_var rfl) ev_c (rv_eq rfl))) (fun _ H4 e4 => rz_call (ea_cons (ev_var rfl) (ea_cons ev_c (ea_cons (ev_un ev_c ru_neg) ea_nil))) (sx_atR (nr_mono _ _ _ (((e1.trans e2).trans e3).trans e4) hv) sc_non sc_int)) fun _ H4 e4 => rz_call (ea_cons (ev_var rfl) (ea_cons ev_c (ea_cons (ev_un ev_c ru_neg) ea_nil))) (sx_isR (nr_mono _ _ _ (((e1.trans e2).trans e3).trans e4) hv) sc_int sc_int)) fun H5 e5 => hE H5 ((e1.trans e2).trans e5)) fun _ H2 e2 => ?_
    exact s_retX (rz_call (ea_cons (ev_var rfl) (ea_cons (ev_un ev_c ru_neg) (ea_cons ev_c ea_nil))) (sx_soR (nr_mono _ _ _ (e1.trans e2) hv) sc_int sc_non)) fun H3 e3 => hE H3 ((e1.trans e2).trans e3)
def spWithPlace (K : PySem.W.Frag) (CP : Addr) : Sp := fun vs H Q E => ∃ (a t : Addr) (r : Ring) (d : Int) (v : V), vs = [.ref a, .ref t] ∧ SqT K H t [.int d, v] ∧ RingAt K H a r ∧ Good r ∧ NoPlace K r v H ∧ ErrX CP H E
theorem sx_withP {H : Hp} {CP a t : Addr} {r : Ring} {d : Int} {v : V} (ht : SqT K H t [.int d, v]) (h : RingAt K H a r) (g : Good r) (hv : NoPlace K r v H) : SpX (spWithPlace K CP) [.ref a, .ref t] H CP := fun H1 e Q E hE => ⟨a, t, r, d, v, rfl, ex_t e ht, h.mono e, g, nn_mono _ _ _ e hv, hE⟩
abbrev s_l_with_place : Stmt := topS 55
theorem sc_l_with_place : FnScope ["_law_ring_here", "_law_pair", "_law_door", "_law_place"] ["_law_ring_here", "_law_pair"] (defScope s_l_with_place) := ⟨rfl, rfl, rfl, by decide +kernel, rfl, by decide +kernel, by decide +kernel⟩
theorem ok_l_with_place {f : Addr} {fd : FuncData} (F : Fun K "_law_with_place" "_law_with_place" s_l_with_place f fd) (T : Txt K mg tKIND_A tKIND_B C_RingError C_BadRing C_BadPlace C_BadTimes C_BadCount C_Found C_Never) {f_among : Addr} {fd_among : FuncData} (G_among : FnOk P w K mg base (L2N.CX P w) 4 f_among fd_among ["ring", "place", "many"] (spAmongX K C_BadRing C_BadPlace C_BadCount)) (m_among : mg "among" = some (.ref f_among)) (k_among : PySem.W.keepIn K (.ref f_among) = true) (b_among : Binds K fd_among ["ring", "place", "many"] []) {f_is_start : Addr} {fd_is_start : FuncData} (G_is_start : FnOk P w K mg base (L2N.CX P w) 4 f_is_start fd_is_start ["ring", "times", "place"] (spIsStartX K C_BadRing C_BadTimes C_BadPlace)) (m_is_start : mg "is_start" = some (.ref f_is_start)) (k_is_start : PySem.W.keepIn K (.ref f_is_start) = true) (b_is_start : Binds K fd_is_start ["ring", "times", "place"] []) {f_kind_at : Addr} {fd_kind_at : FuncData} (G_kind_at : FnOk P w K mg base (L2N.CX P w) 4 f_kind_at fd_kind_at ["ring", "place"] (spKindX K C_BadRing C_BadPlace)) (m_kind_at : mg "kind_at" = some (.ref f_kind_at)) (k_kind_at : PySem.W.keepIn K (.ref f_kind_at) = true) (b_kind_at : Binds K fd_kind_at ["ring", "place"] []) : FnOk P w K mg base (L2N.CX P w) 5 f fd ["_law_ring_here", "_law_pair"] (spWithPlace K C_BadPlace) := by
  have nd := sc_l_with_place.nd
  refine okN F sc_l_with_place (fun vs H Q E h => ?_) (fun cdv A outer s H vs Q E hr h => ?_)
  · obtain ⟨a, t, r, d, v, rfl, _⟩ := h
    rfl
  · obtain ⟨a, t, r, d, v, rfl, ht, hR, g, hv, hE⟩ := h
    refine ⟨_, (pss_cons (ps_asg (pv 1) (pg_tup rfl (pgs_cons (pg_name (i := 2) nd rfl (Or.inl rfl)) (pgs_cons (pg_name (i := 3) nd rfl (Or.inl rfl)) pgs_nil))))
  (pss_cons (ps_if (pt_cmpR op_lt (pv 2) pe_int (nomark _)) (pss_one (ps_ret (pe_ifExp (pt_cmpR op_eq (pv 2) pe_int (nomark _)) (pe_callS G_kind_at (hr.mono (by decide)) (by rfl) m_kind_at k_kind_at b_kind_at (fun σ => L2N.passAt (L2N.takes_of rfl rfl rfl rfl) σ) (pa_cons (pv 0) (pa_cons (pv 3) pa_nil))) (pe_callS G_among (hr.mono (by decide)) (by rfl) m_among k_among b_among (fun σ => L2N.passAt (L2N.takes_of rfl rfl rfl rfl) σ) (pa_cons (pv 0) (pa_cons (pv 3) (pa_cons (pe_un un_neg pe_int) pa_nil))))))) pss_nil)
  (pss_one (ps_ret (pe_callS G_is_start (hr.mono (by decide)) (by rfl) m_is_start k_is_start b_is_start (fun σ => L2N.passAt (L2N.takes_of rfl rfl rfl rfl) σ) (pa_cons (pv 0) (pa_cons pe_int (pa_cons (pv 3) pa_nil)))))))), ?_⟩
    refine q_unp (K := K) (x := .int d) (y := v) (ep_var rfl fun H1 e1 => ⟨t, rfl, ex_t e1 ht⟩) fun H1 e1 => ?_
    refine q_when (et_test (ev_op (ev_var rfl) ev_c rv_I0)) (fun _ H2 e2 => s_retX (rz_if (et_test (ev_op (ev_var rfl) ev_c (rv_eq rfl))) (fun _ H3 e3 => rz_call (ea_cons (ev_var rfl) (ea_cons (ev_var rfl) ea_nil)) (sx_kindP (hR.mono ((e1.trans e2).trans e3)) g (nn_mono _ _ _ ((e1.trans e2).trans e3) hv))) fun _ H3 e3 => rz_call (ea_cons (ev_var rfl) (ea_cons (ev_var rfl) (ea_cons (ev_un ev_c ru_neg) ea_nil))) (sx_amongP (hR.mono ((e1.trans e2).trans e3)) g (nn_mono _ _ _ ((e1.trans e2).trans e3) hv) sc_int)) fun H4 e4 => hE H4 ((e1.trans e2).trans e4)) fun _ H2 e2 => ?_
    exact s_retX (rz_call (ea_cons (ev_var rfl) (ea_cons ev_c (ea_cons (ev_var rfl) ea_nil))) (sx_isP (hR.mono (e1.trans e2)) g (by decide) (by decide) (nn_mono _ _ _ (e1.trans e2) hv))) fun H3 e3 => hE H3 ((e1.trans e2).trans e3)
def spWithTimes (K : PySem.W.Frag) (CT : Addr) : Sp := fun vs H Q E => ∃ (a t : Addr) (r : Ring) (d : Int) (v : V), vs = [.ref a, .ref t] ∧ SqT K H t [.int d, v] ∧ RingAt K H a r ∧ Good r ∧ NoTimes K v H ∧ ErrX CT H E
theorem sx_withT {H : Hp} {CT a t : Addr} {r : Ring} {d : Int} {v : V} (ht : SqT K H t [.int d, v]) (h : RingAt K H a r) (g : Good r) (hv : NoTimes K v H) : SpX (spWithTimes K CT) [.ref a, .ref t] H CT := fun H1 e Q E hE => ⟨a, t, r, d, v, rfl, ex_t e ht, h.mono e, g, nn_mono _ _ _ e hv, hE⟩
abbrev s_l_with_times : Stmt := topS 56
theorem sc_l_with_times : FnScope ["_law_ring_here", "_law_pair", "_law_door", "_law_times"] ["_law_ring_here", "_law_pair"] (defScope s_l_with_times) := ⟨rfl, rfl, rfl, by decide +kernel, rfl, by decide +kernel, by decide +kernel⟩
theorem ok_l_with_times {f : Addr} {fd : FuncData} (F : Fun K "_law_with_times" "_law_with_times" s_l_with_times f fd) (T : Txt K mg tKIND_A tKIND_B C_RingError C_BadRing C_BadPlace C_BadTimes C_BadCount C_Found C_Never) {f_is_start : Addr} {fd_is_start : FuncData} (G_is_start : FnOk P w K mg base (L2N.CX P w) 4 f_is_start fd_is_start ["ring", "times", "place"] (spIsStartX K C_BadRing C_BadTimes C_BadPlace)) (m_is_start : mg "is_start" = some (.ref f_is_start)) (k_is_start : PySem.W.keepIn K (.ref f_is_start) = true) (b_is_start : Binds K fd_is_start ["ring", "times", "place"] []) {f_start_at : Addr} {fd_start_at : FuncData} (G_start_at : FnOk P w K mg base (L2N.CX P w) 4 f_start_at fd_start_at ["ring", "times", "number"] (spStartAtX K C_BadRing C_BadTimes C_BadCount)) (m_start_at : mg "start_at" = some (.ref f_start_at)) (k_start_at : PySem.W.keepIn K (.ref f_start_at) = true) (b_start_at : Binds K fd_start_at ["ring", "times", "number"] []) {f_starts : Addr} {fd_starts : FuncData} (G_starts : FnOk P w K mg base (L2N.CX P w) 4 f_starts fd_starts ["ring", "times"] (spStartsX K C_BadRing C_BadTimes)) (m_starts : mg "starts" = some (.ref f_starts)) (k_starts : PySem.W.keepIn K (.ref f_starts) = true) (b_starts : Binds K fd_starts ["ring", "times"] []) : FnOk P w K mg base (L2N.CX P w) 5 f fd ["_law_ring_here", "_law_pair"] (spWithTimes K C_BadTimes) := by
  have nd := sc_l_with_times.nd
  refine okN F sc_l_with_times (fun vs H Q E h => ?_) (fun cdv A outer s H vs Q E hr h => ?_)
  · obtain ⟨a, t, r, d, v, rfl, _⟩ := h
    rfl
  · obtain ⟨a, t, r, d, v, rfl, ht, hR, g, hv, hE⟩ := h
    refine ⟨_, (pss_cons (ps_asg (pv 1) (pg_tup rfl (pgs_cons (pg_name (i := 2) nd rfl (Or.inl rfl)) (pgs_cons (pg_name (i := 3) nd rfl (Or.inl rfl)) pgs_nil))))
  (pss_cons (ps_if (pt_cmpR op_lt (pv 2) pe_int (nomark _)) (pss_one (ps_ret (pe_ifExp (pt_cmpR op_eq (pv 2) pe_int (nomark _)) (pe_callS G_starts (hr.mono (by decide)) (by rfl) m_starts k_starts b_starts (fun σ => L2N.passAt (L2N.takes_of rfl rfl rfl rfl) σ) (pa_cons (pv 0) (pa_cons (pv 3) pa_nil))) (pe_callS G_start_at (hr.mono (by decide)) (by rfl) m_start_at k_start_at b_start_at (fun σ => L2N.passAt (L2N.takes_of rfl rfl rfl rfl) σ) (pa_cons (pv 0) (pa_cons (pv 3) (pa_cons (pe_un un_neg pe_int) pa_nil))))))) pss_nil)
  (pss_one (ps_ret (pe_callS G_is_start (hr.mono (by decide)) (by rfl) m_is_start k_is_start b_is_start (fun σ => L2N.passAt (L2N.takes_of rfl rfl rfl rfl) σ) (pa_cons (pv 0) (pa_cons (pv 3) (pa_cons pe_non pa_nil)))))))), ?_⟩
    refine q_unp (K := K) (x := .int d) (y := v) (ep_var rfl fun H1 e1 => ⟨t, rfl, ex_t e1 ht⟩) fun H1 e1 => ?_
    refine q_when (et_test (ev_op (ev_var rfl) ev_c rv_I0)) (fun _ H2 e2 => s_retX (rz_if (et_test (ev_op (ev_var rfl) ev_c (rv_eq rfl))) (fun _ H3 e3 => rz_call (ea_cons (ev_var rfl) (ea_cons (ev_var rfl) ea_nil)) (sx_startsT (hR.mono ((e1.trans e2).trans e3)) g (nn_mono _ _ _ ((e1.trans e2).trans e3) hv))) fun _ H3 e3 => rz_call (ea_cons (ev_var rfl) (ea_cons (ev_var rfl) (ea_cons (ev_un ev_c ru_neg) ea_nil))) (sx_atT (hR.mono ((e1.trans e2).trans e3)) g (nn_mono _ _ _ ((e1.trans e2).trans e3) hv) sc_int)) fun H4 e4 => hE H4 ((e1.trans e2).trans e4)) fun _ H2 e2 => ?_
    exact s_retX (rz_call (ea_cons (ev_var rfl) (ea_cons (ev_var rfl) (ea_cons ev_c ea_nil))) (sx_isT (hR.mono (e1.trans e2)) g (nn_mono _ _ _ (e1.trans e2) hv) sc_non)) fun H3 e3 => hE H3 ((e1.trans e2).trans e3)
def CountBad (K : PySem.W.Frag) (r : Ring) (d : Int) : V → Hp → Prop := fun v H => (d = 0 ∧ NoNum K (fun n => n < 0) v H) ∨ (d = 1 ∧ NoNum K (fun k => k < 0 ∨ startsF r 1 ≤ k) v H) ∨ (d = 2 ∧ NoNum K (fun k => k < 0 ∨ sizeR r < k) v H) ∨ (d = 3 ∧ NoWhole K v H)
theorem cb_mono {r : Ring} {d : Int} : Mono (CountBad K r d) := fun v H H' e h => h.imp (fun ⟨a, b⟩ => ⟨a, nn_mono _ _ _ e b⟩) fun h => h.imp (fun ⟨a, b⟩ => ⟨a, nn_mono _ _ _ e b⟩) fun h => h.imp (fun ⟨a, b⟩ => ⟨a, nn_mono _ _ _ e b⟩) fun ⟨a, b⟩ => ⟨a, nw_mono _ _ _ e b⟩
def spWithCount (K : PySem.W.Frag) (CC : Addr) : Sp := fun vs H Q E => ∃ (a t : Addr) (r : Ring) (d : Int) (v : V), vs = [.ref a, .ref t] ∧ SqT K H t [.int d, v] ∧ RingAt K H a r ∧ Good r ∧ CountBad K r d v H ∧ ErrX CC H E
theorem sx_withC {H : Hp} {CC a t : Addr} {r : Ring} {d : Int} {v : V} (ht : SqT K H t [.int d, v]) (h : RingAt K H a r) (g : Good r) (hv : CountBad K r d v H) : SpX (spWithCount K CC) [.ref a, .ref t] H CC := fun H1 e Q E hE => ⟨a, t, r, d, v, rfl, ex_t e ht, h.mono e, g, cb_mono _ _ _ e hv, hE⟩
abbrev s_l_with_count : Stmt := topS 57
theorem sc_l_with_count : FnScope ["_law_ring_here", "_law_pair", "_law_door", "_law_number_here"] ["_law_ring_here", "_law_pair"] (defScope s_l_with_count) := ⟨rfl, rfl, rfl, by decide +kernel, rfl, by decide +kernel, by decide +kernel⟩
theorem ok_l_with_count {f : Addr} {fd : FuncData} (F : Fun K "_law_with_count" "_law_with_count" s_l_with_count f fd) (T : Txt K mg tKIND_A tKIND_B C_RingError C_BadRing C_BadPlace C_BadTimes C_BadCount C_Found C_Never) {f_among : Addr} {fd_among : FuncData} (G_among : FnOk P w K mg base (L2N.CX P w) 4 f_among fd_among ["ring", "place", "many"] (spAmongX K C_BadRing C_BadPlace C_BadCount)) (m_among : mg "among" = some (.ref f_among)) (k_among : PySem.W.keepIn K (.ref f_among) = true) (b_among : Binds K fd_among ["ring", "place", "many"] []) {f_sought : Addr} {fd_sought : FuncData} (G_sought : FnOk P w K mg base (L2N.CX P w) 5 f_sought fd_sought ["ring", "many", "number"] (spSoughtX K C_BadRing C_BadCount)) (m_sought : mg "sought" = some (.ref f_sought)) (k_sought : PySem.W.keepIn K (.ref f_sought) = true) (b_sought : Binds K fd_sought ["ring", "many", "number"] []) {f_start_at : Addr} {fd_start_at : FuncData} (G_start_at : FnOk P w K mg base (L2N.CX P w) 4 f_start_at fd_start_at ["ring", "times", "number"] (spStartAtX K C_BadRing C_BadTimes C_BadCount)) (m_start_at : mg "start_at" = some (.ref f_start_at)) (k_start_at : PySem.W.keepIn K (.ref f_start_at) = true) (b_start_at : Binds K fd_start_at ["ring", "times", "number"] []) : FnOk P w K mg base (L2N.CX P w) 6 f fd ["_law_ring_here", "_law_pair"] (spWithCount K C_BadCount) := by
  have nd := sc_l_with_count.nd
  refine okN F sc_l_with_count (fun vs H Q E h => ?_) (fun cdv A outer s H vs Q E hr h => ?_)
  · obtain ⟨a, t, r, d, v, rfl, _⟩ := h
    rfl
  · obtain ⟨a, t, r, d, v, rfl, ht, hR, g, hv, hE⟩ := h
    refine ⟨_, (pss_cons (ps_asg (pv 1) (pg_tup rfl (pgs_cons (pg_name (i := 2) nd rfl (Or.inl rfl)) (pgs_cons (pg_name (i := 3) nd rfl (Or.inl rfl)) pgs_nil))))
  (pss_cons (ps_if (pt_cmpR op_lt (pv 2) pe_int (nomark _)) (pss_one (ps_ret (pe_ifExp (pt_cmpR op_eq (pv 2) pe_int (nomark _)) (pe_callS G_among (hr.mono (by decide)) (by rfl) m_among k_among b_among (fun σ => L2N.passAt (L2N.takes_of rfl rfl rfl rfl) σ) (pa_cons (pv 0) (pa_cons pe_int (pa_cons (pv 3) pa_nil)))) (pe_callS G_start_at (hr.mono (by decide)) (by rfl) m_start_at k_start_at b_start_at (fun σ => L2N.passAt (L2N.takes_of rfl rfl rfl rfl) σ) (pa_cons (pv 0) (pa_cons pe_int (pa_cons (pv 3) pa_nil))))))) pss_nil)
  (pss_one (ps_ret (pe_ifExp (pt_cmpR op_eq (pv 2) pe_int (nomark _)) (pe_callS G_sought (hr.mono (by decide)) (by rfl) m_sought k_sought b_sought (fun σ => L2N.passAt (L2N.takes_of rfl rfl rfl rfl) σ) (pa_cons (pv 0) (pa_cons (pv 3) (pa_cons pe_int pa_nil)))) (pe_callS G_sought (hr.mono (by decide)) (by rfl) m_sought k_sought b_sought (fun σ => L2N.passAt (L2N.takes_of rfl rfl rfl rfl) σ) (pa_cons (pv 0) (pa_cons pe_int (pa_cons (pv 3) pa_nil))))))))), ?_⟩
    have hsz := g.size
    refine q_unp (K := K) (x := .int d) (y := v) (ep_var rfl fun H1 e1 => ⟨t, rfl, ex_t e1 ht⟩) fun H1 e1 => ?_
    rcases hv with ⟨rfl, hv⟩ | ⟨rfl, hv⟩ | ⟨rfl, hv⟩ | ⟨rfl, hv⟩
    · refine q_when (b := true) (et_is (et_test (ev_op (ev_var rfl) ev_c rv_I0)) rfl) (fun _ H2 e2 => s_retX (rz_if (b := true) (et_is (et_test (ev_op (ev_var rfl) ev_c (rv_eq rfl))) rfl) (fun _ H3 e3 => rz_call (ea_cons (ev_var rfl) (ea_cons ev_c (ea_cons (ev_var rfl) ea_nil))) (sx_amongC (hR.mono ((e1.trans e2).trans e3)) g (by decide) (by omega) (nn_mono _ _ _ ((e1.trans e2).trans e3) hv))) fun z => nomatch z) fun H4 e4 => hE H4 ((e1.trans e2).trans e4)) (fun z => nomatch z)
    · refine q_when (b := true) (et_is (et_test (ev_op (ev_var rfl) ev_c rv_I0)) rfl) (fun _ H2 e2 => s_retX (rz_if (b := false) (et_is (et_test (ev_op (ev_var rfl) ev_c (rv_eq rfl))) rfl) (fun z => nomatch z) fun _ H3 e3 => rz_call (ea_cons (ev_var rfl) (ea_cons ev_c (ea_cons (ev_var rfl) ea_nil))) (sx_atC (hR.mono ((e1.trans e2).trans e3)) g (by decide) (by decide) (nn_mono _ _ _ ((e1.trans e2).trans e3) hv))) fun H4 e4 => hE H4 ((e1.trans e2).trans e4)) (fun z => nomatch z)
    · refine q_when (b := false) (et_is (et_test (ev_op (ev_var rfl) ev_c rv_I0)) rfl) (fun z => nomatch z) fun _ H2 e2 => ?_
      exact s_retX (rz_if (b := true) (et_is (et_test (ev_op (ev_var rfl) ev_c (rv_eq rfl))) rfl) (fun _ H3 e3 => rz_call (ea_cons (ev_var rfl) (ea_cons (ev_var rfl) (ea_cons ev_c ea_nil))) (sx_soM (hR.mono ((e1.trans e2).trans e3)) g (nn_mono _ _ _ ((e1.trans e2).trans e3) hv) sc_int)) fun z => nomatch z) fun H4 e4 => hE H4 ((e1.trans e2).trans e4)
    · refine q_when (b := false) (et_is (et_test (ev_op (ev_var rfl) ev_c rv_I0)) rfl) (fun z => nomatch z) fun _ H2 e2 => ?_
      exact s_retX (rz_if (b := false) (et_is (et_test (ev_op (ev_var rfl) ev_c (rv_eq rfl))) rfl) (fun z => nomatch z) fun _ H3 e3 => rz_call (ea_cons (ev_var rfl) (ea_cons ev_c (ea_cons (ev_var rfl) ea_nil))) (sx_soZ (hR.mono ((e1.trans e2).trans e3)) g (by decide) (by omega) (nw_mono _ _ _ ((e1.trans e2).trans e3) hv))) fun H4 e4 => hE H4 ((e1.trans e2).trans e4)
def spAll (P : Program) (w : World) (K : PySem.W.Frag) (mg : Str → Option Value) (base : Heap) (CR CP CT CC : Addr) : Sp := fun vs H Q _ => ∃ (f a pd pt pu D : Addr) (sp : Sp) (ds : List Int) (ts : List V) (ks : List Bool), vs = [.ref f, .ref a, .ref pd, .ref pt, .ref pu] ∧ Ask P w K mg base f sp ∧
  SqL K H pd (ds.map V.int) ∧ SqL K H pt ts ∧ ts.length ≤ 1000 ∧ SqL K H pu (ks.map V.bl) ∧ ErrK CR CP CT CC D ks ∧ (∀ d ∈ ds, ∀ x ∈ ts, ∀ H1 t, Ex H H1 → SqT K H1 t [.int d, x] → SpX sp [.ref a, .ref t] H1 D) ∧ RetV (.bl true) H Q
theorem sv_all {H : Hp} {CR CP CT CC f a pd pt pu D : Addr} {sp : Sp} {ds : List Int} {ts : List V} {ks : List Bool} (ha : Ask P w K mg base f sp) (h1 : SqL K H pd (ds.map V.int)) (h2 : SqL K H pt ts) (hl : ts.length ≤ 1000) (h3 : SqL K H pu (ks.map V.bl)) (hk : ErrK CR CP CT CC D ks)
    (hs : ∀ d ∈ ds, ∀ x ∈ ts, ∀ H1 t, Ex H H1 → SqT K H1 t [.int d, x] → SpX sp [.ref a, .ref t] H1 D) : SpV (spAll P w K mg base CR CP CT CC) ([.ref f, .ref a, .ref pd, .ref pt, .ref pu] ++ []) H (.bl true) :=
  fun H1 e Q q E => ⟨f, a, pd, pt, pu, D, sp, ds, ts, ks, rfl, ha, ex_l e h1, ex_l e h2, hl, ex_l e h3, hk, fun d hd x hx H2 t e2 => hs d hd x hx H2 t (e.trans e2), q⟩
theorem all_truths (n : Nat) : ((List.range n).map fun _ => true).map V.bl = given n (fun _ => true) (fun _ => V.bl true) := by
  rw [given_all3, List.map_map]
  rfl
abbrev s_l_all : Stmt := topS 59
theorem sc_l_all : FnScope ["_law_ask", "_law_ring_here", "_law_doors", "_law_things", "_law_due", "_law_door", "_law_thing"] ["_law_ask", "_law_ring_here", "_law_doors", "_law_things", "_law_due"] (defScope s_l_all) := ⟨rfl, rfl, rfl, by decide +kernel, rfl, by decide +kernel, by decide +kernel⟩
theorem ok_l_all {f : Addr} {fd : FuncData} (F : Fun K "_law_all" "_law_all" s_l_all f fd) (T : Txt K mg tKIND_A tKIND_B C_RingError C_BadRing C_BadPlace C_BadTimes C_BadCount C_Found C_Never) {f_l_told : Addr} {fd_l_told : FuncData} (G_l_told : FnOk P w K mg base CX0 17 f_l_told fd_l_told ["_law_ask", "_law_one", "_law_other"] (spTold P w K mg base C_BadRing C_BadPlace C_BadTimes C_BadCount)) (m_l_told : mg "_law_told" = some (.ref f_l_told)) (k_l_told : PySem.W.keepIn K (.ref f_l_told) = true) (b_l_told : Binds K fd_l_told ["_law_ask", "_law_one", "_law_other"] []) : FnOk P w K mg base CX0 18 f fd ["_law_ask", "_law_ring_here", "_law_doors", "_law_things", "_law_due"] (spAll P w K mg base C_BadRing C_BadPlace C_BadTimes C_BadCount) := by
  have nd := sc_l_all.nd
  refine F.ok sc_l_all (fun vs H Q E h => ?_) (fun cdv A outer s H vs Q E hr h => ?_)
  · obtain ⟨f, a, pd, pt, pu, D, sp, ds, ts, ks, rfl, _⟩ := h
    rfl
  · obtain ⟨f, a, pd, pt, pu, D, sp, ds, ts, ks, rfl, ha, h1, h2, hl, h3, hk, hs, q⟩ := h
    refine ⟨_, (pss_cons (ps_for PassesOwn.never rfl (pi_list (pv 2)) (pg_name (i := 5) nd rfl (Or.inr rfl))
  (pss_one (ps_if (pt_not (pt_val (pe_callB (cr_all rfl) (by rfl) T.z_all (by decide +kernel) (pa_cons (pe_lc (g := (gName 6)) (own := [("_law_thing", 6)]) (by rfl) nd (pi_list (pv 3)) (blkOk_by (own := [("_law_thing", 6)]) (N := ["_law_ask", "_law_ring_here", "_law_doors", "_law_things", "_law_due", "_law_door", "_law_thing"]) (sc := defScope s_l_all) (by decide +kernel)) (fun _ _ _ _ _ => (pg_name (i := 6) nd rfl (Or.inl rfl) (.inr rfl))) (fun _ _ _ _ _ => pts_nil) (fun _ _ _ _ _ => (pe_cmpR (op_eqDK (K := K) rfl hr.units) (pe_call G_l_told (hr.mono (by decide)) (by rfl) m_l_told k_l_told b_l_told .nil pass0 (pa_cons (pv 0) (pa_cons (pv 1) (pa_cons (pe_tup (pa_cons (pv 5) (pa_cons (pv 6) pa_nil))) pa_nil)))) (pv 4) (nomark _)))) pa_nil)))) (pss_one (ps_ret pe_bl)) pss_nil)))
  (pss_one (ps_ret pe_bl))), ?_⟩
    refine q_forI (K := K) (C := fun ns => ns = ds) (ep_var (v := .ref pd) rfl fun H1 e1 => ⟨pd, ds, rfl, ex_l e1 h1, rfl⟩)
      (fun H1 ns i σ' H' => Ex H1 H' ∧ ∃ y5 : Option V, σ' = [some (.ref f), some (.ref a), some (.ref pd), some (.ref pt), some (.ref pu), y5, none])
      (fun H1 ns e1 hC => ⟨Ex.refl H1, none, rfl⟩) (fun H1 ns i σ' H' _ hp => hp.1) (fun H1 ns i d σ' H' e1 hC hd hp => ?_) (fun H1 ns σ' H' e1 hC hp => ?_)
    · subst hC
      obtain ⟨e2, y5, rfl⟩ := hp
      have hdm := List.mem_of_getElem? hd
      have e12 := e1.trans e2
      refine s_when (b := false) (et_is (a := !true) (et_not (et_B (ev_all (bs := (List.range ts.length).map fun _ => true) ?_ (all_true _)))) rfl) (fun hb => nomatch hb) fun _ H3 e3 => ⟨e2.trans e3, _, rfl⟩
      rw [all_truths]
      refine el_lcL (fun _ => true) (fun _ => V.bl true) (ev_var (v := .ref pt) rfl) (ex_l e12 h2) (by omega) (fun _ => rfl) (fun i x H4 e hx H5 _ Q q => q H5 (Ex.refl H5)) (fun i x H4 e4 hx _ => ?_)
      have hxm := List.mem_of_getElem? hx
      refine ev_eqBls (bs := ks) (el_callAP (eap_cons (ev_var rfl) (eap_cons (ev_var rfl) (eap_one (P := IsT K [.int d, x]) (ep_U (eu_tup (ea_cons (ev_var rfl) (ea_cons (ev_var rfl) ea_nil)) (by simp only [List.length_cons, List.length_nil]; decide)))))) fun vs H5 e5 hv => ?_) (fun H5 e5 => ev_var rfl) (ex_l (e12.trans e4) h3)
      obtain ⟨_, rfl, _, rfl, _, rfl, t, rfl, ht⟩ := hv
      exact sv_told ha (hs d hdm x hxm H5 t ((e12.trans e4).trans e5) ht) hk
    · obtain ⟨e2, y5, rfl⟩ := hp
      exact s_ret ev_c fun H3 e3 => q H3 ((e1.trans e2).trans e3)
end
section
variable {P : Program} {w : World} {K : PySem.W.Frag} {mg : Str → Option Value} {base : Heap} {tKIND_A tKIND_B : Tok} {C_RingError C_BadRing C_BadPlace C_BadTimes C_BadCount C_Found C_Never : Addr}
def spLaw (K : PySem.W.Frag) : Sp := fun vs H Q _ => ∃ (a : Addr) (ns : List Int), vs = [.ref a] ∧ SqL K H a (ns.map V.int) ∧ Bits ns ∧ ∀ H', Q (.bl true) H'
def dueAt (j : Nat) : List Bool := [decide ((j : Int) = 0), decide ((j : Int) = 1), decide ((j : Int) = 2), decide ((j : Int) = 3), true]
/-- the list of what is due, after so many turns -/
def DueAt (H : Hp) (pu : Addr) (i : Nat) : Prop := ∃ qs : List V, H pu = some (.lst qs) ∧ qs.length = i ∧ ∀ j, j < i → ∃ q, qs[j]? = some (.ref q) ∧ q ≠ pu ∧ H q = some (.lst ((dueAt j).map V.bl))
theorem DueAt.mono {H H' : Hp} {pu : Addr} {i : Nat} (e : Ex H H') (h : DueAt H pu i) : DueAt H' pu i := by
  obtain ⟨qs, h1, h2, h3⟩ := h
  refine ⟨qs, e _ _ h1, h2, fun j hj => ?_⟩
  obtain ⟨q, h4, h5, h6⟩ := h3 j hj
  exact ⟨q, h4, h5, e _ _ h6⟩
theorem DueAt.get {H : Hp} {pu : Addr} (h : DueAt H pu 4) {j : Nat} (hj : j < 4) : ∃ qs q, SqL K H pu qs ∧ atI qs (j : Int) = some (.ref q) ∧ SqL K H q ((dueAt j).map V.bl) := by
  obtain ⟨qs, h1, h2, h3⟩ := h
  obtain ⟨q, h4, _, h6⟩ := h3 j hj
  exact ⟨qs, q, sq_of h1, atI_nat h4, sq_of h6⟩
theorem sc_neg {σ : Sg} {H : Hp} {far : Int} {j : Nat} (h : σ[j]? = some (some (.int far))) : Ev (tOp (rI0 fun i j => .int (i - j)) (tUn (rU fun i => .int (-i)) (tC (.int 1))) (tVar j)) σ H (.int (-1 - far)) := ev_op (ev_un ev_c ru_neg) (ev_var h) rv_I0
theorem kc : ∀ b, ("c" : Str) ≠ kl b := kl_not (by decide +kernel) (by decide +kernel)
theorem kA : ∀ b, ("A" : Str) ≠ kl b := kl_not (by decide +kernel) (by decide +kernel)
theorem ke : ∀ b, ("" : Str) ≠ kl b := kl_not (by decide +kernel) (by decide +kernel)
theorem kab : ∀ b, ("ab" : Str) ≠ kl b := kl_not (by decide +kernel) (by decide +kernel)
theorem good_b1 : Good [(false, 1)] := ⟨by simp, by decide, fun x hx => by
  rw [List.mem_singleton] at hx
  subst hx
  decide, fun x hx => by
  rw [List.mem_singleton] at hx
  subst hx
  decide⟩
abbrev s_law : Stmt := topS 60
theorem sc_law : FnScope ["_law_script", "_law_far", "_law_due", "_law_k", "_law_ring_here", "_law_kept", "_law_size_here", "_law_surplus_here", "_law_bad", "_law_at", "_law_strange", "_law_door", "_law_thing"] ["_law_script"] (defScope s_law) := ⟨rfl, rfl, rfl, by decide +kernel, rfl, by decide +kernel, by decide +kernel⟩
theorem ok_law {f : Addr} {fd : FuncData} (F : Fun K "law" "law" s_law f fd) (T : Txt K mg tKIND_A tKIND_B C_RingError C_BadRing C_BadPlace C_BadTimes C_BadCount C_Found C_Never) {f_l_all : Addr} {fd_l_all : FuncData} (G_l_all : FnOk P w K mg base CX0 18 f_l_all fd_l_all ["_law_ask", "_law_ring_here", "_law_doors", "_law_things", "_law_due"] (spAll P w K mg base C_BadRing C_BadPlace C_BadTimes C_BadCount)) (m_l_all : mg "_law_all" = some (.ref f_l_all)) (k_l_all : PySem.W.keepIn K (.ref f_l_all) = true) (b_l_all : Binds K fd_l_all ["_law_ask", "_law_ring_here", "_law_doors", "_law_things", "_law_due"] []) {f_l_cell_at : Addr} {fd_l_cell_at : FuncData} (G_l_cell_at : FnOk P w K mg base CX0 1 f_l_cell_at fd_l_cell_at ["_law_script", "_law_k"] (spCell K)) (m_l_cell_at : mg "_law_cell_at" = some (.ref f_l_cell_at)) (k_l_cell_at : PySem.W.keepIn K (.ref f_l_cell_at) = true) (b_l_cell_at : Binds K fd_l_cell_at ["_law_script", "_law_k"] []) {f_l_ring : Addr} {fd_l_ring : FuncData} (G_l_ring : FnOk P w K mg base CX0 3 f_l_ring fd_l_ring ["_law_script"] (spRing K)) (m_l_ring : mg "_law_ring" = some (.ref f_l_ring)) (k_l_ring : PySem.W.keepIn K (.ref f_l_ring) = true) (b_l_ring : Binds K fd_l_ring ["_law_script"] []) {f_l_size : Addr} {fd_l_size : FuncData} (G_l_size : FnOk P w K mg base CX0 1 f_l_size fd_l_size ["_law_ring_here"] (spSize K)) (m_l_size : mg "_law_size" = some (.ref f_l_size)) (k_l_size : PySem.W.keepIn K (.ref f_l_size) = true) (b_l_size : Binds K fd_l_size ["_law_ring_here"] []) {f_l_surplus : Addr} {fd_l_surplus : FuncData} (G_l_surplus : FnOk P w K mg base CX0 1 f_l_surplus fd_l_surplus ["_law_table_here", "_law_times"] (spSurplus K)) (m_l_surplus : mg "_law_surplus" = some (.ref f_l_surplus)) (k_l_surplus : PySem.W.keepIn K (.ref f_l_surplus) = true) (b_l_surplus : Binds K fd_l_surplus ["_law_table_here", "_law_times"] []) {f_l_table : Addr} {fd_l_table : FuncData} (G_l_table : FnOk P w K mg base CX0 1 f_l_table fd_l_table ["_law_ring_here"] (spTable K)) (m_l_table : mg "_law_table" = some (.ref f_l_table)) (k_l_table : PySem.W.keepIn K (.ref f_l_table) = true) (b_l_table : Binds K fd_l_table ["_law_ring_here"] []) {f_l_told : Addr} {fd_l_told : FuncData} (G_l_told : FnOk P w K mg base CX0 17 f_l_told fd_l_told ["_law_ask", "_law_one", "_law_other"] (spTold P w K mg base C_BadRing C_BadPlace C_BadTimes C_BadCount)) (m_l_told : mg "_law_told" = some (.ref f_l_told)) (k_l_told : PySem.W.keepIn K (.ref f_l_told) = true) (b_l_told : Binds K fd_l_told ["_law_ask", "_law_one", "_law_other"] []) {f_l_with_count : Addr} {fd_l_with_count : FuncData} (G_l_with_count : FnOk P w K mg base (L2N.CX P w) 6 f_l_with_count fd_l_with_count ["_law_ring_here", "_law_pair"] (spWithCount K C_BadCount)) (m_l_with_count : mg "_law_with_count" = some (.ref f_l_with_count)) (k_l_with_count : PySem.W.keepIn K (.ref f_l_with_count) = true) (b_l_with_count : Binds K fd_l_with_count ["_law_ring_here", "_law_pair"] []) {f_l_with_place : Addr} {fd_l_with_place : FuncData} (G_l_with_place : FnOk P w K mg base (L2N.CX P w) 5 f_l_with_place fd_l_with_place ["_law_ring_here", "_law_pair"] (spWithPlace K C_BadPlace)) (m_l_with_place : mg "_law_with_place" = some (.ref f_l_with_place)) (k_l_with_place : PySem.W.keepIn K (.ref f_l_with_place) = true) (b_l_with_place : Binds K fd_l_with_place ["_law_ring_here", "_law_pair"] []) {f_l_with_ring : Addr} {fd_l_with_ring : FuncData} (G_l_with_ring : FnOk P w K mg base (L2N.CX P w) 6 f_l_with_ring fd_l_with_ring ["_law_door", "_law_ring_here"] (spWithRing K C_BadRing)) (m_l_with_ring : mg "_law_with_ring" = some (.ref f_l_with_ring)) (k_l_with_ring : PySem.W.keepIn K (.ref f_l_with_ring) = true) (b_l_with_ring : Binds K fd_l_with_ring ["_law_door", "_law_ring_here"] []) {f_l_with_times : Addr} {fd_l_with_times : FuncData} (G_l_with_times : FnOk P w K mg base (L2N.CX P w) 5 f_l_with_times fd_l_with_times ["_law_ring_here", "_law_pair"] (spWithTimes K C_BadTimes)) (m_l_with_times : mg "_law_with_times" = some (.ref f_l_with_times)) (k_l_with_times : PySem.W.keepIn K (.ref f_l_with_times) = true) (b_l_with_times : Binds K fd_l_with_times ["_law_ring_here", "_law_pair"] []) {f_among : Addr} {fd_among : FuncData} (G_among : FnOk P w K mg base (L2N.CX P w) 4 f_among fd_among ["ring", "place", "many"] (spAmongX K C_BadRing C_BadPlace C_BadCount)) (m_among : mg "among" = some (.ref f_among)) (k_among : PySem.W.keepIn K (.ref f_among) = true) (b_among : Binds K fd_among ["ring", "place", "many"] []) {f_starts : Addr} {fd_starts : FuncData} (G_starts : FnOk P w K mg base (L2N.CX P w) 4 f_starts fd_starts ["ring", "times"] (spStartsX K C_BadRing C_BadTimes)) (m_starts : mg "starts" = some (.ref f_starts)) (k_starts : PySem.W.keepIn K (.ref f_starts) = true) (b_starts : Binds K fd_starts ["ring", "times"] []) : FnOk P w K mg base CX0 19 f fd ["_law_script"] (spLaw K) := by
  have nd := sc_law.nd
  refine F.ok sc_law (fun vs H Q E h => ?_) (fun cdv A outer s H vs Q E hr h => ?_)
  · obtain ⟨a, ns, rfl, _⟩ := h
    rfl
  · obtain ⟨a, ns, rfl, hS, hB, q⟩ := h
    refine ⟨_, (pss_cons (ps_set (i := 1) nd rfl (Or.inl rfl) (pe_op op_mod (pe_call G_l_cell_at (hr.mono (by decide)) (by rfl) m_l_cell_at k_l_cell_at b_l_cell_at .nil pass0 (pa_cons (pv 0) (pa_cons pe_int pa_nil))) (pe_op op_pow pe_int pe_int)))
  (pss_cons (ps_set (i := 2) nd rfl (Or.inr rfl) (pe_lst pa_nil))
  (pss_cons (ps_for PassesOwn.never rfl (pi_range1 (by rfl) T.z_range (pa_cons pe_int pa_nil)) (pg_name (i := 3) nd rfl (Or.inl rfl))
  (pss_one (ps_expr (pe_bm PySem.F.plainAttrs_list PySem.F.slot_list_append PySem.F.type_list_append mt_append (pv 2) (pa_cons (pe_lst (pa_cons (pe_cmpR op_eq (pv 3) pe_int (nomark _)) (pa_cons (pe_cmpR op_eq (pv 3) pe_int (nomark _)) (pa_cons (pe_cmpR op_eq (pv 3) pe_int (nomark _)) (pa_cons (pe_cmpR op_eq (pv 3) pe_int (nomark _)) (pa_cons pe_bl pa_nil)))))) pa_nil)))))
  (pss_cons (ps_set (i := 4) nd rfl (Or.inl rfl) (pe_call G_l_ring (hr.mono (by decide)) (by rfl) m_l_ring k_l_ring b_l_ring .nil pass0 (pa_cons (pv 0) pa_nil)))
  (pss_cons (ps_par3 (i := 5) (j := 6) (l := 7) (by rfl) nd rfl rfl rfl (by decide) (by decide) (by decide) rfl rfl rfl (pa_cons (pe_callTy c_list (by rfl) T.z_list (by decide +kernel) (pa_cons (pv 4) pa_nil)) (pa_cons (pe_call G_l_size (hr.mono (by decide)) (by rfl) m_l_size k_l_size b_l_size .nil pass0 (pa_cons (pv 4) pa_nil)) (pa_cons (pe_callB (c_max2 rfl) (by rfl) T.z_max (by decide +kernel) (pa_cons pe_int (pa_cons (pe_call G_l_surplus (hr.mono (by decide)) (by rfl) m_l_surplus k_l_surplus b_l_surplus .nil pass0 (pa_cons (pe_call G_l_table (hr.mono (by decide)) (by rfl) m_l_table k_l_table b_l_table .nil pass0 (pa_cons (pv 4) pa_nil)) (pa_cons pe_int pa_nil))) pa_nil))) pa_nil))) (by rfl))
  (pss_cons (ps_set (i := 8) nd rfl (Or.inl rfl) (pe_lst (pa_cons pe_non (pa_cons (pe_tup pa_nil) (pa_cons (pe_tup (pa_cons (pe_tup (pa_cons pe_str (pa_cons pe_int pa_nil))) pa_nil)) (pa_cons pe_str (pa_cons pe_dnewK (pa_cons pe_int (pa_cons (pe_lst pa_nil) (pa_cons (pe_lst (pa_cons pe_non pa_nil)) (pa_cons (pe_lst (pa_cons pe_str pa_nil)) (pa_cons (pe_lst (pa_cons (pe_tup (pa_cons pe_str pa_nil)) pa_nil)) (pa_cons (pe_lst (pa_cons (pe_tup (pa_cons pe_str (pa_cons pe_int (pa_cons pe_int pa_nil)))) pa_nil)) (pa_cons (pe_lst (pa_cons (pe_lst (pa_cons pe_str (pa_cons pe_int pa_nil))) pa_nil)) (pa_cons (pe_lst (pa_cons (pe_tup (pa_cons pe_str (pa_cons pe_int pa_nil))) pa_nil)) pa_nil)))))))))))))))
  (pss_cons (ps_set (i := 8) nd rfl (Or.inl rfl) (pe_op op_cat (pv 8) (pe_lst (pa_cons (pe_lst (pa_cons (pe_tup (pa_cons pe_str (pa_cons pe_int pa_nil))) pa_nil)) (pa_cons (pe_lst (pa_cons (pe_tup (pa_cons pe_str (pa_cons pe_int pa_nil))) pa_nil)) (pa_cons (pe_lst (pa_cons (pe_tup (pa_cons pe_str (pa_cons pe_int pa_nil))) pa_nil)) (pa_cons (pe_lst (pa_cons (pe_tup (pa_cons pe_str (pa_cons pe_int pa_nil))) pa_nil)) (pa_cons (pe_lst (pa_cons (pe_tup (pa_cons pe_str (pa_cons (pe_op op_sub (pe_un un_neg pe_int) (pv 1)) pa_nil))) pa_nil)) (pa_cons (pe_lst (pa_cons (pe_tup (pa_cons pe_str (pa_cons pe_bl pa_nil))) pa_nil)) (pa_cons (pe_lst (pa_cons (pe_tup (pa_cons pe_str (pa_cons pe_str pa_nil))) pa_nil)) pa_nil))))))))))
  (pss_cons (ps_expr (pe_bm PySem.F.plainAttrs_list PySem.F.slot_list_append PySem.F.type_list_append mt_append (pv 8) (pa_cons (pe_lst (pa_cons (pe_tup (pa_cons pe_int (pa_cons pe_int pa_nil))) pa_nil)) pa_nil)))
  (pss_cons (ps_for PassesOwn.never rfl (pi_range3 (by rfl) T.z_range (pa_cons pe_int (pa_cons (pe_callB c_len (by rfl) T.z_len (by decide +kernel) (pa_cons (pv 4) pa_nil)) (pa_cons (pe_op op_add pe_int (pe_op op_fdivW (pe_callB c_len (by rfl) T.z_len (by decide +kernel) (pa_cons (pv 4) pa_nil)) pe_int)) pa_nil)))) (pg_name (i := 9) nd rfl (Or.inl rfl))
  (pss_cons (ps_set (i := 10) nd rfl (Or.inl rfl) (pe_ix ix_tup (pe_tup (pa_cons pe_non (pa_cons (pe_tup (pa_cons pe_str (pa_cons pe_int pa_nil))) (pa_cons (pe_tup (pa_cons pe_str (pa_cons pe_bl pa_nil))) (pa_cons (pe_lst (pa_cons pe_str (pa_cons pe_int pa_nil))) (pa_cons (pe_tup (pa_cons pe_str (pa_cons pe_int pa_nil))) (pa_cons (pe_tup (pa_cons pe_non (pa_cons pe_int pa_nil))) (pa_cons (pe_tup (pa_cons pe_str (pa_cons (pe_op op_sub (pe_un un_neg pe_int) (pv 1)) pa_nil))) pa_nil)))))))) (pe_op op_mod (pv 9) pe_int) (fun _ _ => rfl)))
  (pss_one (ps_expr (pe_bm PySem.F.plainAttrs_list PySem.F.slot_list_append PySem.F.type_list_append mt_append (pv 8) (pa_cons (pe_op op_cat (pe_op op_cat (pe_slice sl_list (pv 4) po_none (po_some (pv 9))) (pe_lst (pa_cons (pv 10) pa_nil))) (pe_slice sl_list (pv 4) (po_some (pe_op op_add (pv 9) pe_int)) po_none)) pa_nil))))))
  (pss_cons (ps_for PassesOwn.never rfl (pi_range1 (by rfl) T.z_range (pa_cons pe_int pa_nil)) (pg_name (i := 11) nd rfl (Or.inr rfl))
  (pss_one (ps_if (pt_not (pt_val (pe_callB (cr_all rfl) (by rfl) T.z_all (by decide +kernel) (pa_cons (pe_lc (g := (gName 12)) (own := [("_law_thing", 12)]) (by rfl) nd (pi_list (pv 8)) (blkOk_by (own := [("_law_thing", 12)]) (N := ["_law_script", "_law_far", "_law_due", "_law_k", "_law_ring_here", "_law_kept", "_law_size_here", "_law_surplus_here", "_law_bad", "_law_at", "_law_strange", "_law_door", "_law_thing"]) (sc := defScope s_law) (by decide +kernel)) (fun _ _ _ _ _ => (pg_name (i := 12) nd rfl (Or.inl rfl) (.inr rfl))) (fun _ _ _ _ _ => pts_nil) (fun _ _ _ _ _ => (pe_cmpR (op_eqDK (K := K) rfl hr.units) (pe_call G_l_told (hr.mono (by decide)) (by rfl) m_l_told k_l_told b_l_told .nil pass0 (pa_cons (pe_glob (v := .ref f_l_with_ring) (by rfl) m_l_with_ring rfl) (pa_cons (pv 11) (pa_cons (pv 12) pa_nil)))) (pe_ix (ix_listK (K := K) rfl) (pv 2) pe_int (fun _ _ => rfl)) (nomark _)))) pa_nil)))) (pss_one (ps_ret pe_bl)) pss_nil)))
  (pss_cons (ps_set (i := 10) nd rfl (Or.inl rfl) (pe_lst (pa_cons pe_non (pa_cons pe_str (pa_cons pe_bl (pa_cons pe_bl (pa_cons (pe_lst (pa_cons pe_int pa_nil)) (pa_cons (pe_tup (pa_cons pe_int pa_nil)) (pa_cons pe_dnewK (pa_cons (pe_un un_neg pe_int) (pa_cons (pe_op op_sub (pe_un un_neg pe_int) (pv 1)) pa_nil)))))))))))
  (pss_cons (ps_if (pt_not (pt_val (pe_call G_l_all (hr.mono (by decide)) (by rfl) m_l_all k_l_all b_l_all .nil pass0 (pa_cons (pe_glob (v := .ref f_l_with_place) (by rfl) m_l_with_place rfl) (pa_cons (pv 4) (pa_cons (pe_lst (pa_cons pe_int (pa_cons pe_int (pa_cons pe_int pa_nil)))) (pa_cons (pe_op op_cat (pv 10) (pe_lst (pa_cons (pv 6) (pa_cons (pe_op op_add (pv 6) (pv 1)) pa_nil)))) (pa_cons (pe_ix ix_list (pv 2) pe_int (fun _ _ => rfl)) pa_nil)))))))) (pss_one (ps_ret pe_bl)) pss_nil)
  (pss_cons (ps_if (pt_not (pt_val (pe_call G_l_all (hr.mono (by decide)) (by rfl) m_l_all k_l_all b_l_all .nil pass0 (pa_cons (pe_glob (v := .ref f_l_with_times) (by rfl) m_l_with_times rfl) (pa_cons (pv 4) (pa_cons (pe_lst (pa_cons pe_int (pa_cons pe_int (pa_cons pe_int pa_nil)))) (pa_cons (pe_op op_cat (pv 10) (pe_lst (pa_cons pe_int pa_nil))) (pa_cons (pe_ix ix_list (pv 2) pe_int (fun _ _ => rfl)) pa_nil)))))))) (pss_one (ps_ret pe_bl)) pss_nil)
  (pss_cons (ps_if (pt_not (pt_val (pe_call G_l_all (hr.mono (by decide)) (by rfl) m_l_all k_l_all b_l_all .nil pass0 (pa_cons (pe_glob (v := .ref f_l_with_count) (by rfl) m_l_with_count rfl) (pa_cons (pv 4) (pa_cons (pe_lst (pa_cons pe_int pa_nil)) (pa_cons (pv 10) (pa_cons (pe_ix ix_list (pv 2) pe_int (fun _ _ => rfl)) pa_nil)))))))) (pss_one (ps_ret pe_bl)) pss_nil)
  (pss_cons (ps_if (pt_not (pt_val (pe_call G_l_all (hr.mono (by decide)) (by rfl) m_l_all k_l_all b_l_all .nil pass0 (pa_cons (pe_glob (v := .ref f_l_with_count) (by rfl) m_l_with_count rfl) (pa_cons (pv 4) (pa_cons (pe_lst (pa_cons pe_int pa_nil)) (pa_cons (pe_op op_cat (pv 10) (pe_lst (pa_cons (pv 7) (pa_cons (pe_op op_add (pv 7) (pv 1)) pa_nil)))) (pa_cons (pe_ix ix_list (pv 2) pe_int (fun _ _ => rfl)) pa_nil)))))))) (pss_one (ps_ret pe_bl)) pss_nil)
  (pss_cons (ps_if (pt_not (pt_val (pe_call G_l_all (hr.mono (by decide)) (by rfl) m_l_all k_l_all b_l_all .nil pass0 (pa_cons (pe_glob (v := .ref f_l_with_count) (by rfl) m_l_with_count rfl) (pa_cons (pv 4) (pa_cons (pe_lst (pa_cons pe_int pa_nil)) (pa_cons (pe_op op_cat (pv 10) (pe_lst (pa_cons (pe_op op_add (pv 6) pe_int) (pa_cons (pe_op op_add (pe_op op_add (pv 6) pe_int) (pv 1)) pa_nil)))) (pa_cons (pe_ix ix_list (pv 2) pe_int (fun _ _ => rfl)) pa_nil)))))))) (pss_one (ps_ret pe_bl)) pss_nil)
  (pss_cons (ps_if (pt_not (pt_val (pe_call G_l_all (hr.mono (by decide)) (by rfl) m_l_all k_l_all b_l_all .nil pass0 (pa_cons (pe_glob (v := .ref f_l_with_count) (by rfl) m_l_with_count rfl) (pa_cons (pv 4) (pa_cons (pe_lst (pa_cons pe_int pa_nil)) (pa_cons (pe_slice sl_list (pv 10) po_none (po_some pe_int)) (pa_cons (pe_ix ix_list (pv 2) pe_int (fun _ _ => rfl)) pa_nil)))))))) (pss_one (ps_ret pe_bl)) pss_nil)
  (pss_one (ps_ret (pe_and (pe_cmpR (op_eqD hr.units) (pv 4) (pv 5) (nomark _)) (pe_and (pe_cmpR op_eq (pe_call G_among (hr.mono (by decide)) (by rfl) m_among k_among b_among .nil passN (pa_cons (pv 4) (pa_cons (pe_op op_sub (pv 6) pe_int) (pa_cons pe_int pa_nil)))) pe_int (nomark _)) (pe_one (pe_cmpR op_eq (pe_call G_starts (hr.mono (by decide)) (by rfl) m_starts k_starts b_starts .nil passN (pa_cons (pe_lst (pa_cons (pe_tup (pa_cons pe_str (pa_cons pe_int pa_nil))) pa_nil)) (pa_cons pe_int pa_nil))) pe_int (nomark _)))))))))))))))))))))))), ?_⟩
    have cp20 : CPow 10 20 := by unfold CPow; decide
    have t20 : (10 : Int) ^ (20 : Int).toNat = 100000000000000000000 := by decide
    have far0 : 0 ≤ cellF ns 0 % (10 : Int) ^ (20 : Int).toNat := Int.emod_nonneg _ (by rw [t20]; decide)
    refine q_asg (v := .int (cellF ns 0 % (10 : Int) ^ (20 : Int).toNat)) (ev_op (ev_call (ea_cons (ev_var rfl) (ea_cons ev_c ea_nil)) (sv_cell 0 hS)) (ev_op ev_c ev_c (rv_I cp20)) (rv_I (by rw [t20]; decide))) fun H1 e1 => ?_
    generalize cellF ns 0 % (10 : Int) ^ (20 : Int).toNat = far at *
    have hS1 := ex_l e1 hS
    refine q_asgL (xs := []) (el_lst ea_nil (by decide)) fun pu H2 n2 e2 h2 => ?_
    have hS2 := ex_l e2 hS1
    refine q_forR1 (n := 4) (ea_cons ev_c ea_nil) (by omega)
      (fun i σ' H' => Ex H1 H' ∧ DueAt H' pu i ∧ ∃ y3 : Option V, σ' = [some (.ref a), some (.int far), some (.ref pu), y3, none, none, none, none, none, none, none, none, none])
      (fun H3 e3 => ⟨e2.trans e3, ⟨[], e3 _ _ h2, rfl, fun j hj => absurd hj (Nat.not_lt_zero j)⟩, none, rfl⟩) (fun i σ' H' hi hp => ?_) (fun σ' H' hp => ?_)
    · obtain ⟨e3, ⟨qs, hq1, hq2, hq3⟩, y3, rfl⟩ := hp
      refine s_appL (ys := (dueAt i).map V.bl) hq1 (ev_var rfl) (el_lst (ea_cons (ev_is (ev_op (ev_var rfl) ev_c (rv_eq rfl)) (by rw [int_eq])) (ea_cons (ev_is (ev_op (ev_var rfl) ev_c (rv_eq rfl)) (by rw [int_eq])) (ea_cons (ev_is (ev_op (ev_var rfl) ev_c (rv_eq rfl)) (by rw [int_eq])) (ea_cons (ev_is (ev_op (ev_var rfl) ev_c (rv_eq rfl)) (by rw [int_eq])) (ea_cons ev_c ea_nil))))) (by rw [List.length_map]; show 5 ≤ 100000; decide)) (by omega) fun p H4 n4 e4 h4 => ?_
      have hne : p ≠ pu := fun z => by
        rw [z, hq1] at n4
        cases n4
      refine ⟨Ex.mut (e3.trans e4) n2, ⟨qs ++ [.ref p], upd_same, by rw [List.length_append, hq2]; rfl, fun j hj => ?_⟩, _, rfl⟩
      by_cases hji : j < i
      · obtain ⟨q1, h5, h6, h7⟩ := hq3 j hji
        exact ⟨q1, by rw [List.getElem?_append_left (by omega)]; exact h5, h6, by rw [upd_ne h6]; exact e4 _ _ h7⟩
      · have : j = i := by omega
        subst this
        refine ⟨p, ?_, hne, by rw [upd_ne hne]; exact h4⟩
        rw [List.getElem?_append_right (by omega), hq2, Nat.sub_self]
        rfl
    · obtain ⟨e3, hdue, y3, rfl⟩ := hp
      have hdue4 : DueAt H' pu 4 := hdue
      have hS3 := ex_l e3 hS1
      have g := ring_good ns
      refine q_asgP (P := IsRing K (ringF ns)) (ev_callP (ea_cons (ev_var rfl) ea_nil) (sv_ring hS3 hB)) fun v H4 e4 hv => ?_
      obtain ⟨pr, rfl, hR4⟩ := hv
      generalize ringF ns = r at *
      have hl : r.length ≤ 40000 := Nat.le_trans g.len (by decide)
      have hl2 := g.len
      have hsz := g.size
      have hst := g.sizeTop
      refine q_par3P (P := IsRing K r) (y := .int (sizeR r)) (z := .int (startsF r 1)) (ep_F (ef_list (ev_var rfl) hR4)) (fun H5 e5 => ev_call (ea_cons (ev_var rfl) ea_nil) (sv_size (hR4.mono e5) hl)) (fun H5 e5 => ev_is (ev_cb (ea_cons ev_c (ea_cons (ev_call1 (P := IsTab K r) (z := .int (surplus r 1)) (ev_callP (ea_cons (ev_var rfl) ea_nil) (sv_table (hR4.mono e5) hl)) (ea_cons ev_c ea_nil) fun v H6 e6 hT => sv_surplus hT g (by decide) (by decide)) ea_nil)) rc_max2) rfl) fun v H5 H6 e5 e6 hv => ?_
      obtain ⟨pk, rfl, hK5⟩ := hv
      have hR6 := hR4.mono (e5.trans e6)
      have hK6 := hK5.mono e6
      have hS6 := ex_l (e4.trans (e5.trans e6)) hS3
      have hd6 := hdue4.mono (e4.trans (e5.trans e6))
      refine nrm (σ' := [some (.ref a), some (.int far), some (.ref pu), y3, some (.ref pr), some (.ref pk), some (.int (sizeR r)), some (.int (startsF r 1)), none, none, none, none, none]) rfl ?_
      clear hR4 hK5 hS3 hS1 hS hdue hdue4 e1 e2 e3 e4 e5 e6 h2 n2
      refine q_asgA (eb_ap (R := NoRing K) (n := 13) (eb_cons nr_mono (nr_sc ev_c sc_non) (eb_cons nr_mono (nr_tup (xs := []) (eu_tup ea_nil (by decide))) (eb_cons nr_mono ((ep_tup1 (K := K) (P := fun _ _ => True) (fun _ _ _ _ _ => True.intro) ((ep_U (K := K) (eu_tup (ea_cons ev_c (ea_cons ev_c ea_nil)) (by simp only [List.length_cons, List.length_nil]; decide))).imp fun _ _ _ _ => True.intro)).imp fun v H1 _ ⟨b, x, e, h1, _⟩ => .inr (.inl ⟨b, [x], e, h1⟩)) (eb_cons nr_mono (nr_sc ev_c sc_str) (eb_cons nr_mono nr_dict (eb_cons nr_mono (nr_sc ev_c sc_int) (eb_cons nr_mono nr_empty
        (eb_cons nr_mono (nr_one (bi_sc ev_c sc_non)) (eb_cons nr_mono (nr_one (bi_sc ev_c sc_str)) (eb_cons nr_mono (nr_one (bi_tup (xs := [.str "a"]) (eu_tup (ea_cons ev_c ea_nil) (by decide)) (by decide))) (eb_cons nr_mono (nr_one (bi_tup (xs := [.str "a", .int 1, .int 1]) (eu_tup (ea_cons ev_c (ea_cons ev_c (ea_cons ev_c ea_nil))) (by decide)) (by decide))) (eb_cons nr_mono (nr_one (bi_lst (xs := [.str "a", .int 1]) (el_lst (ea_cons ev_c (ea_cons ev_c ea_nil)) (by decide)))) (eb_cons nr_mono (nr_one (bi_pair (x := .str "c") (y := .int 1) (eu_tup (ea_cons ev_c (ea_cons ev_c ea_nil)) (by decide)) (bp_letter sc_int kc))) eb_nil)))))))))))))) fun vs1 H7 e7 hv1 => ⟨by omega, fun p8 H8 n8 e8 h8 => ?_⟩
      have hR8 := hR6.mono (e7.trans e8)
      have hA8 := hv1.2.mono nr_mono e8
      have hS8 := ex_l (e7.trans e8) hS6
      have hd8 := hd6.mono (e7.trans e8)
      have hK8 := hK6.mono (e7.trans e8)
      have hlv := hv1.1
      clear hR6 hK6 hS6 hd6 e7 e8 n8
      refine q_asgC (R := NoRing K) (m := 7) nr_mono (ev_var rfl) h8 hA8 (eb_lst nr_mono (eb_cons nr_mono (nr_one (bi_pair (x := .str "A") (y := .int 1) (eu_tup (ea_cons ev_c (ea_cons ev_c ea_nil)) (by decide)) (bp_letter sc_int kA))) (eb_cons nr_mono (nr_one (bi_pair (x := .str "") (y := .int 1) (eu_tup (ea_cons ev_c (ea_cons ev_c ea_nil)) (by decide)) (bp_letter sc_int ke))) (eb_cons nr_mono (nr_one (bi_pair (x := .str "ab") (y := .int 1) (eu_tup (ea_cons ev_c (ea_cons ev_c ea_nil)) (by decide)) (bp_letter sc_int kab)))
        (eb_cons nr_mono (nr_one (bi_pair (x := .str "a") (y := .int 0) (eu_tup (ea_cons ev_c (ea_cons ev_c ea_nil)) (by decide)) (bp_small sc_str (by decide)))) (eb_cons nr_mono (nr_one (bi_pair (x := .str "b") (y := .int (-1 - far)) (eu_tup (ea_cons ev_c (ea_cons (sc_neg rfl) ea_nil)) (by simp)) (bp_small sc_str (by omega)))) (eb_cons nr_mono (nr_one (bi_pair (x := .str "a") (y := .bl true) (eu_tup (ea_cons ev_c (ea_cons ev_c ea_nil)) (by decide)) (bp_count sc_str sc_bl (fun n z => nomatch z)))) (eb_cons nr_mono (nr_one (bi_pair (x := .str "a") (y := .str "1") (eu_tup (ea_cons ev_c (ea_cons ev_c ea_nil)) (by decide)) (bp_count sc_str sc_str (fun n z => nomatch z)))) eb_nil))))))) (by decide)) (by omega) fun ws H9 e9 hlw hAw pb H10 n9 e10 h10 => ?_
      refine q_appP (P := NoH K pb) h10 (ev_var rfl) (nh_one ⟨_, h10⟩ (bh_pair (x := .int 1) (y := .int 1) ⟨_, h10⟩ (eu_tup (ea_cons ev_c (ea_cons ev_c ea_nil)) (by decide)) (bp_first sc_int sc_int (fun s z => nomatch z)))) (by omega) fun v H11 e11 hv => ?_
      have e911 := e10.trans e11
      have hR9 := hR8.mono e9
      have hS9 := ex_l e9 hS8
      have hd9 := hd8.mono e9
      have hK9 := hK8.mono e9
      have hrl : r.length < 201 := by omega
      obtain ⟨rv, hrs, hri⟩ := id hR9
      refine nrm (σ' := [some (.ref a), some (.int far), some (.ref pu), y3, some (.ref pr), some (.ref pk), some (.int (sizeR r)), some (.int (startsF r 1)), some (.ref pb), none, none, none, none]) rfl ?_
      have hlen : (rv.length : Int) = (r.length : Int) := by rw [hri.1]
      have e912 : Ex H9 (upd H11 pb (.lst (ws ++ [v]))) := Ex.mut e911 n9
      clear hA8 h8
      refine q_forR3 (n := (Builtin.Range.rangeSize 0 (r.length : Int) (1 + (r.length : Int) / 6)).toNat) (lo := 0) (hi := (r.length : Int)) (c := 1 + (r.length : Int) / 6) (ea_cons ev_c (ea_cons (ev_is (ev_len (ev_var rfl) (ex_l e912 hrs)) (by rw [hlen])) (ea_cons (ev_op ev_c (ev_op (ev_is (ev_len (ev_var rfl) (ex_l e912 hrs)) (by rw [hlen])) ev_c (rv_I ⟨by decide, by decide⟩)) rv_I0) ea_nil))) (step_rg hrl)
        (fun i σ' H' => Ex H9 H' ∧ (∃ xs, H' pb = some (.lst xs) ∧ xs.length = 21 + i ∧ ∀ u ∈ xs, NoH K pb u H') ∧ ∃ y9 y10 : Option V, σ' = [some (.ref a), some (.int far), some (.ref pu), y3, some (.ref pr), some (.ref pk), some (.int (sizeR r)), some (.int (startsF r 1)), some (.ref pb), y9, y10, none, none])
        (fun H12 e12 => ⟨e912.trans e12, ⟨ws ++ [v], e12 _ _ upd_same, by rw [List.length_append, hlw, hlv]; rfl, fun u hu => nh_mono _ _ _ e12 ?_⟩, none, none, rfl⟩) (fun i σ' H' hi hp => ?_) (fun σ' H' hp => ?_)
      · show NoRing K u (hide (upd H11 pb _) pb)
        rw [hide_upd]
        rcases List.mem_append.mp hu with hu | hu
        · exact nr_mono _ _ _ (hide_old e911 n9) (hAw u hu)
        · rw [List.mem_singleton] at hu
          subst hu
          exact hv
      · obtain ⟨e12, ⟨xs, hx1, hx2, hx3⟩, y9, y10, rfl⟩ := hp
        have hlt := step_lt hi
        have hq : There H' pb := ⟨_, hx1⟩
        have hi2 : i ≤ r.length := by
          have := Int.mul_le_mul_of_nonneg_left (show (1 : Int) ≤ 1 + (r.length : Int) / 6 by omega) (show 0 ≤ (i : Int) by omega)
          omega
        have i0 : 0 ≤ (0 : Int) + (i : Int) * (1 + (r.length : Int) / 6) := by
          have := Int.mul_nonneg (show 0 ≤ (i : Int) by omega) (show 0 ≤ 1 + (r.length : Int) / 6 by omega)
          omega
        have i1 : (0 : Int) + (i : Int) * (1 + (r.length : Int) / 6) < r.length := by omega
        generalize (0 : Int) + (i : Int) * (1 + (r.length : Int) / 6) = at_ at *
        refine q_asgP (P := BadH K pb) (ep_pick (i := at_ % 7) (eb_tup (R := BadH K pb) (n := 7) bh_mono (eb_cons bh_mono (bh_sc ev_c sc_non) (eb_cons bh_mono (bh_pair (x := .str "a") (y := .int 0) hq (eu_tup (ea_cons ev_c (ea_cons ev_c ea_nil)) (by decide)) (bp_small sc_str (by decide))) (eb_cons bh_mono (bh_pair (x := .str "b") (y := .bl false) hq (eu_tup (ea_cons ev_c (ea_cons ev_c ea_nil)) (by decide)) (bp_count sc_str sc_bl (fun n z => nomatch z)))
          (eb_cons bh_mono (bh_lst (xs := [.str "b", .int 2]) hq (el_lst (ea_cons ev_c (ea_cons ev_c ea_nil)) (by decide))) (eb_cons bh_mono (bh_pair (x := .str "") (y := .int 2) hq (eu_tup (ea_cons ev_c (ea_cons ev_c ea_nil)) (by decide)) (bp_letter sc_int ke)) (eb_cons bh_mono (bh_pair (x := .non) (y := .int 1) hq (eu_tup (ea_cons ev_c (ea_cons ev_c ea_nil)) (by decide)) (bp_first sc_non sc_int (fun s z => nomatch z))) (eb_cons bh_mono (bh_pair (x := .str "b") (y := .int (-1 - far)) hq (eu_tup (ea_cons ev_c (ea_cons (sc_neg rfl) ea_nil)) (by simp)) (bp_small sc_str (by omega))) eb_nil))))))) (by decide)) (fun H13 e13 => ev_op (ev_var rfl) ev_c (rv_I (by decide))) (by omega) (by omega) bh_mono) fun st H13 e13 hst => ?_
        have e913 := e12.trans e13
        refine s_appP (P := NoH K pb) (e13 _ _ hx1) (ev_var rfl) (nh_strange (n := at_.toNat) (hq.mono e13) (hR9.mono (hide_old e913 n9)) g.pos (by omega) (by omega) (ev_var rfl) (ev_is (ev_var rfl) (by rw [show ((at_.toNat : Nat) : Int) = at_ by omega])) (ev_is (ev_op (ev_var rfl) ev_c rv_I0) (by rw [show ((at_.toNat + 1 : Nat) : Int) = at_ + 1 by omega])) (ev_var rfl) hst) (by omega) fun u H14 e14 hu => ?_
        refine ⟨Ex.mut (e913.trans e14) n9, ⟨xs ++ [u], upd_same, by rw [List.length_append, hx2]; rfl, fun u' hu' => ?_⟩, _, _, rfl⟩
        show NoRing K u' (hide (upd H14 pb _) pb)
        rw [hide_upd]
        rcases List.mem_append.mp hu' with hu' | hu'
        · exact nh_mono _ _ _ (e13.trans e14) (hx3 u' hu')
        · rw [List.mem_singleton] at hu'
          subst hu'
          exact hu
      · obtain ⟨e12, ⟨xs, hx1, hx2, hx3⟩, y9, y10, rfl⟩ := hp
        have hbads : AllR (NoRing K) H' xs := fun u hu => nr_mono _ _ _ hide_le (hx3 u hu)
        have hlx : xs.length ≤ 1000 := by
          have := rangeSize_toNat_le 0 (r.length : Int) (1 + (r.length : Int) / 6)
          omega
        have hR12 := hR9.mono e12
        have hK12 := hK9.mono e12
        have hd12 := hd9.mono e12
        have askR : Ask P w K mg base f_l_with_ring (spWithRing K C_BadRing) := ⟨_, _, G_l_with_ring.mono (by decide), k_l_with_ring, b_l_with_ring⟩
        have askP : Ask P w K mg base f_l_with_place (spWithPlace K C_BadPlace) := ⟨_, _, G_l_with_place.mono (by decide), k_l_with_place, b_l_with_place⟩
        have askT : Ask P w K mg base f_l_with_times (spWithTimes K C_BadTimes) := ⟨_, _, G_l_with_times.mono (by decide), k_l_with_times, b_l_with_times⟩
        have askC : Ask P w K mg base f_l_with_count (spWithCount K C_BadCount) := ⟨_, _, G_l_with_count.mono (by decide), k_l_with_count, b_l_with_count⟩
        refine q_forR1 (n := 7) (ea_cons ev_c ea_nil) (by omega)
          (fun i σ'' H'' => Ex H' H'' ∧ ∃ y11 : Option V, σ'' = [some (.ref a), some (.int far), some (.ref pu), y3, some (.ref pr), some (.ref pk), some (.int (sizeR r)), some (.int (startsF r 1)), some (.ref pb), y9, y10, y11, none])
          (fun H13 e13 => ⟨e13, none, rfl⟩) (fun i σ'' H'' hi hp => ?_) (fun σ'' H'' hp => ?_)
        · obtain ⟨e13, y11, rfl⟩ := hp
          refine s_when (b := false) (et_is (a := !true) (et_not (et_B (ev_all (bs := (List.range xs.length).map fun _ => true) ?_ (all_true _)))) rfl) (fun hb => nomatch hb) fun _ H14 e14 => ⟨e13.trans e14, _, rfl⟩
          rw [all_truths]
          refine el_lcL (fun _ => true) (fun _ => V.bl true) (ev_var (v := .ref pb) rfl) (sq_of (e13 _ _ hx1)) (by omega) (fun _ => rfl) (fun i x H14 e hx H15 _ Q q => q H15 (Ex.refl H15)) (fun i x H14 e14 hx _ => ?_)
          obtain ⟨dq, q0, hs0, ha0, hq0⟩ := (hd12.mono (e13.trans e14)).get (j := 0) (by decide)
          exact ev_eqBls (bs := dueAt 0) (el_call (ea_cons ev_c (ea_cons (ev_var rfl) (ea_cons (ev_var rfl) ea_nil))) (sv_told askR (sx_withR (nr_mono _ _ _ (e13.trans e14) (hbads x (List.mem_of_getElem? hx)))) (.inl ⟨rfl, by decide⟩))) (fun H15 e15 => ev_op (ev_var rfl) ev_c (rv_ixL (ex_l e15 hs0) ha0)) hq0
        · obtain ⟨e13, y11, rfl⟩ := hp
          refine q_asgA (eap_cons ev_c (eap_cons ev_c (eap_cons ev_c (eap_cons ev_c (eap_consP nw_mono (nw_lst (K := K) (xs := [.int 0]) (el_lst (ea_cons ev_c ea_nil) (by decide))) (eap_consP nw_mono (nw_tup (K := K) (xs := [.int 0]) (eu_tup (ea_cons ev_c ea_nil) (by decide))) (eap_consP nw_mono (nw_dict (K := K)) (eap_cons (ev_un ev_c ru_neg) (eap_cons (sc_neg rfl) eap_nil))))))))) fun vs H15 e15 hv => ?_
          obtain ⟨_, rfl, _, rfl, _, rfl, _, rfl, v4, _, rfl, hw4, v5, _, rfl, hw5, v6, _, rfl, hw6, _, rfl, _, rfl, rfl⟩ := hv
          refine ⟨by simp, fun p10 H16 n16 e16 h16 => ?_⟩
          have hw4' := nw_mono _ _ _ e16 hw4
          have hw5' := nw_mono _ _ _ e16 hw5
          have hw6' := nw_mono _ _ _ e16 hw6
          have hn7 : ∀ x ∈ [V.non, .str "0", .bl true, .bl false, v4, v5, v6], NoWhole K x H16 := fun x hx => by
            simp only [List.mem_cons, List.not_mem_nil, or_false] at hx
            rcases hx with rfl | rfl | rfl | rfl | rfl | rfl | rfl
            · exact .inl rfl
            · exact .inr (.inr (.inl ⟨_, rfl⟩))
            · exact .inr (.inl ⟨_, rfl⟩)
            · exact .inr (.inl ⟨_, rfl⟩)
            · exact hw4'
            · exact hw5'
            · exact hw6'
          have hall : ∀ {C : Int → Prop}, C (-1) → C (-1 - far) → ∀ x ∈ [V.non, .str "0", .bl true, .bl false, v4, v5, v6, .int (-1), .int (-1 - far)], NoNum K C x H16 := fun {C} c1 c2 x hx => by
            have e0 : [V.non, .str "0", .bl true, .bl false, v4, v5, v6, .int (-1), .int (-1 - far)] = [V.non, .str "0", .bl true, .bl false, v4, v5, v6] ++ [.int (-1), .int (-1 - far)] := rfl
            rw [e0] at hx
            rcases List.mem_append.mp hx with hx | hx
            · exact .inl (hn7 x hx)
            · simp only [List.mem_cons, List.not_mem_nil, or_false] at hx
              rcases hx with rfl | rfl
              · exact .inr ⟨_, rfl, c1⟩
              · exact .inr ⟨_, rfl, c2⟩
          have hplus : ∀ {C : Int → Prop} {m1 m2 : Int}, C (-1) → C (-1 - far) → C m1 → C m2 → ∀ x ∈ [V.non, .str "0", .bl true, .bl false, v4, v5, v6, .int (-1), .int (-1 - far)] ++ [.int m1, .int m2], NoNum K C x H16 := fun {C m1 m2} c1 c2 c3 c4 x hx => by
            rcases List.mem_append.mp hx with hx | hx
            · exact hall c1 c2 x hx
            · simp only [List.mem_cons, List.not_mem_nil, or_false] at hx
              rcases hx with rfl | rfl
              · exact .inr ⟨_, rfl, c3⟩
              · exact .inr ⟨_, rfl, c4⟩
          have e1216 := (e13.trans e15).trans e16
          have hR16 := hR12.mono e1216
          have hK16 := hK12.mono e1216
          have hd16 := hd12.mono e1216
          refine nrm (σ' := [some (.ref a), some (.int far), some (.ref pu), y3, some (.ref pr), some (.ref pk), some (.int (sizeR r)), some (.int (startsF r 1)), some (.ref pb), y9, some (.ref p10), y11, none]) rfl ?_
          have call : ∀ {H0 : Hp} (e0 : Ex H16 H0) {te td : TE} {f D : Addr} {sp : Sp} {ds : List Int} {ts : List V} {j : Nat} (hj : j < 4) (ha : Ask P w K mg base f sp) (hk : ErrK C_BadRing C_BadPlace C_BadTimes C_BadCount D (dueAt j))
              (h1 : EvL td [some (.ref a), some (.int far), some (.ref pu), y3, some (.ref pr), some (.ref pk), some (.int (sizeR r)), some (.int (startsF r 1)), some (.ref pb), y9, some (.ref p10), y11, none] H0 (ds.map V.int))
              (h2 : EvP te [some (.ref a), some (.int far), some (.ref pu), y3, some (.ref pr), some (.ref pk), some (.int (sizeR r)), some (.int (startsF r 1)), some (.ref pb), y9, some (.ref p10), y11, none] H0 (IsL K ts)) (hl : ts.length ≤ 1000)
              (hs : ∀ d ∈ ds, ∀ x ∈ ts, ∀ H1 t, Ex H16 H1 → SqT K H1 t [.int d, x] → SpX sp [.ref pr, .ref t] H1 D),
              EvT (tNot (tB (tCall (spAll P w K mg base C_BadRing C_BadPlace C_BadTimes C_BadCount) [] E0 (tCons (tC (.ref f)) (tCons (tVar 4) (tCons td (tCons te (tCons (tOp (rIxL K) (tVar 2) (tC (.int (j : Int)))) tNil))))))))
                [some (.ref a), some (.int far), some (.ref pu), y3, some (.ref pr), some (.ref pk), some (.int (sizeR r)), some (.int (startsF r 1)), some (.ref pb), y9, some (.ref p10), y11, none] H0 false := fun {H0} e0 {te td f D sp ds ts j} hj ha hk h1 h2 hl hs => by
            obtain ⟨dq, q0, hs0, ha0, hq0⟩ := (hd16.mono e0).get hj
            refine et_is (a := !true) (et_not (et_B (ev_callAP (eap_cons ev_c (eap_cons (ev_var rfl) (eap_consP isL_mono (ep_L (K := K) h1) (eap_consP isL_mono h2 (eap_cons (ev_op (ev_var rfl) ev_c (rv_ixL hs0 ha0)) eap_nil))))) fun vs H17 e17 hv => ?_))) rfl
            obtain ⟨_, rfl, _, rfl, _, _, rfl, ⟨pd, rfl, hpd⟩, _, _, rfl, ⟨pt, rfl, hpt⟩, _, rfl, rfl⟩ := hv
            exact sv_all ha hpd hpt hl (ex_l e17 hq0) hk fun d hd x hx H18 t e18 ht => hs d hd x hx H18 t ((e0.trans e17).trans e18) ht
          have l3 : ∀ {H0 : Hp}, EvL (tLst (tCons (tC (.int 0)) (tCons (tC (.int 1)) (tCons (tC (.int 2)) tNil)))) [some (.ref a), some (.int far), some (.ref pu), y3, some (.ref pr), some (.ref pk), some (.int (sizeR r)), some (.int (startsF r 1)), some (.ref pb), y9, some (.ref p10), y11, none] H0 (([0, 1, 2] : List Int).map V.int) := fun {H0} => el_lst (ea_cons ev_c (ea_cons ev_c (ea_cons ev_c ea_nil))) (by decide)
          refine q_when (b := false) (call (Ex.refl _) (j := 1) (by decide) askP (.inr (.inl ⟨rfl, by decide⟩)) l3 (ep_L (el_cat (ev_var rfl) h16 (el_lst (ea_cons (ev_var rfl) (ea_cons (ev_op (ev_var rfl) (ev_var rfl) rv_I0) ea_nil)) (by simp)) (by simp))) (by simp) fun d hd x hx H1 t e1 ht => sx_withP ht (hR16.mono e1) g (nn_mono _ _ _ e1 (hplus (.inl (by omega)) (.inl (by omega)) (.inr (by omega)) (.inr (by omega)) x hx))) (fun z => nomatch z) fun _ H17 e17 => ?_
          refine q_when (b := false) (call e17 (j := 2) (by decide) askT (.inr (.inr (.inl ⟨rfl, by decide⟩))) l3 (ep_L (el_cat (ev_var rfl) (e17 _ _ h16) (el_lst (ea_cons ev_c ea_nil) (by simp)) (by simp))) (by simp) fun d hd x hx H1 t e1 ht => sx_withT ht (hR16.mono e1) g (nn_mono _ _ _ e1 ?_)) (fun z => nomatch z) fun _ H18 e18 => ?_
          · rcases List.mem_append.mp hx with hx | hx
            · exact hall (by omega) (by omega) x hx
            · rw [List.mem_singleton] at hx
              subst hx
              exact .inr ⟨_, rfl, by decide⟩
          have e1618 := e17.trans e18
          refine q_when (b := false) (call e1618 (j := 3) (ds := [0]) (by decide) askC (.inr (.inr (.inr ⟨rfl, by decide⟩))) (el_lst (ea_cons ev_c ea_nil) (by decide)) (ep_var rfl fun H1 e1 => ⟨p10, rfl, sq_of (e1 _ _ (e1618 _ _ h16))⟩) (by simp) fun d hd x hx H1 t e1 ht => sx_withC ht (hR16.mono e1) g (.inl ⟨List.mem_singleton.mp hd, nn_mono _ _ _ e1 (hall (by omega) (by omega) x hx)⟩)) (fun z => nomatch z) fun _ H19 e19 => ?_
          have e1619 := e1618.trans e19
          have hF0 : 0 ≤ startsF r 1 := by
            unfold startsF
            split <;> omega
          refine q_when (b := false) (call e1619 (j := 3) (ds := [1]) (by decide) askC (.inr (.inr (.inr ⟨rfl, by decide⟩))) (el_lst (ea_cons ev_c ea_nil) (by decide)) (ep_L (el_cat (ev_var rfl) (e1619 _ _ h16) (el_lst (ea_cons (ev_var rfl) (ea_cons (ev_op (ev_var rfl) (ev_var rfl) rv_I0) ea_nil)) (by simp)) (by simp))) (by simp) fun d hd x hx H1 t e1 ht => sx_withC ht (hR16.mono e1) g (.inr (.inl ⟨List.mem_singleton.mp hd, nn_mono _ _ _ e1 (hplus (.inl (by omega)) (.inl (by omega)) (.inr (by omega)) (.inr (by omega)) x hx)⟩))) (fun z => nomatch z) fun _ H20 e20 => ?_
          have e1620 := e1619.trans e20
          refine q_when (b := false) (call e1620 (j := 3) (ds := [2]) (by decide) askC (.inr (.inr (.inr ⟨rfl, by decide⟩))) (el_lst (ea_cons ev_c ea_nil) (by decide)) (ep_L (el_cat (ev_var rfl) (e1620 _ _ h16) (el_lst (ea_cons (ev_op (ev_var rfl) ev_c rv_I0) (ea_cons (ev_op (ev_op (ev_var rfl) ev_c rv_I0) (ev_var rfl) rv_I0) ea_nil)) (by simp)) (by simp))) (by simp) fun d hd x hx H1 t e1 ht => sx_withC ht (hR16.mono e1) g (.inr (.inr (.inl ⟨List.mem_singleton.mp hd, nn_mono _ _ _ e1 (hplus (.inl (by omega)) (.inl (by omega)) (.inr (by omega)) (.inr (by omega)) x hx)⟩)))) (fun z => nomatch z) fun _ H21 e21 => ?_
          have e1621 := e1620.trans e21
          refine q_when (b := false) (call e1621 (j := 3) (ds := [3]) (ts := [V.non, .str "0", .bl true, .bl false, v4, v5, v6]) (by decide) askC (.inr (.inr (.inr ⟨rfl, by decide⟩))) (el_lst (ea_cons ev_c ea_nil) (by decide)) (ep_L (el_sl (xs := [V.non, .str "0", .bl true, .bl false, v4, v5, v6, .int (-1), .int (-1 - far)]) (lo := none) (hi := some 7) (ev_var rfl) eo_none (eo_some ev_c) (sq_of (e1621 _ _ h16)))) (by simp) fun d hd x hx H1 t e1 ht => sx_withC ht (hR16.mono e1) g (.inr (.inr (.inr ⟨List.mem_singleton.mp hd, nw_mono _ _ _ e1 (hn7 x hx)⟩)))) (fun z => nomatch z) fun _ H22 e22 => ?_
          have e1622 := e1621.trans e22
          have am0 : amongF r (sizeR r - 1) 0 = 0 := by
            unfold amongF
            rw [Int.add_zero, Int.sub_self]
          have hR22 := hR16.mono e1622
          refine s_ret (v := .bl true) (ev_is (v := .bl (true && (decide (V.int (amongF r (sizeR r - 1) 0) = V.int 0) && decide (V.int (startsF [(false, 1)] 1) = V.int 0)))) (ev_andV (ev_op (ev_var (v := .ref pr) rfl) (ev_var (v := .ref pk) rfl) (rv_val fun H23 e23 Q q => ⟨_, _, dp_ring (hR22.mono e23), dp_ring ((hK16.mono e1622).mono e23), dat_shaped r, dat_shaped r, by rw [dat_refl]; exact q⟩)) fun _ => ev_andV (ev_op (ev_call (ea_cons (ev_var rfl) (ea_cons (ev_op (ev_var rfl) ev_c rv_I0) (ea_cons ev_c ea_nil))) (sx_among hR22 g (by omega) (by omega) (by decide) (by decide))) ev_c (rv_eq rfl)) fun _ => ev_op (ev_call1 (P := IsRing K [(false, 1)]) (ep_F (ef_lst (ei_cons (b := false) (n := 1) (eu_tup (ea_cons ev_c (ea_cons ev_c ea_nil)) (by simp only [List.length_cons, List.length_nil]; decide)) ei_nil) (by decide))) (ea_cons ev_c ea_nil) fun v H23 e23 hP => ?_) ev_c (rv_eq rfl)) ?_) fun H23 e23 => q H23
          · obtain ⟨p7, rfl, h7⟩ := hP
            exact sx_starts h7 good_b1 (by decide) (by decide)
          · rw [am0, show startsF [(false, 1)] 1 = 0 by decide]
            rfl
end
section
variable {P : Program} {w : World} {K : PySem.W.Frag} {mg : Str → Option Value} {base : Heap} {tKIND_A tKIND_B : Tok} {C_RingError C_BadRing C_BadPlace C_BadTimes C_BadCount C_Found C_Never : Addr}
abbrev s_spans : Stmt := topS 25
theorem sc_spans : FnScope ["ring", "many", "behind", "ahead", "at_behind", "at_ahead", "place", "found", "told", "lost", "behind_end", "won", "ahead_end", "end"] ["ring", "many"] (defScope s_spans) := ⟨rfl, rfl, rfl, by decide +kernel, rfl, by decide +kernel, by decide +kernel⟩
theorem ok_spans {f : Addr} {fd : FuncData} (F : Fun K "spans" "spans" s_spans f fd) (T : Txt K mg tKIND_A tKIND_B C_RingError C_BadRing C_BadPlace C_BadTimes C_BadCount C_Found C_Never) {f_ends : Addr} {fd_ends : FuncData} (G_ends : FnOk P w K mg base CX0 1 f_ends fd_ends ["stretches"] spNo) (m_ends : mg "ends" = some (.ref f_ends)) (k_ends : PySem.W.keepIn K (.ref f_ends) = true) (b_ends : Binds K fd_ends ["stretches"] []) {f_from_first : Addr} {fd_from_first : FuncData} (G_from_first : FnOk P w K mg base CX0 2 f_from_first fd_from_first ["ring", "many"] (spFirst K)) (m_from_first : mg "from_first" = some (.ref f_from_first)) (k_from_first : PySem.W.keepIn K (.ref f_from_first) = true) (b_from_first : Binds K fd_from_first ["ring", "many"] []) {f_size : Addr} {fd_size : FuncData} (G_size : FnOk P w K mg base CX0 1 f_size fd_size ["ring"] (spSize K)) (m_size : mg "size" = some (.ref f_size)) (k_size : PySem.W.keepIn K (.ref f_size) = true) (b_size : Binds K fd_size ["ring"] []) {f_turned : Addr} {fd_turned : FuncData} (G_turned : FnOk P w K mg base CX0 1 f_turned fd_turned ["ring", "place"] spNo) (m_turned : mg "turned" = some (.ref f_turned)) (k_turned : PySem.W.keepIn K (.ref f_turned) = true) (b_turned : Binds K fd_turned ["ring", "place"] []) : FnOk P w K mg base CX0 3 f fd ["ring", "many"] spNo := by
  have nd := sc_spans.nd
  exact F.ok sc_spans (fun vs H Q E h => False.elim h) (fun cdv A outer s H vs Q E hr h => False.elim h)
abbrev s_least_and_most : Stmt := topS 26
theorem sc_least_and_most : FnScope ["ring", "many", "beginnings", "_", "found"] ["ring", "many"] (defScope s_least_and_most) := ⟨rfl, rfl, rfl, by decide +kernel, rfl, by decide +kernel, by decide +kernel⟩
theorem ok_least_and_most {f : Addr} {fd : FuncData} (F : Fun K "least_and_most" "least_and_most" s_least_and_most f fd) (T : Txt K mg tKIND_A tKIND_B C_RingError C_BadRing C_BadPlace C_BadTimes C_BadCount C_Found C_Never) {f_spans : Addr} {fd_spans : FuncData} (G_spans : FnOk P w K mg base CX0 3 f_spans fd_spans ["ring", "many"] spNo) (m_spans : mg "spans" = some (.ref f_spans)) (k_spans : PySem.W.keepIn K (.ref f_spans) = true) (b_spans : Binds K fd_spans ["ring", "many"] []) : FnOk P w K mg base CX0 4 f fd ["ring", "many"] spNo := by
  have nd := sc_least_and_most.nd
  exact F.ok sc_least_and_most (fun vs H Q E h => False.elim h) (fun cdv A outer s H vs Q E hr h => False.elim h)
abbrev s_turned : Stmt := topS 27
theorem sc_turned : FnScope ["ring", "place", "before", "after", "left", "kind", "length", "here"] ["ring", "place"] (defScope s_turned) := ⟨rfl, rfl, rfl, by decide +kernel, rfl, by decide +kernel, by decide +kernel⟩
theorem ok_turned {f : Addr} {fd : FuncData} (F : Fun K "turned" "turned" s_turned f fd) (T : Txt K mg tKIND_A tKIND_B C_RingError C_BadRing C_BadPlace C_BadTimes C_BadCount C_Found C_Never)  : FnOk P w K mg base CX0 1 f fd ["ring", "place"] spNo := by
  have nd := sc_turned.nd
  exact F.ok sc_turned (fun vs H Q E h => False.elim h) (fun cdv A outer s H vs Q E hr h => False.elim h)
abbrev s_ends : Stmt := topS 28
theorem sc_ends : FnScope ["stretches", "told", "end", "kind", "length"] ["stretches"] (defScope s_ends) := ⟨rfl, rfl, rfl, by decide +kernel, rfl, by decide +kernel, by decide +kernel⟩
theorem ok_ends {f : Addr} {fd : FuncData} (F : Fun K "ends" "ends" s_ends f fd) (T : Txt K mg tKIND_A tKIND_B C_RingError C_BadRing C_BadPlace C_BadTimes C_BadCount C_Found C_Never)  : FnOk P w K mg base CX0 1 f fd ["stretches"] spNo := by
  have nd := sc_ends.nd
  exact F.ok sc_ends (fun vs H Q E h => False.elim h) (fun cdv A outer s H vs Q E hr h => False.elim h)
abbrev s_Found___init__ : Stmt := inClass (topS 31) 0
theorem sc_Found___init__ : FnScope ["self", "place"] ["self", "place"] (defScope s_Found___init__) := ⟨rfl, rfl, rfl, by decide +kernel, rfl, by decide +kernel, by decide +kernel⟩
theorem ok_Found___init__ {f : Addr} {fd : FuncData} (F : Fun K "__init__" "Found.__init__" s_Found___init__ f fd) (T : Txt K mg tKIND_A tKIND_B C_RingError C_BadRing C_BadPlace C_BadTimes C_BadCount C_Found C_Never)  : FnOk P w K mg base CX0 1 f fd ["self", "place"] spNo := by
  have nd := sc_Found___init__.nd
  exact F.ok sc_Found___init__ (fun vs H Q E h => False.elim h) (fun cdv A outer s H vs Q E hr h => False.elim h)
abbrev s_Never___init__ : Stmt := inClass (topS 32) 0
theorem sc_Never___init__ : FnScope ["self", "least", "most"] ["self", "least", "most"] (defScope s_Never___init__) := ⟨rfl, rfl, rfl, by decide +kernel, rfl, by decide +kernel, by decide +kernel⟩
theorem ok_Never___init__ {f : Addr} {fd : FuncData} (F : Fun K "__init__" "Never.__init__" s_Never___init__ f fd) (T : Txt K mg tKIND_A tKIND_B C_RingError C_BadRing C_BadPlace C_BadTimes C_BadCount C_Found C_Never)  : FnOk P w K mg base CX0 1 f fd ["self", "least", "most"] spNo := by
  have nd := sc_Never___init__.nd
  exact F.ok sc_Never___init__ (fun vs H Q E h => False.elim h) (fun cdv A outer s H vs Q E hr h => False.elim h)
abbrev s_runs_of_starts : Stmt := topS 41
theorem sc_runs_of_starts : FnScope ["ring", "times", "beginnings", "rise", "height", "lowest", "runs", "at", "first", "_"] ["ring", "times"] (defScope s_runs_of_starts) := ⟨rfl, rfl, rfl, by decide +kernel, rfl, by decide +kernel, by decide +kernel⟩
theorem ok_runs_of_starts {f : Addr} {fd : FuncData} (F : Fun K "runs_of_starts" "runs_of_starts" s_runs_of_starts f fd) (T : Txt K mg tKIND_A tKIND_B C_RingError C_BadRing C_BadPlace C_BadTimes C_BadCount C_Found C_Never) {f_heights : Addr} {fd_heights : FuncData} (G_heights : FnOk P w K mg base CX0 1 f_heights fd_heights ["ring", "times"] spNo) (m_heights : mg "heights" = some (.ref f_heights)) (k_heights : PySem.W.keepIn K (.ref f_heights) = true) (b_heights : Binds K fd_heights ["ring", "times"] []) : FnOk P w K mg base CX0 2 f fd ["ring", "times"] spNo := by
  have nd := sc_runs_of_starts.nd
  exact F.ok sc_runs_of_starts (fun vs H Q E h => False.elim h) (fun cdv A outer s H vs Q E hr h => False.elim h)
abbrev s_heights : Stmt := topS 42
theorem sc_heights : FnScope ["ring", "times", "place", "height", "beginnings", "kind", "length"] ["ring", "times"] (defScope s_heights) := ⟨rfl, rfl, rfl, by decide +kernel, rfl, by decide +kernel, by decide +kernel⟩
theorem ok_heights {f : Addr} {fd : FuncData} (F : Fun K "heights" "heights" s_heights f fd) (T : Txt K mg tKIND_A tKIND_B C_RingError C_BadRing C_BadPlace C_BadTimes C_BadCount C_Found C_Never)  : FnOk P w K mg base CX0 1 f fd ["ring", "times"] spNo := by
  have nd := sc_heights.nd
  exact F.ok sc_heights (fun vs H Q E h => False.elim h) (fun cdv A outer s H vs Q E hr h => False.elim h)
end
theorem all_mk {l : PySem.W.OpenLaw} {w : World} {K : PySem.W.Frag} {h : Heap} {mg : Str → Option Value} {fa : Addr} {tKIND_A tKIND_B : Tok} {C_RingError C_BadRing C_BadPlace C_BadTimes C_BadCount C_Found C_Never : Addr} (X : K.In h) (G : h.Ns mainGlobals mg) (hfa : mg "law" = some (.ref fa))
    (aC_RingError : PySem.W.nsIn K mainGlobals "RingError" = some (some (.ref C_RingError)))
    (aC_BadRing : PySem.W.nsIn K mainGlobals "BadRing" = some (some (.ref C_BadRing)))
    (aC_BadPlace : PySem.W.nsIn K mainGlobals "BadPlace" = some (some (.ref C_BadPlace)))
    (aC_BadTimes : PySem.W.nsIn K mainGlobals "BadTimes" = some (some (.ref C_BadTimes)))
    (aC_BadCount : PySem.W.nsIn K mainGlobals "BadCount" = some (some (.ref C_BadCount)))
    (aC_Found : PySem.W.nsIn K mainGlobals "Found" = some (some (.ref C_Found)))
    (aC_Never : PySem.W.nsIn K mainGlobals "Never" = some (some (.ref C_Never)))
    {f_beads : Addr} {od_beads an_beads : Option Addr} {sl_beads : Array (Option Value)} {oc_beads kV_beads dc_beads pm_beads cd_beads ct_beads : Value}
    (a_beads : PySem.W.nsIn K mainGlobals "beads" = some (some (.ref f_beads)))
    (l_beads : K.lookup f_beads = some ⟨oc_beads, od_beads, .func (PySem.W.fnOf "beads" "beads" (defArgs s_beads) (defBody s_beads) (defScope s_beads) .none kV_beads dc_beads pm_beads an_beads cd_beads ct_beads), sl_beads⟩) (c_beads : PySem.W.codeIn K cd_beads "beads" = true) (k_beads : PySem.W.keepIn K (.ref f_beads) = true)
    {f_kind_at : Addr} {od_kind_at an_kind_at : Option Addr} {sl_kind_at : Array (Option Value)} {oc_kind_at kV_kind_at dc_kind_at pm_kind_at cd_kind_at ct_kind_at : Value}
    (a_kind_at : PySem.W.nsIn K mainGlobals "kind_at" = some (some (.ref f_kind_at)))
    (l_kind_at : K.lookup f_kind_at = some ⟨oc_kind_at, od_kind_at, .func (PySem.W.fnOf "kind_at" "kind_at" (defArgs s_kind_at) (defBody s_kind_at) (defScope s_kind_at) .none kV_kind_at dc_kind_at pm_kind_at an_kind_at cd_kind_at ct_kind_at), sl_kind_at⟩) (c_kind_at : PySem.W.codeIn K cd_kind_at "kind_at" = true) (k_kind_at : PySem.W.keepIn K (.ref f_kind_at) = true)
    {f_among : Addr} {od_among an_among : Option Addr} {sl_among : Array (Option Value)} {oc_among kV_among dc_among pm_among cd_among ct_among : Value}
    (a_among : PySem.W.nsIn K mainGlobals "among" = some (some (.ref f_among)))
    (l_among : K.lookup f_among = some ⟨oc_among, od_among, .func (PySem.W.fnOf "among" "among" (defArgs s_among) (defBody s_among) (defScope s_among) .none kV_among dc_among pm_among an_among cd_among ct_among), sl_among⟩) (c_among : PySem.W.codeIn K cd_among "among" = true) (k_among : PySem.W.keepIn K (.ref f_among) = true)
    {f_inside : Addr} {od_inside an_inside : Option Addr} {sl_inside : Array (Option Value)} {oc_inside kV_inside dc_inside pm_inside cd_inside ct_inside : Value}
    (a_inside : PySem.W.nsIn K mainGlobals "inside" = some (some (.ref f_inside)))
    (l_inside : K.lookup f_inside = some ⟨oc_inside, od_inside, .func (PySem.W.fnOf "inside" "inside" (defArgs s_inside) (defBody s_inside) (defScope s_inside) .none kV_inside dc_inside pm_inside an_inside cd_inside ct_inside), sl_inside⟩) (c_inside : PySem.W.codeIn K cd_inside "inside" = true) (k_inside : PySem.W.keepIn K (.ref f_inside) = true)
    {f_from_first : Addr} {od_from_first an_from_first : Option Addr} {sl_from_first : Array (Option Value)} {oc_from_first kV_from_first dc_from_first pm_from_first cd_from_first ct_from_first : Value}
    (a_from_first : PySem.W.nsIn K mainGlobals "from_first" = some (some (.ref f_from_first)))
    (l_from_first : K.lookup f_from_first = some ⟨oc_from_first, od_from_first, .func (PySem.W.fnOf "from_first" "from_first" (defArgs s_from_first) (defBody s_from_first) (defScope s_from_first) .none kV_from_first dc_from_first pm_from_first an_from_first cd_from_first ct_from_first), sl_from_first⟩) (c_from_first : PySem.W.codeIn K cd_from_first "from_first" = true) (k_from_first : PySem.W.keepIn K (.ref f_from_first) = true)
    {f_many_of : Addr} {od_many_of an_many_of : Option Addr} {sl_many_of : Array (Option Value)} {oc_many_of kV_many_of dc_many_of pm_many_of cd_many_of ct_many_of : Value}
    (a_many_of : PySem.W.nsIn K mainGlobals "many_of" = some (some (.ref f_many_of)))
    (l_many_of : K.lookup f_many_of = some ⟨oc_many_of, od_many_of, .func (PySem.W.fnOf "many_of" "many_of" (defArgs s_many_of) (defBody s_many_of) (defScope s_many_of) .none kV_many_of dc_many_of pm_many_of an_many_of cd_many_of ct_many_of), sl_many_of⟩) (c_many_of : PySem.W.codeIn K cd_many_of "many_of" = true) (k_many_of : PySem.W.keepIn K (.ref f_many_of) = true)
    {f_size : Addr} {od_size an_size : Option Addr} {sl_size : Array (Option Value)} {oc_size kV_size dc_size pm_size cd_size ct_size : Value}
    (a_size : PySem.W.nsIn K mainGlobals "size" = some (some (.ref f_size)))
    (l_size : K.lookup f_size = some ⟨oc_size, od_size, .func (PySem.W.fnOf "size" "size" (defArgs s_size) (defBody s_size) (defScope s_size) .none kV_size dc_size pm_size an_size cd_size ct_size), sl_size⟩) (c_size : PySem.W.codeIn K cd_size "size" = true) (k_size : PySem.W.keepIn K (.ref f_size) = true)
    {f_check_ring : Addr} {od_check_ring an_check_ring : Option Addr} {sl_check_ring : Array (Option Value)} {oc_check_ring kV_check_ring dc_check_ring pm_check_ring cd_check_ring ct_check_ring : Value}
    (a_check_ring : PySem.W.nsIn K mainGlobals "check_ring" = some (some (.ref f_check_ring)))
    (l_check_ring : K.lookup f_check_ring = some ⟨oc_check_ring, od_check_ring, .func (PySem.W.fnOf "check_ring" "check_ring" (defArgs s_check_ring) (defBody s_check_ring) (defScope s_check_ring) .none kV_check_ring dc_check_ring pm_check_ring an_check_ring cd_check_ring ct_check_ring), sl_check_ring⟩) (c_check_ring : PySem.W.codeIn K cd_check_ring "check_ring" = true) (k_check_ring : PySem.W.keepIn K (.ref f_check_ring) = true)
    {f_check_place : Addr} {od_check_place an_check_place : Option Addr} {sl_check_place : Array (Option Value)} {oc_check_place kV_check_place dc_check_place pm_check_place cd_check_place ct_check_place : Value}
    (a_check_place : PySem.W.nsIn K mainGlobals "check_place" = some (some (.ref f_check_place)))
    (l_check_place : K.lookup f_check_place = some ⟨oc_check_place, od_check_place, .func (PySem.W.fnOf "check_place" "check_place" (defArgs s_check_place) (defBody s_check_place) (defScope s_check_place) .none kV_check_place dc_check_place pm_check_place an_check_place cd_check_place ct_check_place), sl_check_place⟩) (c_check_place : PySem.W.codeIn K cd_check_place "check_place" = true) (k_check_place : PySem.W.keepIn K (.ref f_check_place) = true)
    {f_check_many : Addr} {od_check_many an_check_many : Option Addr} {sl_check_many : Array (Option Value)} {oc_check_many kV_check_many dc_check_many pm_check_many cd_check_many ct_check_many : Value}
    (a_check_many : PySem.W.nsIn K mainGlobals "check_many" = some (some (.ref f_check_many)))
    (l_check_many : K.lookup f_check_many = some ⟨oc_check_many, od_check_many, .func (PySem.W.fnOf "check_many" "check_many" (defArgs s_check_many) (defBody s_check_many) (defScope s_check_many) .none kV_check_many dc_check_many pm_check_many an_check_many cd_check_many ct_check_many), sl_check_many⟩) (c_check_many : PySem.W.codeIn K cd_check_many "check_many" = true) (k_check_many : PySem.W.keepIn K (.ref f_check_many) = true)
    {f_is_place : Addr} {od_is_place an_is_place : Option Addr} {sl_is_place : Array (Option Value)} {oc_is_place kV_is_place dc_is_place pm_is_place cd_is_place ct_is_place : Value}
    (a_is_place : PySem.W.nsIn K mainGlobals "is_place" = some (some (.ref f_is_place)))
    (l_is_place : K.lookup f_is_place = some ⟨oc_is_place, od_is_place, .func (PySem.W.fnOf "is_place" "is_place" (defArgs s_is_place) (defBody s_is_place) (defScope s_is_place) .none kV_is_place dc_is_place pm_is_place an_is_place cd_is_place ct_is_place), sl_is_place⟩) (c_is_place : PySem.W.codeIn K cd_is_place "is_place" = true) (k_is_place : PySem.W.keepIn K (.ref f_is_place) = true)
    {f_is_stretch : Addr} {od_is_stretch an_is_stretch : Option Addr} {sl_is_stretch : Array (Option Value)} {oc_is_stretch kV_is_stretch dc_is_stretch pm_is_stretch cd_is_stretch ct_is_stretch : Value}
    (a_is_stretch : PySem.W.nsIn K mainGlobals "is_stretch" = some (some (.ref f_is_stretch)))
    (l_is_stretch : K.lookup f_is_stretch = some ⟨oc_is_stretch, od_is_stretch, .func (PySem.W.fnOf "is_stretch" "is_stretch" (defArgs s_is_stretch) (defBody s_is_stretch) (defScope s_is_stretch) .none kV_is_stretch dc_is_stretch pm_is_stretch an_is_stretch cd_is_stretch ct_is_stretch), sl_is_stretch⟩) (c_is_stretch : PySem.W.codeIn K cd_is_stretch "is_stretch" = true) (k_is_stretch : PySem.W.keepIn K (.ref f_is_stretch) = true)
    {f_is_letter : Addr} {od_is_letter an_is_letter : Option Addr} {sl_is_letter : Array (Option Value)} {oc_is_letter kV_is_letter dc_is_letter pm_is_letter cd_is_letter ct_is_letter : Value}
    (a_is_letter : PySem.W.nsIn K mainGlobals "is_letter" = some (some (.ref f_is_letter)))
    (l_is_letter : K.lookup f_is_letter = some ⟨oc_is_letter, od_is_letter, .func (PySem.W.fnOf "is_letter" "is_letter" (defArgs s_is_letter) (defBody s_is_letter) (defScope s_is_letter) .none kV_is_letter dc_is_letter pm_is_letter an_is_letter cd_is_letter ct_is_letter), sl_is_letter⟩) (c_is_letter : PySem.W.codeIn K cd_is_letter "is_letter" = true) (k_is_letter : PySem.W.keepIn K (.ref f_is_letter) = true)
    {f_is_whole : Addr} {od_is_whole an_is_whole : Option Addr} {sl_is_whole : Array (Option Value)} {oc_is_whole kV_is_whole dc_is_whole pm_is_whole cd_is_whole ct_is_whole : Value}
    (a_is_whole : PySem.W.nsIn K mainGlobals "is_whole" = some (some (.ref f_is_whole)))
    (l_is_whole : K.lookup f_is_whole = some ⟨oc_is_whole, od_is_whole, .func (PySem.W.fnOf "is_whole" "is_whole" (defArgs s_is_whole) (defBody s_is_whole) (defScope s_is_whole) .none kV_is_whole dc_is_whole pm_is_whole an_is_whole cd_is_whole ct_is_whole), sl_is_whole⟩) (c_is_whole : PySem.W.codeIn K cd_is_whole "is_whole" = true) (k_is_whole : PySem.W.keepIn K (.ref f_is_whole) = true)
    {f_spans : Addr} {od_spans an_spans : Option Addr} {sl_spans : Array (Option Value)} {oc_spans kV_spans dc_spans pm_spans cd_spans ct_spans : Value}
    (a_spans : PySem.W.nsIn K mainGlobals "spans" = some (some (.ref f_spans)))
    (l_spans : K.lookup f_spans = some ⟨oc_spans, od_spans, .func (PySem.W.fnOf "spans" "spans" (defArgs s_spans) (defBody s_spans) (defScope s_spans) .none kV_spans dc_spans pm_spans an_spans cd_spans ct_spans), sl_spans⟩) (c_spans : PySem.W.codeIn K cd_spans "spans" = true) (k_spans : PySem.W.keepIn K (.ref f_spans) = true)
    {f_least_and_most : Addr} {od_least_and_most an_least_and_most : Option Addr} {sl_least_and_most : Array (Option Value)} {oc_least_and_most kV_least_and_most dc_least_and_most pm_least_and_most cd_least_and_most ct_least_and_most : Value}
    (a_least_and_most : PySem.W.nsIn K mainGlobals "least_and_most" = some (some (.ref f_least_and_most)))
    (l_least_and_most : K.lookup f_least_and_most = some ⟨oc_least_and_most, od_least_and_most, .func (PySem.W.fnOf "least_and_most" "least_and_most" (defArgs s_least_and_most) (defBody s_least_and_most) (defScope s_least_and_most) .none kV_least_and_most dc_least_and_most pm_least_and_most an_least_and_most cd_least_and_most ct_least_and_most), sl_least_and_most⟩) (c_least_and_most : PySem.W.codeIn K cd_least_and_most "least_and_most" = true) (k_least_and_most : PySem.W.keepIn K (.ref f_least_and_most) = true)
    {f_turned : Addr} {od_turned an_turned : Option Addr} {sl_turned : Array (Option Value)} {oc_turned kV_turned dc_turned pm_turned cd_turned ct_turned : Value}
    (a_turned : PySem.W.nsIn K mainGlobals "turned" = some (some (.ref f_turned)))
    (l_turned : K.lookup f_turned = some ⟨oc_turned, od_turned, .func (PySem.W.fnOf "turned" "turned" (defArgs s_turned) (defBody s_turned) (defScope s_turned) .none kV_turned dc_turned pm_turned an_turned cd_turned ct_turned), sl_turned⟩) (c_turned : PySem.W.codeIn K cd_turned "turned" = true) (k_turned : PySem.W.keepIn K (.ref f_turned) = true)
    {f_ends : Addr} {od_ends an_ends : Option Addr} {sl_ends : Array (Option Value)} {oc_ends kV_ends dc_ends pm_ends cd_ends ct_ends : Value}
    (a_ends : PySem.W.nsIn K mainGlobals "ends" = some (some (.ref f_ends)))
    (l_ends : K.lookup f_ends = some ⟨oc_ends, od_ends, .func (PySem.W.fnOf "ends" "ends" (defArgs s_ends) (defBody s_ends) (defScope s_ends) .none kV_ends dc_ends pm_ends an_ends cd_ends ct_ends), sl_ends⟩) (c_ends : PySem.W.codeIn K cd_ends "ends" = true) (k_ends : PySem.W.keepIn K (.ref f_ends) = true)
    {f_Found___init__ : Addr} {od_Found___init__ an_Found___init__ : Option Addr} {sl_Found___init__ : Array (Option Value)} {oc_Found___init__ kV_Found___init__ dc_Found___init__ pm_Found___init__ cd_Found___init__ ct_Found___init__ : Value}
    (a_Found___init__ : PySem.W.findIn K (.ref C_Found) "__init__" = some (some (.ref f_Found___init__))) (i_Found___init__ : PySem.W.isFn K (.ref f_Found___init__) = true)
    (l_Found___init__ : K.lookup f_Found___init__ = some ⟨oc_Found___init__, od_Found___init__, .func (PySem.W.fnOf "__init__" "Found.__init__" (defArgs s_Found___init__) (defBody s_Found___init__) (defScope s_Found___init__) .none kV_Found___init__ dc_Found___init__ pm_Found___init__ an_Found___init__ cd_Found___init__ ct_Found___init__), sl_Found___init__⟩) (c_Found___init__ : PySem.W.codeIn K cd_Found___init__ "Found.__init__" = true) (k_Found___init__ : PySem.W.keepIn K (.ref f_Found___init__) = true)
    {f_Never___init__ : Addr} {od_Never___init__ an_Never___init__ : Option Addr} {sl_Never___init__ : Array (Option Value)} {oc_Never___init__ kV_Never___init__ dc_Never___init__ pm_Never___init__ cd_Never___init__ ct_Never___init__ : Value}
    (a_Never___init__ : PySem.W.findIn K (.ref C_Never) "__init__" = some (some (.ref f_Never___init__))) (i_Never___init__ : PySem.W.isFn K (.ref f_Never___init__) = true)
    (l_Never___init__ : K.lookup f_Never___init__ = some ⟨oc_Never___init__, od_Never___init__, .func (PySem.W.fnOf "__init__" "Never.__init__" (defArgs s_Never___init__) (defBody s_Never___init__) (defScope s_Never___init__) .none kV_Never___init__ dc_Never___init__ pm_Never___init__ an_Never___init__ cd_Never___init__ ct_Never___init__), sl_Never___init__⟩) (c_Never___init__ : PySem.W.codeIn K cd_Never___init__ "Never.__init__" = true) (k_Never___init__ : PySem.W.keepIn K (.ref f_Never___init__) = true)
    {f_sought : Addr} {od_sought an_sought : Option Addr} {sl_sought : Array (Option Value)} {oc_sought kV_sought dc_sought pm_sought cd_sought ct_sought : Value}
    (a_sought : PySem.W.nsIn K mainGlobals "sought" = some (some (.ref f_sought)))
    (l_sought : K.lookup f_sought = some ⟨oc_sought, od_sought, .func (PySem.W.fnOf "sought" "sought" (defArgs s_sought) (defBody s_sought) (defScope s_sought) .none kV_sought dc_sought pm_sought an_sought cd_sought ct_sought), sl_sought⟩) (c_sought : PySem.W.codeIn K cd_sought "sought" = true) (k_sought : PySem.W.keepIn K (.ref f_sought) = true)
    {f_check_asked : Addr} {od_check_asked an_check_asked : Option Addr} {sl_check_asked : Array (Option Value)} {oc_check_asked kV_check_asked dc_check_asked pm_check_asked cd_check_asked ct_check_asked : Value}
    (a_check_asked : PySem.W.nsIn K mainGlobals "check_asked" = some (some (.ref f_check_asked)))
    (l_check_asked : K.lookup f_check_asked = some ⟨oc_check_asked, od_check_asked, .func (PySem.W.fnOf "check_asked" "check_asked" (defArgs s_check_asked) (defBody s_check_asked) (defScope s_check_asked) .none kV_check_asked dc_check_asked pm_check_asked an_check_asked cd_check_asked ct_check_asked), sl_check_asked⟩) (c_check_asked : PySem.W.codeIn K cd_check_asked "check_asked" = true) (k_check_asked : PySem.W.keepIn K (.ref f_check_asked) = true)
    {f_starts : Addr} {od_starts an_starts : Option Addr} {sl_starts : Array (Option Value)} {oc_starts kV_starts dc_starts pm_starts cd_starts ct_starts : Value}
    (a_starts : PySem.W.nsIn K mainGlobals "starts" = some (some (.ref f_starts)))
    (l_starts : K.lookup f_starts = some ⟨oc_starts, od_starts, .func (PySem.W.fnOf "starts" "starts" (defArgs s_starts) (defBody s_starts) (defScope s_starts) .none kV_starts dc_starts pm_starts an_starts cd_starts ct_starts), sl_starts⟩) (c_starts : PySem.W.codeIn K cd_starts "starts" = true) (k_starts : PySem.W.keepIn K (.ref f_starts) = true)
    {f_start_at : Addr} {od_start_at an_start_at : Option Addr} {sl_start_at : Array (Option Value)} {oc_start_at kV_start_at dc_start_at pm_start_at cd_start_at ct_start_at : Value}
    (a_start_at : PySem.W.nsIn K mainGlobals "start_at" = some (some (.ref f_start_at)))
    (l_start_at : K.lookup f_start_at = some ⟨oc_start_at, od_start_at, .func (PySem.W.fnOf "start_at" "start_at" (defArgs s_start_at) (defBody s_start_at) (defScope s_start_at) .none kV_start_at dc_start_at pm_start_at an_start_at cd_start_at ct_start_at), sl_start_at⟩) (c_start_at : PySem.W.codeIn K cd_start_at "start_at" = true) (k_start_at : PySem.W.keepIn K (.ref f_start_at) = true)
    {f_is_start : Addr} {od_is_start an_is_start : Option Addr} {sl_is_start : Array (Option Value)} {oc_is_start kV_is_start dc_is_start pm_is_start cd_is_start ct_is_start : Value}
    (a_is_start : PySem.W.nsIn K mainGlobals "is_start" = some (some (.ref f_is_start)))
    (l_is_start : K.lookup f_is_start = some ⟨oc_is_start, od_is_start, .func (PySem.W.fnOf "is_start" "is_start" (defArgs s_is_start) (defBody s_is_start) (defScope s_is_start) .none kV_is_start dc_is_start pm_is_start an_is_start cd_is_start ct_is_start), sl_is_start⟩) (c_is_start : PySem.W.codeIn K cd_is_start "is_start" = true) (k_is_start : PySem.W.keepIn K (.ref f_is_start) = true)
    {f_surplus : Addr} {od_surplus an_surplus : Option Addr} {sl_surplus : Array (Option Value)} {oc_surplus kV_surplus dc_surplus pm_surplus cd_surplus ct_surplus : Value}
    (a_surplus : PySem.W.nsIn K mainGlobals "surplus" = some (some (.ref f_surplus)))
    (l_surplus : K.lookup f_surplus = some ⟨oc_surplus, od_surplus, .func (PySem.W.fnOf "surplus" "surplus" (defArgs s_surplus) (defBody s_surplus) (defScope s_surplus) .none kV_surplus dc_surplus pm_surplus an_surplus cd_surplus ct_surplus), sl_surplus⟩) (c_surplus : PySem.W.codeIn K cd_surplus "surplus" = true) (k_surplus : PySem.W.keepIn K (.ref f_surplus) = true)
    {f_runs_of_starts : Addr} {od_runs_of_starts an_runs_of_starts : Option Addr} {sl_runs_of_starts : Array (Option Value)} {oc_runs_of_starts kV_runs_of_starts dc_runs_of_starts pm_runs_of_starts cd_runs_of_starts ct_runs_of_starts : Value}
    (a_runs_of_starts : PySem.W.nsIn K mainGlobals "runs_of_starts" = some (some (.ref f_runs_of_starts)))
    (l_runs_of_starts : K.lookup f_runs_of_starts = some ⟨oc_runs_of_starts, od_runs_of_starts, .func (PySem.W.fnOf "runs_of_starts" "runs_of_starts" (defArgs s_runs_of_starts) (defBody s_runs_of_starts) (defScope s_runs_of_starts) .none kV_runs_of_starts dc_runs_of_starts pm_runs_of_starts an_runs_of_starts cd_runs_of_starts ct_runs_of_starts), sl_runs_of_starts⟩) (c_runs_of_starts : PySem.W.codeIn K cd_runs_of_starts "runs_of_starts" = true) (k_runs_of_starts : PySem.W.keepIn K (.ref f_runs_of_starts) = true)
    {f_heights : Addr} {od_heights an_heights : Option Addr} {sl_heights : Array (Option Value)} {oc_heights kV_heights dc_heights pm_heights cd_heights ct_heights : Value}
    (a_heights : PySem.W.nsIn K mainGlobals "heights" = some (some (.ref f_heights)))
    (l_heights : K.lookup f_heights = some ⟨oc_heights, od_heights, .func (PySem.W.fnOf "heights" "heights" (defArgs s_heights) (defBody s_heights) (defScope s_heights) .none kV_heights dc_heights pm_heights an_heights cd_heights ct_heights), sl_heights⟩) (c_heights : PySem.W.codeIn K cd_heights "heights" = true) (k_heights : PySem.W.keepIn K (.ref f_heights) = true)
    {f_check_times : Addr} {od_check_times an_check_times : Option Addr} {sl_check_times : Array (Option Value)} {oc_check_times kV_check_times dc_check_times pm_check_times cd_check_times ct_check_times : Value}
    (a_check_times : PySem.W.nsIn K mainGlobals "check_times" = some (some (.ref f_check_times)))
    (l_check_times : K.lookup f_check_times = some ⟨oc_check_times, od_check_times, .func (PySem.W.fnOf "check_times" "check_times" (defArgs s_check_times) (defBody s_check_times) (defScope s_check_times) .none kV_check_times dc_check_times pm_check_times an_check_times cd_check_times ct_check_times), sl_check_times⟩) (c_check_times : PySem.W.codeIn K cd_check_times "check_times" = true) (k_check_times : PySem.W.keepIn K (.ref f_check_times) = true)
    {f_check_number : Addr} {od_check_number an_check_number : Option Addr} {sl_check_number : Array (Option Value)} {oc_check_number kV_check_number dc_check_number pm_check_number cd_check_number ct_check_number : Value}
    (a_check_number : PySem.W.nsIn K mainGlobals "check_number" = some (some (.ref f_check_number)))
    (l_check_number : K.lookup f_check_number = some ⟨oc_check_number, od_check_number, .func (PySem.W.fnOf "check_number" "check_number" (defArgs s_check_number) (defBody s_check_number) (defScope s_check_number) .none kV_check_number dc_check_number pm_check_number an_check_number cd_check_number ct_check_number), sl_check_number⟩) (c_check_number : PySem.W.codeIn K cd_check_number "check_number" = true) (k_check_number : PySem.W.keepIn K (.ref f_check_number) = true)
    {f_l_cell_at : Addr} {od_l_cell_at an_l_cell_at : Option Addr} {sl_l_cell_at : Array (Option Value)} {oc_l_cell_at kV_l_cell_at dc_l_cell_at pm_l_cell_at cd_l_cell_at ct_l_cell_at : Value}
    (a_l_cell_at : PySem.W.nsIn K mainGlobals "_law_cell_at" = some (some (.ref f_l_cell_at)))
    (l_l_cell_at : K.lookup f_l_cell_at = some ⟨oc_l_cell_at, od_l_cell_at, .func (PySem.W.fnOf "_law_cell_at" "_law_cell_at" (defArgs s_l_cell_at) (defBody s_l_cell_at) (defScope s_l_cell_at) .none kV_l_cell_at dc_l_cell_at pm_l_cell_at an_l_cell_at cd_l_cell_at ct_l_cell_at), sl_l_cell_at⟩) (c_l_cell_at : PySem.W.codeIn K cd_l_cell_at "_law_cell_at" = true) (k_l_cell_at : PySem.W.keepIn K (.ref f_l_cell_at) = true)
    {f_l_draw : Addr} {od_l_draw an_l_draw : Option Addr} {sl_l_draw : Array (Option Value)} {oc_l_draw kV_l_draw dc_l_draw pm_l_draw cd_l_draw ct_l_draw : Value}
    (a_l_draw : PySem.W.nsIn K mainGlobals "_law_draw" = some (some (.ref f_l_draw)))
    (l_l_draw : K.lookup f_l_draw = some ⟨oc_l_draw, od_l_draw, .func (PySem.W.fnOf "_law_draw" "_law_draw" (defArgs s_l_draw) (defBody s_l_draw) (defScope s_l_draw) .none kV_l_draw dc_l_draw pm_l_draw an_l_draw cd_l_draw ct_l_draw), sl_l_draw⟩) (c_l_draw : PySem.W.codeIn K cd_l_draw "_law_draw" = true) (k_l_draw : PySem.W.keepIn K (.ref f_l_draw) = true)
    {f_l_number : Addr} {od_l_number an_l_number : Option Addr} {sl_l_number : Array (Option Value)} {oc_l_number kV_l_number dc_l_number pm_l_number cd_l_number ct_l_number : Value}
    (a_l_number : PySem.W.nsIn K mainGlobals "_law_number" = some (some (.ref f_l_number)))
    (l_l_number : K.lookup f_l_number = some ⟨oc_l_number, od_l_number, .func (PySem.W.fnOf "_law_number" "_law_number" (defArgs s_l_number) (defBody s_l_number) (defScope s_l_number) .none kV_l_number dc_l_number pm_l_number an_l_number cd_l_number ct_l_number), sl_l_number⟩) (c_l_number : PySem.W.codeIn K cd_l_number "_law_number" = true) (k_l_number : PySem.W.keepIn K (.ref f_l_number) = true)
    {f_l_ring : Addr} {od_l_ring an_l_ring : Option Addr} {sl_l_ring : Array (Option Value)} {oc_l_ring kV_l_ring dc_l_ring pm_l_ring cd_l_ring ct_l_ring : Value}
    (a_l_ring : PySem.W.nsIn K mainGlobals "_law_ring" = some (some (.ref f_l_ring)))
    (l_l_ring : K.lookup f_l_ring = some ⟨oc_l_ring, od_l_ring, .func (PySem.W.fnOf "_law_ring" "_law_ring" (defArgs s_l_ring) (defBody s_l_ring) (defScope s_l_ring) .none kV_l_ring dc_l_ring pm_l_ring an_l_ring cd_l_ring ct_l_ring), sl_l_ring⟩) (c_l_ring : PySem.W.codeIn K cd_l_ring "_law_ring" = true) (k_l_ring : PySem.W.keepIn K (.ref f_l_ring) = true)
    {f_l_size : Addr} {od_l_size an_l_size : Option Addr} {sl_l_size : Array (Option Value)} {oc_l_size kV_l_size dc_l_size pm_l_size cd_l_size ct_l_size : Value}
    (a_l_size : PySem.W.nsIn K mainGlobals "_law_size" = some (some (.ref f_l_size)))
    (l_l_size : K.lookup f_l_size = some ⟨oc_l_size, od_l_size, .func (PySem.W.fnOf "_law_size" "_law_size" (defArgs s_l_size) (defBody s_l_size) (defScope s_l_size) .none kV_l_size dc_l_size pm_l_size an_l_size cd_l_size ct_l_size), sl_l_size⟩) (c_l_size : PySem.W.codeIn K cd_l_size "_law_size" = true) (k_l_size : PySem.W.keepIn K (.ref f_l_size) = true)
    {f_l_table : Addr} {od_l_table an_l_table : Option Addr} {sl_l_table : Array (Option Value)} {oc_l_table kV_l_table dc_l_table pm_l_table cd_l_table ct_l_table : Value}
    (a_l_table : PySem.W.nsIn K mainGlobals "_law_table" = some (some (.ref f_l_table)))
    (l_l_table : K.lookup f_l_table = some ⟨oc_l_table, od_l_table, .func (PySem.W.fnOf "_law_table" "_law_table" (defArgs s_l_table) (defBody s_l_table) (defScope s_l_table) .none kV_l_table dc_l_table pm_l_table an_l_table cd_l_table ct_l_table), sl_l_table⟩) (c_l_table : PySem.W.codeIn K cd_l_table "_law_table" = true) (k_l_table : PySem.W.keepIn K (.ref f_l_table) = true)
    {f_l_surplus : Addr} {od_l_surplus an_l_surplus : Option Addr} {sl_l_surplus : Array (Option Value)} {oc_l_surplus kV_l_surplus dc_l_surplus pm_l_surplus cd_l_surplus ct_l_surplus : Value}
    (a_l_surplus : PySem.W.nsIn K mainGlobals "_law_surplus" = some (some (.ref f_l_surplus)))
    (l_l_surplus : K.lookup f_l_surplus = some ⟨oc_l_surplus, od_l_surplus, .func (PySem.W.fnOf "_law_surplus" "_law_surplus" (defArgs s_l_surplus) (defBody s_l_surplus) (defScope s_l_surplus) .none kV_l_surplus dc_l_surplus pm_l_surplus an_l_surplus cd_l_surplus ct_l_surplus), sl_l_surplus⟩) (c_l_surplus : PySem.W.codeIn K cd_l_surplus "_law_surplus" = true) (k_l_surplus : PySem.W.keepIn K (.ref f_l_surplus) = true)
    {f_l_kinds : Addr} {od_l_kinds an_l_kinds : Option Addr} {sl_l_kinds : Array (Option Value)} {oc_l_kinds kV_l_kinds dc_l_kinds pm_l_kinds cd_l_kinds ct_l_kinds : Value}
    (a_l_kinds : PySem.W.nsIn K mainGlobals "_law_kinds" = some (some (.ref f_l_kinds)))
    (l_l_kinds : K.lookup f_l_kinds = some ⟨oc_l_kinds, od_l_kinds, .func (PySem.W.fnOf "_law_kinds" "_law_kinds" (defArgs s_l_kinds) (defBody s_l_kinds) (defScope s_l_kinds) .none kV_l_kinds dc_l_kinds pm_l_kinds an_l_kinds cd_l_kinds ct_l_kinds), sl_l_kinds⟩) (c_l_kinds : PySem.W.codeIn K cd_l_kinds "_law_kinds" = true) (k_l_kinds : PySem.W.keepIn K (.ref f_l_kinds) = true)
    {f_l_with_ring : Addr} {od_l_with_ring an_l_with_ring : Option Addr} {sl_l_with_ring : Array (Option Value)} {oc_l_with_ring kV_l_with_ring dc_l_with_ring pm_l_with_ring cd_l_with_ring ct_l_with_ring : Value}
    (a_l_with_ring : PySem.W.nsIn K mainGlobals "_law_with_ring" = some (some (.ref f_l_with_ring)))
    (l_l_with_ring : K.lookup f_l_with_ring = some ⟨oc_l_with_ring, od_l_with_ring, .func (PySem.W.fnOf "_law_with_ring" "_law_with_ring" (defArgs s_l_with_ring) (defBody s_l_with_ring) (defScope s_l_with_ring) .none kV_l_with_ring dc_l_with_ring pm_l_with_ring an_l_with_ring cd_l_with_ring ct_l_with_ring), sl_l_with_ring⟩) (c_l_with_ring : PySem.W.codeIn K cd_l_with_ring "_law_with_ring" = true) (k_l_with_ring : PySem.W.keepIn K (.ref f_l_with_ring) = true)
    {f_l_with_place : Addr} {od_l_with_place an_l_with_place : Option Addr} {sl_l_with_place : Array (Option Value)} {oc_l_with_place kV_l_with_place dc_l_with_place pm_l_with_place cd_l_with_place ct_l_with_place : Value}
    (a_l_with_place : PySem.W.nsIn K mainGlobals "_law_with_place" = some (some (.ref f_l_with_place)))
    (l_l_with_place : K.lookup f_l_with_place = some ⟨oc_l_with_place, od_l_with_place, .func (PySem.W.fnOf "_law_with_place" "_law_with_place" (defArgs s_l_with_place) (defBody s_l_with_place) (defScope s_l_with_place) .none kV_l_with_place dc_l_with_place pm_l_with_place an_l_with_place cd_l_with_place ct_l_with_place), sl_l_with_place⟩) (c_l_with_place : PySem.W.codeIn K cd_l_with_place "_law_with_place" = true) (k_l_with_place : PySem.W.keepIn K (.ref f_l_with_place) = true)
    {f_l_with_times : Addr} {od_l_with_times an_l_with_times : Option Addr} {sl_l_with_times : Array (Option Value)} {oc_l_with_times kV_l_with_times dc_l_with_times pm_l_with_times cd_l_with_times ct_l_with_times : Value}
    (a_l_with_times : PySem.W.nsIn K mainGlobals "_law_with_times" = some (some (.ref f_l_with_times)))
    (l_l_with_times : K.lookup f_l_with_times = some ⟨oc_l_with_times, od_l_with_times, .func (PySem.W.fnOf "_law_with_times" "_law_with_times" (defArgs s_l_with_times) (defBody s_l_with_times) (defScope s_l_with_times) .none kV_l_with_times dc_l_with_times pm_l_with_times an_l_with_times cd_l_with_times ct_l_with_times), sl_l_with_times⟩) (c_l_with_times : PySem.W.codeIn K cd_l_with_times "_law_with_times" = true) (k_l_with_times : PySem.W.keepIn K (.ref f_l_with_times) = true)
    {f_l_with_count : Addr} {od_l_with_count an_l_with_count : Option Addr} {sl_l_with_count : Array (Option Value)} {oc_l_with_count kV_l_with_count dc_l_with_count pm_l_with_count cd_l_with_count ct_l_with_count : Value}
    (a_l_with_count : PySem.W.nsIn K mainGlobals "_law_with_count" = some (some (.ref f_l_with_count)))
    (l_l_with_count : K.lookup f_l_with_count = some ⟨oc_l_with_count, od_l_with_count, .func (PySem.W.fnOf "_law_with_count" "_law_with_count" (defArgs s_l_with_count) (defBody s_l_with_count) (defScope s_l_with_count) .none kV_l_with_count dc_l_with_count pm_l_with_count an_l_with_count cd_l_with_count ct_l_with_count), sl_l_with_count⟩) (c_l_with_count : PySem.W.codeIn K cd_l_with_count "_law_with_count" = true) (k_l_with_count : PySem.W.keepIn K (.ref f_l_with_count) = true)
    {f_l_told : Addr} {od_l_told an_l_told : Option Addr} {sl_l_told : Array (Option Value)} {oc_l_told kV_l_told dc_l_told pm_l_told cd_l_told ct_l_told : Value}
    (a_l_told : PySem.W.nsIn K mainGlobals "_law_told" = some (some (.ref f_l_told)))
    (l_l_told : K.lookup f_l_told = some ⟨oc_l_told, od_l_told, .func (PySem.W.fnOf "_law_told" "_law_told" (defArgs s_l_told) (defBody s_l_told) (defScope s_l_told) .none kV_l_told dc_l_told pm_l_told an_l_told cd_l_told ct_l_told), sl_l_told⟩) (c_l_told : PySem.W.codeIn K cd_l_told "_law_told" = true) (k_l_told : PySem.W.keepIn K (.ref f_l_told) = true)
    {f_l_all : Addr} {od_l_all an_l_all : Option Addr} {sl_l_all : Array (Option Value)} {oc_l_all kV_l_all dc_l_all pm_l_all cd_l_all ct_l_all : Value}
    (a_l_all : PySem.W.nsIn K mainGlobals "_law_all" = some (some (.ref f_l_all)))
    (l_l_all : K.lookup f_l_all = some ⟨oc_l_all, od_l_all, .func (PySem.W.fnOf "_law_all" "_law_all" (defArgs s_l_all) (defBody s_l_all) (defScope s_l_all) .none kV_l_all dc_l_all pm_l_all an_l_all cd_l_all ct_l_all), sl_l_all⟩) (c_l_all : PySem.W.codeIn K cd_l_all "_law_all" = true) (k_l_all : PySem.W.keepIn K (.ref f_l_all) = true)
    {f_law : Addr} {od_law an_law : Option Addr} {sl_law : Array (Option Value)} {oc_law kV_law dc_law pm_law cd_law ct_law : Value}
    (a_law : PySem.W.nsIn K mainGlobals "law" = some (some (.ref f_law)))
    (l_law : K.lookup f_law = some ⟨oc_law, od_law, .func (PySem.W.fnOf "law" "law" (defArgs s_law) (defBody s_law) (defScope s_law) .none kV_law dc_law pm_law an_law cd_law ct_law), sl_law⟩) (c_law : PySem.W.codeIn K cd_law "law" = true) (k_law : PySem.W.keepIn K (.ref f_law) = true)
    (eg_BadRing : PySem.W.findIn K (.ref C_BadRing) "__getattribute__" = some (some (.builtin "BaseException.__getattribute__")))
    (ek_BadRing : PySem.W.findIn K (.ref C_BadRing) "__getattr__" = some none)
    (es_BadRing : PySem.W.subIn K (.ref C_BadRing) (.type "BaseException") = some true)
    (ed_BadRing : PySem.W.hasDictIn K C_BadRing = true)
    (ea_BadRing : PySem.W.findIn K (.ref C_BadRing) "__class__" = some (some (.builtin "object.__class__")))
    (en_BadRing : PySem.W.specialIn K (.builtin "object.__class__") "__get__" = some (some (.builtin "getset_descriptor.__get__")))
    (et_BadRing : PySem.W.takesIn K (.builtin "object.__class__") = some true)
    (em_BadRing : PySem.W.mroIn K C_BadRing (.type "object") = some true)
    (xa_BadRing : PySem.W.subIn K (.ref C_RingError) (.type "BaseException") = some true)
    (xb_BadRing : PySem.W.hasDictIn K C_RingError = true)
    (xc_BadRing : PySem.W.typeIn K (.ref C_RingError) = some (.type "type"))
    (xd_BadRing : PySem.W.subIn K (.ref C_BadRing) (.ref C_RingError) = some true)
    (xi_BadRing : PySem.W.excIn K C_BadRing [.type "ValueError", .type "Exception", .type "BaseException", .type "object"] "ValueError.__new__" = true)
    (xk_BadRing : PySem.W.keepIn K (.ref C_BadRing) = true)
    (xt_BadRing : PySem.W.typeIn K (.ref C_BadRing) = some (.type "type"))
    (is_BadRing_BadRing : PySem.W.kitOne K (.ref C_BadRing) (.ref C_BadRing) = some true)
    (is_BadRing_BadPlace : PySem.W.kitOne K (.ref C_BadRing) (.ref C_BadPlace) = some false)
    (is_BadRing_BadTimes : PySem.W.kitOne K (.ref C_BadRing) (.ref C_BadTimes) = some false)
    (is_BadRing_BadCount : PySem.W.kitOne K (.ref C_BadRing) (.ref C_BadCount) = some false)
    (is_BadRing_V : PySem.W.kitOne K (.ref C_BadRing) (.type "ValueError") = some true)
    (eg_BadPlace : PySem.W.findIn K (.ref C_BadPlace) "__getattribute__" = some (some (.builtin "BaseException.__getattribute__")))
    (ek_BadPlace : PySem.W.findIn K (.ref C_BadPlace) "__getattr__" = some none)
    (es_BadPlace : PySem.W.subIn K (.ref C_BadPlace) (.type "BaseException") = some true)
    (ed_BadPlace : PySem.W.hasDictIn K C_BadPlace = true)
    (ea_BadPlace : PySem.W.findIn K (.ref C_BadPlace) "__class__" = some (some (.builtin "object.__class__")))
    (en_BadPlace : PySem.W.specialIn K (.builtin "object.__class__") "__get__" = some (some (.builtin "getset_descriptor.__get__")))
    (et_BadPlace : PySem.W.takesIn K (.builtin "object.__class__") = some true)
    (em_BadPlace : PySem.W.mroIn K C_BadPlace (.type "object") = some true)
    (xa_BadPlace : PySem.W.subIn K (.ref C_RingError) (.type "BaseException") = some true)
    (xb_BadPlace : PySem.W.hasDictIn K C_RingError = true)
    (xc_BadPlace : PySem.W.typeIn K (.ref C_RingError) = some (.type "type"))
    (xd_BadPlace : PySem.W.subIn K (.ref C_BadPlace) (.ref C_RingError) = some true)
    (xi_BadPlace : PySem.W.excIn K C_BadPlace [.type "ValueError", .type "Exception", .type "BaseException", .type "object"] "ValueError.__new__" = true)
    (xk_BadPlace : PySem.W.keepIn K (.ref C_BadPlace) = true)
    (xt_BadPlace : PySem.W.typeIn K (.ref C_BadPlace) = some (.type "type"))
    (is_BadPlace_BadRing : PySem.W.kitOne K (.ref C_BadPlace) (.ref C_BadRing) = some false)
    (is_BadPlace_BadPlace : PySem.W.kitOne K (.ref C_BadPlace) (.ref C_BadPlace) = some true)
    (is_BadPlace_BadTimes : PySem.W.kitOne K (.ref C_BadPlace) (.ref C_BadTimes) = some false)
    (is_BadPlace_BadCount : PySem.W.kitOne K (.ref C_BadPlace) (.ref C_BadCount) = some false)
    (is_BadPlace_V : PySem.W.kitOne K (.ref C_BadPlace) (.type "ValueError") = some true)
    (eg_BadTimes : PySem.W.findIn K (.ref C_BadTimes) "__getattribute__" = some (some (.builtin "BaseException.__getattribute__")))
    (ek_BadTimes : PySem.W.findIn K (.ref C_BadTimes) "__getattr__" = some none)
    (es_BadTimes : PySem.W.subIn K (.ref C_BadTimes) (.type "BaseException") = some true)
    (ed_BadTimes : PySem.W.hasDictIn K C_BadTimes = true)
    (ea_BadTimes : PySem.W.findIn K (.ref C_BadTimes) "__class__" = some (some (.builtin "object.__class__")))
    (en_BadTimes : PySem.W.specialIn K (.builtin "object.__class__") "__get__" = some (some (.builtin "getset_descriptor.__get__")))
    (et_BadTimes : PySem.W.takesIn K (.builtin "object.__class__") = some true)
    (em_BadTimes : PySem.W.mroIn K C_BadTimes (.type "object") = some true)
    (xa_BadTimes : PySem.W.subIn K (.ref C_RingError) (.type "BaseException") = some true)
    (xb_BadTimes : PySem.W.hasDictIn K C_RingError = true)
    (xc_BadTimes : PySem.W.typeIn K (.ref C_RingError) = some (.type "type"))
    (xd_BadTimes : PySem.W.subIn K (.ref C_BadTimes) (.ref C_RingError) = some true)
    (xi_BadTimes : PySem.W.excIn K C_BadTimes [.type "ValueError", .type "Exception", .type "BaseException", .type "object"] "ValueError.__new__" = true)
    (xk_BadTimes : PySem.W.keepIn K (.ref C_BadTimes) = true)
    (xt_BadTimes : PySem.W.typeIn K (.ref C_BadTimes) = some (.type "type"))
    (is_BadTimes_BadRing : PySem.W.kitOne K (.ref C_BadTimes) (.ref C_BadRing) = some false)
    (is_BadTimes_BadPlace : PySem.W.kitOne K (.ref C_BadTimes) (.ref C_BadPlace) = some false)
    (is_BadTimes_BadTimes : PySem.W.kitOne K (.ref C_BadTimes) (.ref C_BadTimes) = some true)
    (is_BadTimes_BadCount : PySem.W.kitOne K (.ref C_BadTimes) (.ref C_BadCount) = some false)
    (is_BadTimes_V : PySem.W.kitOne K (.ref C_BadTimes) (.type "ValueError") = some true)
    (eg_BadCount : PySem.W.findIn K (.ref C_BadCount) "__getattribute__" = some (some (.builtin "BaseException.__getattribute__")))
    (ek_BadCount : PySem.W.findIn K (.ref C_BadCount) "__getattr__" = some none)
    (es_BadCount : PySem.W.subIn K (.ref C_BadCount) (.type "BaseException") = some true)
    (ed_BadCount : PySem.W.hasDictIn K C_BadCount = true)
    (ea_BadCount : PySem.W.findIn K (.ref C_BadCount) "__class__" = some (some (.builtin "object.__class__")))
    (en_BadCount : PySem.W.specialIn K (.builtin "object.__class__") "__get__" = some (some (.builtin "getset_descriptor.__get__")))
    (et_BadCount : PySem.W.takesIn K (.builtin "object.__class__") = some true)
    (em_BadCount : PySem.W.mroIn K C_BadCount (.type "object") = some true)
    (xa_BadCount : PySem.W.subIn K (.ref C_RingError) (.type "BaseException") = some true)
    (xb_BadCount : PySem.W.hasDictIn K C_RingError = true)
    (xc_BadCount : PySem.W.typeIn K (.ref C_RingError) = some (.type "type"))
    (xd_BadCount : PySem.W.subIn K (.ref C_BadCount) (.ref C_RingError) = some true)
    (xi_BadCount : PySem.W.excIn K C_BadCount [.type "ValueError", .type "Exception", .type "BaseException", .type "object"] "ValueError.__new__" = true)
    (xk_BadCount : PySem.W.keepIn K (.ref C_BadCount) = true)
    (xt_BadCount : PySem.W.typeIn K (.ref C_BadCount) = some (.type "type"))
    (is_BadCount_BadRing : PySem.W.kitOne K (.ref C_BadCount) (.ref C_BadRing) = some false)
    (is_BadCount_BadPlace : PySem.W.kitOne K (.ref C_BadCount) (.ref C_BadPlace) = some false)
    (is_BadCount_BadTimes : PySem.W.kitOne K (.ref C_BadCount) (.ref C_BadTimes) = some false)
    (is_BadCount_BadCount : PySem.W.kitOne K (.ref C_BadCount) (.ref C_BadCount) = some true)
    (is_BadCount_V : PySem.W.kitOne K (.ref C_BadCount) (.type "ValueError") = some true)
    (c_KIND_A : PySem.W.nsIn K mainGlobals "KIND_A" = some (some (.str "a" tKIND_A)))
    (c_KIND_B : PySem.W.nsIn K mainGlobals "KIND_B" = some (some (.str "b" tKIND_B)))
    (z_ValueError : PySem.W.nsIn K mainGlobals "ValueError" = some none)
    (z_all : PySem.W.nsIn K mainGlobals "all" = some none)
    (z_any : PySem.W.nsIn K mainGlobals "any" = some none)
    (z_bool : PySem.W.nsIn K mainGlobals "bool" = some none)
    (z_divmod : PySem.W.nsIn K mainGlobals "divmod" = some none)
    (z_enumerate : PySem.W.nsIn K mainGlobals "enumerate" = some none)
    (z_int : PySem.W.nsIn K mainGlobals "int" = some none)
    (z_isinstance : PySem.W.nsIn K mainGlobals "isinstance" = some none)
    (z_len : PySem.W.nsIn K mainGlobals "len" = some none)
    (z_list : PySem.W.nsIn K mainGlobals "list" = some none)
    (z_max : PySem.W.nsIn K mainGlobals "max" = some none)
    (z_min : PySem.W.nsIn K mainGlobals "min" = some none)
    (z_range : PySem.W.nsIn K mainGlobals "range" = some none)
    (z_reversed : PySem.W.nsIn K mainGlobals "reversed" = some none)
    (z_str : PySem.W.nsIn K mainGlobals "str" = some none)
    (z_sum : PySem.W.nsIn K mainGlobals "sum" = some none)
    (z_tuple : PySem.W.nsIn K mainGlobals "tuple" = some none)
    (mk_Found : PySem.W.makesIn K C_Found = true) (kc_Found : PySem.W.keepIn K (.ref C_Found) = true)
    (mk_Never : PySem.W.makesIn K C_Never = true) (kc_Never : PySem.W.keepIn K (.ref C_Never) = true)
    : ∃ fd : FuncData, (∀ (s : Shared) (v : Value), BindsTo s fd ⟨[v], []⟩ [("_law_script", v)]) ∧ ∀ base : Heap, K.In base → base.Ns mainGlobals mg → FnOk l.prog w K mg base CX0 19 fa fd ["_law_script"] (spLaw K) := by
  have e := hfa.symm.trans (PySem.W.mg_of X G a_law)
  cases e
  have T : Txt K mg tKIND_A tKIND_B C_RingError C_BadRing C_BadPlace C_BadTimes C_BadCount C_Found C_Never := ⟨PySem.W.mg_of X G aC_RingError, PySem.W.mg_of X G aC_BadRing, PySem.W.mg_of X G aC_BadPlace, PySem.W.mg_of X G aC_BadTimes, PySem.W.mg_of X G aC_BadCount, PySem.W.mg_of X G aC_Found, PySem.W.mg_of X G aC_Never, ⟨eg_BadRing, ek_BadRing, es_BadRing, ed_BadRing, ea_BadRing, en_BadRing, et_BadRing, em_BadRing⟩, PySem.W.exm_ref xa_BadRing xb_BadRing xc_BadRing xd_BadRing, xi_BadRing, xk_BadRing, es_BadRing, xt_BadRing, is_BadRing_BadRing, is_BadRing_BadPlace, is_BadRing_BadTimes, is_BadRing_BadCount, is_BadRing_V, ⟨eg_BadPlace, ek_BadPlace, es_BadPlace, ed_BadPlace, ea_BadPlace, en_BadPlace, et_BadPlace, em_BadPlace⟩, PySem.W.exm_ref xa_BadPlace xb_BadPlace xc_BadPlace xd_BadPlace, xi_BadPlace, xk_BadPlace, es_BadPlace, xt_BadPlace, is_BadPlace_BadRing, is_BadPlace_BadPlace, is_BadPlace_BadTimes, is_BadPlace_BadCount, is_BadPlace_V, ⟨eg_BadTimes, ek_BadTimes, es_BadTimes, ed_BadTimes, ea_BadTimes, en_BadTimes, et_BadTimes, em_BadTimes⟩, PySem.W.exm_ref xa_BadTimes xb_BadTimes xc_BadTimes xd_BadTimes, xi_BadTimes, xk_BadTimes, es_BadTimes, xt_BadTimes, is_BadTimes_BadRing, is_BadTimes_BadPlace, is_BadTimes_BadTimes, is_BadTimes_BadCount, is_BadTimes_V, ⟨eg_BadCount, ek_BadCount, es_BadCount, ed_BadCount, ea_BadCount, en_BadCount, et_BadCount, em_BadCount⟩, PySem.W.exm_ref xa_BadCount xb_BadCount xc_BadCount xd_BadCount, xi_BadCount, xk_BadCount, es_BadCount, xt_BadCount, is_BadCount_BadRing, is_BadCount_BadPlace, is_BadCount_BadTimes, is_BadCount_BadCount, is_BadCount_V, PySem.W.mg_of X G c_KIND_A, PySem.W.mg_of X G c_KIND_B, PySem.W.mg_none_of X G z_ValueError, PySem.W.mg_none_of X G z_all, PySem.W.mg_none_of X G z_any, PySem.W.mg_none_of X G z_bool, PySem.W.mg_none_of X G z_divmod, PySem.W.mg_none_of X G z_enumerate, PySem.W.mg_none_of X G z_int, PySem.W.mg_none_of X G z_isinstance, PySem.W.mg_none_of X G z_len, PySem.W.mg_none_of X G z_list, PySem.W.mg_none_of X G z_max, PySem.W.mg_none_of X G z_min, PySem.W.mg_none_of X G z_range, PySem.W.mg_none_of X G z_reversed, PySem.W.mg_none_of X G z_str, PySem.W.mg_none_of X G z_sum, PySem.W.mg_none_of X G z_tuple⟩
  have F_beads := fun_mk (st := s_beads) l_beads c_beads k_beads
  have b_beads := F_beads.binds (ps := ["ring"]) fun _ _ _ _ _ _ us hl => match us, hl with | [_], _ => rfl
  have m_beads := PySem.W.mg_of X G a_beads
  have F_kind_at := fun_mk (st := s_kind_at) l_kind_at c_kind_at k_kind_at
  have b_kind_at := F_kind_at.binds (ps := ["ring", "place"]) fun _ _ _ _ _ _ us hl => match us, hl with | [_, _], _ => rfl
  have m_kind_at := PySem.W.mg_of X G a_kind_at
  have F_among := fun_mk (st := s_among) l_among c_among k_among
  have b_among := F_among.binds (ps := ["ring", "place", "many"]) fun _ _ _ _ _ _ us hl => match us, hl with | [_, _, _], _ => rfl
  have m_among := PySem.W.mg_of X G a_among
  have F_inside := fun_mk (st := s_inside) l_inside c_inside k_inside
  have b_inside := F_inside.binds (ps := ["ring", "place", "many"]) fun _ _ _ _ _ _ us hl => match us, hl with | [_, _, _], _ => rfl
  have m_inside := PySem.W.mg_of X G a_inside
  have F_from_first := fun_mk (st := s_from_first) l_from_first c_from_first k_from_first
  have b_from_first := F_from_first.binds (ps := ["ring", "many"]) fun _ _ _ _ _ _ us hl => match us, hl with | [_, _], _ => rfl
  have m_from_first := PySem.W.mg_of X G a_from_first
  have F_many_of := fun_mk (st := s_many_of) l_many_of c_many_of k_many_of
  have b_many_of := F_many_of.binds (ps := ["ring", "letter"]) fun _ _ _ _ _ _ us hl => match us, hl with | [_, _], _ => rfl
  have m_many_of := PySem.W.mg_of X G a_many_of
  have F_size := fun_mk (st := s_size) l_size c_size k_size
  have b_size := F_size.binds (ps := ["ring"]) fun _ _ _ _ _ _ us hl => match us, hl with | [_], _ => rfl
  have m_size := PySem.W.mg_of X G a_size
  have F_check_ring := fun_mk (st := s_check_ring) l_check_ring c_check_ring k_check_ring
  have b_check_ring := F_check_ring.binds (ps := ["ring"]) fun _ _ _ _ _ _ us hl => match us, hl with | [_], _ => rfl
  have m_check_ring := PySem.W.mg_of X G a_check_ring
  have F_check_place := fun_mk (st := s_check_place) l_check_place c_check_place k_check_place
  have b_check_place := F_check_place.binds (ps := ["ring", "place"]) fun _ _ _ _ _ _ us hl => match us, hl with | [_, _], _ => rfl
  have m_check_place := PySem.W.mg_of X G a_check_place
  have F_check_many := fun_mk (st := s_check_many) l_check_many c_check_many k_check_many
  have b_check_many := F_check_many.binds (ps := ["many"]) fun _ _ _ _ _ _ us hl => match us, hl with | [_], _ => rfl
  have m_check_many := PySem.W.mg_of X G a_check_many
  have F_is_place := fun_mk (st := s_is_place) l_is_place c_is_place k_is_place
  have b_is_place := F_is_place.binds (ps := ["ring", "thing"]) fun _ _ _ _ _ _ us hl => match us, hl with | [_, _], _ => rfl
  have m_is_place := PySem.W.mg_of X G a_is_place
  have F_is_stretch := fun_mk (st := s_is_stretch) l_is_stretch c_is_stretch k_is_stretch
  have b_is_stretch := F_is_stretch.binds (ps := ["thing"]) fun _ _ _ _ _ _ us hl => match us, hl with | [_], _ => rfl
  have m_is_stretch := PySem.W.mg_of X G a_is_stretch
  have F_is_letter := fun_mk (st := s_is_letter) l_is_letter c_is_letter k_is_letter
  have b_is_letter := F_is_letter.binds (ps := ["thing"]) fun _ _ _ _ _ _ us hl => match us, hl with | [_], _ => rfl
  have m_is_letter := PySem.W.mg_of X G a_is_letter
  have F_is_whole := fun_mk (st := s_is_whole) l_is_whole c_is_whole k_is_whole
  have b_is_whole := F_is_whole.binds (ps := ["thing"]) fun _ _ _ _ _ _ us hl => match us, hl with | [_], _ => rfl
  have m_is_whole := PySem.W.mg_of X G a_is_whole
  have F_spans := fun_mk (st := s_spans) l_spans c_spans k_spans
  have b_spans := F_spans.binds (ps := ["ring", "many"]) fun _ _ _ _ _ _ us hl => match us, hl with | [_, _], _ => rfl
  have m_spans := PySem.W.mg_of X G a_spans
  have F_least_and_most := fun_mk (st := s_least_and_most) l_least_and_most c_least_and_most k_least_and_most
  have b_least_and_most := F_least_and_most.binds (ps := ["ring", "many"]) fun _ _ _ _ _ _ us hl => match us, hl with | [_, _], _ => rfl
  have m_least_and_most := PySem.W.mg_of X G a_least_and_most
  have F_turned := fun_mk (st := s_turned) l_turned c_turned k_turned
  have b_turned := F_turned.binds (ps := ["ring", "place"]) fun _ _ _ _ _ _ us hl => match us, hl with | [_, _], _ => rfl
  have m_turned := PySem.W.mg_of X G a_turned
  have F_ends := fun_mk (st := s_ends) l_ends c_ends k_ends
  have b_ends := F_ends.binds (ps := ["stretches"]) fun _ _ _ _ _ _ us hl => match us, hl with | [_], _ => rfl
  have m_ends := PySem.W.mg_of X G a_ends
  have F_Found___init__ := fun_mk (st := s_Found___init__) l_Found___init__ c_Found___init__ k_Found___init__
  have b_Found___init__ := F_Found___init__.binds (ps := ["self", "place"]) fun _ _ _ _ _ _ us hl => match us, hl with | [_, _], _ => rfl
  have M_Found : Mk K C_Found f_Found___init__ := ⟨mk_Found, a_Found___init__, i_Found___init__, kc_Found⟩
  have F_Never___init__ := fun_mk (st := s_Never___init__) l_Never___init__ c_Never___init__ k_Never___init__
  have b_Never___init__ := F_Never___init__.binds (ps := ["self", "least", "most"]) fun _ _ _ _ _ _ us hl => match us, hl with | [_, _, _], _ => rfl
  have M_Never : Mk K C_Never f_Never___init__ := ⟨mk_Never, a_Never___init__, i_Never___init__, kc_Never⟩
  have F_sought := fun_mk (st := s_sought) l_sought c_sought k_sought
  have b_sought := F_sought.binds (ps := ["ring", "many", "number"]) fun _ _ _ _ _ _ us hl => match us, hl with | [_, _, _], _ => rfl
  have m_sought := PySem.W.mg_of X G a_sought
  have F_check_asked := fun_mk (st := s_check_asked) l_check_asked c_check_asked k_check_asked
  have b_check_asked := F_check_asked.binds (ps := ["ring", "many", "number"]) fun _ _ _ _ _ _ us hl => match us, hl with | [_, _, _], _ => rfl
  have m_check_asked := PySem.W.mg_of X G a_check_asked
  have F_starts := fun_mk (st := s_starts) l_starts c_starts k_starts
  have b_starts := F_starts.binds (ps := ["ring", "times"]) fun _ _ _ _ _ _ us hl => match us, hl with | [_, _], _ => rfl
  have m_starts := PySem.W.mg_of X G a_starts
  have F_start_at := fun_mk (st := s_start_at) l_start_at c_start_at k_start_at
  have b_start_at := F_start_at.binds (ps := ["ring", "times", "number"]) fun _ _ _ _ _ _ us hl => match us, hl with | [_, _, _], _ => rfl
  have m_start_at := PySem.W.mg_of X G a_start_at
  have F_is_start := fun_mk (st := s_is_start) l_is_start c_is_start k_is_start
  have b_is_start := F_is_start.binds (ps := ["ring", "times", "place"]) fun _ _ _ _ _ _ us hl => match us, hl with | [_, _, _], _ => rfl
  have m_is_start := PySem.W.mg_of X G a_is_start
  have F_surplus := fun_mk (st := s_surplus) l_surplus c_surplus k_surplus
  have b_surplus := F_surplus.binds (ps := ["ring", "times"]) fun _ _ _ _ _ _ us hl => match us, hl with | [_, _], _ => rfl
  have m_surplus := PySem.W.mg_of X G a_surplus
  have F_runs_of_starts := fun_mk (st := s_runs_of_starts) l_runs_of_starts c_runs_of_starts k_runs_of_starts
  have b_runs_of_starts := F_runs_of_starts.binds (ps := ["ring", "times"]) fun _ _ _ _ _ _ us hl => match us, hl with | [_, _], _ => rfl
  have m_runs_of_starts := PySem.W.mg_of X G a_runs_of_starts
  have F_heights := fun_mk (st := s_heights) l_heights c_heights k_heights
  have b_heights := F_heights.binds (ps := ["ring", "times"]) fun _ _ _ _ _ _ us hl => match us, hl with | [_, _], _ => rfl
  have m_heights := PySem.W.mg_of X G a_heights
  have F_check_times := fun_mk (st := s_check_times) l_check_times c_check_times k_check_times
  have b_check_times := F_check_times.binds (ps := ["times"]) fun _ _ _ _ _ _ us hl => match us, hl with | [_], _ => rfl
  have m_check_times := PySem.W.mg_of X G a_check_times
  have F_check_number := fun_mk (st := s_check_number) l_check_number c_check_number k_check_number
  have b_check_number := F_check_number.binds (ps := ["number", "many"]) fun _ _ _ _ _ _ us hl => match us, hl with | [_, _], _ => rfl
  have m_check_number := PySem.W.mg_of X G a_check_number
  have F_l_cell_at := fun_mk (st := s_l_cell_at) l_l_cell_at c_l_cell_at k_l_cell_at
  have b_l_cell_at := F_l_cell_at.binds (ps := ["_law_script", "_law_k"]) fun _ _ _ _ _ _ us hl => match us, hl with | [_, _], _ => rfl
  have m_l_cell_at := PySem.W.mg_of X G a_l_cell_at
  have F_l_draw := fun_mk (st := s_l_draw) l_l_draw c_l_draw k_l_draw
  have b_l_draw := F_l_draw.binds (ps := ["_law_cell", "_law_k", "_law_many"]) fun _ _ _ _ _ _ us hl => match us, hl with | [_, _, _], _ => rfl
  have m_l_draw := PySem.W.mg_of X G a_l_draw
  have F_l_number := fun_mk (st := s_l_number) l_l_number c_l_number k_l_number
  have b_l_number := F_l_number.binds (ps := ["_law_cell", "_law_k", "_law_limit"]) fun _ _ _ _ _ _ us hl => match us, hl with | [_, _, _], _ => rfl
  have m_l_number := PySem.W.mg_of X G a_l_number
  have F_l_ring := fun_mk (st := s_l_ring) l_l_ring c_l_ring k_l_ring
  have b_l_ring := F_l_ring.binds (ps := ["_law_script"]) fun _ _ _ _ _ _ us hl => match us, hl with | [_], _ => rfl
  have m_l_ring := PySem.W.mg_of X G a_l_ring
  have F_l_size := fun_mk (st := s_l_size) l_l_size c_l_size k_l_size
  have b_l_size := F_l_size.binds (ps := ["_law_ring_here"]) fun _ _ _ _ _ _ us hl => match us, hl with | [_], _ => rfl
  have m_l_size := PySem.W.mg_of X G a_l_size
  have F_l_table := fun_mk (st := s_l_table) l_l_table c_l_table k_l_table
  have b_l_table := F_l_table.binds (ps := ["_law_ring_here"]) fun _ _ _ _ _ _ us hl => match us, hl with | [_], _ => rfl
  have m_l_table := PySem.W.mg_of X G a_l_table
  have F_l_surplus := fun_mk (st := s_l_surplus) l_l_surplus c_l_surplus k_l_surplus
  have b_l_surplus := F_l_surplus.binds (ps := ["_law_table_here", "_law_times"]) fun _ _ _ _ _ _ us hl => match us, hl with | [_, _], _ => rfl
  have m_l_surplus := PySem.W.mg_of X G a_l_surplus
  have F_l_kinds := fun_mk (st := s_l_kinds) l_l_kinds c_l_kinds k_l_kinds
  have b_l_kinds := F_l_kinds.binds (ps := ["_law_error"]) fun _ _ _ _ _ _ us hl => match us, hl with | [_], _ => rfl
  have m_l_kinds := PySem.W.mg_of X G a_l_kinds
  have F_l_with_ring := fun_mk (st := s_l_with_ring) l_l_with_ring c_l_with_ring k_l_with_ring
  have b_l_with_ring := F_l_with_ring.binds (ps := ["_law_door", "_law_ring_here"]) fun _ _ _ _ _ _ us hl => match us, hl with | [_, _], _ => rfl
  have m_l_with_ring := PySem.W.mg_of X G a_l_with_ring
  have F_l_with_place := fun_mk (st := s_l_with_place) l_l_with_place c_l_with_place k_l_with_place
  have b_l_with_place := F_l_with_place.binds (ps := ["_law_ring_here", "_law_pair"]) fun _ _ _ _ _ _ us hl => match us, hl with | [_, _], _ => rfl
  have m_l_with_place := PySem.W.mg_of X G a_l_with_place
  have F_l_with_times := fun_mk (st := s_l_with_times) l_l_with_times c_l_with_times k_l_with_times
  have b_l_with_times := F_l_with_times.binds (ps := ["_law_ring_here", "_law_pair"]) fun _ _ _ _ _ _ us hl => match us, hl with | [_, _], _ => rfl
  have m_l_with_times := PySem.W.mg_of X G a_l_with_times
  have F_l_with_count := fun_mk (st := s_l_with_count) l_l_with_count c_l_with_count k_l_with_count
  have b_l_with_count := F_l_with_count.binds (ps := ["_law_ring_here", "_law_pair"]) fun _ _ _ _ _ _ us hl => match us, hl with | [_, _], _ => rfl
  have m_l_with_count := PySem.W.mg_of X G a_l_with_count
  have F_l_told := fun_mk (st := s_l_told) l_l_told c_l_told k_l_told
  have b_l_told := F_l_told.binds (ps := ["_law_ask", "_law_one", "_law_other"]) fun _ _ _ _ _ _ us hl => match us, hl with | [_, _, _], _ => rfl
  have m_l_told := PySem.W.mg_of X G a_l_told
  have F_l_all := fun_mk (st := s_l_all) l_l_all c_l_all k_l_all
  have b_l_all := F_l_all.binds (ps := ["_law_ask", "_law_ring_here", "_law_doors", "_law_things", "_law_due"]) fun _ _ _ _ _ _ us hl => match us, hl with | [_, _, _, _, _], _ => rfl
  have m_l_all := PySem.W.mg_of X G a_l_all
  have F_law := fun_mk (st := s_law) l_law c_law k_law
  refine ⟨PySem.W.fnOf "law" "law" (defArgs s_law) (defBody s_law) (defScope s_law) .none kV_law dc_law pm_law an_law cd_law ct_law, fun s v => .of_eq rfl, fun base _ _ => ?_⟩
  have G_many_of : FnOk l.prog w K mg base CX0 1 f_many_of _ ["ring", "letter"] (spMany K) := ok_many_of F_many_of T 
  have G_size : FnOk l.prog w K mg base CX0 1 f_size _ ["ring"] (spSize K) := ok_size F_size T 
  have G_is_letter : FnOk l.prog w K mg base CX0 1 f_is_letter _ ["thing"] (spLetterX K) := ok_is_letter F_is_letter T 
  have G_is_whole : FnOk l.prog w K mg base CX0 1 f_is_whole _ ["thing"] (spWholeX K) := ok_is_whole F_is_whole T 
  have G_turned : FnOk l.prog w K mg base CX0 1 f_turned _ ["ring", "place"] spNo := ok_turned F_turned T 
  have G_ends : FnOk l.prog w K mg base CX0 1 f_ends _ ["stretches"] spNo := ok_ends F_ends T 
  have G_Found___init__ : FnOk l.prog w K mg base CX0 1 f_Found___init__ _ ["self", "place"] spNo := ok_Found___init__ F_Found___init__ T 
  have G_Never___init__ : FnOk l.prog w K mg base CX0 1 f_Never___init__ _ ["self", "least", "most"] spNo := ok_Never___init__ F_Never___init__ T 
  have G_heights : FnOk l.prog w K mg base CX0 1 f_heights _ ["ring", "times"] spNo := ok_heights F_heights T 
  have G_l_cell_at : FnOk l.prog w K mg base CX0 1 f_l_cell_at _ ["_law_script", "_law_k"] (spCell K) := ok_l_cell_at F_l_cell_at T 
  have G_l_draw : FnOk l.prog w K mg base CX0 1 f_l_draw _ ["_law_cell", "_law_k", "_law_many"] spDraw := ok_l_draw F_l_draw T 
  have G_l_size : FnOk l.prog w K mg base CX0 1 f_l_size _ ["_law_ring_here"] (spSize K) := ok_l_size F_l_size T 
  have G_l_table : FnOk l.prog w K mg base CX0 1 f_l_table _ ["_law_ring_here"] (spTable K) := ok_l_table F_l_table T 
  have G_l_surplus : FnOk l.prog w K mg base CX0 1 f_l_surplus _ ["_law_table_here", "_law_times"] (spSurplus K) := ok_l_surplus F_l_surplus T 
  have G_l_kinds : FnE l.prog w K mg base 1 f_l_kinds _ ["_law_error"] (fun p => (spKinds C_BadRing C_BadPlace C_BadTimes C_BadCount) p.1 p.2.cls p.2.dict) := ok_l_kinds F_l_kinds T 
  have G_from_first : FnOk l.prog w K mg base CX0 2 f_from_first _ ["ring", "many"] (spFirst K) := ok_from_first F_from_first T G_many_of m_many_of k_many_of b_many_of G_size m_size k_size b_size
  have G_check_many : FnOk l.prog w K mg base (L2N.CX l.prog w) 2 f_check_many _ ["many"] (spCheckManyX K C_BadCount) := ok_check_many F_check_many T G_is_whole m_is_whole k_is_whole b_is_whole
  have G_is_place : FnOk l.prog w K mg base CX0 2 f_is_place _ ["ring", "thing"] (spIsPlaceX K) := ok_is_place F_is_place T G_is_whole m_is_whole k_is_whole b_is_whole G_size m_size k_size b_size
  have G_is_stretch : FnOk l.prog w K mg base CX0 2 f_is_stretch _ ["thing"] (spStretchX K) := ok_is_stretch F_is_stretch T G_is_letter m_is_letter k_is_letter b_is_letter G_is_whole m_is_whole k_is_whole b_is_whole
  have G_check_asked : FnOk l.prog w K mg base (L2N.CX l.prog w) 2 f_check_asked _ ["ring", "many", "number"] (spCheckAskedX K C_BadCount) := ok_check_asked F_check_asked T G_is_whole m_is_whole k_is_whole b_is_whole G_size m_size k_size b_size
  have G_surplus : FnOk l.prog w K mg base CX0 2 f_surplus _ ["ring", "times"] (spSur K) := ok_surplus F_surplus T G_many_of m_many_of k_many_of b_many_of
  have G_runs_of_starts : FnOk l.prog w K mg base CX0 2 f_runs_of_starts _ ["ring", "times"] spNo := ok_runs_of_starts F_runs_of_starts T G_heights m_heights k_heights b_heights
  have G_check_times : FnOk l.prog w K mg base (L2N.CX l.prog w) 2 f_check_times _ ["times"] (spCheckTimesX K C_BadTimes) := ok_check_times F_check_times T G_is_whole m_is_whole k_is_whole b_is_whole
  have G_check_number : FnOk l.prog w K mg base (L2N.CX l.prog w) 2 f_check_number _ ["number", "many"] (spCheckNumberX K C_BadCount) := ok_check_number F_check_number T G_is_whole m_is_whole k_is_whole b_is_whole
  have G_l_number : FnOk l.prog w K mg base CX0 2 f_l_number _ ["_law_cell", "_law_k", "_law_limit"] spNumber := ok_l_number F_l_number T G_l_draw m_l_draw k_l_draw b_l_draw
  have G_inside : FnOk l.prog w K mg base CX0 3 f_inside _ ["ring", "place", "many"] (spInside K) := ok_inside F_inside T G_from_first m_from_first k_from_first b_from_first
  have G_check_ring : FnOk l.prog w K mg base (L2N.CX l.prog w) 3 f_check_ring _ ["ring"] (spCheckRingX K C_BadRing) := ok_check_ring F_check_ring T G_is_stretch m_is_stretch k_is_stretch b_is_stretch
  have G_check_place : FnOk l.prog w K mg base (L2N.CX l.prog w) 3 f_check_place _ ["ring", "place"] (spCheckPlaceX K C_BadPlace) := ok_check_place F_check_place T G_is_place m_is_place k_is_place b_is_place
  have G_spans : FnOk l.prog w K mg base CX0 3 f_spans _ ["ring", "many"] spNo := ok_spans F_spans T G_ends m_ends k_ends b_ends G_from_first m_from_first k_from_first b_from_first G_size m_size k_size b_size G_turned m_turned k_turned b_turned
  have G_l_ring : FnOk l.prog w K mg base CX0 3 f_l_ring _ ["_law_script"] (spRing K) := ok_l_ring F_l_ring T G_l_cell_at m_l_cell_at k_l_cell_at b_l_cell_at G_l_draw m_l_draw k_l_draw b_l_draw G_l_number m_l_number k_l_number b_l_number
  have G_beads : FnOk l.prog w K mg base (L2N.CX l.prog w) 4 f_beads _ ["ring"] (spBeadsX K C_BadRing) := ok_beads F_beads T G_check_ring m_check_ring k_check_ring b_check_ring G_many_of m_many_of k_many_of b_many_of
  have G_kind_at : FnOk l.prog w K mg base (L2N.CX l.prog w) 4 f_kind_at _ ["ring", "place"] (spKindX K C_BadRing C_BadPlace) := ok_kind_at F_kind_at T G_check_place m_check_place k_check_place b_check_place G_check_ring m_check_ring k_check_ring b_check_ring
  have G_among : FnOk l.prog w K mg base (L2N.CX l.prog w) 4 f_among _ ["ring", "place", "many"] (spAmongX K C_BadRing C_BadPlace C_BadCount) := ok_among F_among T G_check_many m_check_many k_check_many b_check_many G_check_place m_check_place k_check_place b_check_place G_check_ring m_check_ring k_check_ring b_check_ring G_inside m_inside k_inside b_inside
  have G_least_and_most : FnOk l.prog w K mg base CX0 4 f_least_and_most _ ["ring", "many"] spNo := ok_least_and_most F_least_and_most T G_spans m_spans k_spans b_spans
  have G_starts : FnOk l.prog w K mg base (L2N.CX l.prog w) 4 f_starts _ ["ring", "times"] (spStartsX K C_BadRing C_BadTimes) := ok_starts F_starts T G_check_ring m_check_ring k_check_ring b_check_ring G_check_times m_check_times k_check_times b_check_times G_surplus m_surplus k_surplus b_surplus
  have G_start_at : FnOk l.prog w K mg base (L2N.CX l.prog w) 4 f_start_at _ ["ring", "times", "number"] (spStartAtX K C_BadRing C_BadTimes C_BadCount) := ok_start_at F_start_at T G_check_number m_check_number k_check_number b_check_number G_check_ring m_check_ring k_check_ring b_check_ring G_check_times m_check_times k_check_times b_check_times G_runs_of_starts m_runs_of_starts k_runs_of_starts b_runs_of_starts G_surplus m_surplus k_surplus b_surplus
  have G_is_start : FnOk l.prog w K mg base (L2N.CX l.prog w) 4 f_is_start _ ["ring", "times", "place"] (spIsStartX K C_BadRing C_BadTimes C_BadPlace) := ok_is_start F_is_start T G_check_place m_check_place k_check_place b_check_place G_check_ring m_check_ring k_check_ring b_check_ring G_check_times m_check_times k_check_times b_check_times G_runs_of_starts m_runs_of_starts k_runs_of_starts b_runs_of_starts
  have G_sought : FnOk l.prog w K mg base (L2N.CX l.prog w) 5 f_sought _ ["ring", "many", "number"] (spSoughtX K C_BadRing C_BadCount) := ok_sought F_sought T G_Found___init__ b_Found___init__ M_Found G_Never___init__ b_Never___init__ M_Never G_check_asked m_check_asked k_check_asked b_check_asked G_check_ring m_check_ring k_check_ring b_check_ring G_least_and_most m_least_and_most k_least_and_most b_least_and_most G_spans m_spans k_spans b_spans
  have G_l_with_place : FnOk l.prog w K mg base (L2N.CX l.prog w) 5 f_l_with_place _ ["_law_ring_here", "_law_pair"] (spWithPlace K C_BadPlace) := ok_l_with_place F_l_with_place T G_among m_among k_among b_among G_is_start m_is_start k_is_start b_is_start G_kind_at m_kind_at k_kind_at b_kind_at
  have G_l_with_times : FnOk l.prog w K mg base (L2N.CX l.prog w) 5 f_l_with_times _ ["_law_ring_here", "_law_pair"] (spWithTimes K C_BadTimes) := ok_l_with_times F_l_with_times T G_is_start m_is_start k_is_start b_is_start G_start_at m_start_at k_start_at b_start_at G_starts m_starts k_starts b_starts
  have G_l_with_ring : FnOk l.prog w K mg base (L2N.CX l.prog w) 6 f_l_with_ring _ ["_law_door", "_law_ring_here"] (spWithRing K C_BadRing) := ok_l_with_ring F_l_with_ring T G_among m_among k_among b_among G_beads m_beads k_beads b_beads G_is_start m_is_start k_is_start b_is_start G_kind_at m_kind_at k_kind_at b_kind_at G_sought m_sought k_sought b_sought G_start_at m_start_at k_start_at b_start_at G_starts m_starts k_starts b_starts
  have G_l_with_count : FnOk l.prog w K mg base (L2N.CX l.prog w) 6 f_l_with_count _ ["_law_ring_here", "_law_pair"] (spWithCount K C_BadCount) := ok_l_with_count F_l_with_count T G_among m_among k_among b_among G_sought m_sought k_sought b_sought G_start_at m_start_at k_start_at b_start_at
  have G_l_told : FnOk l.prog w K mg base CX0 17 f_l_told _ ["_law_ask", "_law_one", "_law_other"] (spTold l.prog w K mg base C_BadRing C_BadPlace C_BadTimes C_BadCount) := ok_l_told F_l_told T G_l_kinds m_l_kinds k_l_kinds b_l_kinds
  have G_l_all : FnOk l.prog w K mg base CX0 18 f_l_all _ ["_law_ask", "_law_ring_here", "_law_doors", "_law_things", "_law_due"] (spAll l.prog w K mg base C_BadRing C_BadPlace C_BadTimes C_BadCount) := ok_l_all F_l_all T G_l_told m_l_told k_l_told b_l_told
  exact ok_law F_law T G_l_all m_l_all k_l_all b_l_all G_l_cell_at m_l_cell_at k_l_cell_at b_l_cell_at G_l_ring m_l_ring k_l_ring b_l_ring G_l_size m_l_size k_l_size b_l_size G_l_surplus m_l_surplus k_l_surplus b_l_surplus G_l_table m_l_table k_l_table b_l_table G_l_told m_l_told k_l_told b_l_told G_l_with_count m_l_with_count k_l_with_count b_l_with_count G_l_with_place m_l_with_place k_l_with_place b_l_with_place G_l_with_ring m_l_with_ring k_l_with_ring b_l_with_ring G_l_with_times m_l_with_times k_l_with_times b_l_with_times G_among m_among k_among b_among G_starts m_starts k_starts b_starts
end RB
open PySem PySem.W PyProof.Rows in
set_option maxRecDepth 100000 in
set_option maxHeartbeats 0 in
theorem PySem.Challenge.cw_ringbeads_k05_refused_holds : PySem.Challenge.rw_ringbeads_k05_refused.Holds := by
  w_on; o_law; k_head; (case hw => w_witness2)
  k_fill
  refine L2.walk_ofB (l := PySem.Challenge.rw_ringbeads_k05_refused) (n := 63) (k := 19) (x := "_law_script") (CX := fun _ => L2.CX0) (sp := fun w => RB.spLaw _) rfl (by decide) rfl ⟨rfl, by decide, by decide⟩ (fun w h Y => PySem.W.kIn_of Y) ?F (fun _ _ a ns hl hb _ hS => ⟨a, ns, rfl, hS, hb, fun _ => rfl⟩) (fun _ _ _ _ _ h => h)
  case F =>
    intro w mg fa h KX G hmg
    refine' RB.all_mk KX G hmg ?aC_RingError ?aC_BadRing ?aC_BadPlace ?aC_BadTimes ?aC_BadCount ?aC_Found ?aC_Never ?a_beads ?l_beads ?c_beads ?k_beads ?a_kind_at ?l_kind_at ?c_kind_at ?k_kind_at ?a_among ?l_among ?c_among ?k_among ?a_inside ?l_inside ?c_inside ?k_inside ?a_from_first ?l_from_first ?c_from_first ?k_from_first ?a_many_of ?l_many_of ?c_many_of ?k_many_of ?a_size ?l_size ?c_size ?k_size ?a_check_ring ?l_check_ring ?c_check_ring ?k_check_ring ?a_check_place ?l_check_place ?c_check_place ?k_check_place ?a_check_many ?l_check_many ?c_check_many ?k_check_many ?a_is_place ?l_is_place ?c_is_place ?k_is_place ?a_is_stretch ?l_is_stretch ?c_is_stretch ?k_is_stretch ?a_is_letter ?l_is_letter ?c_is_letter ?k_is_letter ?a_is_whole ?l_is_whole ?c_is_whole ?k_is_whole ?a_spans ?l_spans ?c_spans ?k_spans ?a_least_and_most ?l_least_and_most ?c_least_and_most ?k_least_and_most ?a_turned ?l_turned ?c_turned ?k_turned ?a_ends ?l_ends ?c_ends ?k_ends ?a_Found___init__ ?i_Found___init__ ?l_Found___init__ ?c_Found___init__ ?k_Found___init__ ?a_Never___init__ ?i_Never___init__ ?l_Never___init__ ?c_Never___init__ ?k_Never___init__ ?a_sought ?l_sought ?c_sought ?k_sought ?a_check_asked ?l_check_asked ?c_check_asked ?k_check_asked ?a_starts ?l_starts ?c_starts ?k_starts ?a_start_at ?l_start_at ?c_start_at ?k_start_at ?a_is_start ?l_is_start ?c_is_start ?k_is_start ?a_surplus ?l_surplus ?c_surplus ?k_surplus ?a_runs_of_starts ?l_runs_of_starts ?c_runs_of_starts ?k_runs_of_starts ?a_heights ?l_heights ?c_heights ?k_heights ?a_check_times ?l_check_times ?c_check_times ?k_check_times ?a_check_number ?l_check_number ?c_check_number ?k_check_number ?a_l_cell_at ?l_l_cell_at ?c_l_cell_at ?k_l_cell_at ?a_l_draw ?l_l_draw ?c_l_draw ?k_l_draw ?a_l_number ?l_l_number ?c_l_number ?k_l_number ?a_l_ring ?l_l_ring ?c_l_ring ?k_l_ring ?a_l_size ?l_l_size ?c_l_size ?k_l_size ?a_l_table ?l_l_table ?c_l_table ?k_l_table ?a_l_surplus ?l_l_surplus ?c_l_surplus ?k_l_surplus ?a_l_kinds ?l_l_kinds ?c_l_kinds ?k_l_kinds ?a_l_with_ring ?l_l_with_ring ?c_l_with_ring ?k_l_with_ring ?a_l_with_place ?l_l_with_place ?c_l_with_place ?k_l_with_place ?a_l_with_times ?l_l_with_times ?c_l_with_times ?k_l_with_times ?a_l_with_count ?l_l_with_count ?c_l_with_count ?k_l_with_count ?a_l_told ?l_l_told ?c_l_told ?k_l_told ?a_l_all ?l_l_all ?c_l_all ?k_l_all ?a_law ?l_law ?c_law ?k_law ?eg_BadRing ?ek_BadRing ?es_BadRing ?ed_BadRing ?ea_BadRing ?en_BadRing ?et_BadRing ?em_BadRing ?xa_BadRing ?xb_BadRing ?xc_BadRing ?xd_BadRing ?xi_BadRing ?xk_BadRing ?xt_BadRing ?is_BadRing_BadRing ?is_BadRing_BadPlace ?is_BadRing_BadTimes ?is_BadRing_BadCount ?is_BadRing_V ?eg_BadPlace ?ek_BadPlace ?es_BadPlace ?ed_BadPlace ?ea_BadPlace ?en_BadPlace ?et_BadPlace ?em_BadPlace ?xa_BadPlace ?xb_BadPlace ?xc_BadPlace ?xd_BadPlace ?xi_BadPlace ?xk_BadPlace ?xt_BadPlace ?is_BadPlace_BadRing ?is_BadPlace_BadPlace ?is_BadPlace_BadTimes ?is_BadPlace_BadCount ?is_BadPlace_V ?eg_BadTimes ?ek_BadTimes ?es_BadTimes ?ed_BadTimes ?ea_BadTimes ?en_BadTimes ?et_BadTimes ?em_BadTimes ?xa_BadTimes ?xb_BadTimes ?xc_BadTimes ?xd_BadTimes ?xi_BadTimes ?xk_BadTimes ?xt_BadTimes ?is_BadTimes_BadRing ?is_BadTimes_BadPlace ?is_BadTimes_BadTimes ?is_BadTimes_BadCount ?is_BadTimes_V ?eg_BadCount ?ek_BadCount ?es_BadCount ?ed_BadCount ?ea_BadCount ?en_BadCount ?et_BadCount ?em_BadCount ?xa_BadCount ?xb_BadCount ?xc_BadCount ?xd_BadCount ?xi_BadCount ?xk_BadCount ?xt_BadCount ?is_BadCount_BadRing ?is_BadCount_BadPlace ?is_BadCount_BadTimes ?is_BadCount_BadCount ?is_BadCount_V ?c_KIND_A ?c_KIND_B ?z_ValueError ?z_all ?z_any ?z_bool ?z_divmod ?z_enumerate ?z_int ?z_isinstance ?z_len ?z_list ?z_max ?z_min ?z_range ?z_reversed ?z_str ?z_sum ?z_tuple ?mk_Found ?kc_Found ?mk_Never ?kc_Never
    (case aC_RingError => k_is)
    (case aC_BadRing => k_is)
    (case aC_BadPlace => k_is)
    (case aC_BadTimes => k_is)
    (case aC_BadCount => k_is)
    (case aC_Found => k_is)
    (case aC_Never => k_is)
    (case a_beads => k_is)
    (case l_beads => k_is)
    (case c_beads => k_is)
    (case k_beads => k_is)
    (case a_kind_at => k_is)
    (case l_kind_at => k_is)
    (case c_kind_at => k_is)
    (case k_kind_at => k_is)
    (case a_among => k_is)
    (case l_among => k_is)
    (case c_among => k_is)
    (case k_among => k_is)
    (case a_inside => k_is)
    (case l_inside => k_is)
    (case c_inside => k_is)
    (case k_inside => k_is)
    (case a_from_first => k_is)
    (case l_from_first => k_is)
    (case c_from_first => k_is)
    (case k_from_first => k_is)
    (case a_many_of => k_is)
    (case l_many_of => k_is)
    (case c_many_of => k_is)
    (case k_many_of => k_is)
    (case a_size => k_is)
    (case l_size => k_is)
    (case c_size => k_is)
    (case k_size => k_is)
    (case a_check_ring => k_is)
    (case l_check_ring => k_is)
    (case c_check_ring => k_is)
    (case k_check_ring => k_is)
    (case a_check_place => k_is)
    (case l_check_place => k_is)
    (case c_check_place => k_is)
    (case k_check_place => k_is)
    (case a_check_many => k_is)
    (case l_check_many => k_is)
    (case c_check_many => k_is)
    (case k_check_many => k_is)
    (case a_is_place => k_is)
    (case l_is_place => k_is)
    (case c_is_place => k_is)
    (case k_is_place => k_is)
    (case a_is_stretch => k_is)
    (case l_is_stretch => k_is)
    (case c_is_stretch => k_is)
    (case k_is_stretch => k_is)
    (case a_is_letter => k_is)
    (case l_is_letter => k_is)
    (case c_is_letter => k_is)
    (case k_is_letter => k_is)
    (case a_is_whole => k_is)
    (case l_is_whole => k_is)
    (case c_is_whole => k_is)
    (case k_is_whole => k_is)
    (case a_spans => k_is)
    (case l_spans => k_is)
    (case c_spans => k_is)
    (case k_spans => k_is)
    (case a_least_and_most => k_is)
    (case l_least_and_most => k_is)
    (case c_least_and_most => k_is)
    (case k_least_and_most => k_is)
    (case a_turned => k_is)
    (case l_turned => k_is)
    (case c_turned => k_is)
    (case k_turned => k_is)
    (case a_ends => k_is)
    (case l_ends => k_is)
    (case c_ends => k_is)
    (case k_ends => k_is)
    (case a_Found___init__ => k_is)
    (case i_Found___init__ => k_is)
    (case l_Found___init__ => k_is)
    (case c_Found___init__ => k_is)
    (case k_Found___init__ => k_is)
    (case a_Never___init__ => k_is)
    (case i_Never___init__ => k_is)
    (case l_Never___init__ => k_is)
    (case c_Never___init__ => k_is)
    (case k_Never___init__ => k_is)
    (case a_sought => k_is)
    (case l_sought => k_is)
    (case c_sought => k_is)
    (case k_sought => k_is)
    (case a_check_asked => k_is)
    (case l_check_asked => k_is)
    (case c_check_asked => k_is)
    (case k_check_asked => k_is)
    (case a_starts => k_is)
    (case l_starts => k_is)
    (case c_starts => k_is)
    (case k_starts => k_is)
    (case a_start_at => k_is)
    (case l_start_at => k_is)
    (case c_start_at => k_is)
    (case k_start_at => k_is)
    (case a_is_start => k_is)
    (case l_is_start => k_is)
    (case c_is_start => k_is)
    (case k_is_start => k_is)
    (case a_surplus => k_is)
    (case l_surplus => k_is)
    (case c_surplus => k_is)
    (case k_surplus => k_is)
    (case a_runs_of_starts => k_is)
    (case l_runs_of_starts => k_is)
    (case c_runs_of_starts => k_is)
    (case k_runs_of_starts => k_is)
    (case a_heights => k_is)
    (case l_heights => k_is)
    (case c_heights => k_is)
    (case k_heights => k_is)
    (case a_check_times => k_is)
    (case l_check_times => k_is)
    (case c_check_times => k_is)
    (case k_check_times => k_is)
    (case a_check_number => k_is)
    (case l_check_number => k_is)
    (case c_check_number => k_is)
    (case k_check_number => k_is)
    (case a_l_cell_at => k_is)
    (case l_l_cell_at => k_is)
    (case c_l_cell_at => k_is)
    (case k_l_cell_at => k_is)
    (case a_l_draw => k_is)
    (case l_l_draw => k_is)
    (case c_l_draw => k_is)
    (case k_l_draw => k_is)
    (case a_l_number => k_is)
    (case l_l_number => k_is)
    (case c_l_number => k_is)
    (case k_l_number => k_is)
    (case a_l_ring => k_is)
    (case l_l_ring => k_is)
    (case c_l_ring => k_is)
    (case k_l_ring => k_is)
    (case a_l_size => k_is)
    (case l_l_size => k_is)
    (case c_l_size => k_is)
    (case k_l_size => k_is)
    (case a_l_table => k_is)
    (case l_l_table => k_is)
    (case c_l_table => k_is)
    (case k_l_table => k_is)
    (case a_l_surplus => k_is)
    (case l_l_surplus => k_is)
    (case c_l_surplus => k_is)
    (case k_l_surplus => k_is)
    (case a_l_kinds => k_is)
    (case l_l_kinds => k_is)
    (case c_l_kinds => k_is)
    (case k_l_kinds => k_is)
    (case a_l_with_ring => k_is)
    (case l_l_with_ring => k_is)
    (case c_l_with_ring => k_is)
    (case k_l_with_ring => k_is)
    (case a_l_with_place => k_is)
    (case l_l_with_place => k_is)
    (case c_l_with_place => k_is)
    (case k_l_with_place => k_is)
    (case a_l_with_times => k_is)
    (case l_l_with_times => k_is)
    (case c_l_with_times => k_is)
    (case k_l_with_times => k_is)
    (case a_l_with_count => k_is)
    (case l_l_with_count => k_is)
    (case c_l_with_count => k_is)
    (case k_l_with_count => k_is)
    (case a_l_told => k_is)
    (case l_l_told => k_is)
    (case c_l_told => k_is)
    (case k_l_told => k_is)
    (case a_l_all => k_is)
    (case l_l_all => k_is)
    (case c_l_all => k_is)
    (case k_l_all => k_is)
    (case a_law => k_is)
    (case l_law => k_is)
    (case c_law => k_is)
    (case k_law => k_is)
    (case eg_BadRing => k_is)
    (case ek_BadRing => k_is)
    (case es_BadRing => k_is)
    (case ed_BadRing => k_is)
    (case ea_BadRing => k_is)
    (case en_BadRing => k_is)
    (case et_BadRing => k_is)
    (case em_BadRing => k_is)
    (case xa_BadRing => k_is)
    (case xb_BadRing => k_is)
    (case xc_BadRing => k_is)
    (case xd_BadRing => k_is)
    (case xi_BadRing => k_exc)
    (case xk_BadRing => k_is)
    (case xt_BadRing => k_is)
    (case is_BadRing_BadRing => kit_is)
    (case is_BadRing_BadPlace => kit_is)
    (case is_BadRing_BadTimes => kit_is)
    (case is_BadRing_BadCount => kit_is)
    (case is_BadRing_V => kit_is)
    (case eg_BadPlace => k_is)
    (case ek_BadPlace => k_is)
    (case es_BadPlace => k_is)
    (case ed_BadPlace => k_is)
    (case ea_BadPlace => k_is)
    (case en_BadPlace => k_is)
    (case et_BadPlace => k_is)
    (case em_BadPlace => k_is)
    (case xa_BadPlace => k_is)
    (case xb_BadPlace => k_is)
    (case xc_BadPlace => k_is)
    (case xd_BadPlace => k_is)
    (case xi_BadPlace => k_exc)
    (case xk_BadPlace => k_is)
    (case xt_BadPlace => k_is)
    (case is_BadPlace_BadRing => kit_is)
    (case is_BadPlace_BadPlace => kit_is)
    (case is_BadPlace_BadTimes => kit_is)
    (case is_BadPlace_BadCount => kit_is)
    (case is_BadPlace_V => kit_is)
    (case eg_BadTimes => k_is)
    (case ek_BadTimes => k_is)
    (case es_BadTimes => k_is)
    (case ed_BadTimes => k_is)
    (case ea_BadTimes => k_is)
    (case en_BadTimes => k_is)
    (case et_BadTimes => k_is)
    (case em_BadTimes => k_is)
    (case xa_BadTimes => k_is)
    (case xb_BadTimes => k_is)
    (case xc_BadTimes => k_is)
    (case xd_BadTimes => k_is)
    (case xi_BadTimes => k_exc)
    (case xk_BadTimes => k_is)
    (case xt_BadTimes => k_is)
    (case is_BadTimes_BadRing => kit_is)
    (case is_BadTimes_BadPlace => kit_is)
    (case is_BadTimes_BadTimes => kit_is)
    (case is_BadTimes_BadCount => kit_is)
    (case is_BadTimes_V => kit_is)
    (case eg_BadCount => k_is)
    (case ek_BadCount => k_is)
    (case es_BadCount => k_is)
    (case ed_BadCount => k_is)
    (case ea_BadCount => k_is)
    (case en_BadCount => k_is)
    (case et_BadCount => k_is)
    (case em_BadCount => k_is)
    (case xa_BadCount => k_is)
    (case xb_BadCount => k_is)
    (case xc_BadCount => k_is)
    (case xd_BadCount => k_is)
    (case xi_BadCount => k_exc)
    (case xk_BadCount => k_is)
    (case xt_BadCount => k_is)
    (case is_BadCount_BadRing => kit_is)
    (case is_BadCount_BadPlace => kit_is)
    (case is_BadCount_BadTimes => kit_is)
    (case is_BadCount_BadCount => kit_is)
    (case is_BadCount_V => kit_is)
    (case c_KIND_A => k_is)
    (case c_KIND_B => k_is)
    (case z_ValueError => k_is)
    (case z_all => k_is)
    (case z_any => k_is)
    (case z_bool => k_is)
    (case z_divmod => k_is)
    (case z_enumerate => k_is)
    (case z_int => k_is)
    (case z_isinstance => k_is)
    (case z_len => k_is)
    (case z_list => k_is)
    (case z_max => k_is)
    (case z_min => k_is)
    (case z_range => k_is)
    (case z_reversed => k_is)
    (case z_str => k_is)
    (case z_sum => k_is)
    (case z_tuple => k_is)
    (case mk_Found => k_is)
    (case kc_Found => k_is)
    (case mk_Never => k_is)
    (case kc_Never => k_is)
