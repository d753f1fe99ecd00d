import PyProof.Rows.All
import Wide.All
import OpenK.AllK
import Wide.FinOn
import HandS.ForMost
import HandS.Evl
import HandS.Wide
import HandS.WideBits
import HandS.IsInst
import HandS.EndBits
import HandS.Style
import PyProof.StrBlock2
import HandS.Zip
import HandS.Strs
import HandS.SortInts
import PySem.Challenge.RW_ringbeads_k03_whole_among
set_option Elab.async false
set_option linter.all false
set_option maxRecDepth 100000
set_option maxHeartbeats 4000000
namespace RB
abbrev Ring := List (Bool × Int)
def mn (l n : Int) : Int := if n < l then n else l
def sizeR : Ring → Int
  | [] => 0
  | x :: r => x.2 + sizeR r
def cntA : Ring → Int
  | [] => 0
  | x :: r => (if x.1 = true then x.2 else 0) + cntA r
def cntB : Ring → Int
  | [] => 0
  | x :: r => (if x.1 = true then 0 else x.2) + cntB r
def ahead : Ring → Int → Int
  | [], _ => 0
  | x :: r, l => (if x.1 = true then mn l x.2 else 0) + ahead r (l - mn l x.2)
def kindR : Ring → Int → Bool
  | [], _ => true
  | x :: r, l => if l < x.2 then x.1 else kindR r (l - x.2)
def firstF (r : Ring) (m : Int) : Int := m / sizeR r * cntA r + ahead r (m % sizeR r)
def amongF (r : Ring) (p m : Int) : Int := firstF r (p + m) - firstF r p
/-- every stretch has a bead -/
def Pos (r : Ring) : Prop := ∀ x ∈ r, 1 ≤ x.2

theorem Pos.tail {x : Bool × Int} {r : Ring} (h : Pos (x :: r)) : Pos r := fun y hy => h y (List.mem_cons_of_mem _ hy)
theorem Pos.head {x : Bool × Int} {r : Ring} (h : Pos (x :: r)) : 1 ≤ x.2 := h x List.mem_cons_self
theorem Pos.take {r : Ring} (h : Pos r) (n : Nat) : Pos (r.take n) := fun y hy => h y (List.mem_of_mem_take hy)
theorem Pos.drop {r : Ring} (h : Pos r) (n : Nat) : Pos (r.drop n) := fun y hy => h y (List.mem_of_mem_drop hy)
theorem Pos.append {p q : Ring} (hp : Pos p) (hq : Pos q) : Pos (p ++ q) := fun y hy => (List.mem_append.mp hy).elim (hp y) (hq y)

theorem size_nonneg : ∀ {r : Ring}, Pos r → 0 ≤ sizeR r
  | [], _ => Int.le_refl 0
  | x :: r, h => by
    have h1 := h.head
    have h2 := size_nonneg h.tail
    show 0 ≤ x.2 + sizeR r
    omega
theorem size_pos {r : Ring} (h : Pos r) (hne : r ≠ []) : 1 ≤ sizeR r := by
  cases r with
  | nil => exact absurd rfl hne
  | cons x r =>
    have h1 := h.head
    have h2 := size_nonneg h.tail
    show 1 ≤ x.2 + sizeR r
    omega
theorem size_append : ∀ (p q : Ring), sizeR (p ++ q) = sizeR p + sizeR q
  | [], q => by show sizeR q = 0 + sizeR q; omega
  | x :: p, q => by
    show x.2 + sizeR (p ++ q) = x.2 + sizeR p + sizeR q
    rw [size_append p q]
    omega
theorem cnt_append : ∀ (p q : Ring), cntA (p ++ q) = cntA p + cntA q
  | [], q => by show cntA q = 0 + cntA q; omega
  | x :: p, q => by
    show (if x.1 = true then x.2 else 0) + cntA (p ++ q) = (if x.1 = true then x.2 else 0) + cntA p + cntA q
    rw [cnt_append p q]
    omega
theorem cnt_all : ∀ (r : Ring), cntA r + cntB r = sizeR r
  | [] => rfl
  | x :: r => by
    have h := cnt_all r
    show (if x.1 = true then x.2 else 0) + cntA r + ((if x.1 = true then 0 else x.2) + cntB r) = x.2 + sizeR r
    cases x.1 <;> simp <;> omega
theorem size_sum (r : Ring) : (r.map (·.2)).sum = sizeR r := by
  induction r with
  | nil => rfl
  | cons x r ih =>
    rw [List.map_cons, List.sum_cons, ih]
    rfl
theorem cntA_sum (r : Ring) : ((r.filter (fun x => x.1)).map (·.2)).sum = cntA r := by
  induction r with
  | nil => rfl
  | cons x r ih =>
    show _ = (if x.1 = true then x.2 else 0) + cntA r
    rw [List.filter_cons]
    cases hx : x.1 with
    | true => simp [ih]
    | false => simp [ih]
theorem cntB_sum (r : Ring) : ((r.filter (fun x => !x.1)).map (·.2)).sum = cntB r := by
  induction r with
  | nil => rfl
  | cons x r ih =>
    show _ = (if x.1 = true then 0 else x.2) + cntB r
    rw [List.filter_cons]
    cases hx : x.1 with
    | true => simp [ih]
    | false => simp [ih]
theorem size_take_succ {r : Ring} {i : Nat} {x : Bool × Int} (h : r[i]? = some x) : sizeR (r.take (i + 1)) = sizeR (r.take i) + x.2 := by
  rw [List.take_add_one, h, size_append]
  show _ + (x.2 + 0) = _
  omega
theorem cnt_take_succ {r : Ring} {i : Nat} {x : Bool × Int} (h : r[i]? = some x) : cntA (r.take (i + 1)) = cntA (r.take i) + (if x.1 = true then x.2 else 0) := by
  rw [List.take_add_one, h, cnt_append]
  show _ + ((if x.1 = true then x.2 else 0) + 0) = _
  omega
theorem size_take_drop (r : Ring) (i : Nat) : sizeR (r.take i) + sizeR (r.drop i) = sizeR r := by
  rw [← size_append, List.take_append_drop]
theorem drop_at {r : Ring} {i : Nat} {x : Bool × Int} (h : r[i]? = some x) : r.drop i = x :: r.drop (i + 1) := by
  obtain ⟨h1, h2⟩ := List.getElem?_eq_some_iff.mp h
  rw [List.drop_eq_getElem_cons h1, h2]
theorem mem_at {r : Ring} {i : Nat} {x : Bool × Int} (h : r[i]? = some x) : x ∈ r := List.mem_of_getElem? h

/-! ### ahead -/
theorem ahead_zero : ∀ {r : Ring}, Pos r → ahead r 0 = 0
  | [], _ => rfl
  | x :: r, h => by
    have h1 := h.head
    have e : mn 0 x.2 = 0 := by
      unfold mn
      rw [if_neg (by omega)]
    show (if x.1 = true then mn 0 x.2 else 0) + ahead r (0 - mn 0 x.2) = 0
    rw [e]
    have ih := ahead_zero h.tail
    rw [show (0 : Int) - 0 = 0 from rfl, ih]
    cases x.1 <;> rfl
theorem ahead_full : ∀ {r : Ring}, Pos r → ∀ {l : Int}, sizeR r ≤ l → ahead r l = cntA r
  | [], _, _, _ => rfl
  | x :: r, h, l, hl => by
    have h1 := h.head
    have h2 := size_nonneg h.tail
    have hl' : x.2 + sizeR r ≤ l := hl
    have e : mn l x.2 = x.2 := by
      unfold mn
      split <;> omega
    show (if x.1 = true then mn l x.2 else 0) + ahead r (l - mn l x.2) = (if x.1 = true then x.2 else 0) + cntA r
    rw [e, ahead_full h.tail (by omega)]
theorem ahead_append : ∀ {p : Ring}, Pos p → ∀ {q : Ring}, Pos q → ∀ {l : Int}, 0 ≤ l → ahead (p ++ q) l = if l ≤ sizeR p then ahead p l else cntA p + ahead q (l - sizeR p)
  | [], _, q, hq, l, h0 => by
    show ahead q l = if l ≤ 0 then 0 else 0 + ahead q (l - 0)
    split
    · have : l = 0 := by omega
      subst this
      exact ahead_zero hq
    · rw [Int.sub_zero]
      omega
  | x :: p, h, q, hq, l, h0 => by
    have h1 := h.head
    have h2 := size_nonneg h.tail
    show (if x.1 = true then mn l x.2 else 0) + ahead (p ++ q) (l - mn l x.2) = if l ≤ x.2 + sizeR p then (if x.1 = true then mn l x.2 else 0) + ahead p (l - mn l x.2) else (if x.1 = true then x.2 else 0) + cntA p + ahead q (l - (x.2 + sizeR p))
    by_cases hl : l ≤ x.2
    · have e : mn l x.2 = l := by
        unfold mn
        split <;> omega
      rw [e, Int.sub_self, if_pos (show l ≤ x.2 + sizeR p by omega), ahead_zero h.tail, ahead_zero (h.tail.append hq)]
    · have e : mn l x.2 = x.2 := by
        unfold mn
        split <;> omega
      rw [e, ahead_append h.tail hq (by omega)]
      by_cases hl2 : l ≤ x.2 + sizeR p
      · rw [if_pos hl2, if_pos (show l - x.2 ≤ sizeR p by omega)]
      · rw [if_neg hl2, if_neg (show ¬ l - x.2 ≤ sizeR p by omega), show l - x.2 - sizeR p = l - (x.2 + sizeR p) by omega]
        omega
theorem ahead_at {r : Ring} (h : Pos r) {i : Nat} {x : Bool × Int} (hx : r[i]? = some x) {l : Int} (h0 : sizeR (r.take i) ≤ l) (h1 : l < sizeR (r.take (i + 1))) : ahead r l = cntA (r.take i) + (if x.1 = true then l - sizeR (r.take i) else 0) := by
  have hs := size_take_succ hx
  have hn := size_nonneg (h.take i)
  have hd := h.drop i
  conv => lhs; rw [← List.take_append_drop i r]
  rw [ahead_append (h.take i) hd (by omega)]
  rw [drop_at hx] at hd ⊢
  have hm : mn (l - sizeR (r.take i)) x.2 = l - sizeR (r.take i) := by
    unfold mn
    split <;> omega
  have hr : ahead (x :: r.drop (i + 1)) (l - sizeR (r.take i)) = if x.1 = true then l - sizeR (r.take i) else 0 := by
    show (if x.1 = true then mn (l - sizeR (r.take i)) x.2 else 0) + ahead (r.drop (i + 1)) (l - sizeR (r.take i) - mn (l - sizeR (r.take i)) x.2) = _
    rw [hm, Int.sub_self, ahead_zero hd.tail]
    omega
  split
  · have : l = sizeR (r.take i) := by omega
    subst this
    rw [ahead_full (h.take i) (Int.le_refl _), Int.sub_self]
    cases x.1 <;> simp
  · rw [hr]

/-! ### counts from the first place on -/
theorem first_add {r : Ring} (h : Pos r) (hne : r ≠ []) (m q : Int) : firstF r (m + sizeR r * q) = firstF r m + q * cntA r := by
  have hs := size_pos h hne
  unfold firstF
  rw [Int.add_mul_ediv_left _ _ (by omega), Int.add_mul_emod_self_left, Int.add_mul]
  omega
theorem first_small {r : Ring} {m : Int} (h0 : 0 ≤ m) (h1 : m < sizeR r) : firstF r m = ahead r m := by
  unfold firstF
  rw [Int.ediv_eq_zero_of_lt h0 h1, Int.emod_eq_of_lt h0 h1]
  omega
theorem mod_eq (m n : Int) : m = m % n + n * (m / n) := by
  have := Int.emod_add_mul_ediv m n
  omega
/-- the ring's own reckoning: rounds and what is ahead -/
theorem among_along {r : Ring} {p m : Int} (h0 : 0 ≤ p) (h1 : p < sizeR r) : amongF r p m = (p + m) / sizeR r * cntA r + ahead r ((p + m) % sizeR r) - ahead r p := by
  unfold amongF
  rw [first_small h0 h1]
  rfl
/-- in two parts -/
theorem among_parts {r : Ring} (h : Pos r) (hne : r ≠ []) (p m f : Int) : amongF r p m = amongF r p f + amongF r ((p + f) % sizeR r) (m - f) := by
  have e := mod_eq (p + f) (sizeR r)
  generalize (p + f) % sizeR r = t at e
  generalize (p + f) / sizeR r = q at e
  unfold amongF
  have e1 : p + m = t + (m - f) + sizeR r * q := by omega
  have e2 : p + f = t + sizeR r * q := by omega
  rw [e1, e2, first_add h hne, first_add h hne]
  omega
/-- rings that tell the same of every count -/
theorem first_same {r c : Ring} (hs : sizeR c = sizeR r) (hc : cntA c = cntA r) (ha : ∀ l, 0 ≤ l → ahead c l = ahead r l) (h : Pos r) (hne : r ≠ []) (m : Int) : firstF c m = firstF r m := by
  have h1 := size_pos h hne
  unfold firstF
  rw [hs, hc, ha _ (Int.emod_nonneg _ (by omega))]
/-- the ring begun at another stretch -/
theorem first_turned {p q : Ring} (hp : Pos p) (hq : Pos q) (hne : q ≠ []) (m : Int) : firstF (q ++ p) m + firstF (p ++ q) (sizeR p) = firstF (p ++ q) (m + sizeR p) := by
  have sp := size_nonneg hp
  have sq := size_pos hq hne
  have eS : sizeR (p ++ q) = sizeR p + sizeR q := size_append p q
  have eS' : sizeR (q ++ p) = sizeR p + sizeR q := by rw [size_append]; omega
  have eC : cntA (p ++ q) = cntA p + cntA q := cnt_append p q
  have eC' : cntA (q ++ p) = cntA p + cntA q := by rw [cnt_append]; omega
  have nep : p ++ q ≠ [] := by simp [hne]
  have neq : q ++ p ≠ [] := by simp [hne]
  have far : firstF (p ++ q) (sizeR p) = cntA p := by
    rw [first_small sp (by omega), ahead_append hp hq sp, if_pos (Int.le_refl _), ahead_full hp (Int.le_refl _)]
  have small : ∀ t, 0 ≤ t → t < sizeR p + sizeR q → firstF (q ++ p) t + cntA p = firstF (p ++ q) (t + sizeR p) := fun t h0 h1 => by
    rw [first_small h0 (by omega), ahead_append hq hp h0]
    by_cases ht : t < sizeR q
    · rw [if_pos (by omega), first_small (by omega) (by omega), ahead_append hp hq (by omega)]
      by_cases ht0 : t = 0
      · subst ht0
        rw [if_pos (by omega), ahead_zero hq, ahead_full hp (by omega)]
        omega
      · rw [if_neg (by omega), show t + sizeR p - sizeR p = t by omega]
        omega
    · have e : t + sizeR p = (t - sizeR q) + sizeR (p ++ q) * 1 := by omega
      rw [e, first_add (hp.append hq) nep, first_small (by omega) (by omega), ahead_append hp hq (by omega), eC]
      by_cases ht2 : t = sizeR q
      · subst ht2
        rw [if_pos (Int.le_refl _), Int.sub_self, if_pos (by omega), ahead_zero hp, ahead_full hq (Int.le_refl _)]
        omega
      · rw [if_neg (by omega), if_pos (by omega)]
        omega
  have e := mod_eq m (sizeR (q ++ p))
  have h0 : 0 ≤ m % sizeR (q ++ p) := Int.emod_nonneg _ (by omega)
  have h1 : m % sizeR (q ++ p) < sizeR (q ++ p) := Int.emod_lt_of_pos _ (by omega)
  generalize m % sizeR (q ++ p) = t at e h0 h1
  generalize m / sizeR (q ++ p) = k at e
  have s := small t h0 (by omega)
  rw [e, first_add (hq.append hp) neq, far, eC']
  rw [eS'] at *
  have e3 : t + (sizeR p + sizeR q) * k + sizeR p = (t + sizeR p) + sizeR (p ++ q) * k := by
    rw [eS]
    omega
  rw [e3, first_add (hp.append hq) nep, ← s, eC]
  omega
theorem among_turned {p q : Ring} (hp : Pos p) (hq : Pos q) (hne : q ≠ []) (a m : Int) : amongF (q ++ p) ((a - sizeR p) % sizeR (p ++ q)) m = amongF (p ++ q) a m := by
  have e := mod_eq (a - sizeR p) (sizeR (p ++ q))
  generalize (a - sizeR p) % sizeR (p ++ q) = t at e
  generalize (a - sizeR p) / sizeR (p ++ q) = k at e
  have nep : p ++ q ≠ [] := by simp [hne]
  unfold amongF
  have h1 := first_turned hp hq hne (t + m)
  have h2 := first_turned hp hq hne t
  have e1 : a + m = (t + m + sizeR p) + sizeR (p ++ q) * k := by omega
  have e2 : a = (t + sizeR p) + sizeR (p ++ q) * k := by omega
  have f1 : firstF (p ++ q) (a + m) = firstF (p ++ q) (t + m + sizeR p) + k * cntA (p ++ q) := by rw [e1, first_add (hp.append hq) nep]
  have f2 : firstF (p ++ q) a = firstF (p ++ q) (t + sizeR p) + k * cntA (p ++ q) := by
    conv => lhs; rw [e2]
    rw [first_add (hp.append hq) nep]
  omega

/-! ### kinds -/
theorem kind_at' : ∀ {r : Ring}, Pos r → ∀ {i : Nat} {x : Bool × Int}, r[i]? = some x → ∀ {d : Int}, 0 ≤ d → d < x.2 → kindR r (sizeR (r.take i) + d) = x.1
  | [], _, i, x, h, _, _, _ => by simp at h
  | y :: r, hp, 0, x, h, d, h0, h1 => by
    have e : y = x := Option.some.inj h
    subst e
    show (if 0 + d < y.2 then y.1 else _) = y.1
    rw [if_pos (by omega)]
  | y :: r, hp, i + 1, x, h, d, h0, h1 => by
    have ih := kind_at' hp.tail (i := i) (x := x) h h0 h1
    have hn := size_nonneg (hp.tail.take i)
    show (if y.2 + sizeR (r.take i) + d < y.2 then y.1 else kindR r (y.2 + sizeR (r.take i) + d - y.2)) = x.1
    rw [if_neg (by omega), show y.2 + sizeR (r.take i) + d - y.2 = sizeR (r.take i) + d by omega]
    exact ih

/-! ### stretches cut in two -/
/-- c is r with some stretches cut in two -/
inductive Cut : Ring → Ring → Prop
  | nil : Cut [] []
  | keep {x : Bool × Int} {r c : Ring} (h : Cut r c) : Cut (x :: r) (x :: c)
  | two {k : Bool} {n f : Int} {r c : Ring} (h0 : 0 < f) (h1 : f < n) (h : Cut r c) : Cut ((k, n) :: r) ((k, f) :: (k, n - f) :: c)
theorem Cut.pos {r c : Ring} (h : Cut r c) : Pos r → Pos c := by
  induction h with
  | nil => exact fun _ y hy => by simp at hy
  | keep h ih =>
    intro hp y hy
    rcases List.mem_cons.mp hy with e | e
    · subst e
      exact hp.head
    · exact ih hp.tail y e
  | two h0 h1 h ih =>
    intro hp y hy
    rcases List.mem_cons.mp hy with e | e
    · subst e
      show (1 : Int) ≤ _
      omega
    · rcases List.mem_cons.mp e with e | e
      · subst e
        show (1 : Int) ≤ _ - _
        omega
      · exact ih hp.tail y e
theorem Cut.size {r c : Ring} (h : Cut r c) : sizeR c = sizeR r := by
  induction h with
  | nil => rfl
  | keep h ih =>
    show _ + _ = _ + _
    rw [ih]
  | @two k n f r c h0 h1 h ih =>
    show f + (n - f + sizeR c) = n + sizeR r
    rw [ih]
    omega
theorem Cut.cnt {r c : Ring} (h : Cut r c) : cntA c = cntA r := by
  induction h with
  | nil => rfl
  | keep h ih =>
    show _ + _ = _ + _
    rw [ih]
  | @two k n f r c h0 h1 h ih =>
    show (if k = true then f else 0) + ((if k = true then n - f else 0) + cntA c) = (if k = true then n else 0) + cntA r
    rw [ih]
    cases k <;> simp <;> omega
theorem Cut.ahead {r c : Ring} (h : Cut r c) : ∀ {l : Int}, 0 ≤ l → ahead c l = ahead r l := by
  induction h with
  | nil => exact fun _ => rfl
  | @keep x r c h ih =>
    intro l h0
    show (if x.1 = true then mn l x.2 else 0) + RB.ahead c (l - mn l x.2) = (if x.1 = true then mn l x.2 else 0) + RB.ahead r (l - mn l x.2)
    rw [ih (by unfold mn; split <;> omega)]
  | @two k n f r c h0 h1 h ih =>
    intro l hl
    show (if k = true then mn l f else 0) + ((if k = true then mn (l - mn l f) (n - f) else 0) + RB.ahead c (l - mn l f - mn (l - mn l f) (n - f))) = (if k = true then mn l n else 0) + RB.ahead r (l - mn l n)
    have e : mn l f + mn (l - mn l f) (n - f) = mn l n := by
      unfold mn
      repeat' split
      all_goals omega
    have h2 : mn l n ≤ l := by
      unfold mn
      split <;> omega
    rw [show l - mn l f - mn (l - mn l f) (n - f) = l - mn l n by omega, ih (by omega)]
    cases k <;> simp <;> omega
theorem Cut.kind {r c : Ring} (h : Cut r c) : ∀ {l : Int}, 0 ≤ l → kindR c l = kindR r l := by
  induction h with
  | nil => exact fun _ => rfl
  | @keep x r c h ih =>
    intro l h0
    show (if l < x.2 then x.1 else kindR c (l - x.2)) = (if l < x.2 then x.1 else kindR r (l - x.2))
    split
    · rfl
    · exact ih (by omega)
  | @two k n f r c h0 h1 h ih =>
    intro l hl
    show (if l < f then k else if l - f < n - f then k else kindR c (l - f - (n - f))) = (if l < n then k else kindR r (l - n))
    by_cases h2 : l < f
    · rw [if_pos h2, if_pos (by omega)]
    · rw [if_neg h2]
      by_cases h3 : l < n
      · rw [if_pos (by omega), if_pos h3]
      · rw [if_neg (by omega), if_neg h3, show l - f - (n - f) = l - n by omega]
        exact ih (by omega)
theorem Cut.append {r c r' c' : Ring} (h : Cut r c) (h' : Cut r' c') : Cut (r ++ r') (c ++ c') := by
  induction h with
  | nil => exact h'
  | keep h ih => exact .keep ih
  | two h0 h1 h ih => exact .two h0 h1 ih
theorem Cut.ne {r c : Ring} (h : Cut r c) (hne : r ≠ []) : c ≠ [] := by
  cases h with
  | nil => exact absurd rfl hne
  | keep h => simp
  | two h0 h1 h => simp
theorem Cut.among {r c : Ring} (h : Cut r c) (hp : Pos r) (hne : r ≠ []) (p m : Int) : amongF c p m = amongF r p m := by
  unfold amongF
  rw [first_same h.size h.cnt (fun l hl => h.ahead hl) hp hne, first_same h.size h.cnt (fun l hl => h.ahead hl) hp hne]
theorem Cut.length {r c : Ring} (h : Cut r c) : c.length ≤ 2 * r.length := by
  induction h with
  | nil => simp
  | keep h ih =>
    simp only [List.length_cons]
    omega
  | two h0 h1 h ih =>
    simp only [List.length_cons]
    omega
theorem Cut.under {r c : Ring} {B : Int} (h : Cut r c) : (∀ x ∈ r, x.2 < B) → ∀ x ∈ c, x.2 < B := by
  induction h with
  | nil => exact fun _ y hy => by simp at hy
  | @keep x r c h ih =>
    intro hb y hy
    rcases List.mem_cons.mp hy with e | e
    · subst e
      exact hb _ List.mem_cons_self
    · exact ih (fun z hz => hb z (List.mem_cons_of_mem _ hz)) y e
  | @two k n f r c h0 h1 h ih =>
    intro hb y hy
    have hn : n < B := hb (k, n) List.mem_cons_self
    rcases List.mem_cons.mp hy with e | e
    · subst e
      show f < B
      omega
    · rcases List.mem_cons.mp e with e | e
      · subst e
        show n - f < B
        omega
      · exact ih (fun z hz => hb z (List.mem_cons_of_mem _ hz)) y e

theorem size_bound {B : Int} : ∀ {r : Ring}, (∀ x ∈ r, x.2 ≤ B) → sizeR r ≤ r.length * B
  | [], _ => by show (0 : Int) ≤ ((0 : Nat) : Int) * B; omega
  | x :: r, h => by
    have ih := size_bound (r := r) (fun y hy => h y (List.mem_cons_of_mem _ hy))
    have hx := h x List.mem_cons_self
    show x.2 + sizeR r ≤ ((r.length + 1 : Nat) : Int) * B
    rw [Int.natCast_add, Int.add_mul]
    omega
theorem cnt_nonneg : ∀ {r : Ring}, Pos r → 0 ≤ cntA r
  | [], _ => Int.le_refl 0
  | x :: r, h => by
    have h1 := h.head
    have h2 := cnt_nonneg h.tail
    show 0 ≤ (if x.1 = true then x.2 else 0) + cntA r
    split <;> omega
theorem cnt_le : ∀ {r : Ring}, Pos r → cntA r ≤ sizeR r
  | [], _ => Int.le_refl 0
  | x :: r, h => by
    have h1 := h.head
    have h2 := cnt_le h.tail
    show (if x.1 = true then x.2 else 0) + cntA r ≤ x.2 + sizeR r
    split <;> omega
/-! ### the beads one by one -/
def rowL : Ring → List Bool
  | [] => []
  | x :: r => List.replicate x.2.toNat x.1 ++ rowL r
theorem rowL_len : ∀ {r : Ring}, Pos r → ((rowL r).length : Int) = sizeR r
  | [], _ => rfl
  | x :: r, h => by
    have h1 := h.head
    have ih := rowL_len h.tail
    show ((List.replicate x.2.toNat x.1 ++ rowL r).length : Int) = x.2 + sizeR r
    rw [List.length_append, List.length_replicate]
    omega
theorem rowL_kind : ∀ {r : Ring}, Pos r → ∀ {i : Nat}, i < (rowL r).length → (rowL r)[i]? = some (kindR r (i : Int))
  | [], _, i, h => by simp [rowL] at h
  | x :: r, hp, i, h => by
    have h1 := hp.head
    show (List.replicate x.2.toNat x.1 ++ rowL r)[i]? = some (if (i : Int) < x.2 then x.1 else kindR r ((i : Int) - x.2))
    have hl : (List.replicate x.2.toNat x.1 ++ rowL r).length = x.2.toNat + (rowL r).length := by rw [List.length_append, List.length_replicate]
    have h' : i < x.2.toNat + (rowL r).length := by
      have : i < (List.replicate x.2.toNat x.1 ++ rowL r).length := h
      omega
    by_cases hi : (i : Int) < x.2
    · rw [if_pos hi, List.getElem?_append_left (by rw [List.length_replicate]; omega), List.getElem?_replicate, if_pos (by omega)]
    · rw [if_neg hi, List.getElem?_append_right (by rw [List.length_replicate]; omega), List.length_replicate, rowL_kind hp.tail (i := i - x.2.toNat) (by omega)]
      rw [show ((i - x.2.toNat : Nat) : Int) = (i : Int) - x.2 by omega]
open PySem PySem.Spec PyProof.Rows L2 Evl
abbrev Sg := L2.St

/-! ### the rules under names -/
def rMin2 : List V → Hp → VK → Prop := fun xs H Q => ∃ i j, xs = [.int i, .int j] ∧ Q (.int (if j < i then j else i)) H
def rDm : List V → Hp → VK → Prop := fun xs H Q => ∃ i j, xs = [.int i, .int j] ∧ CDivP i j ∧ ∀ p, H p = none → Q (.ref p) (upd H p (.tup [.int (i / j), .int (i % j)]))
def rLenStr : List V → Hp → VK → Prop := fun xs H Q => ∃ z : Str, xs = [.str z] ∧ z.length ≤ sizeLine ∧ Q (.int z.length) H
def rMulS : R2 := fun x y H Q => ∃ (z : Str) (n : Int), x = .str z ∧ y = .int n ∧ (PySem.MulOk z n) ∧ Q (.str (Txt.mul z n)) H
section
variable {X : Cx}
theorem c_min2 (hc : X.calm = true) : CallR X (.builtin "min") rMin2 := call_min2 hc
theorem c_dm : CallR X (.builtin "divmod") rDm := call_divmodW
theorem c_len : CallR X (.builtin "len") (rLenS X.K) := call_len_seq
theorem c_lenS : CallR X (.builtin "len") rLenStr := call_len_str
theorem c_list : CallR X (.type "list") (rListS X.K) := call_list_of
theorem op_mul_str : OpR X (binaryOp .Mult) rMulS := by
  intro pins s σ H x y v u Q I rx ry h
  obtain ⟨z, n, rfl, rfl, ok, q⟩ := h
  obtain ⟨t, rfl⟩ := rx
  obtain ⟨t', rfl⟩ := ry
  exact PySem.SB.mul ok fun t'' k => ⟨.str _, H, I.tok _, ⟨_, rfl⟩, q⟩
end

/-! ### letters, rings at addresses -/
def kl (b : Bool) : Str := if b = true then "a" else "b"
theorem kl_a (b : Bool) : decide (V.str (kl b) = V.str "a") = b := by
  cases b <;> decide +kernel
theorem kl_eq (b c : Bool) : decide (V.str (kl b) = V.str (kl c)) = (b == c) := by
  cases b <;> cases c <;> decide +kernel
def StAt (K : PySem.W.Frag) (H : Hp) (v : V) (x : Bool × Int) : Prop := ∃ t, v = .ref t ∧ SqT K H t [.str (kl x.1), .int x.2]
def Items (K : PySem.W.Frag) (H : Hp) (vs : List V) (r : Ring) : Prop := vs.length = r.length ∧ ∀ (i : Nat) (v : V) (x : Bool × Int), vs[i]? = some v → r[i]? = some x → StAt K H v x
def RingAt (K : PySem.W.Frag) (H : Hp) (a : Addr) (r : Ring) : Prop := ∃ vs : List V, SqL K H a vs ∧ Items K H vs r
section
variable {K : PySem.W.Frag} {H H' : Hp} {a : Addr} {r r' : Ring} {vs vs' : List V} {x : Bool × Int} {v : V}
theorem StAt.mono (e : Ex H H') (h : StAt K H v x) : StAt K H' v x := by
  obtain ⟨t, e1, h1⟩ := h
  exact ⟨t, e1, ex_t e h1⟩
theorem Items.mono (e : Ex H H') (h : Items K H vs r) : Items K H' vs r := ⟨h.1, fun i v x h1 h2 => (h.2 i v x h1 h2).mono e⟩
theorem RingAt.mono (e : Ex H H') (h : RingAt K H a r) : RingAt K H' a r := by
  obtain ⟨vs, h1, h2⟩ := h
  exact ⟨vs, ex_l e h1, h2.mono e⟩
theorem Items.nil : Items K H [] [] := ⟨rfl, fun i v x h => by simp at h⟩
theorem Items.append (h : Items K H vs r) (h' : Items K H vs' r') : Items K H (vs ++ vs') (r ++ r') := by
  refine ⟨by rw [List.length_append, List.length_append, h.1, h'.1], fun i v x e1 e2 => ?_⟩
  by_cases hi : i < vs.length
  · rw [List.getElem?_append_left hi] at e1
    rw [List.getElem?_append_left (by rw [← h.1]; exact hi)] at e2
    exact h.2 i v x e1 e2
  · rw [List.getElem?_append_right (by omega)] at e1
    rw [List.getElem?_append_right (by rw [← h.1]; omega), ← h.1] at e2
    exact h'.2 _ v x e1 e2
theorem Items.one (h : StAt K H v x) : Items K H [v] [x] := ⟨rfl, fun i w y e1 e2 => by
  cases i with
  | zero =>
    have h1 : v = w := Option.some.inj e1
    have h2 : x = y := Option.some.inj e2
    subst h1
    subst h2
    exact h
  | succ i => simp at e1⟩
theorem Items.take (h : Items K H vs r) (n : Nat) : Items K H (vs.take n) (r.take n) := by
  refine ⟨by rw [List.length_take, List.length_take, h.1], fun i v x e1 e2 => ?_⟩
  rw [List.getElem?_take] at e1 e2
  split at e1
  · rename_i hi
    rw [if_pos hi] at e2
    exact h.2 i v x e1 e2
  · cases e1
theorem Items.drop (h : Items K H vs r) (n : Nat) : Items K H (vs.drop n) (r.drop n) := by
  refine ⟨by rw [List.length_drop, List.length_drop, h.1], fun i v x e1 e2 => ?_⟩
  rw [List.getElem?_drop] at e1 e2
  exact h.2 _ v x e1 e2
theorem Items.get (h : Items K H vs r) {i : Nat} (hx : r[i]? = some x) : ∃ t, vs[i]? = some (.ref t) ∧ SqT K H t [.str (kl x.1), .int x.2] := by
  have hi : i < vs.length := by
    rw [h.1]
    exact (List.getElem?_eq_some_iff.mp hx).1
  obtain ⟨t, e, ht⟩ := h.2 i _ x (List.getElem?_eq_getElem hi) hx
  exact ⟨t, by rw [List.getElem?_eq_getElem hi, e], ht⟩
end

/-! ### values told by a word -/
def EvP (te : TE) (σ : Sg) (H : Hp) (P : V → Hp → Prop) : Prop := ∀ H1, Ex H H1 → ∀ Q : VK, (∀ v H2, Ex H1 H2 → P v H2 → Q v H2) → te σ H1 Q
def IsRing (K : PySem.W.Frag) (r : Ring) : V → Hp → Prop := fun v H => ∃ a, v = .ref a ∧ RingAt K H a r
def IsL (K : PySem.W.Frag) (xs : List V) : V → Hp → Prop := fun v H => ∃ a, v = .ref a ∧ SqL K H a xs
def IsT (K : PySem.W.Frag) (xs : List V) : V → Hp → Prop := fun v H => ∃ a, v = .ref a ∧ SqT K H a xs
def RetP (P : V → Hp → Prop) (H : Hp) (Q : VK) : Prop := ∀ v H2, Ex H H2 → P v H2 → Q v H2
def SpP (sp : Sp) (vs : List V) (H : Hp) (P : V → Hp → Prop) : Prop := ∀ H1, Ex H H1 → ∀ Q : VK, RetP P H1 Q → ∀ E : XK, sp vs H1 Q E
section
variable {K : PySem.W.Frag} {σ : Sg} {H H' : Hp} {ta tb te tx : TE} {t u : TT} {x y z v : V} {D : Ends} {tu tw tz : TS} {g : TG} {P P' : V → Hp → Prop} {r : Ring}
theorem EvP.mono (e : Ex H H') (h : EvP te σ H P) : EvP te σ H' P := fun H1 a Q q => h H1 (e.trans a) Q q
theorem EvP.imp (h : EvP te σ H P) (k : ∀ v H1, Ex H H1 → P v H1 → P' v H1) : EvP te σ H P' := fun H1 e Q q => h H1 e Q fun v H2 e2 hP => q v H2 e2 (k v H2 (e.trans e2) hP)
theorem ep_var {i : Nat} (h : σ[i]? = some (some v)) (hP : ∀ H1, Ex H H1 → P v H1) : EvP (tVar i) σ H P := fun H1 e _ q => ⟨v, h, q v H1 (Ex.refl H1) (hP H1 e)⟩
theorem ep_ev (h : Ev te σ H v) (hP : ∀ H1, Ex H H1 → P v H1) : EvP te σ H P := fun H1 e Q q => h H1 e Q fun H2 e2 => q v H2 e2 (hP H2 (e.trans e2))
theorem ep_U {xs : List V} (h : EvU te σ H xs) : EvP te σ H (IsT K xs) := fun H1 e Q q => h H1 e Q fun p H2 _ e2 h2 => q _ H2 e2 ⟨p, rfl, st_of h2⟩
theorem ep_L {xs : List V} (h : EvL te σ H xs) : EvP te σ H (IsL K xs) := fun H1 e Q q => h H1 e Q fun p H2 _ e2 h2 => q _ H2 e2 ⟨p, rfl, sq_of h2⟩
theorem ev_callP {sp : Sp} {vs : List V} {E : XK} {ta : TA} (h : EvA ta σ H vs) (hs : SpP sp (vs ++ []) H P) : EvP (tCall sp [] E ta) σ H P := fun H1 e Q q =>
  h H1 e _ fun H2 e2 => hs H2 (e.trans e2) Q (fun v H3 e3 hP => q v H3 (e2.trans e3) hP) E
/-- a call whose first argument is told by a word -/
theorem ev_call1 {sp : Sp} {vs : List V} {E : XK} {tr : TA} (h : EvP te σ H P) (hr : EvA tr σ H vs) (hs : ∀ v H1, Ex H H1 → P v H1 → SpV sp ((v :: vs) ++ []) H1 z) : Ev (tCall sp [] E (tCons te tr)) σ H z := fun H1 e Q q =>
  h H1 e _ fun v H2 e2 hP => hr H2 (e.trans e2) _ fun H3 e3 => by
    refine hs v H2 (e.trans e2) hP H3 e3 Q (fun H4 e4 => q H4 ((e2.trans e3).trans e4)) E
theorem ev_call1P {sp : Sp} {vs : List V} {E : XK} {tr : TA} (h : EvP te σ H P) (hr : EvA tr σ H vs) (hs : ∀ v H1, Ex H H1 → P v H1 → SpP sp ((v :: vs) ++ []) H1 P') : EvP (tCall sp [] E (tCons te tr)) σ H P' := fun H1 e Q q =>
  h H1 e _ fun v H2 e2 hP => hr H2 (e.trans e2) _ fun H3 e3 => by
    refine hs v H2 (e.trans e2) hP H3 e3 Q (fun w H4 e4 hw => q w H4 ((e2.trans e3).trans e4) hw) E
/-- an operation whose operands are told by words -/
theorem ev_opP {rr : R2} (ha : EvP ta σ H P) (hb : ∀ H1, Ex H H1 → EvP tb σ H1 P') (hr : ∀ v w H1 H2, Ex H H1 → Ex H1 H2 → P v H1 → P' w H2 → RV rr v w H2 z) : Ev (tOp rr ta tb) σ H z := fun H1 e Q q =>
  ha H1 e _ fun v H2 e2 hP => hb H2 (e.trans e2) H2 (Ex.refl H2) _ fun w H3 e3 hP' => hr v w H2 H3 (e.trans e2) e3 hP hP' H3 (Ex.refl H3) Q fun H4 e4 => q H4 ((e2.trans e3).trans e4)
theorem ev_opP1 {rr : R2} (ha : EvP ta σ H P) (hb : Ev tb σ H y) (hr : ∀ v H1, Ex H H1 → P v H1 → RV rr v y H1 z) : Ev (tOp rr ta tb) σ H z := fun H1 e Q q =>
  ha H1 e _ fun v H2 e2 hP => hb H2 (e.trans e2) _ fun H3 e3 => hr v H2 (e.trans e2) hP H3 e3 Q fun H4 e4 => q H4 ((e2.trans e3).trans e4)
/-- .. an item taken that is told by a word itself -/
theorem ep_opP1 {rr : R2} (ha : EvP ta σ H P) (hb : Ev tb σ H y) (hr : ∀ v H1, Ex H H1 → P v H1 → ∃ w, RV rr v y H1 w ∧ ∀ H2, Ex H1 H2 → P' w H2) : EvP (tOp rr ta tb) σ H P' := fun H1 e Q q =>
  ha H1 e _ fun v H2 e2 hP => hb H2 (e.trans e2) _ fun H3 e3 => by
    obtain ⟨w, hw, hPw⟩ := hr v H2 (e.trans e2) hP
    exact hw H3 e3 Q fun H4 e4 => q w H4 ((e2.trans e3).trans e4) (hPw H4 (e3.trans e4))
theorem ep_if {b : Bool} (h : EvT t σ H b) (h1 : b = true → EvP ta σ H P) (h2 : b = false → EvP tb σ H P) : EvP (tIf t ta tb) σ H P := fun H1 e Q q => h H1 e _ fun H2 e2 => by
  cases b with
  | true =>
    show ta σ H2 Q
    exact h1 rfl H2 (e.trans e2) Q fun v H3 e3 hP => q v H3 (e2.trans e3) hP
  | false =>
    show tb σ H2 Q
    exact h2 rfl H2 (e.trans e2) Q fun v H3 e3 hP => q v H3 (e2.trans e3) hP

/-! ### statements -/
theorem q_asgP {i : Nat} (h : EvP te σ H P) (k : ∀ v H1, Ex H H1 → P v H1 → tz D (σ.set i (some v)) H1) : tSeq (tAsg te (gName i)) tz D σ H := h H (Ex.refl H) _ fun v H1 e hP => k v H1 e hP
theorem s_retP (h : EvP te σ H P) (k : ∀ v H1, Ex H H1 → P v H1 → D.rt v H1) : tRet te D σ H := h H (Ex.refl H) _ fun v H1 e hP => k v H1 e hP
/-- a, b = a pair -/
theorem q_unp {i j : Nat} (h : EvP te σ H (IsT K [x, y])) (k : ∀ H1, Ex H H1 → tz D ((σ.set i (some x)).set j (some y)) H1) : tSeq (tAsg te (gTup K 2 (gCons (gName i) (gCons (gName j) gNil)))) tz D σ H :=
  h H (Ex.refl H) _ fun v H1 e ⟨a, ea, ha⟩ => ⟨a, [x, y], ea, ha, rfl, x, [y], rfl, y, [], rfl, rfl, k H1 e⟩
theorem q_par {i j : Nat} {ta : TA} (h : EvA ta σ H [x, y]) (k : ∀ H1, Ex H H1 → tz D ((σ.set i (some x)).set j (some y)) H1) : tSeq (tPar i j ta) tz D σ H :=
  h H (Ex.refl H) _ fun H1 e => ⟨x, y, rfl, k H1 e⟩
theorem q_parP {i j : Nat} {ta tb : TE} (ha : EvP ta σ H P) (hb : ∀ H1, Ex H H1 → Ev tb σ H1 y) (k : ∀ v H1 H2, Ex H H1 → Ex H1 H2 → P v H1 → tz D ((σ.set i (some v)).set j (some y)) H2) : tSeq (tPar i j (tCons ta (tCons tb tNil))) tz D σ H :=
  ha H (Ex.refl H) _ fun v H1 e hP => hb H1 e H1 (Ex.refl H1) _ fun H2 e2 => ⟨v, y, rfl, k v H1 H2 e e2 hP⟩
theorem q_par3P {i j l : Nat} {ta tb tc : TE} (ha : EvP ta σ H P) (hb : ∀ H1, Ex H H1 → Ev tb σ H1 y) (hc : ∀ H1, Ex H H1 → Ev tc σ H1 z) (k : ∀ v H1 H2, Ex H H1 → Ex H1 H2 → P v H1 → tz D (((σ.set i (some v)).set j (some y)).set l (some z)) H2) :
    tSeq (tPar3 i j l (tCons ta (tCons tb (tCons tc tNil)))) tz D σ H :=
  ha H (Ex.refl H) _ fun v H1 e hP => hb H1 e H1 (Ex.refl H1) _ fun H2 e2 => hc H2 (e.trans e2) H2 (Ex.refl H2) _ fun H3 e3 => ⟨v, y, z, rfl, k v H1 H3 e (e2.trans e3) hP⟩
/-- a call (or another expression) as a statement -/
theorem q_dropP (h : EvP te σ H P) (k : ∀ H1, Ex H H1 → tz D σ H1) : tSeq (tDrop te) tz D σ H := h H (Ex.refl H) _ fun v H1 e hP => k H1 e

/-! ### loops over a ring -/
def gPair (K : PySem.W.Frag) (j k : Nat) : TG := gTup K 2 (gCons (gName j) (gCons (gName k) gNil))
theorem s_forR {a : Addr} {tl : TE} {j k : Nat} (h : Ev tl σ H (.ref a)) (hr : RingAt K H a r) (Pv : Nat → Sg → Hp → Prop) (h0 : ∀ H1, Ex H H1 → Pv 0 σ H1) (hx : ∀ i σ' H', Pv i σ' H' → Ex H H')
    (hs : ∀ i x σ' H', r[i]? = some x → Pv i σ' H' → tu { D with nx := Pv (i + 1), ct := Pv (i + 1), bk := D.nx } ((σ'.set j (some (.str (kl x.1)))).set k (some (.int x.2))) H') (hd : ∀ σ' H', Pv r.length σ' H' → D.nx σ' H') :
    tFor (iList K tl) (gTup K 2 (gCons (gName j) (gCons (gName k) gNil))) tu D σ H := by
  obtain ⟨vs, hvs, hit⟩ := hr
  refine s_forL h hvs Pv h0 (fun i σ' H' _ p => ex_l (hx i σ' H' p) hvs) (fun i v σ' H' hv p => ?_) (by rw [hit.1]; exact hd)
  have hi : i < r.length := by
    rw [← hit.1]
    exact (List.getElem?_eq_some_iff.mp hv).1
  have ex := List.getElem?_eq_getElem hi
  obtain ⟨t, e, ht⟩ := hit.2 i v _ hv ex
  refine ⟨t, _, e, ex_t (hx i σ' H' p) ht, rfl, _, _, rfl, _, _, rfl, rfl, ?_⟩
  exact hs i _ σ' H' ex p
theorem q_forR {a : Addr} {tl : TE} {j k : Nat} (h : Ev tl σ H (.ref a)) (hr : RingAt K H a r) (Pv : Nat → Sg → Hp → Prop) (h0 : ∀ H1, Ex H H1 → Pv 0 σ H1) (hx : ∀ i σ' H', Pv i σ' H' → Ex H H')
    (hs : ∀ i x σ' H', r[i]? = some x → Pv i σ' H' → tu { D with nx := Pv (i + 1), ct := Pv (i + 1), bk := tz D } ((σ'.set j (some (.str (kl x.1)))).set k (some (.int x.2))) H') (hd : ∀ σ' H', Pv r.length σ' H' → tz D σ' H') :
    tSeq (tFor (iList K tl) (gTup K 2 (gCons (gName j) (gCons (gName k) gNil))) tu) tz D σ H := s_forR (D := { D with nx := tz D }) h hr Pv h0 hx hs hd
/-- for k, x in enumerate(xs) -/
theorem q_forE {ta : TA} {xs : List V} (h : ∀ Q : List V → Hp → Prop, (∀ a H1, Ex H H1 → SqL K H1 a xs → Q [.ref a] H1) → ta σ H Q) (Pv : Hp → Nat → Sg → Hp → Prop) (h0 : ∀ H1, Ex H H1 → Pv H1 0 σ H1) (hx : ∀ H1 i σ' H', Ex H H1 → Pv H1 i σ' H' → Ex H1 H')
    (hs : ∀ H1 i x σ' H' T, Ex H H1 → xs[i]? = some x → Pv H1 i σ' H' → H' T = none → g (.ref T) σ' (upd H' T (.tup [.int (i : Nat), x])) fun σ2 H2 => tu { D with nx := Pv H1 (i + 1), ct := Pv H1 (i + 1), bk := tz D } σ2 H2) (hd : ∀ H1 σ' H', Ex H H1 → Pv H1 xs.length σ' H' → tz D σ' H') :
    tSeq (tFor (iEnum K ta) g tu) tz D σ H := by
  refine h _ fun a H1 e1 ha => ⟨a, xs, rfl, ha, fun i m σ' H' => m = xs.length - i ∧ i ≤ xs.length ∧ Pv H1 i σ' H', ⟨xs.length, by simp, Nat.zero_le _, h0 H1 e1⟩, ?_⟩
  rintro i m σ' H' ⟨rfl, hi, p⟩
  have q := ex_l (hx H1 i σ' H' e1 p) ha
  by_cases hlt : i < xs.length
  · refine .inr ⟨⟨xs, xs[i], q, List.getElem?_eq_getElem hlt⟩, Pv H1 (i + 1), fun σ' H' p' => ⟨xs.length - (i + 1), by omega, rfl, hlt, p'⟩, fun x H'' hy => ?_⟩
    obtain ⟨T, x', rfl, nT, rfl, f1⟩ := hy
    exact hs H1 i x' σ' H' T e1 (f1 xs q) p nT
  · have ei : i = xs.length := by omega
    subst ei
    exact .inl ⟨⟨xs, q, Nat.le_refl _⟩, hd H1 σ' H' e1 p⟩
/-- over a tuple just made -/
theorem s_forU {xs : List V} {tl : TE} {j : Nat} (h : EvU tl σ H xs) (Pv : Hp → Nat → Sg → Hp → Prop) (h0 : ∀ H1, Ex H H1 → Pv H1 0 σ H1) (hx : ∀ H1 i σ' H', Ex H H1 → Pv H1 i σ' H' → Ex H1 H')
    (hs : ∀ H1 i x σ' H', Ex H H1 → xs[i]? = some x → Pv H1 i σ' H' → tu { D with nx := Pv H1 (i + 1), ct := Pv H1 (i + 1), bk := D.nx } (σ'.set j (some x)) H') (hd : ∀ H1 σ' H', Ex H H1 → Pv H1 xs.length σ' H' → D.nx σ' H') : tFor (iTup K tl) (gName j) tu D σ H :=
  h H (Ex.refl H) _ fun p H1 hp e1 hP => ⟨p, rfl, ⟨xs, st_of hP⟩, for_tup (K := K) (a := p) (xs := xs) (Pv H1) (h0 H1 e1) (fun i σ' H' _ q => ex_t (hx H1 i σ' H' e1 q) (st_of hP)) (fun i x σ' H' hi q => hs H1 i x σ' H' e1 hi q) (fun σ' H' q => hd H1 σ' H' e1 q)⟩
theorem q_forU {xs : List V} {tl : TE} {j : Nat} (h : EvU tl σ H xs) (Pv : Hp → Nat → Sg → Hp → Prop) (h0 : ∀ H1, Ex H H1 → Pv H1 0 σ H1) (hx : ∀ H1 i σ' H', Ex H H1 → Pv H1 i σ' H' → Ex H1 H')
    (hs : ∀ H1 i x σ' H', Ex H H1 → xs[i]? = some x → Pv H1 i σ' H' → tu { D with nx := Pv H1 (i + 1), ct := Pv H1 (i + 1), bk := tz D } (σ'.set j (some x)) H') (hd : ∀ H1 σ' H', Ex H H1 → Pv H1 xs.length σ' H' → tz D σ' H') : tSeq (tFor (iTup K tl) (gName j) tu) tz D σ H :=
  s_forU (D := { D with nx := tz D }) h Pv h0 hx hs hd
end
/-! ### comprehensions over a ring -/
theorem given_map {α : Type} (r : List α) (p : α → Bool) (w : α → V) (f : Nat → Bool) (v : Nat → V) (hf : ∀ i x, r[i]? = some x → f i = p x ∧ v i = w x) : given r.length f v = (r.filter p).map w := by
  have key : ∀ n, n ≤ r.length → given n f v = ((r.take n).filter p).map w := by
    intro n
    induction n with
    | zero => exact fun _ => rfl
    | succ n ih =>
      intro hn
      have hx := List.getElem?_eq_getElem (l := r) (i := n) (by omega)
      obtain ⟨h1, h2⟩ := hf n _ hx
      rw [List.take_add_one, hx, List.filter_append, List.map_append, ← ih (by omega)]
      cases hp : p r[n] with
      | true =>
        rw [given_yes (h1.trans hp), h2]
        simp [hp]
      | false =>
        rw [given_no (h1.trans hp)]
        simp [hp]
  rw [key r.length (Nat.le_refl _), List.take_length]
section
variable {K : PySem.W.Frag} {σ : Sg} {H H' : Hp} {ta tb te tx : TE} {t u : TT} {r : Ring}
theorem el_lcRing {a : Addr} {tl : TE} {j k : Nat} {vs : List Nat} (p : Bool × Int → Bool) (w : Bool × Int → V) (h : Ev tl σ H (.ref a)) (hr : RingAt K H a r) (hz : r.length ≤ 40000)
    (hw : ∀ x y, wipe (((wipe σ vs).set j (some x)).set k (some y)) vs = wipe σ vs)
    (ht : ∀ x H1, x ∈ r → Ex H H1 → EvT t (((wipe σ vs).set j (some (.str (kl x.1)))).set k (some (.int x.2))) H1 (p x)) (he : ∀ x H1, x ∈ r → Ex H H1 → p x = true → Ev te (((wipe σ vs).set j (some (.str (kl x.1)))).set k (some (.int x.2))) H1 (w x)) :
    EvL (tLc (iList K tl) (gTup K 2 (gCons (gName j) (gCons (gName k) gNil))) t te vs) σ H ((r.filter p).map w) := by
  intro H0 e Q q
  refine h H0 e _ fun H1 e1 => ?_
  obtain ⟨xs, hxs, hit⟩ := hr.mono (e.trans e1)
  have hE : Ex H H1 := e.trans e1
  refine ⟨a, rfl, ⟨xs, hxs⟩, fun Dl hD => ?_⟩
  obtain ⟨f, v, hf⟩ : ∃ (f : Nat → Bool) (v : Nat → V), ∀ i x, r[i]? = some x → f i = p x ∧ v i = w x :=
    ⟨fun i => match r[i]? with | some x => p x | none => false, fun i => match r[i]? with | some x => w x | none => V.non, fun i x hx => by
      simp only [hx, and_self]⟩
  have eg := given_map r p w f v hf
  refine lc_list (xs := xs) (Cw H1 f v Dl) ⟨hD, Ex.new hD, upd_same⟩ (fun i H' _ q => ex_l q.2.1 hxs) (fun i v H' hv q => ?_) (fun H' q2 => ?_)
  · have hi : i < r.length := by
      rw [← hit.1]
      exact (List.getElem?_eq_some_iff.mp hv).1
    have ex := List.getElem?_eq_getElem hi
    obtain ⟨tt, ev, hT⟩ := hit.2 i v _ hv ex
    refine ⟨tt, _, ev, ex_t q.2.1 hT, rfl, _, _, rfl, _, _, rfl, rfl, hw _ _, ?_⟩
    obtain ⟨f1, f2⟩ := hf i _ ex
    refine cw_turn q (by omega) ?_ (fun hfi => ?_)
    · rw [f1]
      exact ht _ H1 (mem_at ex) hE
    · rw [f2]
      exact he _ H1 (mem_at ex) hE (f1 ▸ hfi)
  · have q3 := q2.2.2
    rw [hit.1, eg] at q3
    exact q Dl H' (fresh_back e1 q2.1) (e1.trans q2.2.1) q3
theorem ev_sum {ns : List Int} {xs : List V} (ha : EvL ta σ H xs) (e : xs = ns.map V.int) : Ev (tCB (rSum K) (tCons ta tNil)) σ H (.int ns.sum) := fun H1 e1 Q q =>
  ha H1 e1 _ fun p H2 _ e2 h2 => ⟨p, ns, rfl, sq_of (e ▸ h2), q H2 e2⟩
end

/-! ### isinstance -/
section
variable {K : PySem.W.Frag} {σ : Sg} {H H' : Hp} {ta tb te tx : TE} {x y z v : V} {a : Addr} {xs : List V}
theorem tyL (h : SqL K H a xs) : TyX K H (.ref a) (.type "list") := by
  rcases h with (h | ⟨o, h⟩) | ⟨o, its, n, hk, hc, _⟩
  · exact .base (.lst h)
  · exact .base (.frz h)
  · exact .kList hk hc
theorem tyT (h : SqT K H a xs) : TyX K H (.ref a) (.type "tuple") := by
  rcases h with (h | ⟨o, h⟩) | ⟨o, its, n, hk, hc, _⟩
  · exact .base (.tup h)
  · exact .fTuple h
  · exact .kTuple hk hc
theorem ev_isi {c d : String} {b : Bool} (ha : Ev ta σ H x) (ht : ∀ H1, Ex H H1 → TyX K H1 x (.type d)) (hk : kitB d c = some b) : Ev (tCB (rIsi K) (tCons ta (tCons (tC (.ty c)) tNil))) σ H (.bl b) :=
  fun H1 e Q q => ha H1 e _ fun H2 e2 => ⟨x, .ty c, .type d, .type c, b, rfl, .ty c, ht H2 (e.trans e2), kit_ty hk, q H2 e2⟩
theorem ev_isInt {c : String} {n : Int} {b : Bool} (ha : Ev ta σ H (.int n)) (hk : kitB "int" c = some b) : Ev (tCB (rIsi K) (tCons ta (tCons (tC (.ty c)) tNil))) σ H (.bl b) := ev_isi ha (fun _ _ => .base (.int n)) hk
theorem ev_isStr {c : String} {s : Str} {b : Bool} (ha : Ev ta σ H (.str s)) (hk : kitB "str" c = some b) : Ev (tCB (rIsi K) (tCons ta (tCons (tC (.ty c)) tNil))) σ H (.bl b) := ev_isi ha (fun _ _ => .base (.str s)) hk
theorem ev_lenT (ha : Ev ta σ H (.ref a)) (h : SqT K H a xs) : Ev (tCB (rLenS K) (tCons ta tNil)) σ H (.int (xs.length : Int)) := fun H1 e Q q =>
  ha H1 e _ fun H2 e2 => ⟨a, xs, rfl, Or.inr (ex_t (e.trans e2) h), q H2 e2⟩
theorem rc_min2 {i j : Int} : RC rMin2 [.int i, .int j] H (.int (if j < i then j else i)) := fun H1 _ _ q => ⟨i, j, rfl, q H1 (Ex.refl H1)⟩
theorem eu_dm {ta : TA} {i j : Int} (h : EvA ta σ H [.int i, .int j]) (hc : CDivP i j) : EvU (tCB rDm ta) σ H [.int (i / j), .int (i % j)] := fun H1 e _ q =>
  h H1 e _ fun H2 e2 => ⟨i, j, rfl, hc, fun p hp => q p _ (fresh_back e2 hp) (e2.trans (Ex.new hp)) upd_same⟩
end
/-- rings that the program is asked of: some stretches, none too long -/
structure Good (r : Ring) : Prop where
  ne : r ≠ []
  len : r.length ≤ 200
  pos : Pos r
  top : ∀ x ∈ r, x.2 < 2 ^ 200
theorem Good.size {r : Ring} (g : Good r) : 1 ≤ sizeR r := size_pos g.pos g.ne
theorem Good.sizeTop {r : Ring} (g : Good r) : sizeR r < 2 ^ 208 := by
  have h := size_bound (B := 2 ^ 200) (r := r) fun x hx => Int.le_of_lt (g.top x hx)
  have h2 : (r.length : Int) * 2 ^ 200 ≤ 200 * 2 ^ 200 := Int.mul_le_mul_of_nonneg_right (by have := g.len; omega) (by decide)
  have h3 : (200 : Int) * 2 ^ 200 < 2 ^ 208 := by decide
  omega
/-! ### sizes of numbers, in bits, never reckoned out -/
def Bt (n : Nat) (z : Int) : Prop := z.natAbs < 2 ^ n
theorem Bt.of {n : Nat} {z : Int} (h : Builtin.Int.intBits z ≤ n) : Bt n z := by
  unfold Builtin.Int.intBits at h
  unfold Bt
  by_cases hz : z = 0
  · subst hz
    exact Nat.two_pow_pos n
  · rw [if_neg (by simpa using hz)] at h
    have hn : z.natAbs ≠ 0 := by omega
    exact (Nat.log2_lt hn).mp (by omega)
theorem Bt.mono {n m : Nat} {z : Int} (h : Bt n z) (hl : n ≤ m) : Bt m z := Nat.lt_of_lt_of_le h (Nat.pow_le_pow_right (by decide) hl)
theorem Bt.add {n : Nat} {x y : Int} (h : Bt n x) (h' : Bt n y) : Bt (n + 1) (x + y) := by
  unfold Bt at *
  rw [Nat.pow_succ]
  have := Int.natAbs_add_le x y
  omega
theorem Bt.mul {n m : Nat} {x y : Int} (h : Bt n x) (h' : Bt m y) : Bt (n + m) (x * y) := wide_lt h h'
theorem Bt.small {n : Nat} {z : Int} (k : Nat) (h0 : 0 ≤ z) (h : z < 2 ^ k) (hl : k ≤ n) : Bt n z := by
  refine Bt.mono (n := k) ?_ hl
  unfold Bt
  have e : ((2 ^ k : Nat) : Int) = (2 : Int) ^ k := by simp
  omega
theorem Bt.mulx {n m : Nat} {x y : Int} (h : Bt n x) (h' : Bt m y) (hl : n + m ≤ 134217728) : CMulX x y := mulx_ok h h' hl

/-! ### rings as data -/
def datR (r : Ring) : PyData := .list (r.map fun x => PyData.tuple [.str (kl x.1), .int x.2])
theorem dat_all (r : Ring) : PyData.canLayAll0 (r.map fun x => PyData.tuple [.str (kl x.1), .int x.2]) = true := by
  induction r with
  | nil => rfl
  | cons x r ih =>
    rw [List.map_cons, PyData.canLayAll0, ih]
    have h : ∀ b, (PyData.tuple [.str (kl b), .int x.2]).canLay0 = true := fun b => by
      cases b <;> simp [PyData.canLay0, PyData.canLayAll0] <;> decide +kernel
    rw [h]
    rfl
theorem dat_depth (r : Ring) : PyData.depthAll (r.map fun x => PyData.tuple [.str (kl x.1), .int x.2]) ≤ 1 := by
  induction r with
  | nil => exact Nat.zero_le _
  | cons x r ih =>
    rw [List.map_cons, PyData.depthAll]
    have h : (PyData.tuple [.str (kl x.1), .int x.2]).depth = 1 := by simp [PyData.depth, PyData.depthAll]
    rw [h]
    omega
theorem dat_shaped (r : Ring) : SeqAt.shaped (datR r) = true := by
  unfold SeqAt.shaped datR
  rw [PyData.canLay0, dat_all, PyData.depth]
  have := dat_depth r
  simp
  omega
theorem dat_refl (r : Ring) : PyData.eqv (datR r) (datR r) = true := PySem.SeqAt.eqv_refl _ (by unfold datR; rw [PyData.canLay0]; exact dat_all r)
theorem dat_nil (r : Ring) : PyData.eqv (datR r) (.list []) = decide (r = []) := by
  cases r with
  | nil => simp [datR, PyData.eqv, PyData.eqvAll]
  | cons x r => simp [datR, PyData.eqv, PyData.eqvAll]
section
variable {K : PySem.W.Frag} {H H' : Hp} {a : Addr} {r : Ring} {vs : List V}
theorem dp_all : ∀ {vs : List V} {r : Ring}, Items K H vs r → DpAll K H vs (r.map fun x => PyData.tuple [.str (kl x.1), .int x.2])
  | [], [], _ => .nil
  | [], x :: r, h => by
    have := h.1
    simp at this
  | v :: vs, [], h => by
    have := h.1
    simp at this
  | v :: vs, x :: r, h => by
    obtain ⟨t, e, ht⟩ := h.2 0 v x rfl rfl
    subst e
    exact .cons (.tup ht (.cons (.str _) (.cons (.int _) .nil))) (dp_all ⟨by have := h.1; simpa using this, fun i v x h1 h2 => h.2 (i + 1) v x h1 h2⟩)
theorem dp_ring (h : RingAt K H a r) : Dp K H (.ref a) (datR r) := by
  obtain ⟨vs, h1, h2⟩ := h
  exact .lst h1 (dp_all h2)
end

/-! ### cuts of lists -/
theorem cut_none (xs : List V) (n : Nat) : cutV xs none (some (n : Int)) = xs.take n := by
  unfold cutV
  rw [HT.sIx_none, HT.sIx_nat, List.drop_zero, Nat.sub_zero, List.take_eq_take_iff]
  omega
theorem cut_from (xs : List V) (n : Nat) : cutV xs (some (n : Int)) none = xs.drop n := by
  unfold cutV
  rw [HT.sIx_none, HT.sIx_nat]
  by_cases h : n ≤ xs.length
  · rw [Nat.min_eq_left h, List.take_of_length_le (by rw [List.length_drop]; omega)]
  · rw [Nat.min_eq_right (by omega), Nat.sub_self, List.drop_eq_nil_of_le (show xs.length ≤ n by omega)]
    rfl
/-! ### an item of a table of numbers -/
theorem atI_getD (ps : List Int) {i : Int} (h0 : 0 ≤ i) (h1 : i < ps.length) : atI (ps.map V.int) i = some (.int (ps.getD i.toNat 0)) := by
  have hi : i.toNat < ps.length := by omega
  refine at_of (j := i.toNat) (by omega) ?_
  rw [List.getElem?_map, List.getD_eq_getElem?_getD, List.getElem?_eq_getElem hi]
  rfl
theorem getD_mem {ps : List Int} {i : Int} (h0 : 0 ≤ i) (h1 : i < ps.length) : ps.getD i.toNat 0 ∈ ps := by
  have hi : i.toNat < ps.length := by omega
  rw [List.getD_eq_getElem?_getD, List.getElem?_eq_getElem hi]
  exact List.getElem_mem hi

/-! ### more loops and values -/
section
variable {K : PySem.W.Frag} {σ : Sg} {H H0 H' : Hp} {ta tb te tx : TE} {t u : TT} {x y z v : V} {D : Ends} {tu tw tz : TS} {g : TG} {P P' : V → Hp → Prop} {r : Ring}
theorem s_forR' {a : Addr} {tl : TE} {j k : Nat} (e0 : Ex H0 H) (h : Ev tl σ H (.ref a)) (hr : RingAt K H0 a r) (Pv : Nat → Sg → Hp → Prop) (h0 : ∀ H1, Ex H H1 → Pv 0 σ H1) (hx : ∀ i σ' H', Pv i σ' H' → Ex H0 H')
    (hs : ∀ i x σ' H', r[i]? = some x → Pv i σ' H' → tu { D with nx := Pv (i + 1), ct := Pv (i + 1), bk := D.nx } ((σ'.set j (some (.str (kl x.1)))).set k (some (.int x.2))) H') (hd : ∀ σ' H', Pv r.length σ' H' → D.nx σ' H') :
    tFor (iList K tl) (gTup K 2 (gCons (gName j) (gCons (gName k) gNil))) tu D σ H := by
  obtain ⟨vs, hvs, hit⟩ := hr
  refine s_forL h (ex_l e0 hvs) Pv h0 (fun i σ' H' _ p => ex_l (hx i σ' H' p) hvs) (fun i v σ' H' hv p => ?_) (by rw [hit.1]; exact hd)
  have hi : i < r.length := by
    rw [← hit.1]
    exact (List.getElem?_eq_some_iff.mp hv).1
  have ex := List.getElem?_eq_getElem hi
  obtain ⟨t, e, ht⟩ := hit.2 i v _ hv ex
  refine ⟨t, _, e, ex_t (hx i σ' H' p) ht, rfl, _, _, rfl, _, _, rfl, rfl, ?_⟩
  exact hs i _ σ' H' ex p
theorem q_forR' {a : Addr} {tl : TE} {j k : Nat} (e0 : Ex H0 H) (h : Ev tl σ H (.ref a)) (hr : RingAt K H0 a r) (Pv : Nat → Sg → Hp → Prop) (h0 : ∀ H1, Ex H H1 → Pv 0 σ H1) (hx : ∀ i σ' H', Pv i σ' H' → Ex H0 H')
    (hs : ∀ i x σ' H', r[i]? = some x → Pv i σ' H' → tu { D with nx := Pv (i + 1), ct := Pv (i + 1), bk := tz D } ((σ'.set j (some (.str (kl x.1)))).set k (some (.int x.2))) H') (hd : ∀ σ' H', Pv r.length σ' H' → tz D σ' H') :
    tSeq (tFor (iList K tl) (gTup K 2 (gCons (gName j) (gCons (gName k) gNil))) tu) tz D σ H := s_forR' (D := { D with nx := tz D }) e0 h hr Pv h0 hx hs hd
/-- a, b = [..], [..] -/
theorem q_parLL {i j : Nat} {ta tb : TE} {xs ys : List V} (ha : EvL ta σ H xs) (hb : ∀ H1, Ex H H1 → EvL tb σ H1 ys) (k : ∀ p q H2, H p = none → H q = none → p ≠ q → Ex H H2 → H2 p = some (.lst xs) → H2 q = some (.lst ys) → tz D ((σ.set i (some (.ref p))).set j (some (.ref q))) H2) :
    tSeq (tPar i j (tCons ta (tCons tb tNil))) tz D σ H :=
  ha H (Ex.refl H) _ fun p H1 hp e1 h1 => hb H1 e1 H1 (Ex.refl H1) _ fun q H2 hq e2 h2 => ⟨.ref p, .ref q, rfl, k p q H2 hp (fresh_back e1 hq) (ne_of_none h1 hq) (e1.trans e2) (e2 _ _ h1) h2⟩
theorem ev_ifI {b : Bool} {i j : Int} (h : EvT t σ H b) (h1 : b = true → Ev ta σ H (.int i)) (h2 : b = false → Ev tb σ H (.int j)) : Ev (tIf t ta tb) σ H (.int (if b = true then i else j)) := by
  refine ev_if h (fun hb => ?_) (fun hb => ?_)
  · rw [if_pos hb]
    exact h1 hb
  · rw [if_neg (by rw [hb]; decide)]
    exact h2 hb
/-- sep.join(list of texts) -/
def tJoin (K : PySem.W.Frag) (to te : TE) : TE := tM1 (fun x xs H Q => ∃ a p, ∃ ys : List Str, x = .str a ∧ xs = [.ref p] ∧ (SqL K H p (ys.map V.str) ∨ SqT K H p (ys.map V.str)) ∧ (ys.map (·.length)).sum + ys.length * a.length ≤ 16777216 ∧ Q (.str (Txt.join a ys)) H) to te
theorem ev_join {to : TE} {s : Str} {ys : List Str} {xs : List V} (ho : Ev to σ H (.str s)) (he : EvL te σ H xs) (e : xs = ys.map V.str) (hz : (ys.map (·.length)).sum + ys.length * s.length ≤ 16777216) : Ev (tJoin K to te) σ H (.str (Txt.join s ys)) := fun H1 e1 Q q =>
  ho H1 e1 _ fun H2 e2 => ⟨⟨s, rfl⟩, he H2 (e1.trans e2) _ fun p H3 _ e3 h3 => ⟨s, p, ys, rfl, rfl, .inl (sq_of (e ▸ h3)), hz, q H3 (e2.trans e3)⟩⟩
end
section
variable {X : Cx} {o e : Expr} {to te : TE} {apos pos : PySem.Pos}
theorem pe_joinN (ho : PE X o to) (he : PE X e te) (hs : starEach [e] X.env = [(false, eval e X.env)] := by rfl) (hbase : attributeBase o "join" X.env (eval o X.env) = eval o X.env := by rfl) (hline : (apos.endLine == pos.line) = true := by rfl) :
    PE X (.Call (.Attribute o "join" apos) [e] [] pos) (tJoin X.K to te) := pe_join ho he hs hbase hline
end
/-! ### tables -/
def endsTo (r : Ring) (n : Nat) : List V := (List.range (n + 1)).map fun j => V.int (sizeR (r.take j))
def sumsTo (r : Ring) (n : Nat) : List V := (List.range (n + 1)).map fun j => V.int (cntA (r.take j))
theorem ends_succ (r : Ring) (n : Nat) : endsTo r (n + 1) = endsTo r n ++ [V.int (sizeR (r.take (n + 1)))] := by
  unfold endsTo
  rw [List.range_succ (n := n + 1), List.map_append]
  rfl
theorem sums_succ (r : Ring) (n : Nat) : sumsTo r (n + 1) = sumsTo r n ++ [V.int (cntA (r.take (n + 1)))] := by
  unfold sumsTo
  rw [List.range_succ (n := n + 1), List.map_append]
  rfl
theorem ends_last (r : Ring) (n : Nat) : atI (endsTo r n) (-1) = some (V.int (sizeR (r.take n))) := by
  unfold endsTo
  rw [List.range_succ, List.map_append]
  exact atI_last _ _
theorem sums_last (r : Ring) (n : Nat) : atI (sumsTo r n) (-1) = some (V.int (cntA (r.take n))) := by
  unfold sumsTo
  rw [List.range_succ, List.map_append]
  exact atI_last _ _
theorem ends_len (r : Ring) (n : Nat) : (endsTo r n).length = n + 1 := by
  unfold endsTo
  rw [List.length_map, List.length_range]
theorem sums_len (r : Ring) (n : Nat) : (sumsTo r n).length = n + 1 := by
  unfold sumsTo
  rw [List.length_map, List.length_range]
theorem ends_at (r : Ring) {n i : Nat} (h : i ≤ n) : atI (endsTo r n) (i : Int) = some (V.int (sizeR (r.take i))) := by
  refine atI_nat ?_
  unfold endsTo
  rw [List.getElem?_map, List.getElem?_range (by omega)]
  rfl
theorem sums_at (r : Ring) {n i : Nat} (h : i ≤ n) : atI (sumsTo r n) (i : Int) = some (V.int (cntA (r.take i))) := by
  refine atI_nat ?_
  unfold sumsTo
  rw [List.getElem?_map, List.getElem?_range (by omega)]
  rfl
def IsTab (K : PySem.W.Frag) (r : Ring) : V → Hp → Prop := fun v H => ∃ t a b, v = .ref t ∧ SqT K H t [.ref a, .ref b] ∧ SqL K H a (endsTo r r.length) ∧ SqL K H b (sumsTo r r.length)
theorem IsTab.mono {K : PySem.W.Frag} {r : Ring} {v : V} {H H' : Hp} (e : Ex H H') (h : IsTab K r v H) : IsTab K r v H' := by
  obtain ⟨t, a, b, e1, h1, h2, h3⟩ := h
  exact ⟨t, a, b, e1, ex_t e h1, ex_l e h2, ex_l e h3⟩
/-! ### new lists whose items are told -/
def EvF (K : PySem.W.Frag) (te : TE) (σ : Sg) (H : Hp) (r : Ring) : Prop := ∀ H1, Ex H H1 → ∀ Q : VK, (∀ p vs H2, H1 p = none → Ex H1 H2 → H2 p = some (.lst vs) → Items K H2 vs r → Q (.ref p) H2) → te σ H1 Q
def EvI (K : PySem.W.Frag) (ta : TA) (σ : Sg) (H : Hp) (r : Ring) : Prop := ∀ H1, Ex H H1 → ∀ Q : List V → Hp → Prop, (∀ vs H2, Ex H1 H2 → Items K H2 vs r → Q vs H2) → ta σ H1 Q
section
variable {K : PySem.W.Frag} {σ : Sg} {H H0 H' : Hp} {ta tb te tx : TE} {t u : TT} {x y z v : V} {D : Ends} {tu tw tz : TS} {g : TG} {P P' : V → Hp → Prop} {r r' : Ring} {vs : List V} {a l : Addr} {tr : TA}
theorem EvF.mono (e : Ex H H') (h : EvF K te σ H r) : EvF K te σ H' r := fun H1 a Q q => h H1 (e.trans a) Q q
theorem ei_nil : EvI K tNil σ H [] := fun H1 _ _ q => q [] H1 (Ex.refl H1) Items.nil
theorem ei_cons {b : Bool} {n : Int} (h : EvU te σ H [.str (kl b), .int n]) (hr : EvI K tr σ H r) : EvI K (tCons te tr) σ H ((b, n) :: r) := fun H1 e Q q =>
  h H1 e _ fun p H2 hp e2 h2 => hr H2 (e.trans e2) _ fun vs H3 e3 hi => q _ H3 (e2.trans e3) ((Items.one (x := (b, n)) ⟨p, rfl, st_of (e3 _ _ h2)⟩).append hi)
theorem ef_lst (h : EvI K tr σ H r) (hl : r.length ≤ 100000) : EvF K (tLst tr) σ H r := fun H1 e Q q =>
  h H1 e _ fun vs H2 e2 hi => ⟨sz_of (by rw [hi.1]; exact hl), fun p hp => q p vs _ (fresh_back e2 hp) (e2.trans (Ex.new hp)) upd_same (hi.mono (Ex.new hp))⟩
theorem ef_cat (ha : Ev ta σ H (.ref l)) (hl : H l = some (.lst vs)) (hi : Items K H vs r) (hb : EvF K tb σ H r') (hz : r.length + r'.length ≤ 100000) : EvF K (tOp rCat ta tb) σ H (r ++ r') := fun H1 e Q q =>
  ha H1 e _ fun H2 e2 => hb H2 (e.trans e2) _ fun b ws H3 nb e3 hb hj =>
    ⟨l, b, vs, ws, rfl, rfl, (e.trans (e2.trans e3)) _ _ hl, hb, sz_of (by rw [hi.1, hj.1]; exact hz), fun p hp => q p _ _ (fresh_back (e2.trans e3) hp) ((e2.trans e3).trans (Ex.new hp)) upd_same ((hi.mono ((e.trans (e2.trans e3)).trans (Ex.new hp))).append (hj.mono (Ex.new hp)))⟩
theorem ef_cat2 (ha : EvF K ta σ H r) (hb : EvF K tb σ H r') (hz : r.length + r'.length ≤ 100000) : EvF K (tOp rCat ta tb) σ H (r ++ r') := fun H1 e Q q =>
  ha H1 e _ fun l vs H2 nl e2 hl hi => hb H2 (e.trans e2) _ fun b ws H3 nb e3 hb hj =>
    ⟨l, b, vs, ws, rfl, rfl, e3 _ _ hl, hb, sz_of (by rw [hi.1, hj.1]; exact hz), fun p hp => q p _ _ (fresh_back (e2.trans e3) hp) ((e2.trans e3).trans (Ex.new hp)) upd_same ((hi.mono (e3.trans (Ex.new hp))).append (hj.mono (Ex.new hp)))⟩
theorem ef_from {n : Nat} {tl : TE} (h : Ev te σ H (.ref a)) (hn : Ev tl σ H (.int (n : Int))) (hR : RingAt K H a r) : EvF K (tSl (rSlL K) te (tPart tl) tNoPart) σ H (r.drop n) := fun H1 e Q q => by
  obtain ⟨vs, h1, h2⟩ := hR
  refine el_sl (xs := vs) (lo := some (n : Int)) (hi := none) h (eo_some hn) eo_none h1 H1 e Q fun p H2 hp e2 hl => q p _ H2 hp e2 hl ?_
  rw [cut_from]
  exact (h2.drop n).mono (e.trans e2)
theorem ef_to {n : Nat} {tl : TE} (h : Ev te σ H (.ref a)) (hn : Ev tl σ H (.int (n : Int))) (hR : RingAt K H a r) : EvF K (tSl (rSlL K) te tNoPart (tPart tl)) σ H (r.take n) := fun H1 e Q q => by
  obtain ⟨vs, h1, h2⟩ := hR
  refine el_sl (xs := vs) (lo := none) (hi := some (n : Int)) h eo_none (eo_some hn) h1 H1 e Q fun p H2 hp e2 hl => q p _ H2 hp e2 hl ?_
  rw [cut_none]
  exact (h2.take n).mono (e.trans e2)
theorem ef_list (h : Ev te σ H (.ref a)) (hR : RingAt K H a r) : EvF K (tCB (rListS K) (tCons te tNil)) σ H r := fun H1 e Q q => by
  obtain ⟨vs, h1, h2⟩ := hR
  exact el_list h h1 H1 e Q fun p H2 hp e2 hl => q p _ H2 hp e2 hl (h2.mono (e.trans e2))
theorem ep_F (h : EvF K te σ H r) : EvP te σ H (IsRing K r) := fun H1 e Q q => h H1 e Q fun p vs H2 _ e2 hl hi => q _ H2 e2 ⟨p, rfl, vs, sq_of hl, hi⟩
theorem q_asgF {i : Nat} (h : EvF K te σ H r) (k : ∀ p vs H1, H p = none → Ex H H1 → H1 p = some (.lst vs) → Items K H1 vs r → tz D (σ.set i (some (.ref p))) H1) : tSeq (tAsg te (gName i)) tz D σ H := h H (Ex.refl H) _ k
theorem s_asgF {i : Nat} (h : EvF K te σ H r) (k : ∀ p vs H1, H p = none → Ex H H1 → H1 p = some (.lst vs) → Items K H1 vs r → D.nx (σ.set i (some (.ref p))) H1) : tAsg te (gName i) D σ H := h H (Ex.refl H) _ k
/-- for k, x in enumerate(xs): what holds of the list and the heap is told at the start -/
theorem q_forG {ta : TA} {xs : List V} (F : Addr → Hp → Prop) (h : ∀ Q : List V → Hp → Prop, (∀ a H1, F a H1 → Q [.ref a] H1) → ta σ H Q) (Pv : Addr → Nat → Sg → Hp → Prop) (h0 : ∀ a H1, F a H1 → Pv a 0 σ H1) (hl : ∀ a i σ' H', Pv a i σ' H' → SqL K H' a xs)
    (hs : ∀ a i x σ' H' T, xs[i]? = some x → Pv a i σ' H' → H' T = none → g (.ref T) σ' (upd H' T (.tup [.int (i : Nat), x])) fun σ2 H2 => tu { D with nx := Pv a (i + 1), ct := Pv a (i + 1), bk := tz D } σ2 H2) (hd : ∀ a σ' H', Pv a xs.length σ' H' → tz D σ' H') :
    tSeq (tFor (iEnum K ta) g tu) tz D σ H := by
  refine h _ fun a H1 hF => ⟨a, xs, rfl, hl a 0 σ H1 (h0 a H1 hF), fun i m σ' H' => m = xs.length - i ∧ i ≤ xs.length ∧ Pv a i σ' H', ⟨xs.length, by simp, Nat.zero_le _, h0 a H1 hF⟩, ?_⟩
  rintro i m σ' H' ⟨rfl, hi, p⟩
  have q := hl a i σ' H' p
  by_cases hlt : i < xs.length
  · refine .inr ⟨⟨xs, xs[i], q, List.getElem?_eq_getElem hlt⟩, Pv a (i + 1), fun σ' H' p' => ⟨xs.length - (i + 1), by omega, rfl, hlt, p'⟩, fun x H'' hy => ?_⟩
    obtain ⟨T, x', rfl, nT, rfl, f1⟩ := hy
    exact hs a i x' σ' H' T (f1 xs q) p nT
  · have ei : i = xs.length := by omega
    subst ei
    exact .inl ⟨⟨xs, q, Nat.le_refl _⟩, hd a σ' H' p⟩
/-- tuples stand where a list is written -/
theorem sqT_upd {t l : Addr} {xs ys : List V} {o : HO} (h : SqT K H t xs) (hl : H l = some (.lst ys)) : SqT K (upd H l o) t xs := by
  rcases h with (h | ⟨ob, h⟩) | h
  · refine .inl (.inl ?_)
    rw [upd_ne (ne_of h hl (by intro z; cases z))]
    exact h
  · refine .inl (.inr ⟨ob, ?_⟩)
    rw [upd_ne (ne_of h hl (by intro z; cases z))]
    exact h
  · exact .inr h
theorem Items.upd {ys : List V} {o : HO} (h : Items K H vs r) (hl : H l = some (.lst ys)) : Items K (upd H l o) vs r := ⟨h.1, fun i v x h1 h2 => by
  obtain ⟨t, e, ht⟩ := h.2 i v x h1 h2
  exact ⟨t, e, sqT_upd ht hl⟩⟩
/-- a letter of a written text -/
theorem ev_ab {ti : TE} {n : Int} (h : Ev ti σ H (.int (n % 2))) : Ev (tOp rIxS (tC (.str "ab")) ti) σ H (.str (kl (decide (n % 2 = 0)))) := by
  have h0 := Int.emod_nonneg n (show (2 : Int) ≠ 0 by decide)
  have h1 := Int.emod_lt_of_pos n (show (0 : Int) < 2 by decide)
  generalize n % 2 = k at *
  have hk : k = 0 ∨ k = 1 := by omega
  rcases hk with rfl | rfl
  · exact ev_is (ev_op ev_c h (rv_ixS (c := 97) (by decide +kernel) (by decide +kernel))) (by decide +kernel)
  · exact ev_is (ev_op ev_c h (rv_ixS (c := 98) (by decide +kernel) (by decide +kernel))) (by decide +kernel)
theorem ev_aab {ti : TE} {n : Int} (h : Ev ti σ H (.int (n % 3))) : Ev (tOp rIxS (tC (.str "aab")) ti) σ H (.str (kl (decide (n % 3 ≠ 2)))) := by
  have h0 := Int.emod_nonneg n (show (3 : Int) ≠ 0 by decide)
  have h1 := Int.emod_lt_of_pos n (show (0 : Int) < 3 by decide)
  generalize n % 3 = k at *
  have hk : k = 0 ∨ k = 1 ∨ k = 2 := by omega
  rcases hk with rfl | rfl | rfl
  · exact ev_is (ev_op ev_c h (rv_ixS (c := 97) (by decide +kernel) (by decide +kernel))) (by decide +kernel)
  · exact ev_is (ev_op ev_c h (rv_ixS (c := 97) (by decide +kernel) (by decide +kernel))) (by decide +kernel)
  · exact ev_is (ev_op ev_c h (rv_ixS (c := 98) (by decide +kernel) (by decide +kernel))) (by decide +kernel)
theorem int_eq {i j : Int} : decide (V.int i = V.int j) = decide (i = j) := by
  by_cases h : i = j
  · subst h
    simp
  · rw [decide_eq_false h, decide_eq_false fun z => h (V.int.inj z)]
/-- a ring against an empty list -/
theorem et_neNil (h : Ev te σ H (.ref a)) (hR : RingAt K H a r) : EvT (tTest (tOp (rNeD K) te (tLst tNil))) σ H (!decide (r = [])) := by
  refine et_test (ev_opL (xs := []) h (el_lst ea_nil (by decide)) fun p H1 hp e1 => ?_)
  refine rv_val fun H2 e2 Q q => ⟨datR r, .list [], dp_ring (hR.mono (e1.trans e2)), .lst (sq_of (e2 _ _ hp)) .nil, dat_shaped r, by decide +kernel, ?_⟩
  rw [dat_nil]
  exact q
end
/-! ### small rings and their texts -/
structure Small (r : Ring) : Prop where
  len : r.length ≤ 10
  size : ∀ x ∈ r, 1 ≤ x.2 ∧ x.2 ≤ 3
def rowS (r : Ring) : Str := Txt.join "" (r.map fun x => Txt.mul (kl x.1) x.2)
def codeB (b : Bool) : Nat := if b = true then 97 else 98
theorem three {n : Int} (h : 1 ≤ n ∧ n ≤ 3) : n = 1 ∨ n = 2 ∨ n = 3 := by omega
theorem mul_ok (b : Bool) {n : Int} (h : 1 ≤ n ∧ n ≤ 3) : MulOk (kl b) n := by
  unfold MulOk
  rcases three h with rfl | rfl | rfl <;> cases b <;> decide +kernel
theorem mul_tl (b : Bool) {n : Int} (h : 1 ≤ n ∧ n ≤ 3) : TL.tl (Txt.mul (kl b) n) = List.replicate n.toNat (codeB b) := by
  rcases three h with rfl | rfl | rfl <;> cases b <;> decide +kernel
theorem join_tl (ys : List Str) : TL.tl (Txt.join "" ys) = (ys.map TL.tl).flatten := by
  rw [TL.join_eq, TL.tl_join]
  have e : TL.tl ("" : Str) = [] := by decide +kernel
  rw [e]
  generalize ys.map TL.tl = ps
  induction ps with
  | nil => rfl
  | cons p ps ih =>
    cases ps with
    | nil => simp [TL.joinL]
    | cons q ps =>
      show p ++ ([] ++ TL.joinL [] (q :: ps)) = (p :: q :: ps).flatten
      rw [ih, List.nil_append, List.flatten_cons (l := p)]
theorem row_tl {r : Ring} (h : ∀ x ∈ r, 1 ≤ x.2 ∧ x.2 ≤ 3) : TL.tl (rowS r) = (rowL r).map codeB := by
  unfold rowS
  rw [join_tl]
  induction r with
  | nil => rfl
  | cons x r ih =>
    rw [List.map_cons, List.map_cons, List.flatten_cons, mul_tl x.1 (h x List.mem_cons_self), ih fun y hy => h y (List.mem_cons_of_mem _ hy)]
    show _ = (List.replicate x.2.toNat x.1 ++ rowL r).map codeB
    rw [List.map_append, List.map_replicate]
theorem Small.pos {r : Ring} (h : Small r) : Pos r := fun x hx => (h.size x hx).1
theorem row_len {r : Ring} (h : Small r) : ((rowS r).length : Int) = sizeR r := by
  rw [TL.len_tl, row_tl h.size, List.length_map]
  exact rowL_len h.pos
theorem row_kinds {r : Ring} (h : Small r) : Txt.join "" ((List.range (sizeR r).toNat).map fun (i : Nat) => kl (kindR r (i : Int))) = rowS r := by
  apply TL.ext_tl
  rw [join_tl, row_tl h.size, List.map_map]
  have hl := rowL_len h.pos
  have key : ∀ n, n ≤ (rowL r).length → (((List.range n).map (TL.tl ∘ fun (i : Nat) => kl (kindR r (i : Int)))).flatten) = ((rowL r).take n).map codeB := by
    intro n
    induction n with
    | zero => exact fun _ => rfl
    | succ n ih =>
      intro hn
      rw [List.range_succ, List.map_append, List.flatten_append, ih (by omega), List.take_add_one, rowL_kind h.pos (by omega), List.map_append]
      have : TL.tl (kl (kindR r (n : Int))) = [codeB (kindR r (n : Int))] := by
        cases kindR r (n : Int) <;> decide +kernel
      simp [this]
  rw [show (sizeR r).toNat = (rowL r).length by omega, key _ (Nat.le_refl _), List.take_length]
theorem Small.sum {r : Ring} (h : Small r) : ((r.map fun x => Txt.mul (kl x.1) x.2).map (·.length)).sum ≤ 3 * r.length := by
  have hs := h.size
  clear h
  induction r with
  | nil => exact Nat.le_refl _
  | cons x r ih =>
    have i2 := ih fun y hy => hs y (List.mem_cons_of_mem _ hy)
    have h1 := hs x List.mem_cons_self
    have e : (Txt.mul (kl x.1) x.2).length = x.2.toNat := by
      rw [TL.len_tl, mul_tl x.1 h1, List.length_replicate]
    rw [List.map_cons, List.map_cons, List.sum_cons, e, List.length_cons]
    omega
/-! ### loops over two lists at once, lists of numbers, chains -/
def rMax2' : List V → Hp → VK → Prop := fun xs H Q => ∃ i j, xs = [.int i, .int j] ∧ Q (.int (if j > i then j else i)) H
def rAbs : List V → Hp → VK → Prop := fun xs H Q => ∃ i, xs = [.int i] ∧ Q (.int (if i < 0 then -i else i)) H
def rAddStr : R2 := fun x y H Q => ∃ i j, x = .str i ∧ y = .str j ∧ i.length + j.length ≤ sizeLine ∧ Q (.str (i ++ j)) H
section
variable {X : Cx}
theorem c_max2 (hc : X.calm = true) : CallR X (.builtin "max") rMax2' := call_max2 hc
theorem c_abs : CallR X (.builtin "abs") rAbs := call_abs
theorem op_addS : OpR X (binaryOp .Add) rAddStr := op_add_str
theorem op_inK {K : PySem.W.Frag} (h : X.K = K) : OpR X (compareOp .In) (rIn K false) := h ▸ op_in_seq
theorem ix_listK {K : PySem.W.Frag} (h : X.K = K) : IxR X (rIxL K) := h ▸ ix_list
theorem ix_tupK {K : PySem.W.Frag} (h : X.K = K) : IxR X (rIxT K) := h ▸ ix_tup
theorem c_lenK {K : PySem.W.Frag} (h : X.K = K) : CallR X (.builtin "len") (rLenS K) := h ▸ c_len
theorem c_isiK {K : PySem.W.Frag} (h : X.K = K) : CallR X (.builtin "isinstance") (rIsi K) := h ▸ call_isi
end
section
variable {K : PySem.W.Frag} {σ : Sg} {H H0 H' : Hp} {ta tb te tx tc : TE} {t u : TT} {x y z v : V} {D : Ends} {tu tw tz : TS} {g : TG} {P P' : V → Hp → Prop} {r : Ring} {a b : Addr} {xs ys : List V}
theorem rc_max2 {i j : Int} : RC rMax2' [.int i, .int j] H (.int (if j > i then j else i)) := fun H1 _ _ q => ⟨i, j, rfl, q H1 (Ex.refl H1)⟩
theorem rc_abs {i : Int} : RC rAbs [.int i] H (.int (if i < 0 then -i else i)) := fun H1 _ _ q => ⟨i, rfl, q H1 (Ex.refl H1)⟩
theorem rc_minK {ns : List Int} {m : Int} (h : SqL K H a (ns.map V.int)) (hm : m ∈ ns) (hl : ∀ y ∈ ns, m ≤ y) : RC (rMin K) [.ref a] H (.int m) := fun H1 e Q q => ⟨a, ns, rfl, ex_l e h, List.length_pos_of_mem hm, fun m' h1 h2 => by
  have e1 := hl m' h1
  have e2 := h2 m hm
  have e3 : m' = m := by omega
  rw [e3]
  exact q H1 (Ex.refl H1)⟩
theorem rc_maxK {ns : List Int} {m : Int} (h : SqL K H a (ns.map V.int)) (hm : m ∈ ns) (hl : ∀ y ∈ ns, y ≤ m) : RC (rMax K) [.ref a] H (.int m) := fun H1 e Q q => ⟨a, ns, rfl, ex_l e h, List.length_pos_of_mem hm, fun m' h1 h2 => by
  have e1 := hl m' h1
  have e2 := h2 m hm
  have e3 : m' = m := by omega
  rw [e3]
  exact q H1 (Ex.refl H1)⟩
/-- a call of a built-in on a new list -/
theorem ev_cbL {rr : List V → Hp → VK → Prop} (h : EvL te σ H xs) (hr : ∀ p H1, Ex H H1 → H1 p = some (.lst xs) → RC rr [.ref p] H1 z) : Ev (tCB rr (tCons te tNil)) σ H z := fun H1 e Q q =>
  h H1 e _ fun p H2 _ e2 h2 => hr p H2 (e.trans e2) h2 H2 (Ex.refl H2) Q fun H3 e3 => q H3 (e2.trans e3)
theorem ev_min {ns : List Int} {m : Int} (h : EvL te σ H (ns.map V.int)) (hm : m ∈ ns) (hl : ∀ y ∈ ns, m ≤ y) : Ev (tCB (rMin K) (tCons te tNil)) σ H (.int m) := ev_cbL h fun p H1 _ h1 => rc_minK (sq_of h1) hm hl
theorem ev_max {ns : List Int} {m : Int} (h : EvL te σ H (ns.map V.int)) (hm : m ∈ ns) (hl : ∀ y ∈ ns, y ≤ m) : Ev (tCB (rMax K) (tCons te tNil)) σ H (.int m) := ev_cbL h fun p H1 _ h1 => rc_maxK (sq_of h1) hm hl
theorem ev_all {bs : List Bool} {c : Bool} (h : EvL te σ H (bs.map V.bl)) (hc : bs.all id = c) : Ev (tCB (rAll K) (tCons te tNil)) σ H (.bl c) := ev_cbL h fun p H1 _ h1 H2 e2 Q q => ⟨p, bs, rfl, sq_of (e2 _ _ h1), by rw [hc]; exact q H2 (Ex.refl H2)⟩
/-- xs + ys, new -/
theorem el_cat (ha : Ev ta σ H (.ref a)) (h1 : H a = some (.lst xs)) (hb : EvL tb σ H ys) (hz : xs.length + ys.length ≤ 100000) : EvL (tOp rCat ta tb) σ H (xs ++ ys) := fun H1 e Q q =>
  ha H1 e _ fun H2 e2 => hb H2 (e.trans e2) _ fun b H3 nb e3 h3 => ⟨a, b, xs, ys, rfl, rfl, (e.trans (e2.trans e3)) _ _ h1, h3, sz_of hz, fun p hp => q p _ (fresh_back (e2.trans e3) hp) ((e2.trans e3).trans (Ex.new hp)) upd_same⟩
theorem el_cat2 (ha : EvL ta σ H xs) (hb : EvL tb σ H ys) (hz : xs.length + ys.length ≤ 100000) : EvL (tOp rCat ta tb) σ H (xs ++ ys) := fun H1 e Q q =>
  ha H1 e _ fun a H2 na e2 h1 => hb H2 (e.trans e2) _ fun b H3 nb e3 h3 => ⟨a, b, xs, ys, rfl, rfl, e3 _ _ h1, h3, sz_of hz, fun p hp => q p _ (fresh_back (e2.trans e3) hp) ((e2.trans e3).trans (Ex.new hp)) upd_same⟩
/-- a < b < c -/
theorem ev_chain {i j k : Int} {g1 g2 : Int → Int → Bool} (ha : Ev ta σ H (.int i)) (hb : Ev tb σ H (.int j)) (hc : Ev tc σ H (.int k)) : Ev (tChain (rI0 fun i j => .bl (g1 i j)) (rI0 fun i j => .bl (g2 i j)) ta tb tc) σ H (.bl (g1 i j && g2 j k)) := fun H1 e Q q =>
  ha H1 e _ fun H2 e2 => hb H2 (e.trans e2) _ fun H3 e3 => ⟨i, j, rfl, rfl, g1 i j, rfl, by
    cases hg : g1 i j with
    | true =>
      show tc σ H3 _
      refine hc H3 ((e.trans e2).trans e3) _ fun H4 e4 => ⟨j, k, rfl, rfl, ?_⟩
      have := q H4 ((e2.trans e3).trans e4)
      rw [hg] at this
      exact this
    | false =>
      show Q (.bl false) H3
      have := q H3 (e2.trans e3)
      rw [hg] at this
      exact this⟩
/-- for x, y in zip(xs, ys) -/
theorem q_forZ {ta : TA} {j k : Nat} (e0 : Ex H0 H) (h : EvA ta σ H [.ref a, .ref b]) (hx : SqL K H0 a xs) (hy : SqL K H0 b ys) (hl : xs.length = ys.length) (Pv : Nat → Sg → Hp → Prop) (h0 : ∀ H1, Ex H H1 → Pv 0 σ H1) (hE : ∀ i σ' H', Pv i σ' H' → Ex H0 H')
    (hs : ∀ i x y σ' H' H2, xs[i]? = some x → ys[i]? = some y → Pv i σ' H' → Ex H' H2 → tu { D with nx := Pv (i + 1), ct := Pv (i + 1), bk := tz D } ((σ'.set j (some x)).set k (some y)) H2) (hd : ∀ σ' H', Pv xs.length σ' H' → tz D σ' H') :
    tSeq (tFor (iZip K ta) (gTup K 2 (gCons (gName j) (gCons (gName k) gNil))) tu) tz D σ H :=
  h H (Ex.refl H) _ fun H1 e1 => ⟨a, b, xs, ys, rfl, ex_l (e0.trans e1) hx, ex_l (e0.trans e1) hy, RZ.for_zipL (D := { D with nx := tz D }) hl Pv (h0 H1 e1) (fun i σ' H' p => ⟨ex_l (hE i σ' H' p) hx, ex_l (hE i σ' H' p) hy⟩)
    (fun i x y T σ' H' h1 h2 p nT => ⟨T, [x, y], rfl, st_of upd_same, rfl, x, [y], rfl, y, [], rfl, rfl, hs i x y σ' H' _ h1 h2 p (Ex.new nT)⟩) hd⟩
/-- [e for x, y in zip(xs, ys)] -/
theorem el_lcZip {ta : TA} {j k : Nat} {vs : List Nat} (w : Nat → V) (h : EvA ta σ H [.ref a, .ref b]) (hx : SqL K H a xs) (hy : SqL K H b ys) (hl : xs.length = ys.length) (hz : xs.length ≤ 40000)
    (hw : ∀ x y, wipe (((wipe σ vs).set j (some x)).set k (some y)) vs = wipe σ vs)
    (he : ∀ i x y H1, xs[i]? = some x → ys[i]? = some y → Ex H H1 → Ev te (((wipe σ vs).set j (some x)).set k (some y)) H1 (w i)) :
    EvL (tLc (iZip K ta) (gTup K 2 (gCons (gName j) (gCons (gName k) gNil))) tYes te vs) σ H ((List.range xs.length).map w) := by
  intro H0 e Q q
  refine h H0 e _ fun H1 e1 => ⟨a, b, xs, ys, rfl, ex_l (e.trans e1) hx, ex_l (e.trans e1) hy, fun Dl hD => ?_⟩
  refine ⟨fun i m H' => m = xs.length - i ∧ i ≤ xs.length ∧ H1 Dl = none ∧ Ex H1 H' ∧ H' Dl = some (.lst ((List.range i).map w)), ⟨xs.length, by simp, Nat.zero_le _, hD, Ex.new hD, upd_same⟩, ?_⟩
  rintro i m H' ⟨rfl, hi, p1, p2, p3⟩
  have qx := ex_l ((e.trans e1).trans p2) hx
  have qy := ex_l ((e.trans e1).trans p2) hy
  by_cases hlt : i < xs.length
  · have hlt2 : i < ys.length := by omega
    refine .inr ⟨⟨xs, ys, _, _, qx, qy, List.getElem?_eq_getElem hlt, List.getElem?_eq_getElem hlt2⟩, fun H'' => H1 Dl = none ∧ Ex H1 H'' ∧ H'' Dl = some (.lst ((List.range (i + 1)).map w)), fun H'' p' => ⟨xs.length - (i + 1), by omega, rfl, hlt, p'⟩, fun v H'' hyl => ?_⟩
    obtain ⟨T, x', y', rfl, nT, rfl, f1, f2⟩ := hyl
    have eT : Ex H' (upd H' T (.tup [x', y'])) := Ex.new nT
    refine ⟨T, [x', y'], rfl, st_of upd_same, rfl, x', [y'], rfl, y', [], rfl, rfl, hw _ _, ?_⟩
    show te _ _ _
    refine he i x' y' _ (f1 xs qx) (f2 ys qy) (((e.trans e1).trans p2).trans eT) _ (Ex.refl _) _ fun H4 e4 => ⟨(List.range i).map w, e4 _ _ (eT _ _ p3), sz_lt (by rw [List.length_map, List.length_range]; omega), p1, Ex.mut ((p2.trans eT).trans e4) p1, ?_⟩
    rw [upd_same, List.range_succ, List.map_append]
    rfl
  · have ei : i = xs.length := by omega
    subst ei
    exact .inl ⟨⟨xs, ys, qx, qy, .inl (Nat.le_refl _)⟩, q Dl H' (fresh_back e1 p1) (e1.trans p2) p3⟩
/-- for x in a list just made, told by its ints -/
def IsInts (K : PySem.W.Frag) (C : List Int → Prop) : V → Hp → Prop := fun v H => ∃ a ns, v = .ref a ∧ SqL K H a (ns.map V.int) ∧ C ns
theorem q_forI {C : List Int → Prop} {tl : TE} {j : Nat} (h : EvP tl σ H (IsInts K C)) (Pv : Hp → List Int → Nat → Sg → Hp → Prop) (h0 : ∀ H1 ns, Ex H H1 → C ns → Pv H1 ns 0 σ H1) (hx : ∀ H1 ns i σ' H', Ex H H1 → Pv H1 ns i σ' H' → Ex H1 H')
    (hs : ∀ H1 ns i n σ' H', Ex H H1 → C ns → ns[i]? = some n → Pv H1 ns i σ' H' → tu { D with nx := Pv H1 ns (i + 1), ct := Pv H1 ns (i + 1), bk := tz D } (σ'.set j (some (.int n))) H') (hd : ∀ H1 ns σ' H', Ex H H1 → C ns → Pv H1 ns ns.length σ' H' → tz D σ' H') :
    tSeq (tFor (iList K tl) (gName j) tu) tz D σ H :=
  h H (Ex.refl H) _ fun v H1 e1 ⟨a, ns, ea, ha, hC⟩ => ⟨a, ea, ⟨_, ha⟩, for_list (D := { D with nx := tz D }) (xs := ns.map V.int) (Pv H1 ns) (h0 H1 ns e1 hC) (fun i σ' H' _ p => ex_l (hx H1 ns i σ' H' e1 p) ha) (fun i x σ' H' hi p => by
    rw [List.getElem?_map] at hi
    cases e : ns[i]? with
    | none =>
      rw [e] at hi
      cases hi
    | some n =>
      rw [e] at hi
      have ex : V.int n = x := Option.some.inj hi
      subst ex
      exact hs H1 ns i n σ' H' e1 hC e p) (fun σ' H' p => hd H1 ns σ' H' e1 hC (by rw [List.length_map] at p; exact p))⟩
theorem bl_eq (a b : Bool) : decide (V.bl a = V.bl b) = (a == b) := by
  cases a <;> cases b <;> decide
end
local macro_rules | `(tactic| walk_at "side") => `(tactic| first | rfl | assumption | omega | decide +kernel)
local macro_rules | `(tactic| walk_at "ev") => `(tactic| first
  | exact ev_c
  | exact ev_var rfl
  | exact ea_nil
  | (refine' ea_cons ?e1 ?e2; (case e1 => walk_at "ev"); (case e2 => walk_at "ev"))
  | (refine' ev_op ?e1 ?e2 rv_I0; (case e1 => walk_at "ev"); (case e2 => walk_at "ev"))
  | (refine' ev_op ?e1 ?e2 (rv_I ?e3); (case e1 => walk_at "ev"); (case e2 => walk_at "ev"); (case e3 => walk_at "side"))
  | (refine' ev_op ?e1 ?e2 (rv_eq ?e3); (case e1 => walk_at "ev"); (case e2 => walk_at "ev"); (case e3 => rfl))
  | (refine' ev_op ?e1 ?e2 (rv_ne ?e3); (case e1 => walk_at "ev"); (case e2 => walk_at "ev"); (case e3 => rfl))
  | (refine' ev_isInt ?e1 ?e2; (case e1 => walk_at "ev"); (case e2 => decide +kernel))
  | (refine' ev_isStr ?e1 ?e2; (case e1 => walk_at "ev"); (case e2 => decide +kernel))
  | (refine' ev_un ?e1 ru_neg; (case e1 => walk_at "ev"))
  | (refine' ev_cb ?e1 rc_min2; (case e1 => walk_at "ev"))
  | (refine' et_test ?e1; (case e1 => walk_at "ev"))
  | (refine' et_B ?e1; (case e1 => walk_at "ev"))
  | (refine' et_not ?e1; (case e1 => walk_at "ev"))
  | (refine' ev_notV ?e1; (case e1 => walk_at "ev"))
  | (refine' ev_call ?e1 ?e2; (case e1 => walk_at "ev"); (case e2 => walk_at "spv"))
  | (refine' ep_U ?e1; (case e1 => walk_at "ev"))
  | (refine' eu_tup ?e1 ?e2; (case e1 => walk_at "ev"); (case e2 => simp only [List.length_cons, List.length_nil]; decide)))
/-! ### the program's defs -/
def topS (i : Nat) : Stmt := PySem.Challenge.pw_ringbeads_k03_whole_among.main.body.getD i (.Pass ⟨0, 0, 0, 0⟩)
structure Txt (K : PySem.W.Frag) (mg : Str → Option Value) (tKIND_A tKIND_B : Tok) : Prop where
  m_KIND_A : mg "KIND_A" = some (.str "a" tKIND_A)
  m_KIND_B : mg "KIND_B" = some (.str "b" tKIND_B)
  z_bool : mg "bool" = none
  z_divmod : mg "divmod" = none
  z_enumerate : mg "enumerate" = none
  z_int : mg "int" = none
  z_isinstance : mg "isinstance" = none
  z_len : mg "len" = none
  z_list : mg "list" = none
  z_min : mg "min" = none
  z_range : mg "range" = none
  z_str : mg "str" = none
  z_sum : mg "sum" = none
  z_tuple : mg "tuple" = none
section
variable {P : Program} {w : World} {K : PySem.W.Frag} {mg : Str → Option Value} {base : Heap} {tKIND_A tKIND_B : Tok}
def spWhole : Sp := fun vs H Q _ => ∃ n : Int, vs = [.int n] ∧ RetV (.bl true) H Q
theorem sv_whole {H : Hp} {n : Int} : SpV spWhole ([.int n] ++ []) H (.bl true) := fun H1 e Q q E => ⟨n, rfl, q⟩
abbrev s_is_whole : Stmt := topS 21
theorem sc_is_whole : FnScope ["thing"] ["thing"] (defScope s_is_whole) := ⟨rfl, rfl, rfl, by decide +kernel, rfl, by decide +kernel, by decide +kernel⟩
theorem ok_is_whole {f : Addr} {fd : FuncData} (F : Fun K "is_whole" "is_whole" s_is_whole f fd) (T : Txt K mg tKIND_A tKIND_B)  : FnOk P w K mg base CX0 1 f fd ["thing"] spWhole := by
  have nd := sc_is_whole.nd
  refine F.ok sc_is_whole (fun vs H Q E h => ?_) (fun cdv A outer s H vs Q E hr h => ?_)
  · obtain ⟨n, rfl, _⟩ := h
    rfl
  · obtain ⟨n, rfl, q⟩ := h
    refine ⟨_, (pss_one (ps_ret (pe_and (pe_callB call_isi (by rfl) T.z_isinstance (by decide +kernel) (pa_cons (pv 0) (pa_cons (pe_bltn (v := .ty "int") (by rfl) T.z_int (by decide +kernel) rfl) pa_nil))) (pe_one (pe_not (pe_callB call_isi (by rfl) T.z_isinstance (by decide +kernel) (pa_cons (pv 0) (pa_cons (pe_bltn (v := .ty "bool") (by rfl) T.z_bool (by decide +kernel) rfl) pa_nil)))))))), ?_⟩
    refine s_ret (v := .bl true) ?_ q
    refine ev_is (v := .bl (true && !false)) (ev_andV ?_ fun _ => ?_) rfl
    · walk_at "ev"
    · walk_at "ev"
def spLetter : Sp := fun vs H Q _ => ∃ b : Bool, vs = [.str (kl b)] ∧ RetV (.bl true) H Q
theorem sv_letter {H : Hp} {b : Bool} : SpV spLetter ([.str (kl b)] ++ []) H (.bl true) := fun H1 e Q q E => ⟨b, rfl, q⟩
abbrev s_is_letter : Stmt := topS 20
theorem sc_is_letter : FnScope ["thing"] ["thing"] (defScope s_is_letter) := ⟨rfl, rfl, rfl, by decide +kernel, rfl, by decide +kernel, by decide +kernel⟩
theorem ok_is_letter {f : Addr} {fd : FuncData} (F : Fun K "is_letter" "is_letter" s_is_letter f fd) (T : Txt K mg tKIND_A tKIND_B)  : FnOk P w K mg base CX0 1 f fd ["thing"] spLetter := by
  have nd := sc_is_letter.nd
  refine F.ok sc_is_letter (fun vs H Q E h => ?_) (fun cdv A outer s H vs Q E hr h => ?_)
  · obtain ⟨n, rfl, _⟩ := h
    rfl
  · obtain ⟨b, rfl, q⟩ := h
    refine ⟨_, (pss_one (ps_ret (pe_and (pe_callB call_isi (by rfl) T.z_isinstance (by decide +kernel) (pa_cons (pv 0) (pa_cons (pe_bltn (v := .ty "str") (by rfl) T.z_str (by decide +kernel) rfl) pa_nil))) (pe_one (pe_or (pe_cmpR op_eq (pv 0) (pe_glob (v := .str "a") (by rfl) T.m_KIND_A ⟨_, rfl⟩) (nomark _)) (pe_one (pe_cmpR op_eq (pv 0) (pe_glob (v := .str "b") (by rfl) T.m_KIND_B ⟨_, rfl⟩) (nomark _)))))))), ?_⟩
    refine s_ret (v := .bl true) ?_ q
    refine ev_is (v := .bl (true && (decide (V.str (kl b) = V.str "a") || decide (V.str (kl b) = V.str "b")))) (ev_andV ?_ fun _ => ev_orV ?_ fun _ => ?_) ?_
    · walk_at "ev"
    · walk_at "ev"
    · walk_at "ev"
    · cases b <;> decide +kernel
def spStretch (K : PySem.W.Frag) : Sp := fun vs H Q _ => ∃ (t : Addr) (b : Bool) (n : Int), vs = [.ref t] ∧ SqT K H t [.str (kl b), .int n] ∧ 1 ≤ n ∧ RetV (.bl true) H Q
theorem sv_stretch {H : Hp} {t : Addr} {b : Bool} {n : Int} (h : SqT K H t [.str (kl b), .int n]) (hn : 1 ≤ n) : SpV (spStretch K) ([.ref t] ++ []) H (.bl true) := fun H1 e Q q E => ⟨t, b, n, rfl, ex_t e h, hn, q⟩
abbrev s_is_stretch : Stmt := topS 19
theorem sc_is_stretch : FnScope ["thing", "letter", "length"] ["thing"] (defScope s_is_stretch) := ⟨rfl, rfl, rfl, by decide +kernel, rfl, by decide +kernel, by decide +kernel⟩
theorem ok_is_stretch {f : Addr} {fd : FuncData} (F : Fun K "is_stretch" "is_stretch" s_is_stretch f fd) (T : Txt K mg tKIND_A tKIND_B) {f_is_letter : Addr} {fd_is_letter : FuncData} (G_is_letter : FnOk P w K mg base CX0 1 f_is_letter fd_is_letter ["thing"] spLetter) (m_is_letter : mg "is_letter" = some (.ref f_is_letter)) (k_is_letter : PySem.W.keepIn K (.ref f_is_letter) = true) (b_is_letter : Binds K fd_is_letter ["thing"] []) {f_is_whole : Addr} {fd_is_whole : FuncData} (G_is_whole : FnOk P w K mg base CX0 1 f_is_whole fd_is_whole ["thing"] spWhole) (m_is_whole : mg "is_whole" = some (.ref f_is_whole)) (k_is_whole : PySem.W.keepIn K (.ref f_is_whole) = true) (b_is_whole : Binds K fd_is_whole ["thing"] []) : FnOk P w K mg base CX0 2 f fd ["thing"] (spStretch K) := by
  have nd := sc_is_stretch.nd
  refine F.ok sc_is_stretch (fun vs H Q E h => ?_) (fun cdv A outer s H vs Q E hr h => ?_)
  · obtain ⟨t, b, n, rfl, _⟩ := h
    rfl
  · obtain ⟨t, b, n, rfl, ht, hn, q⟩ := h
    refine ⟨_, (pss_cons (ps_if (PW.pt (pw_or (pt_not (pt_val (pe_callB call_isi (by rfl) T.z_isinstance (by decide +kernel) (pa_cons (pv 0) (pa_cons (pe_bltn (v := .ty "tuple") (by rfl) T.z_tuple (by decide +kernel) rfl) pa_nil))))) (pw_or1 (pt_cmpR op_ne (pe_callB c_len (by rfl) T.z_len (by decide +kernel) (pa_cons (pv 0) pa_nil)) pe_int (nomark _))))) (pss_one (ps_ret pe_bl)) pss_nil)
  (pss_cons (ps_asg (pv 0) (pg_tup rfl (pgs_cons (pg_name (i := 1) nd rfl (Or.inl rfl)) (pgs_cons (pg_name (i := 2) nd rfl (Or.inl rfl)) pgs_nil))))
  (pss_one (ps_ret (pe_and (pe_call G_is_letter (hr.mono (by decide)) (by rfl) m_is_letter k_is_letter b_is_letter .nil pass0 (pa_cons (pv 1) pa_nil)) (pe_and (pe_call G_is_whole (hr.mono (by decide)) (by rfl) m_is_whole k_is_whole b_is_whole .nil pass0 (pa_cons (pv 2) pa_nil)) (pe_one (pe_cmpR op_ge (pv 2) pe_int (nomark _))))))))), ?_⟩
    have ht1 : ∀ H1, Ex H H1 → SqT K H1 t [.str (kl b), .int n] := fun H1 e => ex_t e ht
    refine q_when (b := false) ?_ (fun hb => nomatch hb) fun _ H1 e1 => ?_
    · refine et_is (a := (!true || !decide (V.int (([V.str (kl b), V.int n] : List V).length : Int) = V.int 2))) (et_or ?_ fun _ => ?_) ?_
      · refine et_not (et_B (ev_isi (d := "tuple") (ev_var rfl) (fun H1 e => tyT (ht1 H1 e)) ?_))
        decide +kernel
      · exact et_test (ev_op (ev_lenT (ev_var rfl) ht) ev_c (rv_ne rfl))
      · rfl
    · refine q_unp (K := K) (x := .str (kl b)) (y := .int n) (ep_var rfl fun H2 e2 => ⟨t, rfl, ht1 H2 (e1.trans e2)⟩) fun H2 e2 => ?_
      refine s_ret (v := .bl true) ?_ fun H3 e3 => q H3 ((e1.trans e2).trans e3)
      refine ev_is (v := .bl (true && (true && decide (1 ≤ n)))) (ev_andV ?_ fun _ => ev_andV ?_ fun _ => ?_) ?_
      · exact ev_call (ea_cons (ev_var rfl) ea_nil) sv_letter
      · exact ev_call (ea_cons (ev_var rfl) ea_nil) sv_whole
      · walk_at "ev"
      · rw [decide_eq_true hn]
        rfl
end
section
variable {P : Program} {w : World} {K : PySem.W.Frag} {mg : Str → Option Value} {base : Heap} {tKIND_A tKIND_B : Tok}
def spCheckRing (K : PySem.W.Frag) : Sp := fun vs H Q _ => ∃ (a : Addr) (r : Ring), vs = [.ref a] ∧ RingAt K H a r ∧ r ≠ [] ∧ Pos r ∧ RetV .non H Q
theorem sv_check_ring {H : Hp} {a : Addr} {r : Ring} (h : RingAt K H a r) (hn : r ≠ []) (hp : Pos r) : SpV (spCheckRing K) ([.ref a] ++ []) H .non := fun H1 e Q q E => ⟨a, r, rfl, h.mono e, hn, hp, q⟩
abbrev s_check_ring : Stmt := topS 15
theorem sc_check_ring : FnScope ["ring", "stretch"] ["ring"] (defScope s_check_ring) := ⟨rfl, rfl, rfl, by decide +kernel, rfl, by decide +kernel, by decide +kernel⟩
theorem ok_check_ring {f : Addr} {fd : FuncData} (F : Fun K "check_ring" "check_ring" s_check_ring f fd) (T : Txt K mg tKIND_A tKIND_B) {f_is_stretch : Addr} {fd_is_stretch : FuncData} (G_is_stretch : FnOk P w K mg base CX0 2 f_is_stretch fd_is_stretch ["thing"] (spStretch K)) (m_is_stretch : mg "is_stretch" = some (.ref f_is_stretch)) (k_is_stretch : PySem.W.keepIn K (.ref f_is_stretch) = true) (b_is_stretch : Binds K fd_is_stretch ["thing"] []) : FnOk P w K mg base CX0 3 f fd ["ring"] (spCheckRing K) := by
  have nd := sc_check_ring.nd
  refine F.ok sc_check_ring (fun vs H Q E h => ?_) (fun cdv A outer s H vs Q E hr h => ?_)
  · obtain ⟨a, r, rfl, _⟩ := h
    rfl
  · obtain ⟨a, r, rfl, hR, hne, hp, q⟩ := h
    refine ⟨_, (pss_cons (ps_if (PW.pt (pw_or (pt_not (pt_val (pe_callB call_isi (by rfl) T.z_isinstance (by decide +kernel) (pa_cons (pv 0) (pa_cons (pe_bltn (v := .ty "list") (by rfl) T.z_list (by decide +kernel) rfl) pa_nil))))) (pw_or1 (pt_cmpR op_eq (pe_callB c_len (by rfl) T.z_len (by decide +kernel) (pa_cons (pv 0) pa_nil)) pe_int (nomark _))))) (pss_one ps_never) pss_nil)
  (pss_one (ps_for PassesOwn.never rfl (pi_list (pv 0)) (pg_name (i := 1) nd rfl (Or.inl rfl))
  (pss_one (ps_if (pt_not (pt_val (pe_call G_is_stretch (hr.mono (by decide)) (by rfl) m_is_stretch k_is_stretch b_is_stretch .nil pass0 (pa_cons (pv 1) pa_nil)))) (pss_one ps_never) pss_nil))))), ?_⟩
    obtain ⟨vs, hvs, hit⟩ := id hR
    have hlen : vs.length ≠ 0 := by
      rw [hit.1]
      cases r with
      | nil => exact absurd rfl hne
      | cons x r => simp
    refine q_when (b := false) ?_ (fun hb => nomatch hb) fun _ H1 e1 => ?_
    · refine et_is (a := (!true || decide (V.int ((vs.length : Nat) : Int) = V.int 0))) (et_or ?_ fun _ => ?_) ?_
      · refine et_not (et_B (ev_isi (d := "list") (ev_var rfl) (fun H1 e => tyL (ex_l e hvs)) ?_))
        decide +kernel
      · exact et_test (ev_op (ev_len (ev_var rfl) hvs) ev_c (rv_eq rfl))
      · have : ¬ V.int ((vs.length : Nat) : Int) = V.int 0 := fun z => by
          have := V.int.inj z
          omega
        rw [decide_eq_false this]
        rfl
    · refine s_forLn (ev_var rfl) (ex_l e1 hvs) (fun i σ' H' => Ex H H' ∧ ∃ y, σ' = [some (.ref a), y]) (fun H2 e2 => ⟨e1.trans e2, none, rfl⟩) (fun i σ' H' _ p => ex_l p.1 hvs) (fun i v σ' H' hv p => ?_) (fun σ' H' p => q H' p.1)
      obtain ⟨e2, y, rfl⟩ := p
      have hi : i < r.length := by
        rw [← hit.1]
        exact (List.getElem?_eq_some_iff.mp hv).1
      have hx := List.getElem?_eq_getElem hi
      obtain ⟨t, rfl, ht⟩ := hit.2 i v _ hv hx
      refine s_when (b := !true) (et_not (et_B (ev_call (ea_cons (ev_var rfl) ea_nil) (sv_stretch (ex_t e2 ht) (hp _ (mem_at hx)))))) (fun hb => nomatch hb) fun _ H3 e3 => ?_
      exact ⟨e2.trans e3, _, rfl⟩
def spSize (K : PySem.W.Frag) : Sp := fun vs H Q _ => ∃ (a : Addr) (r : Ring), vs = [.ref a] ∧ RingAt K H a r ∧ r.length ≤ 40000 ∧ RetV (.int (sizeR r)) H Q
theorem sv_size {H : Hp} {a : Addr} {r : Ring} (h : RingAt K H a r) (hl : r.length ≤ 40000) : SpV (spSize K) ([.ref a] ++ []) H (.int (sizeR r)) := fun H1 e Q q E => ⟨a, r, rfl, h.mono e, hl, q⟩
abbrev s_size : Stmt := topS 14
theorem sc_size : FnScope ["ring", "_", "length"] ["ring"] (defScope s_size) := ⟨rfl, rfl, rfl, by decide +kernel, rfl, by decide +kernel, by decide +kernel⟩
theorem ok_size {f : Addr} {fd : FuncData} (F : Fun K "size" "size" s_size f fd) (T : Txt K mg tKIND_A tKIND_B)  : FnOk P w K mg base CX0 1 f fd ["ring"] (spSize K) := by
  have nd := sc_size.nd
  refine F.ok sc_size (fun vs H Q E h => ?_) (fun cdv A outer s H vs Q E hr h => ?_)
  · obtain ⟨a, r, rfl, _⟩ := h
    rfl
  · obtain ⟨a, r, rfl, hR, hl, q⟩ := h
    refine ⟨_, (pss_one (ps_ret (pe_callB (cr_sum rfl) (by rfl) T.z_sum (by decide +kernel) (pa_cons (pe_lc (g := (gTup K 2 (gCons (gName 1) (gCons (gName 2) gNil)))) (own := [("_", 1), ("length", 2)]) (by rfl) nd (pi_list (pv 0)) (blkOk_by (own := [("_", 1), ("length", 2)]) (N := ["ring", "_", "length"]) (sc := defScope s_size) (by decide +kernel)) (fun _ _ _ _ _ => (pg_tup rfl (pgs_cons (pg_name (i := 1) nd rfl (Or.inl rfl) (.inr rfl)) (pgs_cons (pg_name (i := 2) nd rfl (Or.inl rfl) (.inr rfl)) pgs_nil)))) (fun _ _ _ _ _ => pts_nil) (fun _ _ _ _ _ => (pv 2))) pa_nil)))), ?_⟩
    refine s_ret (v := .int (sizeR r)) ?_ q
    rw [← size_sum]
    refine ev_sum (el_lcRing (fun _ => true) (fun x => .int x.2) (ev_var rfl) hR hl (fun _ _ => rfl) (fun x H1 _ _ H2 _ Q q => q H2 (Ex.refl H2)) (fun x H1 _ _ _ => ev_var rfl)) ?_
    rw [List.filter_eq_self.mpr (fun _ _ => rfl), List.map_map]
    rfl
def spMany (K : PySem.W.Frag) : Sp := fun vs H Q _ => ∃ (a : Addr) (r : Ring) (b : Bool), vs = [.ref a, .str (kl b)] ∧ RingAt K H a r ∧ r.length ≤ 40000 ∧ RetV (.int (if b = true then cntA r else cntB r)) H Q
theorem sv_manyA {H : Hp} {a : Addr} {r : Ring} (h : RingAt K H a r) (hl : r.length ≤ 40000) : SpV (spMany K) ([.ref a, .str "a"] ++ []) H (.int (cntA r)) := fun H1 e Q q E => ⟨a, r, true, rfl, h.mono e, hl, q⟩
theorem sv_manyB {H : Hp} {a : Addr} {r : Ring} (h : RingAt K H a r) (hl : r.length ≤ 40000) : SpV (spMany K) ([.ref a, .str "b"] ++ []) H (.int (cntB r)) := fun H1 e Q q E => ⟨a, r, false, rfl, h.mono e, hl, q⟩
abbrev s_many_of : Stmt := topS 13
theorem sc_many_of : FnScope ["ring", "letter", "kind", "length"] ["ring", "letter"] (defScope s_many_of) := ⟨rfl, rfl, rfl, by decide +kernel, rfl, by decide +kernel, by decide +kernel⟩
theorem ok_many_of {f : Addr} {fd : FuncData} (F : Fun K "many_of" "many_of" s_many_of f fd) (T : Txt K mg tKIND_A tKIND_B)  : FnOk P w K mg base CX0 1 f fd ["ring", "letter"] (spMany K) := by
  have nd := sc_many_of.nd
  refine F.ok sc_many_of (fun vs H Q E h => ?_) (fun cdv A outer s H vs Q E hr h => ?_)
  · obtain ⟨a, r, b, rfl, _⟩ := h
    rfl
  · obtain ⟨a, r, b, rfl, hR, hl, q⟩ := h
    refine ⟨_, (pss_one (ps_ret (pe_callB (cr_sum rfl) (by rfl) T.z_sum (by decide +kernel) (pa_cons (pe_lc (g := (gTup K 2 (gCons (gName 2) (gCons (gName 3) gNil)))) (own := [("kind", 2), ("length", 3)]) (by rfl) nd (pi_list (pv 0)) (blkOk_by (own := [("kind", 2), ("length", 3)]) (N := ["ring", "letter", "kind", "length"]) (sc := defScope s_many_of) (by decide +kernel)) (fun _ _ _ _ _ => (pg_tup rfl (pgs_cons (pg_name (i := 2) nd rfl (Or.inl rfl) (.inr rfl)) (pgs_cons (pg_name (i := 3) nd rfl (Or.inl rfl) (.inr rfl)) pgs_nil)))) (fun _ _ _ _ _ => (pts_one (pt_cmpR op_eq (pv 2) (pv 1) (nomark _)))) (fun _ _ _ _ _ => (pv 3))) pa_nil)))), ?_⟩
    have es : ((r.filter (fun x => x.1 == b)).map (·.2)).sum = if b = true then cntA r else cntB r := by
      cases b with
      | true =>
        rw [if_pos rfl, ← cntA_sum]
        congr 3
        funext x
        cases x.1 <;> rfl
      | false =>
        rw [if_neg (by decide), ← cntB_sum]
        congr 3
        funext x
        cases x.1 <;> rfl
    refine s_ret (v := .int (if b = true then cntA r else cntB r)) ?_ q
    rw [← es]
    refine ev_sum (el_lcRing (fun x => x.1 == b) (fun x => .int x.2) (ev_var rfl) hR hl (fun _ _ => rfl) (fun x H1 _ _ => ?_) (fun x H1 _ _ _ => ev_var rfl)) ?_
    · refine et_is (et_test (ev_op (ev_var rfl) (ev_var (v := .str (kl b)) rfl) (rv_eq rfl))) (kl_eq x.1 b)
    · rw [List.map_map]
      rfl
def spIsPlace (K : PySem.W.Frag) : Sp := fun vs H Q _ => ∃ (a : Addr) (r : Ring) (p : Int), vs = [.ref a, .int p] ∧ RingAt K H a r ∧ r.length ≤ 40000 ∧ RetV (.bl (decide (0 ≤ p) && decide (p < sizeR r))) H Q
theorem sv_is_place {H : Hp} {a : Addr} {r : Ring} {p : Int} (h : RingAt K H a r) (hl : r.length ≤ 40000) : SpV (spIsPlace K) ([.ref a, .int p] ++ []) H (.bl (decide (0 ≤ p) && decide (p < sizeR r))) := fun H1 e Q q E => ⟨a, r, p, rfl, h.mono e, hl, q⟩
abbrev s_is_place : Stmt := topS 18
theorem sc_is_place : FnScope ["ring", "thing"] ["ring", "thing"] (defScope s_is_place) := ⟨rfl, rfl, rfl, by decide +kernel, rfl, by decide +kernel, by decide +kernel⟩
theorem ok_is_place {f : Addr} {fd : FuncData} (F : Fun K "is_place" "is_place" s_is_place f fd) (T : Txt K mg tKIND_A tKIND_B) {f_is_whole : Addr} {fd_is_whole : FuncData} (G_is_whole : FnOk P w K mg base CX0 1 f_is_whole fd_is_whole ["thing"] spWhole) (m_is_whole : mg "is_whole" = some (.ref f_is_whole)) (k_is_whole : PySem.W.keepIn K (.ref f_is_whole) = true) (b_is_whole : Binds K fd_is_whole ["thing"] []) {f_size : Addr} {fd_size : FuncData} (G_size : FnOk P w K mg base CX0 1 f_size fd_size ["ring"] (spSize K)) (m_size : mg "size" = some (.ref f_size)) (k_size : PySem.W.keepIn K (.ref f_size) = true) (b_size : Binds K fd_size ["ring"] []) : FnOk P w K mg base CX0 2 f fd ["ring", "thing"] (spIsPlace K) := by
  have nd := sc_is_place.nd
  refine F.ok sc_is_place (fun vs H Q E h => ?_) (fun cdv A outer s H vs Q E hr h => ?_)
  · obtain ⟨a, r, p, rfl, _⟩ := h
    rfl
  · obtain ⟨a, r, p, rfl, hR, hl, q⟩ := h
    refine ⟨_, (pss_one (ps_ret (pe_and (pe_call G_is_whole (hr.mono (by decide)) (by rfl) m_is_whole k_is_whole b_is_whole .nil pass0 (pa_cons (pv 1) pa_nil)) (pe_one (pe_chain op_le op_lt pe_int (pv 1) (pe_call G_size (hr.mono (by decide)) (by rfl) m_size k_size b_size .nil pass0 (pa_cons (pv 0) pa_nil))))))), ?_⟩
    exact s_ret (v := .bl (decide (0 ≤ p) && decide (p < sizeR r))) (ev_is (v := .bl (true && (decide (0 ≤ p) && decide (p < sizeR r)))) (ev_andV (ev_call (ea_cons (ev_var rfl) ea_nil) sv_whole) fun _ => ev_chain ev_c (ev_var rfl) (ev_call (ea_cons (ev_var rfl) ea_nil) (sv_size hR hl))) (by rw [Bool.true_and])) q
def spCheckPlace (K : PySem.W.Frag) : Sp := fun vs H Q _ => ∃ (a : Addr) (r : Ring) (p : Int), vs = [.ref a, .int p] ∧ RingAt K H a r ∧ r.length ≤ 40000 ∧ 0 ≤ p ∧ p < sizeR r ∧ RetV .non H Q
theorem sv_check_place {H : Hp} {a : Addr} {r : Ring} {p : Int} (h : RingAt K H a r) (hl : r.length ≤ 40000) (h0 : 0 ≤ p) (h1 : p < sizeR r) : SpV (spCheckPlace K) ([.ref a, .int p] ++ []) H .non := fun H1 e Q q E => ⟨a, r, p, rfl, h.mono e, hl, h0, h1, q⟩
abbrev s_check_place : Stmt := topS 16
theorem sc_check_place : FnScope ["ring", "place"] ["ring", "place"] (defScope s_check_place) := ⟨rfl, rfl, rfl, by decide +kernel, rfl, by decide +kernel, by decide +kernel⟩
theorem ok_check_place {f : Addr} {fd : FuncData} (F : Fun K "check_place" "check_place" s_check_place f fd) (T : Txt K mg tKIND_A tKIND_B) {f_is_place : Addr} {fd_is_place : FuncData} (G_is_place : FnOk P w K mg base CX0 2 f_is_place fd_is_place ["ring", "thing"] (spIsPlace K)) (m_is_place : mg "is_place" = some (.ref f_is_place)) (k_is_place : PySem.W.keepIn K (.ref f_is_place) = true) (b_is_place : Binds K fd_is_place ["ring", "thing"] []) : FnOk P w K mg base CX0 3 f fd ["ring", "place"] (spCheckPlace K) := by
  have nd := sc_check_place.nd
  refine F.ok sc_check_place (fun vs H Q E h => ?_) (fun cdv A outer s H vs Q E hr h => ?_)
  · obtain ⟨a, r, p, rfl, _⟩ := h
    rfl
  · obtain ⟨a, r, p, rfl, hR, hl, h0, h1, q⟩ := h
    refine ⟨_, (pss_one (ps_if (pt_not (pt_val (pe_call G_is_place (hr.mono (by decide)) (by rfl) m_is_place k_is_place b_is_place .nil pass0 (pa_cons (pv 0) (pa_cons (pv 1) pa_nil))))) (pss_one ps_never) pss_nil)), ?_⟩
    refine s_when (b := false) (et_is (et_not (et_B (ev_call (ea_cons (ev_var rfl) (ea_cons (ev_var rfl) ea_nil)) (sv_is_place hR hl)))) ?_) (fun hb => nomatch hb) fun _ H1 e1 => q H1 e1
    rw [decide_eq_true h0, decide_eq_true h1]
    rfl
def spCheckMany : Sp := fun vs H Q _ => ∃ (p : Int), vs = [.int p] ∧ 0 ≤ p ∧ RetV .non H Q
theorem sv_check_many {H : Hp} {p : Int} (h0 : 0 ≤ p) : SpV spCheckMany ([.int p] ++ []) H .non := fun H1 e Q q E => ⟨p, rfl, h0, q⟩
abbrev s_check_many : Stmt := topS 17
theorem sc_check_many : FnScope ["many"] ["many"] (defScope s_check_many) := ⟨rfl, rfl, rfl, by decide +kernel, rfl, by decide +kernel, by decide +kernel⟩
theorem ok_check_many {f : Addr} {fd : FuncData} (F : Fun K "check_many" "check_many" s_check_many f fd) (T : Txt K mg tKIND_A tKIND_B) {f_is_whole : Addr} {fd_is_whole : FuncData} (G_is_whole : FnOk P w K mg base CX0 1 f_is_whole fd_is_whole ["thing"] spWhole) (m_is_whole : mg "is_whole" = some (.ref f_is_whole)) (k_is_whole : PySem.W.keepIn K (.ref f_is_whole) = true) (b_is_whole : Binds K fd_is_whole ["thing"] []) : FnOk P w K mg base CX0 2 f fd ["many"] spCheckMany := by
  have nd := sc_check_many.nd
  refine F.ok sc_check_many (fun vs H Q E h => ?_) (fun cdv A outer s H vs Q E hr h => ?_)
  · obtain ⟨p, rfl, _⟩ := h
    rfl
  · obtain ⟨p, rfl, h0, q⟩ := h
    refine ⟨_, (pss_one (ps_if (PW.pt (pw_or (pt_not (pt_val (pe_call G_is_whole (hr.mono (by decide)) (by rfl) m_is_whole k_is_whole b_is_whole .nil pass0 (pa_cons (pv 0) pa_nil)))) (pw_or1 (pt_cmpR op_lt (pv 0) pe_int (nomark _))))) (pss_one ps_never) pss_nil)), ?_⟩
    refine s_when (b := false) ?_ (fun hb => nomatch hb) fun _ H1 e1 => q H1 e1
    refine et_is (a := (!true || decide (p < 0))) (et_or ?_ fun _ => ?_) ?_
    · exact et_not (et_B (ev_call (ea_cons (ev_var rfl) ea_nil) sv_whole))
    · walk_at "ev"
    · rw [decide_eq_false (by omega)]
      rfl
end
section
variable {P : Program} {w : World} {K : PySem.W.Frag} {mg : Str → Option Value} {base : Heap} {tKIND_A tKIND_B : Tok}
theorem ev_item1 {σ : Sg} {H : Hp} {ta tb : TE} {a : Addr} {i : Nat} {r : Ring} {x : Bool × Int} (ha : Ev ta σ H (.ref a)) (hb : Ev tb σ H (.int (i : Int))) (hR : RingAt K H a r) (hx : r[i]? = some x) : Ev (tOp (rIxT K) (tOp (rIxL K) ta tb) (tC (.int 1))) σ H (.int x.2) := by
  obtain ⟨vs, hvs, hit⟩ := hR
  obtain ⟨t, e, ht⟩ := hit.get hx
  exact ev_op (ev_op ha hb (rv_ixL hvs (atI_nat e))) ev_c (rv_ixT ht (atI_nat (j := 1) rfl))
theorem ev_item0 {σ : Sg} {H : Hp} {ta tb : TE} {a : Addr} {i : Nat} {r : Ring} {x : Bool × Int} (ha : Ev ta σ H (.ref a)) (hb : Ev tb σ H (.int (i : Int))) (hR : RingAt K H a r) (hx : r[i]? = some x) : Ev (tOp (rIxT K) (tOp (rIxL K) ta tb) (tC (.int 0))) σ H (.str (kl x.1)) := by
  obtain ⟨vs, hvs, hit⟩ := hR
  obtain ⟨t, e, ht⟩ := hit.get hx
  exact ev_op (ev_op ha hb (rv_ixL hvs (atI_nat e))) ev_c (rv_ixT ht (atI_nat (j := 0) rfl))
def spFirst (K : PySem.W.Frag) : Sp := fun vs H Q _ => ∃ (a : Addr) (r : Ring) (m : Int), vs = [.ref a, .int m] ∧ RingAt K H a r ∧ Good r ∧ 0 ≤ m ∧ m < 2 ^ 400 ∧ RetV (.int (firstF r m)) H Q
theorem sv_first {H : Hp} {a : Addr} {r : Ring} {m : Int} (h : RingAt K H a r) (g : Good r) (h0 : 0 ≤ m) (h1 : m < 2 ^ 400) : SpV (spFirst K) ([.ref a, .int m] ++ []) H (.int (firstF r m)) := fun H1 e Q q E => ⟨a, r, m, rfl, h.mono e, g, h0, h1, q⟩
abbrev s_from_first : Stmt := topS 12
theorem sc_from_first : FnScope ["ring", "many", "rounds", "left", "found", "kind", "length", "here"] ["ring", "many"] (defScope s_from_first) := ⟨rfl, rfl, rfl, by decide +kernel, rfl, by decide +kernel, by decide +kernel⟩
theorem ok_from_first {f : Addr} {fd : FuncData} (F : Fun K "from_first" "from_first" s_from_first f fd) (T : Txt K mg tKIND_A tKIND_B) {f_many_of : Addr} {fd_many_of : FuncData} (G_many_of : FnOk P w K mg base CX0 1 f_many_of fd_many_of ["ring", "letter"] (spMany K)) (m_many_of : mg "many_of" = some (.ref f_many_of)) (k_many_of : PySem.W.keepIn K (.ref f_many_of) = true) (b_many_of : Binds K fd_many_of ["ring", "letter"] []) {f_size : Addr} {fd_size : FuncData} (G_size : FnOk P w K mg base CX0 1 f_size fd_size ["ring"] (spSize K)) (m_size : mg "size" = some (.ref f_size)) (k_size : PySem.W.keepIn K (.ref f_size) = true) (b_size : Binds K fd_size ["ring"] []) : FnOk P w K mg base CX0 2 f fd ["ring", "many"] (spFirst K) := by
  have nd := sc_from_first.nd
  refine F.ok sc_from_first (fun vs H Q E h => ?_) (fun cdv A outer s H vs Q E hr h => ?_)
  · obtain ⟨a, r, m, rfl, _⟩ := h
    rfl
  · obtain ⟨a, r, m, rfl, hR, g, h0, h1, q⟩ := h
    refine ⟨_, (pss_cons (ps_asg (pe_callB c_dm (by rfl) T.z_divmod (by decide +kernel) (pa_cons (pv 1) (pa_cons (pe_call G_size (hr.mono (by decide)) (by rfl) m_size k_size b_size .nil pass0 (pa_cons (pv 0) pa_nil)) pa_nil))) (pg_tup rfl (pgs_cons (pg_name (i := 2) nd rfl (Or.inl rfl)) (pgs_cons (pg_name (i := 3) nd rfl (Or.inl rfl)) pgs_nil))))
  (pss_cons (ps_set (i := 4) nd rfl (Or.inl rfl) (pe_op op_mulX (pv 2) (pe_call G_many_of (hr.mono (by decide)) (by rfl) m_many_of k_many_of b_many_of .nil pass0 (pa_cons (pv 0) (pa_cons (pe_glob (v := .str "a") (by rfl) T.m_KIND_A ⟨_, rfl⟩) pa_nil)))))
  (pss_cons (ps_for PassesOwn.never rfl (pi_list (pv 0)) (pg_tup rfl (pgs_cons (pg_name (i := 5) nd rfl (Or.inl rfl)) (pgs_cons (pg_name (i := 6) nd rfl (Or.inl rfl)) pgs_nil)))
  (pss_cons (ps_set (i := 7) nd rfl (Or.inl rfl) (pe_callB (c_min2 rfl) (by rfl) T.z_min (by decide +kernel) (pa_cons (pv 3) (pa_cons (pv 6) pa_nil))))
  (pss_cons (ps_if (pt_cmpR op_eq (pv 5) (pe_glob (v := .str "a") (by rfl) T.m_KIND_A ⟨_, rfl⟩) (nomark _)) (pss_one (ps_aug (i := 4) nd rfl (.inl rfl) (pv 7) ip_add)) pss_nil)
  (pss_one (ps_aug (i := 3) nd rfl (.inl rfl) (pv 7) ip_sub)))))
  (pss_one (ps_ret (pv 4)))))), ?_⟩
    have hl : r.length ≤ 40000 := Nat.le_trans g.len (by decide)
    have hs := g.size
    have hst := g.sizeTop
    have hc0 := cnt_nonneg g.pos
    have hc1 := cnt_le g.pos
    have d0 : 0 ≤ m / sizeR r := Int.ediv_nonneg h0 (by omega)
    have d1 : m / sizeR r ≤ m := Int.ediv_le_self _ h0
    have hm : CDivP m (sizeR r) := divp_ok (by omega) (Nat.le_trans (PyProof.Rows.intBits_le (k := 400) (by omega)) (by omega))
    refine q_unp (K := K) (x := .int (m / sizeR r)) (y := .int (m % sizeR r)) (ep_U (eu_dm (ea_cons (ev_var rfl) (ea_cons (ev_call (ea_cons (ev_var rfl) ea_nil) (sv_size hR hl)) ea_nil)) hm)) fun H1 e1 => ?_
    refine q_asg (v := .int (m / sizeR r * cntA r)) (ev_op (ev_var rfl) (ev_call (ea_cons (ev_var rfl) (ea_cons ev_c ea_nil)) (sv_manyA (hR.mono e1) hl)) (rv_I (mulx_ok (a := 400) (b := 208) (by omega) (by omega) (by decide)))) fun H2 e2 => ?_
    have hR2 := hR.mono (e1.trans e2)
    refine q_forR (ev_var rfl) hR2 (fun i σ' H' => Ex H2 H' ∧ ∃ (fo le : Int) (y5 y6 y7 : Option V), σ' = [some (.ref a), some (.int m), some (.int (m / sizeR r)), some (.int le), some (.int fo), y5, y6, y7] ∧ fo + ahead (r.drop i) le = firstF r m)
      (fun H3 e3 => ⟨e3, _, _, none, none, none, rfl, rfl⟩) (fun i σ' H' p => p.1) (fun i x σ' H' hx p => ?_) (fun σ' H' p => ?_)
    · obtain ⟨e3, fo, le, y5, y6, y7, rfl, inv⟩ := p
      rw [drop_at hx] at inv
      have inv' : fo + ((if x.1 = true then mn le x.2 else 0) + ahead (r.drop (i + 1)) (le - mn le x.2)) = firstF r m := inv
      refine q_asg (v := .int (mn le x.2)) (by walk_at "ev") fun H4 e4 => ?_
      have ht : ∀ σ0, σ0 = [some (.ref a), some (.int m), some (.int (m / sizeR r)), some (.int le), some (.int fo), some (V.str (kl x.1)), some (.int x.2), some (.int (mn le x.2))] → EvT (tTest (tOp rEq (tVar 5) (tC (.str "a")))) σ0 H4 x.1 := fun σ0 e0 => by
        subst e0
        exact et_is (et_test (ev_op (ev_var rfl) ev_c (rv_eq rfl))) (kl_a x.1)
      cases hk : x.1 with
      | true =>
        rw [hk] at ht inv'
        refine q_when (ht _ rfl) (fun _ H5 e5 => ?_) (fun hb => nomatch hb)
        refine s_aug (f := fun i j => i + j) (a := fo) (b := mn le x.2) rfl (ev_var rfl) fun H6 e6 => ?_
        refine s_aug (f := fun i j => i - j) (a := le) (b := mn le x.2) rfl (ev_var rfl) fun H7 e7 => ?_
        refine ⟨(((e3.trans e4).trans e5).trans e6).trans e7, fo + mn le x.2, le - mn le x.2, _, _, _, rfl, ?_⟩
        rw [if_pos rfl] at inv'
        omega
      | false =>
        rw [hk] at ht inv'
        refine q_when (ht _ rfl) (fun hb => nomatch hb) (fun _ H5 e5 => ?_)
        refine s_aug (f := fun i j => i - j) (a := le) (b := mn le x.2) rfl (ev_var rfl) fun H7 e7 => ?_
        refine ⟨((e3.trans e4).trans e5).trans e7, fo, le - mn le x.2, _, _, _, rfl, ?_⟩
        rw [if_neg (by decide)] at inv'
        omega
    · obtain ⟨e3, fo, le, y5, y6, y7, rfl, inv⟩ := p
      rw [List.drop_length] at inv
      have inv' : fo + 0 = firstF r m := inv
      refine s_ret (v := .int fo) (ev_var rfl) fun H4 e4 => ?_
      rw [show fo = firstF r m by omega]
      exact q H4 (((e1.trans e2).trans e3).trans e4)
def spInside (K : PySem.W.Frag) : Sp := fun vs H Q _ => ∃ (a : Addr) (r : Ring) (p m : Int), vs = [.ref a, .int p, .int m] ∧ RingAt K H a r ∧ Good r ∧ 0 ≤ p ∧ p < sizeR r ∧ 0 ≤ m ∧ m < 2 ^ 399 ∧ RetV (.int (amongF r p m)) H Q
theorem sv_inside {H : Hp} {a : Addr} {r : Ring} {p m : Int} (h : RingAt K H a r) (g : Good r) (h0 : 0 ≤ p) (h1 : p < sizeR r) (h2 : 0 ≤ m) (h3 : m < 2 ^ 399) : SpV (spInside K) ([.ref a, .int p, .int m] ++ []) H (.int (amongF r p m)) := fun H1 e Q q E => ⟨a, r, p, m, rfl, h.mono e, g, h0, h1, h2, h3, q⟩
abbrev s_inside : Stmt := topS 11
theorem sc_inside : FnScope ["ring", "place", "many"] ["ring", "place", "many"] (defScope s_inside) := ⟨rfl, rfl, rfl, by decide +kernel, rfl, by decide +kernel, by decide +kernel⟩
theorem ok_inside {f : Addr} {fd : FuncData} (F : Fun K "inside" "inside" s_inside f fd) (T : Txt K mg tKIND_A tKIND_B) {f_from_first : Addr} {fd_from_first : FuncData} (G_from_first : FnOk P w K mg base CX0 2 f_from_first fd_from_first ["ring", "many"] (spFirst K)) (m_from_first : mg "from_first" = some (.ref f_from_first)) (k_from_first : PySem.W.keepIn K (.ref f_from_first) = true) (b_from_first : Binds K fd_from_first ["ring", "many"] []) : FnOk P w K mg base CX0 3 f fd ["ring", "place", "many"] (spInside K) := by
  have nd := sc_inside.nd
  refine F.ok sc_inside (fun vs H Q E h => ?_) (fun cdv A outer s H vs Q E hr h => ?_)
  · obtain ⟨a, r, p, m, rfl, _⟩ := h
    rfl
  · obtain ⟨a, r, p, m, rfl, hR, g, h0, h1, h2, h3, q⟩ := h
    refine ⟨_, (pss_one (ps_ret (pe_op op_sub (pe_call G_from_first (hr.mono (by decide)) (by rfl) m_from_first k_from_first b_from_first .nil pass0 (pa_cons (pv 0) (pa_cons (pe_op op_add (pv 1) (pv 2)) pa_nil))) (pe_call G_from_first (hr.mono (by decide)) (by rfl) m_from_first k_from_first b_from_first .nil pass0 (pa_cons (pv 0) (pa_cons (pv 1) pa_nil)))))), ?_⟩
    have hst := g.sizeTop
    exact s_ret (v := .int (firstF r (p + m) - firstF r p)) (ev_op (ev_call (ea_cons (ev_var rfl) (ea_cons (ev_op (ev_var rfl) (ev_var rfl) rv_I0) ea_nil)) (sv_first hR g (by omega) (by omega)))
      (ev_call (ea_cons (ev_var rfl) (ea_cons (ev_var rfl) ea_nil)) (sv_first hR g h0 (by omega))) rv_I0) q
def spAmong (K : PySem.W.Frag) : Sp := fun vs H Q _ => ∃ (a : Addr) (r : Ring) (p m : Int), vs = [.ref a, .int p, .int m] ∧ RingAt K H a r ∧ Good r ∧ 0 ≤ p ∧ p < sizeR r ∧ 0 ≤ m ∧ m < 2 ^ 399 ∧ RetV (.int (amongF r p m)) H Q
theorem sv_among {H : Hp} {a : Addr} {r : Ring} {p m : Int} (h : RingAt K H a r) (g : Good r) (h0 : 0 ≤ p) (h1 : p < sizeR r) (h2 : 0 ≤ m) (h3 : m < 2 ^ 399) : SpV (spAmong K) ([.ref a, .int p, .int m] ++ []) H (.int (amongF r p m)) := fun H1 e Q q E => ⟨a, r, p, m, rfl, h.mono e, g, h0, h1, h2, h3, q⟩
abbrev s_among : Stmt := topS 10
theorem sc_among : FnScope ["ring", "place", "many"] ["ring", "place", "many"] (defScope s_among) := ⟨rfl, rfl, rfl, by decide +kernel, rfl, by decide +kernel, by decide +kernel⟩
theorem ok_among {f : Addr} {fd : FuncData} (F : Fun K "among" "among" s_among f fd) (T : Txt K mg tKIND_A tKIND_B) {f_check_many : Addr} {fd_check_many : FuncData} (G_check_many : FnOk P w K mg base CX0 2 f_check_many fd_check_many ["many"] spCheckMany) (m_check_many : mg "check_many" = some (.ref f_check_many)) (k_check_many : PySem.W.keepIn K (.ref f_check_many) = true) (b_check_many : Binds K fd_check_many ["many"] []) {f_check_place : Addr} {fd_check_place : FuncData} (G_check_place : FnOk P w K mg base CX0 3 f_check_place fd_check_place ["ring", "place"] (spCheckPlace K)) (m_check_place : mg "check_place" = some (.ref f_check_place)) (k_check_place : PySem.W.keepIn K (.ref f_check_place) = true) (b_check_place : Binds K fd_check_place ["ring", "place"] []) {f_check_ring : Addr} {fd_check_ring : FuncData} (G_check_ring : FnOk P w K mg base CX0 3 f_check_ring fd_check_ring ["ring"] (spCheckRing K)) (m_check_ring : mg "check_ring" = some (.ref f_check_ring)) (k_check_ring : PySem.W.keepIn K (.ref f_check_ring) = true) (b_check_ring : Binds K fd_check_ring ["ring"] []) {f_inside : Addr} {fd_inside : FuncData} (G_inside : FnOk P w K mg base CX0 3 f_inside fd_inside ["ring", "place", "many"] (spInside K)) (m_inside : mg "inside" = some (.ref f_inside)) (k_inside : PySem.W.keepIn K (.ref f_inside) = true) (b_inside : Binds K fd_inside ["ring", "place", "many"] []) : FnOk P w K mg base CX0 4 f fd ["ring", "place", "many"] (spAmong K) := by
  have nd := sc_among.nd
  refine F.ok sc_among (fun vs H Q E h => ?_) (fun cdv A outer s H vs Q E hr h => ?_)
  · obtain ⟨a, r, p, m, rfl, _⟩ := h
    rfl
  · obtain ⟨a, r, p, m, rfl, hR, g, h0, h1, h2, h3, q⟩ := h
    refine ⟨_, (pss_cons (ps_expr (pe_call G_check_ring (hr.mono (by decide)) (by rfl) m_check_ring k_check_ring b_check_ring .nil pass0 (pa_cons (pv 0) pa_nil)))
  (pss_cons (ps_expr (pe_call G_check_place (hr.mono (by decide)) (by rfl) m_check_place k_check_place b_check_place .nil pass0 (pa_cons (pv 0) (pa_cons (pv 1) pa_nil))))
  (pss_cons (ps_expr (pe_call G_check_many (hr.mono (by decide)) (by rfl) m_check_many k_check_many b_check_many .nil pass0 (pa_cons (pv 2) pa_nil)))
  (pss_one (ps_ret (pe_call G_inside (hr.mono (by decide)) (by rfl) m_inside k_inside b_inside .nil pass0 (pa_cons (pv 0) (pa_cons (pv 1) (pa_cons (pv 2) pa_nil))))))))), ?_⟩
    have hl : r.length ≤ 40000 := Nat.le_trans g.len (by decide)
    have hst := g.sizeTop
    refine q_drop (ev_call (ea_cons (ev_var rfl) ea_nil) (sv_check_ring hR g.ne g.pos)) fun H1 e1 => ?_
    refine q_drop (ev_call (ea_cons (ev_var rfl) (ea_cons (ev_var rfl) ea_nil)) (sv_check_place (hR.mono e1) hl h0 h1)) fun H2 e2 => ?_
    refine q_drop (ev_call (ea_cons (ev_var rfl) ea_nil) (sv_check_many h2)) fun H3 e3 => ?_
    have hR3 := hR.mono ((e1.trans e2).trans e3)
    exact s_ret (v := .int (amongF r p m)) (ev_call (ea_cons (ev_var rfl) (ea_cons (ev_var rfl) (ea_cons (ev_var rfl) ea_nil))) (sv_inside hR3 g h0 h1 h2 h3)) fun H4 e4 => q H4 (((e1.trans e2).trans e3).trans e4)
def spBeads (K : PySem.W.Frag) : Sp := fun vs H Q _ => ∃ (a : Addr) (r : Ring), vs = [.ref a] ∧ RingAt K H a r ∧ Good r ∧ RetP (IsT K [.int (cntA r), .int (sizeR r - cntA r)]) H Q
theorem sv_beads {H : Hp} {a : Addr} {r : Ring} (h : RingAt K H a r) (g : Good r) : SpP (spBeads K) ([.ref a] ++ []) H (IsT K [.int (cntA r), .int (sizeR r - cntA r)]) := fun H1 e Q q E => ⟨a, r, rfl, h.mono e, g, q⟩
abbrev s_beads : Stmt := topS 8
theorem sc_beads : FnScope ["ring"] ["ring"] (defScope s_beads) := ⟨rfl, rfl, rfl, by decide +kernel, rfl, by decide +kernel, by decide +kernel⟩
theorem ok_beads {f : Addr} {fd : FuncData} (F : Fun K "beads" "beads" s_beads f fd) (T : Txt K mg tKIND_A tKIND_B) {f_check_ring : Addr} {fd_check_ring : FuncData} (G_check_ring : FnOk P w K mg base CX0 3 f_check_ring fd_check_ring ["ring"] (spCheckRing K)) (m_check_ring : mg "check_ring" = some (.ref f_check_ring)) (k_check_ring : PySem.W.keepIn K (.ref f_check_ring) = true) (b_check_ring : Binds K fd_check_ring ["ring"] []) {f_many_of : Addr} {fd_many_of : FuncData} (G_many_of : FnOk P w K mg base CX0 1 f_many_of fd_many_of ["ring", "letter"] (spMany K)) (m_many_of : mg "many_of" = some (.ref f_many_of)) (k_many_of : PySem.W.keepIn K (.ref f_many_of) = true) (b_many_of : Binds K fd_many_of ["ring", "letter"] []) : FnOk P w K mg base CX0 4 f fd ["ring"] (spBeads K) := by
  have nd := sc_beads.nd
  refine F.ok sc_beads (fun vs H Q E h => ?_) (fun cdv A outer s H vs Q E hr h => ?_)
  · obtain ⟨a, r, rfl, _⟩ := h
    rfl
  · obtain ⟨a, r, rfl, hR, g, q⟩ := h
    refine ⟨_, (pss_cons (ps_expr (pe_call G_check_ring (hr.mono (by decide)) (by rfl) m_check_ring k_check_ring b_check_ring .nil pass0 (pa_cons (pv 0) pa_nil)))
  (pss_one (ps_ret (pe_tup (pa_cons (pe_call G_many_of (hr.mono (by decide)) (by rfl) m_many_of k_many_of b_many_of .nil pass0 (pa_cons (pv 0) (pa_cons (pe_glob (v := .str "a") (by rfl) T.m_KIND_A ⟨_, rfl⟩) pa_nil))) (pa_cons (pe_call G_many_of (hr.mono (by decide)) (by rfl) m_many_of k_many_of b_many_of .nil pass0 (pa_cons (pv 0) (pa_cons (pe_glob (v := .str "b") (by rfl) T.m_KIND_B ⟨_, rfl⟩) pa_nil))) pa_nil)))))), ?_⟩
    have hl : r.length ≤ 40000 := Nat.le_trans g.len (by decide)
    have eB : sizeR r - cntA r = cntB r := by
      have := cnt_all r
      omega
    rw [eB] at q
    refine q_drop (ev_call (ea_cons (ev_var rfl) ea_nil) (sv_check_ring hR g.ne g.pos)) fun H1 e1 => ?_
    refine s_retP (P := IsT K [.int (cntA r), .int (cntB r)]) (ep_U (eu_tup (ea_cons (ev_call (ea_cons (ev_var rfl) (ea_cons ev_c ea_nil)) (sv_manyA (hR.mono e1) hl)) (ea_cons (ev_call (ea_cons (ev_var rfl) (ea_cons ev_c ea_nil)) (sv_manyB (hR.mono e1) hl)) ea_nil)) (by show (2 : Nat) ≤ 100000; decide))) fun v H2 e2 hP => q v H2 (e1.trans e2) hP
def spKind (K : PySem.W.Frag) : Sp := fun vs H Q _ => ∃ (a : Addr) (r : Ring) (p : Int), vs = [.ref a, .int p] ∧ RingAt K H a r ∧ Good r ∧ 0 ≤ p ∧ p < sizeR r ∧ RetV (.str (kl (kindR r p))) H Q
theorem sv_kind {H : Hp} {a : Addr} {r : Ring} {p : Int} (h : RingAt K H a r) (g : Good r) (h0 : 0 ≤ p) (h1 : p < sizeR r) : SpV (spKind K) ([.ref a, .int p] ++ []) H (.str (kl (kindR r p))) := fun H1 e Q q E => ⟨a, r, p, rfl, h.mono e, g, h0, h1, q⟩
abbrev s_kind_at : Stmt := topS 9
theorem sc_kind_at : FnScope ["ring", "place", "at", "left"] ["ring", "place"] (defScope s_kind_at) := ⟨rfl, rfl, rfl, by decide +kernel, rfl, by decide +kernel, by decide +kernel⟩
theorem ok_kind_at {f : Addr} {fd : FuncData} (F : Fun K "kind_at" "kind_at" s_kind_at f fd) (T : Txt K mg tKIND_A tKIND_B) {f_check_place : Addr} {fd_check_place : FuncData} (G_check_place : FnOk P w K mg base CX0 3 f_check_place fd_check_place ["ring", "place"] (spCheckPlace K)) (m_check_place : mg "check_place" = some (.ref f_check_place)) (k_check_place : PySem.W.keepIn K (.ref f_check_place) = true) (b_check_place : Binds K fd_check_place ["ring", "place"] []) {f_check_ring : Addr} {fd_check_ring : FuncData} (G_check_ring : FnOk P w K mg base CX0 3 f_check_ring fd_check_ring ["ring"] (spCheckRing K)) (m_check_ring : mg "check_ring" = some (.ref f_check_ring)) (k_check_ring : PySem.W.keepIn K (.ref f_check_ring) = true) (b_check_ring : Binds K fd_check_ring ["ring"] []) : FnOk P w K mg base CX0 4 f fd ["ring", "place"] (spKind K) := by
  have nd := sc_kind_at.nd
  refine F.ok sc_kind_at (fun vs H Q E h => ?_) (fun cdv A outer s H vs Q E hr h => ?_)
  · obtain ⟨a, r, p, rfl, _⟩ := h
    rfl
  · obtain ⟨a, r, p, rfl, hR, g, h0, h1, q⟩ := h
    refine ⟨_, (pss_cons (ps_expr (pe_call G_check_ring (hr.mono (by decide)) (by rfl) m_check_ring k_check_ring b_check_ring .nil pass0 (pa_cons (pv 0) pa_nil)))
  (pss_cons (ps_expr (pe_call G_check_place (hr.mono (by decide)) (by rfl) m_check_place k_check_place b_check_place .nil pass0 (pa_cons (pv 0) (pa_cons (pv 1) pa_nil))))
  (pss_cons (ps_set (i := 2) nd rfl (Or.inl rfl) pe_int)
  (pss_cons (ps_set (i := 3) nd rfl (Or.inl rfl) (pv 1))
  (pss_cons (ps_while PassesOwn.never (pt_cmpR op_ge (pv 3) (pe_ix ix_tup (pe_ix ix_list (pv 0) (pv 2) (fun _ _ => rfl)) pe_int (fun _ _ => rfl)) (nomark _)) (pss_cons (ps_aug (i := 3) nd rfl (.inl rfl) (pe_ix ix_tup (pe_ix ix_list (pv 0) (pv 2) (fun _ _ => rfl)) pe_int (fun _ _ => rfl)) ip_sub)
  (pss_one (ps_aug (i := 2) nd rfl (.inl rfl) pe_int ip_add))))
  (pss_one (ps_ret (pe_ifExp (pt_cmpR op_eq (pe_ix ix_tup (pe_ix ix_list (pv 0) (pv 2) (fun _ _ => rfl)) pe_int (fun _ _ => rfl)) (pe_glob (v := .str "a") (by rfl) T.m_KIND_A ⟨_, rfl⟩) (nomark _)) (pe_glob (v := .str "a") (by rfl) T.m_KIND_A ⟨_, rfl⟩) (pe_glob (v := .str "b") (by rfl) T.m_KIND_B ⟨_, rfl⟩))))))))), ?_⟩
    have hl : r.length ≤ 40000 := Nat.le_trans g.len (by decide)
    refine q_drop (ev_call (ea_cons (ev_var rfl) ea_nil) (sv_check_ring hR g.ne g.pos)) fun H1 e1 => ?_
    refine q_drop (ev_call (ea_cons (ev_var rfl) (ea_cons (ev_var rfl) ea_nil)) (sv_check_place (hR.mono e1) hl h0 h1)) fun H2 e2 => ?_
    refine q_asg (v := .int 0) ev_c fun H3 e3 => ?_
    refine q_asg (v := .int p) (ev_var rfl) fun H4 e4 => ?_
    have e14 := ((e1.trans e2).trans e3).trans e4
    refine q_while (fun n σ' H' => ∃ (i : Nat) (le : Int), n = r.length - i ∧ σ' = [some (.ref a), some (.int p), some (.int (i : Int)), some (.int le)] ∧ Ex H H' ∧ 0 ≤ le ∧ le < sizeR (r.drop i) ∧ kindR (r.drop i) le = kindR r p)
      r.length ⟨0, p, rfl, rfl, e14, h0, h1, rfl⟩ (fun n σ' H' hw => ?_)
    obtain ⟨i, le, rfl, rfl, eH, l0, l1, hk⟩ := hw
    have hi : i < r.length := by
      apply Nat.lt_of_not_le
      intro hge
      rw [List.drop_eq_nil_of_le hge] at l1
      have l1' : le < 0 := l1
      omega
    have hx := List.getElem?_eq_getElem hi
    generalize r[i] = x at hx
    have hRH := hR.mono eH
    rw [drop_at hx] at l1 hk
    have l1' : le < x.2 + sizeR (r.drop (i + 1)) := l1
    have hk' : (if le < x.2 then x.1 else kindR (r.drop (i + 1)) (le - x.2)) = kindR r p := hk
    refine ⟨decide (x.2 ≤ le), et_test (ev_op (ev_var rfl) (ev_item1 (ev_var rfl) (ev_var rfl) hRH hx) rv_I0), fun hb H5 e5 => ?_, fun hb H5 e5 => ?_⟩
    · have hb' : x.2 ≤ le := of_decide_eq_true hb
      rw [if_neg (by omega)] at hk'
      refine ⟨_, fun σ2 H2' hN => hN, ?_⟩
      refine s_aug (f := fun i j => i - j) (a := le) (b := x.2) rfl (ev_item1 (ev_var rfl) (ev_var rfl) (hRH.mono e5) hx) fun H6 e6 => ?_
      refine s_aug (f := fun i j => i + j) (a := (i : Int)) (b := 1) rfl ev_c fun H7 e7 => ?_
      exact ⟨r.length - (i + 1), by omega, i + 1, le - x.2, rfl, rfl, ((eH.trans e5).trans e6).trans e7, by omega, by omega, hk'⟩
    · have hb' : ¬ x.2 ≤ le := of_decide_eq_false hb
      rw [if_pos (by omega)] at hk'
      refine s_ret (v := .str (kl (kindR r p))) ?_ fun H6 e6 => q H6 ((eH.trans e5).trans e6)
      rw [← hk']
      refine ev_if (b := x.1) (et_is (et_test (ev_op (ev_item0 (ev_var rfl) (ev_var rfl) (hRH.mono e5) hx) ev_c (rv_eq rfl))) (kl_a x.1)) (fun hx1 => ?_) (fun hx1 => ?_)
      · rw [hx1]
        exact ev_c
      · rw [hx1]
        exact ev_c
end
section
variable {P : Program} {w : World} {K : PySem.W.Frag} {mg : Str → Option Value} {base : Heap} {tKIND_A tKIND_B : Tok}
abbrev s_l_whole : Stmt := topS 28
theorem sc_l_whole : FnScope ["_law_number_here"] ["_law_number_here"] (defScope s_l_whole) := ⟨rfl, rfl, rfl, by decide +kernel, rfl, by decide +kernel, by decide +kernel⟩
theorem ok_l_whole {f : Addr} {fd : FuncData} (F : Fun K "_law_whole" "_law_whole" s_l_whole f fd) (T : Txt K mg tKIND_A tKIND_B)  : FnOk P w K mg base CX0 1 f fd ["_law_number_here"] spWhole := by
  have nd := sc_l_whole.nd
  refine F.ok sc_l_whole (fun vs H Q E h => ?_) (fun cdv A outer s H vs Q E hr h => ?_)
  · obtain ⟨n, rfl, _⟩ := h
    rfl
  · obtain ⟨n, rfl, q⟩ := h
    refine ⟨_, (pss_one (ps_ret (pe_and (pe_callB call_isi (by rfl) T.z_isinstance (by decide +kernel) (pa_cons (pv 0) (pa_cons (pe_bltn (v := .ty "int") (by rfl) T.z_int (by decide +kernel) rfl) pa_nil))) (pe_one (pe_not (pe_callB call_isi (by rfl) T.z_isinstance (by decide +kernel) (pa_cons (pv 0) (pa_cons (pe_bltn (v := .ty "bool") (by rfl) T.z_bool (by decide +kernel) rfl) pa_nil)))))))), ?_⟩
    refine s_ret (v := .bl true) ?_ q
    refine ev_is (v := .bl (true && !false)) (ev_andV ?_ fun _ => ?_) rfl
    · walk_at "ev"
    · walk_at "ev"
abbrev s_l_size : Stmt := topS 29
theorem sc_l_size : FnScope ["_law_ring_here", "_law_kind", "_law_many"] ["_law_ring_here"] (defScope s_l_size) := ⟨rfl, rfl, rfl, by decide +kernel, rfl, by decide +kernel, by decide +kernel⟩
theorem ok_l_size {f : Addr} {fd : FuncData} (F : Fun K "_law_size" "_law_size" s_l_size f fd) (T : Txt K mg tKIND_A tKIND_B)  : FnOk P w K mg base CX0 1 f fd ["_law_ring_here"] (spSize K) := by
  have nd := sc_l_size.nd
  refine F.ok sc_l_size (fun vs H Q E h => ?_) (fun cdv A outer s H vs Q E hr h => ?_)
  · obtain ⟨a, r, rfl, _⟩ := h
    rfl
  · obtain ⟨a, r, rfl, hR, hl, q⟩ := h
    refine ⟨_, (pss_one (ps_ret (pe_callB (cr_sum rfl) (by rfl) T.z_sum (by decide +kernel) (pa_cons (pe_lc (g := (gTup K 2 (gCons (gName 1) (gCons (gName 2) gNil)))) (own := [("_law_kind", 1), ("_law_many", 2)]) (by rfl) nd (pi_list (pv 0)) (blkOk_by (own := [("_law_kind", 1), ("_law_many", 2)]) (N := ["_law_ring_here", "_law_kind", "_law_many"]) (sc := defScope s_l_size) (by decide +kernel)) (fun _ _ _ _ _ => (pg_tup rfl (pgs_cons (pg_name (i := 1) nd rfl (Or.inl rfl) (.inr rfl)) (pgs_cons (pg_name (i := 2) nd rfl (Or.inl rfl) (.inr rfl)) pgs_nil)))) (fun _ _ _ _ _ => pts_nil) (fun _ _ _ _ _ => (pv 2))) pa_nil)))), ?_⟩
    refine s_ret (v := .int (sizeR r)) ?_ q
    rw [← size_sum]
    refine ev_sum (el_lcRing (fun _ => true) (fun x => .int x.2) (ev_var rfl) hR hl (fun _ _ => rfl) (fun x H1 _ _ H2 _ Q q => q H2 (Ex.refl H2)) (fun x H1 _ _ _ => ev_var rfl)) ?_
    rw [List.filter_eq_self.mpr (fun _ _ => rfl), List.map_map]
    rfl
def cellF (ns : List Int) (k : Nat) : Int := ns.getD k 0
def spCell (K : PySem.W.Frag) : Sp := fun vs H Q _ => ∃ (a : Addr) (ns : List Int) (k : Nat), vs = [.ref a, .int (k : Int)] ∧ SqL K H a (ns.map V.int) ∧ RetV (.int (cellF ns k)) H Q
theorem sv_cell {H : Hp} {a : Addr} {ns : List Int} (k : Nat) (h : SqL K H a (ns.map V.int)) : SpV (spCell K) ([.ref a, .int (k : Int)] ++ []) H (.int (cellF ns k)) := fun H1 e Q q E => ⟨a, ns, k, rfl, ex_l e h, q⟩
abbrev s_l_cell_at : Stmt := topS 23
theorem sc_l_cell_at : FnScope ["_law_script", "_law_k"] ["_law_script", "_law_k"] (defScope s_l_cell_at) := ⟨rfl, rfl, rfl, by decide +kernel, rfl, by decide +kernel, by decide +kernel⟩
theorem ok_l_cell_at {f : Addr} {fd : FuncData} (F : Fun K "_law_cell_at" "_law_cell_at" s_l_cell_at f fd) (T : Txt K mg tKIND_A tKIND_B)  : FnOk P w K mg base CX0 1 f fd ["_law_script", "_law_k"] (spCell K) := by
  have nd := sc_l_cell_at.nd
  refine F.ok sc_l_cell_at (fun vs H Q E h => ?_) (fun cdv A outer s H vs Q E hr h => ?_)
  · obtain ⟨a, ns, k, rfl, _⟩ := h
    rfl
  · obtain ⟨a, ns, k, rfl, hS, q⟩ := h
    refine ⟨_, (pss_cons (ps_if (pt_cmpR op_lt (pv 1) (pe_callB c_len (by rfl) T.z_len (by decide +kernel) (pa_cons (pv 0) pa_nil)) (nomark _)) (pss_one (ps_ret (pe_ix ix_list (pv 0) (pv 1) (fun _ _ => rfl)))) pss_nil)
  (pss_one (ps_ret pe_int))), ?_⟩
    have e0 : ((ns.map V.int).length : Int) = (ns.length : Int) := by rw [List.length_map]
    refine q_when (b := decide ((k : Int) < ((ns.map V.int).length : Int))) (et_test (ev_op (ev_var rfl) (ev_len (ev_var rfl) hS) rv_I0)) (fun hb H1 e1 => ?_) fun hb H1 e1 => ?_
    · have hk : k < ns.length := by
        have := of_decide_eq_true hb
        omega
      refine s_ret (v := .int (cellF ns k)) (ev_op (ev_var rfl) (ev_var rfl) (rv_ixL (ex_l e1 hS) (atI_nat ?_))) fun H2 e2 => q H2 (e1.trans e2)
      unfold cellF
      rw [List.getElem?_map, List.getD_eq_getElem?_getD, List.getElem?_eq_getElem hk]
      rfl
    · have hk : ¬ k < ns.length := by
        have := of_decide_eq_false hb
        omega
      have hc : cellF ns k = 0 := by
        unfold cellF
        rw [List.getD_eq_getElem?_getD, List.getElem?_eq_none (by omega)]
        rfl
      rw [hc] at q
      exact s_ret (v := .int 0) ev_c fun H2 e2 => q H2 (e1.trans e2)
def primesL : List Int := [1000003, 1000033, 1000037, 1000039, 1000081, 1000099, 1000117, 1000121, 1000133, 1000151, 1000159, 1000171, 1000183, 1000187, 1000193, 1000199]
def primeF (k : Int) : Int := primesL.getD (k % 16).toNat 0
theorem prime_pos (k : Int) : 0 < primeF k := by
  have h : ∀ p ∈ primesL, 0 < p := by decide
  exact h _ (getD_mem (Int.emod_nonneg _ (by decide)) (by
    show k % 16 < 16
    omega))
theorem prime_at (k : Int) : atI (primesL.map V.int) (k % 16) = some (.int (primeF k)) := atI_getD primesL (Int.emod_nonneg _ (by decide)) (by
    show k % 16 < 16
    omega)
def drawF (c k m : Int) : Int := (c * 48271 + k * 69621) % primeF k % m
theorem draw_nonneg (c k : Int) {m : Int} (h : 0 < m) : 0 ≤ drawF c k m := Int.emod_nonneg _ (by omega)
theorem draw_lt (c k : Int) {m : Int} (h : 0 < m) : drawF c k m < m := Int.emod_lt_of_pos _ h
def spDraw : Sp := fun vs H Q _ => ∃ c k m : Int, vs = [.int c, .int k, .int m] ∧ Bt 10000000 c ∧ Bt 1000 k ∧ 0 < m ∧ RetV (.int (drawF c k m)) H Q
theorem sv_draw {H : Hp} {c k m : Int} (hc : Bt 10000000 c) (hk : Bt 1000 k) (hm : 0 < m) : SpV spDraw ([.int c, .int k, .int m] ++ []) H (.int (drawF c k m)) := fun H1 e Q q E => ⟨c, k, m, rfl, hc, hk, hm, q⟩
theorem b48271 : Bt 16 48271 := by unfold Bt; decide
theorem b69621 : Bt 17 69621 := by unfold Bt; decide
abbrev s_l_draw : Stmt := topS 24
theorem sc_l_draw : FnScope ["_law_cell", "_law_k", "_law_many", "_law_primes"] ["_law_cell", "_law_k", "_law_many"] (defScope s_l_draw) := ⟨rfl, rfl, rfl, by decide +kernel, rfl, by decide +kernel, by decide +kernel⟩
theorem ok_l_draw {f : Addr} {fd : FuncData} (F : Fun K "_law_draw" "_law_draw" s_l_draw f fd) (T : Txt K mg tKIND_A tKIND_B)  : FnOk P w K mg base CX0 1 f fd ["_law_cell", "_law_k", "_law_many"] spDraw := by
  have nd := sc_l_draw.nd
  refine F.ok sc_l_draw (fun vs H Q E h => ?_) (fun cdv A outer s H vs Q E hr h => ?_)
  · obtain ⟨c, k, m, rfl, _⟩ := h
    rfl
  · obtain ⟨c, k, m, rfl, hc, hk, hm, q⟩ := h
    refine ⟨_, (pss_cons (ps_set (i := 3) nd rfl (Or.inl rfl) (pe_tup (pa_cons pe_int (pa_cons pe_int (pa_cons pe_int (pa_cons pe_int (pa_cons pe_int (pa_cons pe_int (pa_cons pe_int (pa_cons pe_int (pa_cons pe_int (pa_cons pe_int (pa_cons pe_int (pa_cons pe_int (pa_cons pe_int (pa_cons pe_int (pa_cons pe_int (pa_cons pe_int pa_nil))))))))))))))))))
  (pss_one (ps_ret (pe_op op_mod (pe_op op_mod (pe_op op_add (pe_op op_mulX (pv 0) pe_int) (pe_op op_mulX (pv 1) pe_int)) (pe_ix ix_tup (pv 3) (pe_op op_mod (pv 1) pe_int) (fun _ _ => rfl))) (pv 2))))), ?_⟩
    refine q_asgU (xs := primesL.map V.int) ?_ fun p H1 hp e1 h1 => ?_
    · refine eu_tup ?_ (by decide)
      walk_at "ev"
    · refine s_ret (v := .int (drawF c k m)) ?_ fun H2 e2 => q H2 (e1.trans e2)
      refine ev_op (ev_op (ev_op (ev_op (ev_var rfl) ev_c (rv_I (hc.mulx b48271 (by decide)))) (ev_op (ev_var rfl) ev_c (rv_I (hk.mulx b69621 (by decide)))) rv_I0) (ev_op (ev_var rfl) (ev_op (ev_var rfl) ev_c (rv_I (by decide))) (rv_ixT (st_of h1) (prime_at k))) (rv_I (prime_pos k))) (ev_var rfl) (rv_I hm)
/-- ten to the eighteenth, to the fortieth, as the machine reckons them -/
def t18 : Int := 10 ^ (18 : Int).toNat
def t40 : Int := 10 ^ (40 : Int).toNat
theorem t40_eq : t40 = 10000000000000000000000000000000000000000 := by decide
theorem t18_eq : t18 = 1000000000000000000 := by decide
def numF (c k lim : Int) : Int := if t18 ≤ c then (c - t18) % t40 else drawF ((c + 977 * k) * (c + 31 * k + 5)) (k % 9 + 1) lim
theorem num_nonneg (c k : Int) {lim : Int} (h : 0 < lim) : 0 ≤ numF c k lim := by
  unfold numF
  split
  · exact Int.emod_nonneg _ (by rw [t40_eq]; decide)
  · exact draw_nonneg _ _ h
theorem num_lt (c k : Int) {lim : Int} (h : 0 < lim) (hl : lim ≤ t40) : numF c k lim < t40 := by
  unfold numF
  split
  · exact Int.emod_lt_of_pos _ (by rw [t40_eq]; decide)
  · have := draw_lt ((c + 977 * k) * (c + 31 * k + 5)) (k % 9 + 1) h
    omega
def spNumber : Sp := fun vs H Q _ => ∃ c k m : Int, vs = [.int c, .int k, .int m] ∧ Bt 1048576 c ∧ 0 ≤ k ∧ k < 2 ^ 20 ∧ 0 < m ∧ RetV (.int (numF c k m)) H Q
theorem sv_number {H : Hp} {c k m : Int} (hc : Bt 1048576 c) (h0 : 0 ≤ k) (h1 : k < 2 ^ 20) (hm : 0 < m) : SpV spNumber ([.int c, .int k, .int m] ++ []) H (.int (numF c k m)) := fun H1 e Q q E => ⟨c, k, m, rfl, hc, h0, h1, hm, q⟩
abbrev s_l_number : Stmt := topS 25
theorem sc_l_number : FnScope ["_law_cell", "_law_k", "_law_limit"] ["_law_cell", "_law_k", "_law_limit"] (defScope s_l_number) := ⟨rfl, rfl, rfl, by decide +kernel, rfl, by decide +kernel, by decide +kernel⟩
theorem ok_l_number {f : Addr} {fd : FuncData} (F : Fun K "_law_number" "_law_number" s_l_number f fd) (T : Txt K mg tKIND_A tKIND_B) {f_l_draw : Addr} {fd_l_draw : FuncData} (G_l_draw : FnOk P w K mg base CX0 1 f_l_draw fd_l_draw ["_law_cell", "_law_k", "_law_many"] spDraw) (m_l_draw : mg "_law_draw" = some (.ref f_l_draw)) (k_l_draw : PySem.W.keepIn K (.ref f_l_draw) = true) (b_l_draw : Binds K fd_l_draw ["_law_cell", "_law_k", "_law_many"] []) : FnOk P w K mg base CX0 2 f fd ["_law_cell", "_law_k", "_law_limit"] spNumber := by
  have nd := sc_l_number.nd
  refine F.ok sc_l_number (fun vs H Q E h => ?_) (fun cdv A outer s H vs Q E hr h => ?_)
  · obtain ⟨c, k, m, rfl, _⟩ := h
    rfl
  · obtain ⟨c, k, m, rfl, hc, h0, h1, hm, q⟩ := h
    refine ⟨_, (pss_cons (ps_if (pt_cmpR op_ge (pv 0) (pe_op op_pow pe_int pe_int) (nomark _)) (pss_one (ps_ret (pe_op op_mod (pe_op op_sub (pv 0) (pe_op op_pow pe_int pe_int)) (pe_op op_pow pe_int pe_int)))) pss_nil)
  (pss_one (ps_ret (pe_call G_l_draw (hr.mono (by decide)) (by rfl) m_l_draw k_l_draw b_l_draw .nil pass0 (pa_cons (pe_op op_mulX (pe_op op_add (pv 0) (pe_op op_mulX pe_int (pv 1))) (pe_op op_add (pe_op op_add (pv 0) (pe_op op_mulX pe_int (pv 1))) pe_int)) (pa_cons (pe_op op_add (pe_op op_mod (pv 1) pe_int) pe_int) (pa_cons (pv 2) pa_nil))))))), ?_⟩
    have cp18 : CPow 10 18 := by unfold CPow; decide
    have cp40 : CPow 10 40 := by unfold CPow; decide
    have e18 : ∀ {σ : Sg} {H : Hp}, Ev (tOp (rI CPow fun i j => .int (i ^ j.toNat)) (tC (.int 10)) (tC (.int 18))) σ H (.int t18) := fun {σ H} => ev_op ev_c ev_c (rv_I cp18)
    have e40 : ∀ {σ : Sg} {H : Hp}, Ev (tOp (rI CPow fun i j => .int (i ^ j.toNat)) (tC (.int 10)) (tC (.int 40))) σ H (.int t40) := fun {σ H} => ev_op ev_c ev_c (rv_I cp40)
    have hk : Bt 20 k := Bt.small 20 h0 h1 (by decide)
    have b977 : Bt 20 977 := by unfold Bt; decide
    have b31 : Bt 20 31 := by unfold Bt; decide
    have b5 : Bt 20 5 := by unfold Bt; decide
    have x1 : Bt 1048577 (c + 977 * k) := Bt.add hc ((b977.mul hk).mono (by decide))
    have x2 : Bt 1048578 (c + 31 * k + 5) := Bt.add (Bt.add hc ((b31.mul hk).mono (by decide))) (b5.mono (by decide))
    refine q_when (b := decide (t18 ≤ c)) (et_test (ev_op (ev_var rfl) e18 rv_I0)) (fun hb H1 e1 => ?_) fun hb H1 e1 => ?_
    · have hb' := of_decide_eq_true hb
      refine s_ret (v := .int ((c - t18) % t40)) (ev_op (ev_op (ev_var rfl) e18 rv_I0) e40 (rv_I (by rw [t40_eq]; decide))) fun H2 e2 => ?_
      have := q H2 (e1.trans e2)
      unfold numF at this
      rw [if_pos hb'] at this
      exact this
    · have hb' := of_decide_eq_false hb
      refine s_ret (v := .int (drawF ((c + 977 * k) * (c + 31 * k + 5)) (k % 9 + 1) m)) (ev_call (ea_cons (ev_op (ev_op (ev_var rfl) (ev_op ev_c (ev_var rfl) (rv_I (b977.mulx hk (by decide)))) rv_I0) (ev_op (ev_op (ev_var rfl) (ev_op ev_c (ev_var rfl) (rv_I (b31.mulx hk (by decide)))) rv_I0) ev_c rv_I0) (rv_I (x1.mulx x2 (by decide))))
        (ea_cons (ev_op (ev_op (ev_var rfl) ev_c (rv_I (by decide))) ev_c rv_I0) (ea_cons (ev_var rfl) ea_nil))) (sv_draw ((x1.mul x2).mono (by decide)) (Bt.small 20 (by omega) (by omega) (by decide)) hm)) fun H2 e2 => ?_
      have := q H2 (e1.trans e2)
      unfold numF at this
      rw [if_neg hb'] at this
      exact this
end
section
variable {P : Program} {w : World} {K : PySem.W.Frag} {mg : Str → Option Value} {base : Heap} {tKIND_A tKIND_B : Tok}
def spTable (K : PySem.W.Frag) : Sp := fun vs H Q _ => ∃ (a : Addr) (r : Ring), vs = [.ref a] ∧ RingAt K H a r ∧ r.length ≤ 40000 ∧ RetP (IsTab K r) H Q
theorem sv_table {H : Hp} {a : Addr} {r : Ring} (h : RingAt K H a r) (hl : r.length ≤ 40000) : SpP (spTable K) ([.ref a] ++ []) H (IsTab K r) := fun H1 e Q q E => ⟨a, r, rfl, h.mono e, hl, q⟩
abbrev s_l_table : Stmt := topS 30
theorem sc_l_table : FnScope ["_law_ring_here", "_law_ends", "_law_sums", "_law_kind", "_law_many"] ["_law_ring_here"] (defScope s_l_table) := ⟨rfl, rfl, rfl, by decide +kernel, rfl, by decide +kernel, by decide +kernel⟩
theorem ok_l_table {f : Addr} {fd : FuncData} (F : Fun K "_law_table" "_law_table" s_l_table f fd) (T : Txt K mg tKIND_A tKIND_B)  : FnOk P w K mg base CX0 1 f fd ["_law_ring_here"] (spTable K) := by
  have nd := sc_l_table.nd
  refine F.ok sc_l_table (fun vs H Q E h => ?_) (fun cdv A outer s H vs Q E hr h => ?_)
  · obtain ⟨a, r, rfl, _⟩ := h
    rfl
  · obtain ⟨a, r, rfl, hR, hl, q⟩ := h
    refine ⟨_, (pss_cons (ps_par (i := 1) (j := 2) (by rfl) nd rfl rfl (by decide) rfl rfl (pa_cons (pe_lst (pa_cons pe_int pa_nil)) (pa_cons (pe_lst (pa_cons pe_int pa_nil)) pa_nil)) (by rfl))
  (pss_cons (ps_for PassesOwn.never rfl (pi_list (pv 0)) (pg_tup rfl (pgs_cons (pg_name (i := 3) nd rfl (Or.inl rfl)) (pgs_cons (pg_name (i := 4) nd rfl (Or.inl rfl)) pgs_nil)))
  (pss_cons (ps_expr (pe_bm PySem.F.plainAttrs_list PySem.F.slot_list_append PySem.F.type_list_append mt_append (pv 1) (pa_cons (pe_op op_add (pe_ix ix_list (pv 1) (pe_un un_neg pe_int) (fun _ _ => rfl)) (pv 4)) pa_nil)))
  (pss_one (ps_expr (pe_bm PySem.F.plainAttrs_list PySem.F.slot_list_append PySem.F.type_list_append mt_append (pv 2) (pa_cons (pe_op op_add (pe_ix ix_list (pv 2) (pe_un un_neg pe_int) (fun _ _ => rfl)) (pe_ifExp (pt_cmpR op_eq (pv 3) pe_str (nomark _)) (pv 4) pe_int)) pa_nil))))))
  (pss_one (ps_ret (pe_tup (pa_cons (pv 1) (pa_cons (pv 2) pa_nil))))))), ?_⟩
    refine q_parLL (xs := endsTo r 0) (ys := sumsTo r 0) (el_lst (ea_cons ev_c ea_nil) (by rw [ends_len]; decide)) (fun H1 e1 => el_lst (ea_cons ev_c ea_nil) (by rw [sums_len]; decide)) fun p1 p2 H2 n1 n2 hne e2 h1 h2 => ?_
    refine q_forR' e2 (ev_var rfl) hR (fun i σ' H' => Ex H H' ∧ H' p1 = some (.lst (endsTo r i)) ∧ H' p2 = some (.lst (sumsTo r i)) ∧ ∃ y3 y4 : Option V, σ' = [some (.ref a), some (.ref p1), some (.ref p2), y3, y4])
      (fun H3 e3 => ⟨e2.trans e3, e3 _ _ h1, e3 _ _ h2, none, none, rfl⟩) (fun i σ' H' p => p.1) (fun i x σ' H' hx p => ?_) (fun σ' H' p => ?_)
    · obtain ⟨e3, k1, k2, y3, y4, rfl⟩ := p
      have hi : i < r.length := (List.getElem?_eq_some_iff.mp hx).1
      refine q_app (v := .int (sizeR (r.take i) + x.2)) k1 (ev_var rfl) (ev_op (ev_op (ev_var rfl) (ev_un ev_c ru_neg) (rv_ixL (sq_of k1) (ends_last r i))) (ev_var rfl) rv_I0) (by rw [ends_len]; omega) fun H4 e4 => ?_
      have k2' : upd H4 p1 (.lst (endsTo r i ++ [V.int (sizeR (r.take i) + x.2)])) p2 = some (.lst (sumsTo r i)) := by
        rw [upd_ne hne.symm]
        exact e4 _ _ k2
      refine s_app (v := .int (cntA (r.take i) + (if x.1 = true then x.2 else 0))) k2' (ev_var rfl) (ev_op (ev_op (ev_var rfl) (ev_un ev_c ru_neg) (rv_ixL (sq_of k2') (sums_last r i))) (ev_ifI (et_is (et_test (ev_op (ev_var rfl) ev_c (rv_eq rfl))) (kl_a x.1)) (fun _ => ev_var rfl) (fun _ => ev_c)) rv_I0) (by rw [sums_len]; omega) fun H5 e5 => ?_
      refine ⟨Ex.mut ((Ex.mut (e3.trans e4) n1).trans e5) n2, ?_, ?_, _, _, rfl⟩
      · rw [upd_ne hne, ends_succ, size_take_succ hx]
        exact e5 _ _ upd_same
      · rw [upd_same, sums_succ, cnt_take_succ hx]
    · obtain ⟨e3, k1, k2, y3, y4, rfl⟩ := p
      refine s_retP (P := IsTab K r) ?_ fun v H4 e4 hP => q v H4 (e3.trans e4) hP
      intro H4 e4 Q' q'
      refine (eu_tup (ea_cons (ev_var (v := .ref p1) rfl) (ea_cons (ev_var (v := .ref p2) rfl) ea_nil)) (by simp only [List.length_cons, List.length_nil]; decide)) H4 e4 _ fun p H5 hp e5 h5 => q' _ H5 e5 ⟨p, p1, p2, rfl, st_of h5, sq_of ((e4.trans e5) _ _ k1), sq_of ((e4.trans e5) _ _ k2)⟩
def spAhead (K : PySem.W.Frag) : Sp := fun vs H Q _ => ∃ (v : V) (r : Ring) (p : Int), vs = [v, .int p] ∧ IsTab K r v H ∧ Pos r ∧ r.length ≤ 40000 ∧ 0 ≤ p ∧ p < sizeR r ∧ RetV (.int (ahead r p)) H Q
theorem sv_ahead {H : Hp} {v : V} {r : Ring} {p : Int} (h : IsTab K r v H) (hp : Pos r) (hl : r.length ≤ 40000) (h0 : 0 ≤ p) (h1 : p < sizeR r) : SpV (spAhead K) ([v, .int p] ++ []) H (.int (ahead r p)) := fun H1 e Q q E => ⟨v, r, p, rfl, h.mono e, hp, hl, h0, h1, q⟩
abbrev s_l_ahead : Stmt := topS 31
theorem sc_l_ahead : FnScope ["_law_table_here", "_law_place", "_law_ends", "_law_sums", "_law_low", "_law_high", "_law_middle"] ["_law_table_here", "_law_place"] (defScope s_l_ahead) := ⟨rfl, rfl, rfl, by decide +kernel, rfl, by decide +kernel, by decide +kernel⟩
theorem ok_l_ahead {f : Addr} {fd : FuncData} (F : Fun K "_law_ahead" "_law_ahead" s_l_ahead f fd) (T : Txt K mg tKIND_A tKIND_B)  : FnOk P w K mg base CX0 1 f fd ["_law_table_here", "_law_place"] (spAhead K) := by
  have nd := sc_l_ahead.nd
  refine F.ok sc_l_ahead (fun vs H Q E h => ?_) (fun cdv A outer s H vs Q E hr h => ?_)
  · obtain ⟨v, r, p, rfl, _⟩ := h
    rfl
  · obtain ⟨v, r, p, rfl, hT, hp, hl, h0, h1, q⟩ := h
    refine ⟨_, (pss_cons (ps_asg (pv 0) (pg_tup rfl (pgs_cons (pg_name (i := 2) nd rfl (Or.inl rfl)) (pgs_cons (pg_name (i := 3) nd rfl (Or.inl rfl)) pgs_nil))))
  (pss_cons (ps_par (i := 4) (j := 5) (by rfl) nd rfl rfl (by decide) rfl rfl (pa_cons pe_int (pa_cons (pe_callB c_len (by rfl) T.z_len (by decide +kernel) (pa_cons (pv 2) pa_nil)) pa_nil)) (by rfl))
  (pss_cons (ps_while PassesOwn.never (pt_cmpR op_gt (pe_op op_sub (pv 5) (pv 4)) pe_int (nomark _)) (pss_cons (ps_set (i := 6) nd rfl (Or.inl rfl) (pe_op op_fdivW (pe_op op_add (pv 4) (pv 5)) pe_int))
  (pss_one (ps_if (pt_cmpR op_le (pe_ix ix_list (pv 2) (pv 6) (fun _ _ => rfl)) (pv 1) (nomark _)) (pss_one (ps_set (i := 4) nd rfl (Or.inl rfl) (pv 6))) (pss_one (ps_set (i := 5) nd rfl (Or.inl rfl) (pv 6)))))))
  (pss_cons (ps_if (PW.pt (pw_and (pt_cmpR op_lt (pv 5) (pe_callB c_len (by rfl) T.z_len (by decide +kernel) (pa_cons (pv 2) pa_nil)) (nomark _)) (pw_and1 (pt_cmpR op_gt (pe_ix ix_list (pv 3) (pv 5) (fun _ _ => rfl)) (pe_ix ix_list (pv 3) (pv 4) (fun _ _ => rfl)) (nomark _))))) (pss_one (ps_ret (pe_op op_sub (pe_op op_add (pe_ix ix_list (pv 3) (pv 4) (fun _ _ => rfl)) (pv 1)) (pe_ix ix_list (pv 2) (pv 4) (fun _ _ => rfl))))) pss_nil)
  (pss_one (ps_ret (pe_ix ix_list (pv 3) (pv 4) (fun _ _ => rfl)))))))), ?_⟩
    obtain ⟨t, a, b, rfl, ht, ha, hb⟩ := hT
    generalize hn : r.length = n at *
    refine q_unp (K := K) (x := .ref a) (y := .ref b) (ep_var rfl fun H2 e2 => ⟨t, rfl, ex_t e2 ht⟩) fun H1 e1 => ?_
    refine q_par (x := .int 0) (y := .int ((n + 1 : Nat) : Int)) (ea_cons ev_c (ea_cons (ev_is (ev_len (ev_var rfl) (ex_l e1 ha)) (by rw [ends_len])) ea_nil)) fun H2 e2 => ?_
    have cd2 : ∀ i, CDivW i 2 := fun i => ⟨by decide, by decide⟩
    refine q_while (fun m σ' H' => ∃ (lo hi : Nat) (y6 : Option V), m = hi - lo ∧ σ' = [some (.ref t), some (.int p), some (.ref a), some (.ref b), some (.int (lo : Int)), some (.int (hi : Int)), y6] ∧ Ex H H' ∧ lo < hi ∧ hi ≤ n + 1 ∧ sizeR (r.take lo) ≤ p ∧ (hi = n + 1 ∨ p < sizeR (r.take hi)))
      (n + 1) ⟨0, n + 1, none, rfl, rfl, e1.trans e2, by omega, Nat.le_refl _, h0, .inl rfl⟩ (fun m σ' H' hw => ?_)
    obtain ⟨lo, hi, y6, rfl, rfl, eH, l1, l2, l3, l4⟩ := hw
    refine ⟨decide (1 < (hi : Int) - (lo : Int)), et_test (ev_op (ev_op (ev_var rfl) (ev_var rfl) rv_I0) ev_c rv_I0), fun hb1 H3 e3 => ?_, fun hb1 H3 e3 => ?_⟩
    · have hb2 := of_decide_eq_true hb1
      refine ⟨_, fun σ2 H2' hN => hN, ?_⟩
      obtain ⟨mi, em⟩ : ∃ mi : Nat, ((lo : Int) + (hi : Int)) / 2 = (mi : Int) := ⟨(lo + hi) / 2, by omega⟩
      have m1 : lo < mi := by omega
      have m2 : mi < hi := by omega
      refine q_asg (v := .int (mi : Int)) (ev_is (ev_op (ev_op (ev_var rfl) (ev_var rfl) rv_I0) ev_c (rv_I (cd2 _))) (by rw [em])) fun H4 e4 => ?_
      refine s_if (b := decide (sizeR (r.take mi) ≤ p)) (et_test (ev_op (ev_op (ev_var rfl) (ev_var rfl) (rv_ixL (ex_l ((eH.trans e3).trans e4) ha) (ends_at r (by omega)))) (ev_var rfl) rv_I0)) (fun hc H5 e5 => ?_) (fun hc H5 e5 => ?_)
      · have hc2 := of_decide_eq_true hc
        refine s_asg (v := .int (mi : Int)) (ev_var rfl) fun H6 e6 => ?_
        exact ⟨hi - mi, by omega, mi, hi, _, rfl, rfl, (((eH.trans e3).trans e4).trans e5).trans e6, m2, l2, hc2, l4⟩
      · have hc2 := of_decide_eq_false hc
        refine s_asg (v := .int (mi : Int)) (ev_var rfl) fun H6 e6 => ?_
        exact ⟨mi - lo, by omega, lo, mi, _, rfl, rfl, (((eH.trans e3).trans e4).trans e5).trans e6, m1, by omega, l3, .inr (by omega)⟩
    · have hb2 := of_decide_eq_false hb1
      have ehi : hi = lo + 1 := by omega
      subst ehi
      have hlo : lo < n := by
        apply Nat.lt_of_not_le
        intro hge
        rw [List.take_of_length_le (by omega)] at l3
        omega
      have hp2 : p < sizeR (r.take (lo + 1)) := by
        rcases l4 with z | z
        · omega
        · exact z
      obtain ⟨x, hx⟩ : ∃ x, r[lo]? = some x := ⟨_, List.getElem?_eq_getElem (by omega)⟩
      have hA := ahead_at hp hx l3 hp2
      have hc := cnt_take_succ hx
      have hx1 := hp x (mem_at hx)
      have e03 := eH.trans e3
      have hs : ∀ H4, Ex H3 H4 → SqL K H4 b (sumsTo r n) := fun H4 e4 => ex_l (e03.trans e4) hb
      have he : ∀ H4, Ex H3 H4 → SqL K H4 a (endsTo r n) := fun H4 e4 => ex_l (e03.trans e4) ha
      refine q_when (b := x.1) ?_ (fun hk H4 e4 => ?_) (fun hk H4 e4 => ?_)
      · refine et_is (a := (decide (((lo + 1 : Nat) : Int) < ((n + 1 : Nat) : Int)) && decide (cntA (r.take lo) < cntA (r.take (lo + 1))))) (et_and ?_ fun _ => ?_) ?_
        · exact et_test (ev_op (ev_var rfl) (ev_is (ev_len (ev_var rfl) (he _ (Ex.refl _))) (by rw [ends_len])) rv_I0)
        · exact et_test (ev_op (ev_op (ev_var rfl) (ev_var rfl) (rv_ixL (hs _ (Ex.refl _)) (sums_at r (i := lo + 1) (by omega)))) (ev_op (ev_var rfl) (ev_var rfl) (rv_ixL (hs _ (Ex.refl _)) (sums_at r (by omega)))) rv_I0)
        · rw [decide_eq_true (show ((lo + 1 : Nat) : Int) < ((n + 1 : Nat) : Int) by omega), hc]
          cases x.1 with
          | true =>
            rw [if_pos rfl, decide_eq_true (by omega)]
            rfl
          | false =>
            rw [if_neg (by decide), decide_eq_false (by omega)]
            rfl
      · rw [if_pos hk] at hA
        refine s_ret (v := .int (cntA (r.take lo) + p - sizeR (r.take lo))) (ev_op (ev_op (ev_op (ev_var rfl) (ev_var rfl) (rv_ixL (hs _ e4) (sums_at r (by omega)))) (ev_var rfl) rv_I0) (ev_op (ev_var rfl) (ev_var rfl) (rv_ixL (he _ e4) (ends_at r (by omega)))) rv_I0) fun H5 e5 => ?_
        rw [show cntA (r.take lo) + p - sizeR (r.take lo) = ahead r p by omega]
        exact q H5 ((e03.trans e4).trans e5)
      · rw [hk, if_neg (by decide)] at hA
        refine s_ret (v := .int (cntA (r.take lo))) (ev_op (ev_var rfl) (ev_var rfl) (rv_ixL (hs _ e4) (sums_at r (by omega)))) fun H5 e5 => ?_
        rw [show cntA (r.take lo) = ahead r p by omega]
        exact q H5 ((e03.trans e4).trans e5)
def spAlong (K : PySem.W.Frag) : Sp := fun vs H Q _ => ∃ (v : V) (r : Ring) (p m : Int), vs = [v, .int p, .int m] ∧ IsTab K r v H ∧ Good r ∧ 0 ≤ p ∧ p < sizeR r ∧ 0 ≤ m ∧ m < 2 ^ 399 ∧ RetV (.int (amongF r p m)) H Q
theorem sv_along {H : Hp} {v : V} {r : Ring} {p m : Int} (h : IsTab K r v H) (g : Good r) (h0 : 0 ≤ p) (h1 : p < sizeR r) (h2 : 0 ≤ m) (h3 : m < 2 ^ 399) : SpV (spAlong K) ([v, .int p, .int m] ++ []) H (.int (amongF r p m)) := fun H1 e Q q E => ⟨v, r, p, m, rfl, h.mono e, g, h0, h1, h2, h3, q⟩
abbrev s_l_along : Stmt := topS 32
theorem sc_l_along : FnScope ["_law_table_here", "_law_place", "_law_many", "_law_size_here", "_law_rounds", "_law_end"] ["_law_table_here", "_law_place", "_law_many"] (defScope s_l_along) := ⟨rfl, rfl, rfl, by decide +kernel, rfl, by decide +kernel, by decide +kernel⟩
theorem ok_l_along {f : Addr} {fd : FuncData} (F : Fun K "_law_along" "_law_along" s_l_along f fd) (T : Txt K mg tKIND_A tKIND_B) {f_l_ahead : Addr} {fd_l_ahead : FuncData} (G_l_ahead : FnOk P w K mg base CX0 1 f_l_ahead fd_l_ahead ["_law_table_here", "_law_place"] (spAhead K)) (m_l_ahead : mg "_law_ahead" = some (.ref f_l_ahead)) (k_l_ahead : PySem.W.keepIn K (.ref f_l_ahead) = true) (b_l_ahead : Binds K fd_l_ahead ["_law_table_here", "_law_place"] []) : FnOk P w K mg base CX0 2 f fd ["_law_table_here", "_law_place", "_law_many"] (spAlong K) := by
  have nd := sc_l_along.nd
  refine F.ok sc_l_along (fun vs H Q E h => ?_) (fun cdv A outer s H vs Q E hr h => ?_)
  · obtain ⟨v, r, p, m, rfl, _⟩ := h
    rfl
  · obtain ⟨v, r, p, m, rfl, hT, g, h0, h1, h2, h3, q⟩ := h
    refine ⟨_, (pss_cons (ps_set (i := 3) nd rfl (Or.inl rfl) (pe_ix ix_list (pe_ix ix_tup (pv 0) pe_int (fun _ _ => rfl)) (pe_un un_neg pe_int) (fun _ _ => rfl)))
  (pss_cons (ps_par (i := 4) (j := 5) (by rfl) nd rfl rfl (by decide) rfl rfl (pa_cons (pe_op op_fdivW (pe_op op_add (pv 1) (pv 2)) (pv 3)) (pa_cons (pe_op op_mod (pe_op op_add (pv 1) (pv 2)) (pv 3)) pa_nil)) (by rfl))
  (pss_one (ps_ret (pe_op op_sub (pe_op op_add (pe_op op_mulX (pv 4) (pe_ix ix_list (pe_ix ix_tup (pv 0) pe_int (fun _ _ => rfl)) (pe_un un_neg pe_int) (fun _ _ => rfl))) (pe_call G_l_ahead (hr.mono (by decide)) (by rfl) m_l_ahead k_l_ahead b_l_ahead .nil pass0 (pa_cons (pv 0) (pa_cons (pv 5) pa_nil)))) (pe_call G_l_ahead (hr.mono (by decide)) (by rfl) m_l_ahead k_l_ahead b_l_ahead .nil pass0 (pa_cons (pv 0) (pa_cons (pv 1) pa_nil)))))))), ?_⟩
    have hTab := hT
    obtain ⟨t, a, b, rfl, ht, ha, hb⟩ := hT
    have hl : r.length ≤ 40000 := Nat.le_trans g.len (by decide)
    have hs := g.size
    have hst := g.sizeTop
    have hc0 := cnt_nonneg g.pos
    have hc1 := cnt_le g.pos
    have d0 : 0 ≤ (p + m) / sizeR r := Int.ediv_nonneg (by omega) (by omega)
    have d1 : (p + m) / sizeR r ≤ p + m := Int.ediv_le_self _ (by omega)
    have m0 := Int.emod_nonneg (p + m) (show sizeR r ≠ 0 by omega)
    have m1 := Int.emod_lt_of_pos (p + m) (show 0 < sizeR r by omega)
    have el : endsTo r r.length = endsTo r r.length := rfl
    have tl : r.take r.length = r := List.take_length
    refine q_asg (v := .int (sizeR r)) (ev_op (ev_op (ev_var rfl) ev_c (rv_ixT ht (atI_nat (j := 0) rfl))) (ev_un ev_c ru_neg) (rv_ixL ha (by rw [ends_last, tl]))) fun H1 e1 => ?_
    refine q_par (x := .int ((p + m) / sizeR r)) (y := .int ((p + m) % sizeR r)) (ea_cons (ev_op (ev_op (ev_var rfl) (ev_var rfl) rv_I0) (ev_var rfl) (rv_I (wide_div (b := 208) (by omega) (by omega) (by decide) (by decide)))) (ea_cons (ev_op (ev_op (ev_var rfl) (ev_var rfl) rv_I0) (ev_var rfl) (rv_I (by omega))) ea_nil)) fun H2 e2 => ?_
    have e12 := e1.trans e2
    refine s_ret (v := .int ((p + m) / sizeR r * cntA r + ahead r ((p + m) % sizeR r) - ahead r p)) (ev_op (ev_op (ev_op (ev_var rfl) (ev_op (ev_op (ev_var rfl) ev_c (rv_ixT (ex_t e12 ht) (atI_nat (j := 1) rfl))) (ev_un ev_c ru_neg) (rv_ixL (ex_l e12 hb) (by rw [sums_last, tl]))) (rv_I (mulx_ok (a := 400) (b := 208) (by omega) (by omega) (by decide))))
      (ev_call (ea_cons (ev_var rfl) (ea_cons (ev_var rfl) ea_nil)) (sv_ahead (hTab.mono e12) g.pos hl m0 m1)) rv_I0) (ev_call (ea_cons (ev_var rfl) (ea_cons (ev_var rfl) ea_nil)) (sv_ahead (hTab.mono e12) g.pos hl h0 h1)) rv_I0) fun H3 e3 => ?_
    rw [← among_along h0 h1]
    exact q H3 (e12.trans e3)
end
section
variable {P : Program} {w : World} {K : PySem.W.Frag} {mg : Str → Option Value} {base : Heap} {tKIND_A tKIND_B : Tok}
def spRow (K : PySem.W.Frag) : Sp := fun vs H Q _ => ∃ (a : Addr) (r : Ring), vs = [.ref a] ∧ RingAt K H a r ∧ Small r ∧ RetV (.str (rowS r)) H Q
theorem sv_row {H : Hp} {a : Addr} {r : Ring} (h : RingAt K H a r) (hs : Small r) : SpV (spRow K) ([.ref a] ++ []) H (.str (rowS r)) := fun H1 e Q q E => ⟨a, r, rfl, h.mono e, hs, q⟩
abbrev s_l_row : Stmt := topS 33
theorem sc_l_row : FnScope ["_law_ring_here", "_law_kind", "_law_many"] ["_law_ring_here"] (defScope s_l_row) := ⟨rfl, rfl, rfl, by decide +kernel, rfl, by decide +kernel, by decide +kernel⟩
theorem ok_l_row {f : Addr} {fd : FuncData} (F : Fun K "_law_row" "_law_row" s_l_row f fd) (T : Txt K mg tKIND_A tKIND_B)  : FnOk P w K mg base CX0 1 f fd ["_law_ring_here"] (spRow K) := by
  have nd := sc_l_row.nd
  refine F.ok sc_l_row (fun vs H Q E h => ?_) (fun cdv A outer s H vs Q E hr h => ?_)
  · obtain ⟨a, r, rfl, _⟩ := h
    rfl
  · obtain ⟨a, r, rfl, hR, hs, q⟩ := h
    refine ⟨_, (pss_one (ps_ret (pe_joinN pe_str (pe_lc (g := (gTup K 2 (gCons (gName 1) (gCons (gName 2) gNil)))) (own := [("_law_kind", 1), ("_law_many", 2)]) (by rfl) nd (pi_list (pv 0)) (blkOk_by (own := [("_law_kind", 1), ("_law_many", 2)]) (N := ["_law_ring_here", "_law_kind", "_law_many"]) (sc := defScope s_l_row) (by decide +kernel)) (fun _ _ _ _ _ => (pg_tup rfl (pgs_cons (pg_name (i := 1) nd rfl (Or.inl rfl) (.inr rfl)) (pgs_cons (pg_name (i := 2) nd rfl (Or.inl rfl) (.inr rfl)) pgs_nil)))) (fun _ _ _ _ _ => pts_nil) (fun _ _ _ _ _ => (pe_op op_mul_str (pv 1) (pv 2))))))), ?_⟩
    have hl := hs.len
    refine s_ret (v := .str (rowS r)) (ev_join (ys := r.map fun x => Txt.mul (kl x.1) x.2) ev_c (el_lcRing (fun _ => true) (fun x => .str (Txt.mul (kl x.1) x.2)) (ev_var rfl) hR (by omega) (fun _ _ => rfl) (fun x H1 _ _ H2 _ Q q => q H2 (Ex.refl H2)) (fun x H1 hx _ _ => ?_)) ?_ ?_) q
    · exact ev_op (ev_var rfl) (ev_var rfl) (rv_val fun H1 e1 Q q => ⟨kl x.1, x.2, rfl, rfl, mul_ok x.1 (hs.size x hx), q⟩)
    · rw [List.filter_eq_self.mpr (fun _ _ => rfl), List.map_map]
      rfl
    · have h1 := hs.sum
      have h2 : ("" : Str).length = 0 := by decide +kernel
      rw [h2, Nat.mul_zero]
      omega
def spCut (K : PySem.W.Frag) : Sp := fun vs H Q _ => ∃ (a : Addr) (r : Ring) (c : Int), vs = [.ref a, .int c] ∧ RingAt K H a r ∧ Good r ∧ 0 ≤ c ∧ c < 2 ^ 200 ∧ RetP (fun v H' => ∃ r', Cut r r' ∧ IsRing K r' v H') H Q
theorem sv_cut {H : Hp} {a : Addr} {r : Ring} {c : Int} (h : RingAt K H a r) (g : Good r) (h0 : 0 ≤ c) (h1 : c < 2 ^ 200) : SpP (spCut K) ([.ref a, .int c] ++ []) H (fun v H' => ∃ r', Cut r r' ∧ IsRing K r' v H') := fun H1 e Q q E => ⟨a, r, c, rfl, h.mono e, g, h0, h1, q⟩
abbrev s_l_cut : Stmt := topS 34
theorem sc_l_cut : FnScope ["_law_ring_here", "_law_cell", "_law_made", "_law_k", "_law_kind", "_law_many", "_law_first"] ["_law_ring_here", "_law_cell"] (defScope s_l_cut) := ⟨rfl, rfl, rfl, by decide +kernel, rfl, by decide +kernel, by decide +kernel⟩
theorem ok_l_cut {f : Addr} {fd : FuncData} (F : Fun K "_law_cut" "_law_cut" s_l_cut f fd) (T : Txt K mg tKIND_A tKIND_B)  : FnOk P w K mg base CX0 1 f fd ["_law_ring_here", "_law_cell"] (spCut K) := by
  have nd := sc_l_cut.nd
  refine F.ok sc_l_cut (fun vs H Q E h => ?_) (fun cdv A outer s H vs Q E hr h => ?_)
  · obtain ⟨a, r, c, rfl, _⟩ := h
    rfl
  · obtain ⟨a, r, c, rfl, hR, g, c0, c1, q⟩ := h
    refine ⟨_, (pss_cons (ps_set (i := 2) nd rfl (Or.inl rfl) (pe_lst pa_nil))
  (pss_cons (ps_for PassesOwn.never rfl (pi_enum (by rfl) T.z_enumerate (pa_cons (pv 0) pa_nil)) (pg_tup rfl (pgs_cons (pg_name (i := 3) nd rfl (Or.inl rfl)) (pgs_cons (pg_tup rfl (pgs_cons (pg_name (i := 4) nd rfl (Or.inl rfl)) (pgs_cons (pg_name (i := 5) nd rfl (Or.inl rfl)) pgs_nil))) pgs_nil)))
  (pss_cons (ps_set (i := 6) nd rfl (Or.inl rfl) (pe_op op_mod (pe_op op_mulX (pe_op op_add (pv 1) (pe_op op_mulX pe_int (pv 3))) (pe_op op_add (pv 3) pe_int)) (pv 5)))
  (pss_one (ps_if (PW.pt (pw_and (pt_cmpR op_gt (pv 6) pe_int (nomark _)) (pw_and1 (pt_cmpR op_gt (pe_op op_mod (pe_op op_add (pv 1) (pv 3)) pe_int) pe_int (nomark _))))) (pss_one (ps_set (i := 2) nd rfl (Or.inl rfl) (pe_op op_cat (pv 2) (pe_lst (pa_cons (pe_tup (pa_cons (pv 4) (pa_cons (pv 6) pa_nil))) (pa_cons (pe_tup (pa_cons (pv 4) (pa_cons (pe_op op_sub (pv 5) (pv 6)) pa_nil))) pa_nil)))))) (pss_one (ps_expr (pe_bm PySem.F.plainAttrs_list PySem.F.slot_list_append PySem.F.type_list_append mt_append (pv 2) (pa_cons (pe_tup (pa_cons (pv 4) (pa_cons (pv 5) pa_nil))) pa_nil))))))))
  (pss_one (ps_ret (pv 2))))), ?_⟩
    have hgl := g.len
    obtain ⟨vs, hvs, hit⟩ := id hR
    refine q_asgF (K := K) (r := []) (ef_lst ei_nil (by decide)) fun p0 vs0 H1 n0 e1 h1 i1 => ?_
    refine q_forG (K := K) (xs := vs) (fun a' H2 => a' = a ∧ Ex H1 H2) (fun Q' q' => (ea_cons (ev_var (v := .ref a) rfl) ea_nil) H1 (Ex.refl H1) _ fun H2 e2 => q' a H2 ⟨rfl, e2⟩)
      (fun a' i σ' H' => a' = a ∧ Ex H H' ∧ ∃ (p : Addr) (ws : List V) (r' : Ring) (y3 y4 y5 y6 : Option V), σ' = [some (.ref a), some (.int c), some (.ref p), y3, y4, y5, y6] ∧ H p = none ∧ H' p = some (.lst ws) ∧ Items K H' ws r' ∧ Cut (r.take i) r') (fun a' H2 hF => ?_) (fun a' i σ' H' p => ?_) (fun a' i v σ' H' T hv p nT => ?_) (fun a' σ' H' p => ?_)
    · obtain ⟨rfl, e2⟩ := hF
      exact ⟨rfl, e1.trans e2, p0, vs0, [], none, none, none, none, rfl, n0, e2 _ _ h1, i1.mono e2, .nil⟩
    · obtain ⟨rfl, e, _⟩ := p
      exact ex_l e hvs
    · obtain ⟨rfl, e2, p, ws, r', y3, y4, y5, y6, rfl, np, hp, hi, hC⟩ := p
      have hir : i < r.length := by
        rw [← hit.1]
        exact (List.getElem?_eq_some_iff.mp hv).1
      have hx := List.getElem?_eq_getElem hir
      generalize r[i] = x at hx
      obtain ⟨t, rfl, ht⟩ := hit.2 i v x hv hx
      have hx1 := g.pos x (mem_at hx)
      have hx2 := g.top x (mem_at hx)
      have eT : Ex H' (upd H' T (.tup [.int (i : Nat), .ref t])) := Ex.new nT
      refine ⟨T, _, rfl, st_of upd_same, rfl, _, _, rfl, _, _, rfl, t, _, rfl, ex_t (e2.trans eT) ht, rfl, _, _, rfl, _, _, rfl, rfl, rfl, ?_⟩
      have i0 : Bt 20 ((i : Nat) : Int) := Bt.small 20 (by omega) (by omega) (by decide)
      have b31 : Bt 20 31 := by unfold Bt; decide
      have b3 : Bt 20 3 := by unfold Bt; decide
      have bc : Bt 200 c := Bt.small 200 c0 c1 (by decide)
      have bs : Bt 201 (c + 31 * ((i : Nat) : Int)) := Bt.add bc ((b31.mul i0).mono (by decide))
      refine q_asg (v := .int ((c + 31 * ((i : Nat) : Int)) * (((i : Nat) : Int) + 3) % x.2)) (ev_op (ev_op (ev_op (ev_var rfl) (ev_op ev_c (ev_var rfl) (rv_I (b31.mulx i0 (by decide)))) rv_I0) (ev_op (ev_var rfl) ev_c rv_I0) (rv_I (bs.mulx (Bt.add i0 b3) (by decide)))) (ev_var rfl) (rv_I (by omega))) fun H3 e3 => ?_
      generalize hf : (c + 31 * ((i : Nat) : Int)) * (((i : Nat) : Int) + 3) % x.2 = fi
      have f0 : 0 ≤ fi := by
        rw [← hf]
        exact Int.emod_nonneg _ (by omega)
      have f1 : fi < x.2 := by
        rw [← hf]
        exact Int.emod_lt_of_pos _ (by omega)
      have hp3 : H3 p = some (.lst ws) := e3 _ _ (eT _ _ hp)
      have hi3 := hi.mono (eT.trans e3)
      have eH3 := (e2.trans eT).trans e3
      refine s_if (b := (decide (0 < fi) && decide (0 < (c + ((i : Nat) : Int)) % 3))) (et_and (et_test (ev_op (ev_var rfl) ev_c rv_I0)) fun _ => et_test (ev_op (ev_op (ev_op (ev_var rfl) (ev_var rfl) rv_I0) ev_c (rv_I (by decide))) ev_c rv_I0)) (fun hb H4 e4 => ?_) (fun hb H4 e4 => ?_)
      · have hf0 : 0 < fi := of_decide_eq_true (Bool.and_eq_true_iff.mp hb).1
        have hL : r'.length ≤ 400 := by
          have := hC.length
          rw [List.length_take] at this
          omega
        refine s_asgF (K := K) (r := r' ++ [(x.1, fi), (x.1, x.2 - fi)]) (ef_cat (ev_var rfl) (e4 _ _ hp3) (hi3.mono e4) (ef_lst (ei_cons (eu_tup (ea_cons (ev_var rfl) (ea_cons (ev_var rfl) ea_nil)) (by simp only [List.length_cons, List.length_nil]; decide)) (ei_cons (eu_tup (ea_cons (ev_var rfl) (ea_cons (ev_op (ev_var rfl) (ev_var rfl) rv_I0) ea_nil)) (by simp only [List.length_cons, List.length_nil]; decide)) ei_nil)) (by simp only [List.length_cons, List.length_nil]; decide)) (by simp only [List.length_cons, List.length_nil]; omega)) fun p' ws' H5 np' e5 hp' hi' => ?_
        refine ⟨rfl, (eH3.trans e4).trans e5, p', ws', _, _, _, _, _, rfl, fresh_back (eH3.trans e4) np', hp', hi', ?_⟩
        rw [List.take_add_one, hx]
        exact hC.append (.two hf0 f1 .nil)
      · have hL : r'.length ≤ 400 := by
          have := hC.length
          rw [List.length_take] at this
          omega
        refine s_appU (ys := [.str (kl x.1), .int x.2]) (e4 _ _ hp3) (ev_var rfl) (eu_tup (ea_cons (ev_var rfl) (ea_cons (ev_var rfl) ea_nil)) (by simp only [List.length_cons, List.length_nil]; decide)) (by rw [hi.1]; omega) fun q1 H5 nq e5 hq => ?_
        have hp5 := e5 _ _ (e4 _ _ hp3)
        refine ⟨rfl, Ex.mut ((eH3.trans e4).trans e5) np, p, _, r' ++ [x], _, _, _, _, rfl, np, upd_same, ((hi3.mono (e4.trans e5)).append (Items.one ⟨q1, rfl, st_of hq⟩)).upd hp5, ?_⟩
        rw [List.take_add_one, hx]
        exact hC.append (.keep .nil)
    · obtain ⟨rfl, e2, p, ws, r', y3, y4, y5, y6, rfl, np, hp, hi, hC⟩ := p
      refine s_retP (P := fun v H' => ∃ r', Cut r r' ∧ IsRing K r' v H') (ep_var rfl fun H3 e3 => ⟨r', ?_, p, rfl, ws, sq_of (e3 _ _ hp), hi.mono e3⟩) fun v H3 e3 hP => q v H3 (e2.trans e3) hP
      rw [hit.1, List.take_length] at hC
      exact hC
end
def Bits (ns : List Int) : Prop := ∀ z ∈ ns, Builtin.Int.intBits z ≤ 1048576
theorem bits_cell {ns : List Int} (h : Bits ns) (k : Nat) : Bt 1048576 (cellF ns k) := by
  unfold cellF
  rw [List.getD_eq_getElem?_getD]
  cases e : ns[k]? with
  | none =>
    refine Bt.of (z := 0) ?_
    exact Nat.zero_le _
  | some z => exact Bt.of (h z (List.mem_of_getElem? e))
theorem bits_take {ns : List Int} (h : Bits ns) (n : Nat) : Bits (ns.take n) := fun z hz => h z (List.mem_of_mem_take hz)
def limF (i : Int) : Int := [2, 4, 40, 400000].getD i.toNat 0
theorem lim_pos {i : Int} (h0 : 0 ≤ i) (h1 : i < 4) : 0 < limF i ∧ limF i ≤ 400000 := by
  have h : ∀ p ∈ ([2, 4, 40, 400000] : List Int), 0 < p ∧ p ≤ 400000 := by decide
  exact h _ (getD_mem h0 (by show i < 4; omega))
theorem lim_at {i : Int} (h0 : 0 ≤ i) (h1 : i < 4) : atI ([2, 4, 40, 400000].map V.int) i = some (.int (limF i)) := atI_getD [2, 4, 40, 400000] h0 (by show i < 4; omega)
def stF (slant lim : Int) (k : Nat) (c : Int) : Bool × Int :=
  ((if slant < 2 then decide (numF c k (2 * lim) % 2 = 0) else decide ((k : Int) % 2 = 0)),
    1 + numF c k (2 * lim) / 2 * (if (decide (slant = 3) && (if slant < 2 then decide (numF c k (2 * lim) % 2 = 0) else decide ((k : Int) % 2 = 0))) = true then 3 else 1))
def foundTo (slant lim : Int) (ms : List Int) (n : Nat) : Ring := (List.range n).map fun k => stF slant lim k (cellF ms k)
theorem found_succ (slant lim : Int) (ms : List Int) (n : Nat) : foundTo slant lim ms (n + 1) = foundTo slant lim ms n ++ [stF slant lim n (cellF ms n)] := by
  unfold foundTo
  rw [List.range_succ, List.map_append]
  rfl
def orOne (n : Int) (r : Ring) : Ring := if r = [] then [(true, n)] else r
def limOf (ms : List Int) : Int := limF (drawF (cellF ms 0) 7 4)
def slantOf (ms : List Int) : Int := drawF (cellF ms 1) 6 4
def ringF (ns : List Int) : Ring := orOne 1 (foundTo (slantOf (ns.take 63)) (limOf (ns.take 63)) (ns.take 63) (ns.take 63).length)
theorem st_good {slant lim : Int} (hl : 0 < lim) (h2 : lim ≤ 400000) (k : Nat) (c : Int) : 1 ≤ (stF slant lim k c).2 ∧ (stF slant lim k c).2 < 2 ^ 200 := by
  have h0 := num_nonneg c k (lim := 2 * lim) (by omega)
  have h1 := num_lt c k (lim := 2 * lim) (by omega) (by rw [t40_eq]; omega)
  rw [t40_eq] at h1
  have key : ∀ cond : Bool, 1 ≤ 1 + numF c k (2 * lim) / 2 * (if cond = true then 3 else 1) ∧ 1 + numF c k (2 * lim) / 2 * (if cond = true then 3 else 1) < 2 ^ 200 := fun cond => by
    cases cond
    · rw [if_neg (by decide)]
      omega
    · rw [if_pos rfl]
      omega
  exact key _
theorem found_len (slant lim : Int) (ms : List Int) (n : Nat) : (foundTo slant lim ms n).length = n := by
  unfold foundTo
  rw [List.length_map, List.length_range]
theorem ring_good (ns : List Int) : Good (ringF ns) := by
  have hl := lim_pos (draw_nonneg (cellF (ns.take 63) 0) 7 (m := 4) (by decide)) (draw_lt (cellF (ns.take 63) 0) 7 (m := 4) (by decide))
  have hall : ∀ x ∈ ringF ns, 1 ≤ x.2 ∧ x.2 < 2 ^ 200 := by
    intro x hx
    unfold ringF orOne at hx
    split at hx
    · rw [List.mem_singleton] at hx
      subst hx
      decide
    · unfold foundTo at hx
      obtain ⟨k, _, rfl⟩ := List.mem_map.mp hx
      exact st_good hl.1 hl.2 _ _
  refine ⟨?_, ?_, fun x hx => (hall x hx).1, fun x hx => (hall x hx).2⟩
  · unfold ringF orOne
    split
    · simp
    · assumption
  · unfold ringF orOne
    split
    · simp
    · rw [found_len, List.length_take]
      omega
theorem ring_len (ns : List Int) : (ringF ns).length ≤ 63 := by
  unfold ringF orOne
  split
  · simp
  · rw [found_len, List.length_take]
    omega
def smSt (by' : Int) (k : Nat) (c : Int) : Bool × Int := (decide (numF c (k + by') 900000 % 3 ≠ 2), 1 + numF c (k + by') 900000 / 3 % 3)
def smallTo (by' : Int) (ms : List Int) (n : Nat) : Ring := (List.range n).map fun k => smSt by' k (cellF ms k)
theorem small_succ (by' : Int) (ms : List Int) (n : Nat) : smallTo by' ms (n + 1) = smallTo by' ms n ++ [smSt by' n (cellF ms n)] := by
  unfold smallTo
  rw [List.range_succ, List.map_append]
  rfl
def smallF (ns : List Int) (by' : Int) : Ring := orOne 2 (smallTo by' (ns.take 10) (ns.take 10).length)
theorem small_ok (ns : List Int) (by' : Int) : Small (smallF ns by') := by
  refine ⟨?_, ?_⟩
  · unfold smallF orOne
    split
    · simp
    · unfold smallTo
      rw [List.length_map, List.length_range, List.length_take]
      omega
  · intro x hx
    unfold smallF orOne at hx
    split at hx
    · rw [List.mem_singleton] at hx
      subst hx
      decide
    · unfold smallTo at hx
      obtain ⟨k, _, rfl⟩ := List.mem_map.mp hx
      unfold smSt
      show 1 ≤ 1 + _ ∧ 1 + _ ≤ 3
      omega
theorem small_ne (ns : List Int) (by' : Int) : smallF ns by' ≠ [] := by
  unfold smallF orOne
  split
  · simp
  · assumption
theorem small_good (ns : List Int) (by' : Int) : Good (smallF ns by') := by
  have h := small_ok ns by'
  exact ⟨small_ne ns by', Nat.le_trans h.len (by decide), h.pos, fun x hx => by have := (h.size x hx).2; omega⟩
section
variable {P : Program} {w : World} {K : PySem.W.Frag} {mg : Str → Option Value} {base : Heap} {tKIND_A tKIND_B : Tok}
def spRing (K : PySem.W.Frag) : Sp := fun vs H Q _ => ∃ (a : Addr) (ns : List Int), vs = [.ref a] ∧ SqL K H a (ns.map V.int) ∧ Bits ns ∧ RetP (IsRing K (ringF ns)) H Q
theorem sv_ring {H : Hp} {a : Addr} {ns : List Int} (h : SqL K H a (ns.map V.int)) (hb : Bits ns) : SpP (spRing K) ([.ref a] ++ []) H (IsRing K (ringF ns)) := fun H1 e Q q E => ⟨a, ns, rfl, ex_l e h, hb, q⟩
abbrev s_l_ring : Stmt := topS 26
theorem sc_l_ring : FnScope ["_law_script", "_law_limit", "_law_slant", "_law_found", "_law_k", "_law_cell", "_law_number_here", "_law_kind"] ["_law_script"] (defScope s_l_ring) := ⟨rfl, rfl, rfl, by decide +kernel, rfl, by decide +kernel, by decide +kernel⟩
theorem ok_l_ring {f : Addr} {fd : FuncData} (F : Fun K "_law_ring" "_law_ring" s_l_ring f fd) (T : Txt K mg tKIND_A tKIND_B) {f_l_cell_at : Addr} {fd_l_cell_at : FuncData} (G_l_cell_at : FnOk P w K mg base CX0 1 f_l_cell_at fd_l_cell_at ["_law_script", "_law_k"] (spCell K)) (m_l_cell_at : mg "_law_cell_at" = some (.ref f_l_cell_at)) (k_l_cell_at : PySem.W.keepIn K (.ref f_l_cell_at) = true) (b_l_cell_at : Binds K fd_l_cell_at ["_law_script", "_law_k"] []) {f_l_draw : Addr} {fd_l_draw : FuncData} (G_l_draw : FnOk P w K mg base CX0 1 f_l_draw fd_l_draw ["_law_cell", "_law_k", "_law_many"] spDraw) (m_l_draw : mg "_law_draw" = some (.ref f_l_draw)) (k_l_draw : PySem.W.keepIn K (.ref f_l_draw) = true) (b_l_draw : Binds K fd_l_draw ["_law_cell", "_law_k", "_law_many"] []) {f_l_number : Addr} {fd_l_number : FuncData} (G_l_number : FnOk P w K mg base CX0 2 f_l_number fd_l_number ["_law_cell", "_law_k", "_law_limit"] spNumber) (m_l_number : mg "_law_number" = some (.ref f_l_number)) (k_l_number : PySem.W.keepIn K (.ref f_l_number) = true) (b_l_number : Binds K fd_l_number ["_law_cell", "_law_k", "_law_limit"] []) : FnOk P w K mg base CX0 3 f fd ["_law_script"] (spRing K) := by
  have nd := sc_l_ring.nd
  refine F.ok sc_l_ring (fun vs H Q E h => ?_) (fun cdv A outer s H vs Q E hr h => ?_)
  · obtain ⟨a, ns, rfl, _⟩ := h
    rfl
  · obtain ⟨a, ns, rfl, hS, hB, q⟩ := h
    refine ⟨_, (pss_cons (ps_set (i := 0) nd rfl (Or.inl rfl) (pe_slice sl_list (pv 0) po_none (po_some pe_int)))
  (pss_cons (ps_set (i := 1) nd rfl (Or.inl rfl) (pe_ix ix_tup (pe_tup (pa_cons pe_int (pa_cons pe_int (pa_cons pe_int (pa_cons pe_int pa_nil))))) (pe_call G_l_draw (hr.mono (by decide)) (by rfl) m_l_draw k_l_draw b_l_draw .nil pass0 (pa_cons (pe_call G_l_cell_at (hr.mono (by decide)) (by rfl) m_l_cell_at k_l_cell_at b_l_cell_at .nil pass0 (pa_cons (pv 0) (pa_cons pe_int pa_nil))) (pa_cons pe_int (pa_cons pe_int pa_nil)))) (fun _ _ => rfl)))
  (pss_cons (ps_set (i := 2) nd rfl (Or.inl rfl) (pe_call G_l_draw (hr.mono (by decide)) (by rfl) m_l_draw k_l_draw b_l_draw .nil pass0 (pa_cons (pe_call G_l_cell_at (hr.mono (by decide)) (by rfl) m_l_cell_at k_l_cell_at b_l_cell_at .nil pass0 (pa_cons (pv 0) (pa_cons pe_int pa_nil))) (pa_cons pe_int (pa_cons pe_int pa_nil)))))
  (pss_cons (ps_set (i := 3) nd rfl (Or.inl rfl) (pe_lst pa_nil))
  (pss_cons (ps_for PassesOwn.never rfl (pi_enum (by rfl) T.z_enumerate (pa_cons (pv 0) pa_nil)) (pg_tup rfl (pgs_cons (pg_name (i := 4) nd rfl (Or.inl rfl)) (pgs_cons (pg_name (i := 5) nd rfl (Or.inl rfl)) pgs_nil)))
  (pss_cons (ps_set (i := 6) nd rfl (Or.inl rfl) (pe_call G_l_number (hr.mono (by decide)) (by rfl) m_l_number k_l_number b_l_number .nil pass0 (pa_cons (pv 5) (pa_cons (pv 4) (pa_cons (pe_op op_mulX pe_int (pv 1)) pa_nil)))))
  (pss_cons (ps_set (i := 7) nd rfl (Or.inl rfl) (pe_ifExp (pt_cmpR op_lt (pv 2) pe_int (nomark _)) (pe_ix ix_str pe_str (pe_op op_mod (pv 6) pe_int) (fun _ _ => rfl)) (pe_ix ix_str pe_str (pe_op op_mod (pv 4) pe_int) (fun _ _ => rfl))))
  (pss_one (ps_expr (pe_bm PySem.F.plainAttrs_list PySem.F.slot_list_append PySem.F.type_list_append mt_append (pv 3) (pa_cons (pe_tup (pa_cons (pv 7) (pa_cons (pe_op op_add pe_int (pe_op op_mulX (pe_op op_fdivW (pv 6) pe_int) (pe_ifExp (PW.pt (pw_and (pt_cmpR op_eq (pv 2) pe_int (nomark _)) (pw_and1 (pt_cmpR op_eq (pv 7) pe_str (nomark _))))) pe_int pe_int))) pa_nil))) pa_nil)))))))
  (pss_one (ps_ret (pe_ifExp (pt_cmpR (op_neD hr.units) (pv 3) (pe_lst pa_nil) (nomark _)) (pv 3) (pe_lst (pa_cons (pe_tup (pa_cons pe_str (pa_cons pe_int pa_nil))) pa_nil)))))))))), ?_⟩
    have hBm := bits_take hB 63
    have q' : RetP (IsRing K (orOne 1 (foundTo (slantOf (ns.take 63)) (limOf (ns.take 63)) (ns.take 63) (ns.take 63).length))) H Q := q
    have hml : (ns.take 63).length ≤ 63 := by
      rw [List.length_take]
      omega
    have ecut : cutV (ns.map V.int) none (some 63) = (ns.take 63).map V.int := by
      have := cut_none (ns.map V.int) 63
      rw [List.map_take]
      exact this
    generalize ns.take 63 = ms at *
    have b7 : Bt 1000 7 := (show Bt 20 7 by unfold Bt; decide).mono (by decide)
    have b6 : Bt 1000 6 := (show Bt 20 6 by unfold Bt; decide).mono (by decide)
    have b2 : Bt 20 2 := by unfold Bt; decide
    refine q_asgL (xs := ms.map V.int) (by rw [← ecut]; exact el_sl (ev_var rfl) eo_none (eo_some ev_c) hS) fun p0 H1 n0 e1 h1 => ?_
    have hM : SqL K H1 p0 (ms.map V.int) := sq_of h1
    have d0 : 0 ≤ drawF (cellF ms 0) 7 4 := draw_nonneg _ _ (by decide)
    have d1 : drawF (cellF ms 0) 7 4 < 4 := draw_lt _ _ (by decide)
    have hlim := lim_pos d0 d1
    refine q_asg (v := .int (limOf ms)) (ev_opP1 (P := IsT K ([2, 4, 40, 400000].map V.int)) (ep_U (eu_tup (ea_cons ev_c (ea_cons ev_c (ea_cons ev_c (ea_cons ev_c ea_nil)))) (by simp only [List.length_map, List.length_cons, List.length_nil]; decide)))
      (ev_call (ea_cons (ev_call (ea_cons (ev_var rfl) (ea_cons ev_c ea_nil)) (sv_cell 0 hM)) (ea_cons ev_c (ea_cons ev_c ea_nil))) (sv_draw (c := cellF ms 0) (k := 7) (m := 4) ((bits_cell hBm 0).mono (by decide)) b7 (by decide))) (fun v H2 e2 hP => by
        obtain ⟨t, rfl, ht⟩ := hP
        exact rv_ixT ht (lim_at d0 d1))) fun H2 e2 => ?_
    refine q_asg (v := .int (slantOf ms)) (ev_call (ea_cons (ev_call (ea_cons (ev_var rfl) (ea_cons ev_c ea_nil)) (sv_cell 1 (ex_l e2 hM))) (ea_cons ev_c (ea_cons ev_c ea_nil))) (sv_draw (c := cellF ms 1) (k := 6) (m := 4) ((bits_cell hBm 1).mono (by decide)) b6 (by decide))) fun H3 e3 => ?_
    have hlim' : 0 < limOf ms ∧ limOf ms ≤ 400000 := hlim
    generalize limOf ms = lim at *
    generalize slantOf ms = slant at *
    have hM3 : SqL K H3 p0 (ms.map V.int) := ex_l (e2.trans e3) hM
    refine q_asgF (K := K) (r := []) (ef_lst ei_nil (by decide)) fun p vs0 H4 n4 e4 h4 i4 => ?_
    have e03 := (e1.trans e2).trans e3
    refine q_forG (K := K) (xs := ms.map V.int) (fun a' H5 => a' = p0 ∧ Ex H4 H5) (fun Q' q' => (ea_cons (ev_var (v := .ref p0) rfl) ea_nil) H4 (Ex.refl H4) _ fun H5 e5 => q' p0 H5 ⟨rfl, e5⟩)
      (fun a' i σ' H' => a' = p0 ∧ Ex H3 H' ∧ ∃ (ws : List V) (y4 y5 y6 y7 : Option V), σ' = [some (.ref p0), some (.int lim), some (.int slant), some (.ref p), y4, y5, y6, y7] ∧ H' p = some (.lst ws) ∧ Items K H' ws (foundTo slant lim ms i)) (fun a' H5 hF => ?_) (fun a' i σ' H' hp => ?_) (fun a' i v σ' H' T hv hp nT => ?_) (fun a' σ' H' hp => ?_)
    · obtain ⟨rfl, e5⟩ := hF
      exact ⟨rfl, e4.trans e5, vs0, none, none, none, none, rfl, e5 _ _ h4, i4.mono e5⟩
    · obtain ⟨rfl, e, _⟩ := hp
      exact ex_l e hM3
    · obtain ⟨rfl, e5, ws, y4, y5, y6, y7, rfl, hp, hi⟩ := hp
      have him : i < ms.length := by
        have := (List.getElem?_eq_some_iff.mp hv).1
        rw [List.length_map] at this
        exact this
      have ev : v = .int (cellF ms i) := by
        rw [List.getElem?_map, List.getElem?_eq_getElem him] at hv
        unfold cellF
        rw [List.getD_eq_getElem?_getD, List.getElem?_eq_getElem him]
        exact (Option.some.inj hv).symm
      subst ev
      have eT : Ex H' (upd H' T (.tup [.int (i : Nat), .int (cellF ms i)])) := Ex.new nT
      refine ⟨T, _, rfl, st_of upd_same, rfl, _, _, rfl, _, _, rfl, rfl, ?_⟩
      have blim : Bt 20 lim := Bt.small 20 (by omega) (by omega) (by decide)
      refine q_asg (v := .int (numF (cellF ms i) (i : Int) (2 * lim))) (ev_call (ea_cons (ev_var rfl) (ea_cons (ev_var rfl) (ea_cons (ev_op ev_c (ev_var rfl) (rv_I (b2.mulx blim (by decide)))) ea_nil))) (sv_number (bits_cell hBm i) (by omega) (by omega) (by omega))) fun H6 e6 => ?_
      have n0' := num_nonneg (cellF ms i) (i : Int) (lim := 2 * lim) (by omega)
      have n1' := num_lt (cellF ms i) (i : Int) (lim := 2 * lim) (by omega) (by rw [t40_eq]; omega)
      rw [t40_eq] at n1'
      have est : stF slant lim i (cellF ms i) = ((if slant < 2 then decide (numF (cellF ms i) i (2 * lim) % 2 = 0) else decide ((i : Int) % 2 = 0)),
        1 + numF (cellF ms i) i (2 * lim) / 2 * (if (decide (slant = 3) && (if slant < 2 then decide (numF (cellF ms i) i (2 * lim) % 2 = 0) else decide ((i : Int) % 2 = 0))) = true then 3 else 1)) := rfl
      generalize numF (cellF ms i) (i : Int) (2 * lim) = n at *
      generalize hk : (if slant < 2 then decide (n % 2 = 0) else decide ((i : Int) % 2 = 0)) = k at est
      have cd2 : ∀ i, CDivW i 2 := fun i => ⟨by decide, by decide⟩
      have b1 : Bt 20 1 := by unfold Bt; decide
      have bn : Bt 200 (n / 2) := Bt.small 200 (by omega) (by omega) (by decide)
      have bf : ∀ b : Bool, Bt 20 (if b = true then 3 else 1) := fun b => by
        cases b <;> (unfold Bt; decide)
      refine q_asg (v := .str (kl k)) (ev_if (b := decide (slant < 2)) (et_test (ev_op (ev_var rfl) ev_c rv_I0)) (fun hb => ?_) (fun hb => ?_)) fun H7 e7 => ?_
      · rw [if_pos (of_decide_eq_true hb)] at hk
        rw [← hk]
        exact ev_ab (ev_op (ev_var rfl) ev_c (rv_I (by decide)))
      · rw [if_neg (of_decide_eq_false hb)] at hk
        rw [← hk]
        exact ev_ab (ev_op (ev_var rfl) ev_c (rv_I (by decide)))
      · have hp7 : H7 p = some (.lst ws) := e7 _ _ (e6 _ _ (eT _ _ hp))
        refine s_appU (ys := [.str (kl k), .int (1 + n / 2 * (if (decide (slant = 3) && k) = true then 3 else 1))]) hp7 (ev_var rfl) (eu_tup (ea_cons (ev_var rfl) (ea_cons (ev_op ev_c (ev_op (ev_op (ev_var rfl) ev_c (rv_I (cd2 _))) (ev_ifI (b := decide (slant = 3) && k) (et_and (et_is (et_test (ev_op (ev_var rfl) ev_c (rv_eq rfl))) int_eq) fun _ => et_is (et_test (ev_op (ev_var rfl) ev_c (rv_eq rfl))) (kl_a k)) (fun _ => ev_c) (fun _ => ev_c)) (rv_I (bn.mulx (bf _) (by decide)))) rv_I0) ea_nil)) (by simp only [List.length_cons, List.length_nil]; decide)) (by rw [hi.1, found_len]; omega) fun q1 H8 nq e8 hq => ?_
        have hp8 := e8 _ _ hp7
        have hpn : H3 p = none := n4
        refine ⟨rfl, Ex.mut ((((e5.trans eT).trans e6).trans e7).trans e8) hpn, _, _, _, _, _, rfl, upd_same, ?_⟩
        rw [found_succ, est]
        exact ((hi.mono (((eT.trans e6).trans e7).trans e8)).append (Items.one ⟨q1, rfl, st_of hq⟩)).upd hp8
    · obtain ⟨rfl, e5, ws, y4, y5, y6, y7, rfl, hp, hi⟩ := hp
      rw [List.length_map] at hi
      have hRf : RingAt K H' p (foundTo slant lim ms ms.length) := ⟨ws, sq_of hp, hi⟩
      refine s_retP (P := IsRing K (orOne 1 (foundTo slant lim ms ms.length))) ?_ fun v H6 e6 hP => q' v H6 ((e03.trans e5).trans e6) hP
      generalize foundTo slant lim ms ms.length = r at *
      unfold orOne
      refine ep_if (et_neNil (ev_var rfl) hRf) (fun hb => ?_) (fun hb => ?_)
      · rw [if_neg (by simpa using hb)]
        exact ep_var rfl fun H6 e6 => ⟨p, rfl, hRf.mono e6⟩
      · rw [if_pos (by simpa using hb)]
        exact ep_F (ef_lst (ei_cons (b := true) (n := 1) (eu_tup (ea_cons ev_c (ea_cons ev_c ea_nil)) (by simp only [List.length_cons, List.length_nil]; decide)) ei_nil) (by decide))
def spSmall (K : PySem.W.Frag) : Sp := fun vs H Q _ => ∃ (a : Addr) (ns : List Int) (b : Int), vs = [.ref a, .int b] ∧ SqL K H a (ns.map V.int) ∧ Bits ns ∧ 0 ≤ b ∧ b < 100 ∧ RetP (IsRing K (smallF ns b)) H Q
theorem sv_small {H : Hp} {a : Addr} {ns : List Int} {b : Int} (h : SqL K H a (ns.map V.int)) (hb : Bits ns) (h0 : 0 ≤ b) (h1 : b < 100) : SpP (spSmall K) ([.ref a, .int b] ++ []) H (IsRing K (smallF ns b)) := fun H1 e Q q E => ⟨a, ns, b, rfl, ex_l e h, hb, h0, h1, q⟩
abbrev s_l_small : Stmt := topS 27
theorem sc_l_small : FnScope ["_law_script", "_law_by", "_law_found", "_law_k", "_law_cell", "_law_number_here"] ["_law_script", "_law_by"] (defScope s_l_small) := ⟨rfl, rfl, rfl, by decide +kernel, rfl, by decide +kernel, by decide +kernel⟩
theorem ok_l_small {f : Addr} {fd : FuncData} (F : Fun K "_law_small" "_law_small" s_l_small f fd) (T : Txt K mg tKIND_A tKIND_B) {f_l_number : Addr} {fd_l_number : FuncData} (G_l_number : FnOk P w K mg base CX0 2 f_l_number fd_l_number ["_law_cell", "_law_k", "_law_limit"] spNumber) (m_l_number : mg "_law_number" = some (.ref f_l_number)) (k_l_number : PySem.W.keepIn K (.ref f_l_number) = true) (b_l_number : Binds K fd_l_number ["_law_cell", "_law_k", "_law_limit"] []) : FnOk P w K mg base CX0 3 f fd ["_law_script", "_law_by"] (spSmall K) := by
  have nd := sc_l_small.nd
  refine F.ok sc_l_small (fun vs H Q E h => ?_) (fun cdv A outer s H vs Q E hr h => ?_)
  · obtain ⟨a, ns, b, rfl, _⟩ := h
    rfl
  · obtain ⟨a, ns, b, rfl, hS, hB, b0, b1, q⟩ := h
    refine ⟨_, (pss_cons (ps_set (i := 2) nd rfl (Or.inl rfl) (pe_lst pa_nil))
  (pss_cons (ps_for PassesOwn.never rfl (pi_enum (by rfl) T.z_enumerate (pa_cons (pe_slice sl_list (pv 0) po_none (po_some pe_int)) pa_nil)) (pg_tup rfl (pgs_cons (pg_name (i := 3) nd rfl (Or.inl rfl)) (pgs_cons (pg_name (i := 4) nd rfl (Or.inl rfl)) pgs_nil)))
  (pss_cons (ps_set (i := 5) nd rfl (Or.inl rfl) (pe_call G_l_number (hr.mono (by decide)) (by rfl) m_l_number k_l_number b_l_number .nil pass0 (pa_cons (pv 4) (pa_cons (pe_op op_add (pv 3) (pv 1)) (pa_cons pe_int pa_nil)))))
  (pss_one (ps_expr (pe_bm PySem.F.plainAttrs_list PySem.F.slot_list_append PySem.F.type_list_append mt_append (pv 2) (pa_cons (pe_tup (pa_cons (pe_ix ix_str pe_str (pe_op op_mod (pv 5) pe_int) (fun _ _ => rfl)) (pa_cons (pe_op op_add pe_int (pe_op op_mod (pe_op op_fdivW (pv 5) pe_int) pe_int)) pa_nil))) pa_nil))))))
  (pss_one (ps_ret (pe_ifExp (pt_cmpR (op_neD hr.units) (pv 2) (pe_lst pa_nil) (nomark _)) (pv 2) (pe_lst (pa_cons (pe_tup (pa_cons pe_str (pa_cons pe_int pa_nil))) pa_nil))))))), ?_⟩
    have hBm := bits_take hB 10
    have q' : RetP (IsRing K (orOne 2 (smallTo b (ns.take 10) (ns.take 10).length))) H Q := q
    have hml : (ns.take 10).length ≤ 10 := by
      rw [List.length_take]
      omega
    have ecut : cutV (ns.map V.int) none (some 10) = (ns.take 10).map V.int := by
      have := cut_none (ns.map V.int) 10
      rw [List.map_take]
      exact this
    generalize ns.take 10 = ms at *
    refine q_asgF (K := K) (r := []) (ef_lst ei_nil (by decide)) fun p vs0 H4 n4 e4 h4 i4 => ?_
    have hM4 : SqL K H4 a (ns.map V.int) := ex_l e4 hS
    refine q_forG (K := K) (xs := ms.map V.int) (fun a' H5 => Ex H4 H5 ∧ H4 a' = none ∧ H5 a' = some (.lst (ms.map V.int))) (fun Q' q' => (show EvL _ _ _ (ms.map V.int) by rw [← ecut]; exact el_sl (ev_var (v := .ref a) rfl) eo_none (eo_some ev_c) hM4) H4 (Ex.refl H4) _ fun p5 H5 n5 e5 h5 => q' p5 H5 ⟨e5, n5, h5⟩)
      (fun a' i σ' H' => Ex H H' ∧ a' ≠ p ∧ H' a' = some (.lst (ms.map V.int)) ∧ ∃ (ws : List V) (y3 y4 y5 : Option V), σ' = [some (.ref a), some (.int b), some (.ref p), y3, y4, y5] ∧ H' p = some (.lst ws) ∧ Items K H' ws (smallTo b ms i)) (fun a' H5 hF => ?_) (fun a' i σ' H' hp => sq_of hp.2.2.1) (fun a' i v σ' H' T hv hp nT => ?_) (fun a' σ' H' hp => ?_)
    · obtain ⟨e5, n5, h5⟩ := hF
      exact ⟨e4.trans e5, (ne_of_none h4 n5).symm, h5, vs0, none, none, none, rfl, e5 _ _ h4, i4.mono e5⟩
    · obtain ⟨e5, na, ha, ws, y3, y4, y5, rfl, hp, hi⟩ := hp
      have him : i < ms.length := by
        have := (List.getElem?_eq_some_iff.mp hv).1
        rw [List.length_map] at this
        exact this
      have ev : v = .int (cellF ms i) := by
        rw [List.getElem?_map, List.getElem?_eq_getElem him] at hv
        unfold cellF
        rw [List.getD_eq_getElem?_getD, List.getElem?_eq_getElem him]
        exact (Option.some.inj hv).symm
      subst ev
      have eT : Ex H' (upd H' T (.tup [.int (i : Nat), .int (cellF ms i)])) := Ex.new nT
      refine ⟨T, _, rfl, st_of upd_same, rfl, _, _, rfl, _, _, rfl, rfl, ?_⟩
      refine q_asg (v := .int (numF (cellF ms i) ((i : Int) + b) 900000)) (ev_call (ea_cons (ev_var rfl) (ea_cons (ev_op (ev_var rfl) (ev_var rfl) rv_I0) (ea_cons ev_c ea_nil))) (sv_number (bits_cell hBm i) (by omega) (by omega) (by decide))) fun H6 e6 => ?_
      have est : smSt b i (cellF ms i) = (decide (numF (cellF ms i) (i + b) 900000 % 3 ≠ 2), 1 + numF (cellF ms i) (i + b) 900000 / 3 % 3) := rfl
      generalize numF (cellF ms i) ((i : Int) + b) 900000 = n at *
      have cd3 : ∀ i, CDivW i 3 := fun i => ⟨by decide, by decide⟩
      have hp7 : H6 p = some (.lst ws) := e6 _ _ (eT _ _ hp)
      refine s_appU (ys := [.str (kl (decide (n % 3 ≠ 2))), .int (1 + n / 3 % 3)]) hp7 (ev_var rfl) (eu_tup (ea_cons (ev_aab (ev_op (ev_var rfl) ev_c (rv_I (by decide)))) (ea_cons (ev_op ev_c (ev_op (ev_op (ev_var rfl) ev_c (rv_I (cd3 _))) ev_c (rv_I (by decide))) rv_I0) ea_nil)) (by simp only [List.length_cons, List.length_nil]; decide)) (by rw [hi.1]; unfold smallTo; rw [List.length_map, List.length_range]; omega) fun q1 H8 nq e8 hq => ?_
      have hp8 := e8 _ _ hp7
      refine ⟨Ex.mut (((e5.trans eT).trans e6).trans e8) n4, na, ?_, _, _, _, _, rfl, upd_same, ?_⟩
      · rw [upd_ne na]
        exact e8 _ _ (e6 _ _ (eT _ _ ha))
      · rw [small_succ, est]
        exact ((hi.mono ((eT.trans e6).trans e8)).append (Items.one ⟨q1, rfl, st_of hq⟩)).upd hp8
    · obtain ⟨e5, na, ha, ws, y3, y4, y5, rfl, hp, hi⟩ := hp
      rw [List.length_map] at hi
      have hRf : RingAt K H' p (smallTo b ms ms.length) := ⟨ws, sq_of hp, hi⟩
      refine s_retP (P := IsRing K (orOne 2 (smallTo b ms ms.length))) ?_ fun v H6 e6 hP => q' v H6 (e5.trans e6) hP
      generalize smallTo b ms ms.length = r at *
      unfold orOne
      refine ep_if (et_neNil (ev_var rfl) hRf) (fun hb => ?_) (fun hb => ?_)
      · rw [if_neg (by simpa using hb)]
        exact ep_var rfl fun H6 e6 => ⟨p, rfl, hRf.mono e6⟩
      · rw [if_pos (by simpa using hb)]
        exact ep_F (ef_lst (ei_cons (b := true) (n := 2) (eu_tup (ea_cons ev_c (ea_cons ev_c ea_nil)) (by simp only [List.length_cons, List.length_nil]; decide)) ei_nil) (by decide))
end
section
variable {P : Program} {w : World} {K : PySem.W.Frag} {mg : Str → Option Value} {base : Heap} {tKIND_A tKIND_B : Tok}
def spRight (K : PySem.W.Frag) : Sp := fun vs H Q _ => ∃ (a : Addr) (r : Ring) (p m : Int), vs = [.ref a, .int p, .int m] ∧ RingAt K H a r ∧ Good r ∧ 0 ≤ p ∧ p < sizeR r ∧ 0 ≤ m ∧ m < 2 ^ 399 ∧ RetV (.bl true) H Q
theorem sv_right {H : Hp} {a : Addr} {r : Ring} {p m : Int} (h : RingAt K H a r) (g : Good r) (h0 : 0 ≤ p) (h1 : p < sizeR r) (h2 : 0 ≤ m) (h3 : m < 2 ^ 399) : SpV (spRight K) ([.ref a, .int p, .int m] ++ []) H (.bl true) := fun H1 e Q q E => ⟨a, r, p, m, rfl, h.mono e, g, h0, h1, h2, h3, q⟩
abbrev s_l_among_right : Stmt := topS 35
theorem sc_l_among_right : FnScope ["_law_ring_here", "_law_place", "_law_many", "_law_told", "_law_size_here", "_law_first", "_law_middle", "_law_begin"] ["_law_ring_here", "_law_place", "_law_many"] (defScope s_l_among_right) := ⟨rfl, rfl, rfl, by decide +kernel, rfl, by decide +kernel, by decide +kernel⟩
theorem ok_l_among_right {f : Addr} {fd : FuncData} (F : Fun K "_law_among_right" "_law_among_right" s_l_among_right f fd) (T : Txt K mg tKIND_A tKIND_B) {f_l_along : Addr} {fd_l_along : FuncData} (G_l_along : FnOk P w K mg base CX0 2 f_l_along fd_l_along ["_law_table_here", "_law_place", "_law_many"] (spAlong K)) (m_l_along : mg "_law_along" = some (.ref f_l_along)) (k_l_along : PySem.W.keepIn K (.ref f_l_along) = true) (b_l_along : Binds K fd_l_along ["_law_table_here", "_law_place", "_law_many"] []) {f_l_size : Addr} {fd_l_size : FuncData} (G_l_size : FnOk P w K mg base CX0 1 f_l_size fd_l_size ["_law_ring_here"] (spSize K)) (m_l_size : mg "_law_size" = some (.ref f_l_size)) (k_l_size : PySem.W.keepIn K (.ref f_l_size) = true) (b_l_size : Binds K fd_l_size ["_law_ring_here"] []) {f_l_table : Addr} {fd_l_table : FuncData} (G_l_table : FnOk P w K mg base CX0 1 f_l_table fd_l_table ["_law_ring_here"] (spTable K)) (m_l_table : mg "_law_table" = some (.ref f_l_table)) (k_l_table : PySem.W.keepIn K (.ref f_l_table) = true) (b_l_table : Binds K fd_l_table ["_law_ring_here"] []) {f_l_whole : Addr} {fd_l_whole : FuncData} (G_l_whole : FnOk P w K mg base CX0 1 f_l_whole fd_l_whole ["_law_number_here"] spWhole) (m_l_whole : mg "_law_whole" = some (.ref f_l_whole)) (k_l_whole : PySem.W.keepIn K (.ref f_l_whole) = true) (b_l_whole : Binds K fd_l_whole ["_law_number_here"] []) {f_among : Addr} {fd_among : FuncData} (G_among : FnOk P w K mg base CX0 4 f_among fd_among ["ring", "place", "many"] (spAmong K)) (m_among : mg "among" = some (.ref f_among)) (k_among : PySem.W.keepIn K (.ref f_among) = true) (b_among : Binds K fd_among ["ring", "place", "many"] []) : FnOk P w K mg base CX0 5 f fd ["_law_ring_here", "_law_place", "_law_many"] (spRight K) := by
  have nd := sc_l_among_right.nd
  refine F.ok sc_l_among_right (fun vs H Q E h => ?_) (fun cdv A outer s H vs Q E hr h => ?_)
  · obtain ⟨a, r, p, m, rfl, _⟩ := h
    rfl
  · obtain ⟨a, r, p, m, rfl, hR, g, h0, h1, h2, h3, q⟩ := h
    refine ⟨_, (pss_cons (ps_set (i := 3) nd rfl (Or.inl rfl) (pe_call G_among (hr.mono (by decide)) (by rfl) m_among k_among b_among .nil pass0 (pa_cons (pv 0) (pa_cons (pv 1) (pa_cons (pv 2) pa_nil)))))
  (pss_cons (ps_if (PW.pt (pw_or (pt_not (pt_val (pe_call G_l_whole (hr.mono (by decide)) (by rfl) m_l_whole k_l_whole b_l_whole .nil pass0 (pa_cons (pv 3) pa_nil)))) (pw_or1 (pt_cmpR op_ne (pv 3) (pe_call G_l_along (hr.mono (by decide)) (by rfl) m_l_along k_l_along b_l_along .nil pass0 (pa_cons (pe_call G_l_table (hr.mono (by decide)) (by rfl) m_l_table k_l_table b_l_table .nil pass0 (pa_cons (pv 0) pa_nil)) (pa_cons (pv 1) (pa_cons (pv 2) pa_nil)))) (nomark _))))) (pss_one (ps_ret pe_bl)) pss_nil)
  (pss_cons (ps_set (i := 4) nd rfl (Or.inl rfl) (pe_call G_l_size (hr.mono (by decide)) (by rfl) m_l_size k_l_size b_l_size .nil pass0 (pa_cons (pv 0) pa_nil)))
  (pss_cons (ps_set (i := 5) nd rfl (Or.inl rfl) (pe_op op_fdivW (pv 2) pe_int))
  (pss_cons (ps_set (i := 6) nd rfl (Or.inl rfl) (pe_op op_mod (pe_op op_add (pv 1) (pv 5)) (pv 4)))
  (pss_cons (ps_set (i := 7) nd rfl (Or.inl rfl) (pe_call G_among (hr.mono (by decide)) (by rfl) m_among k_among b_among .nil pass0 (pa_cons (pv 0) (pa_cons (pv 1) (pa_cons (pv 5) pa_nil)))))
  (pss_one (ps_ret (pe_cmpR op_eq (pv 3) (pe_op op_add (pv 7) (pe_call G_among (hr.mono (by decide)) (by rfl) m_among k_among b_among .nil pass0 (pa_cons (pv 0) (pa_cons (pv 6) (pa_cons (pe_op op_sub (pv 2) (pv 5)) pa_nil))))) (nomark _)))))))))), ?_⟩
    have hl : r.length ≤ 40000 := Nat.le_trans g.len (by decide)
    have hs := g.size
    have cd3 : ∀ i, CDivW i 3 := fun i => ⟨by decide, by decide⟩
    refine q_asg (v := .int (amongF r p m)) (ev_call (ea_cons (ev_var rfl) (ea_cons (ev_var rfl) (ea_cons (ev_var rfl) ea_nil))) (sv_among hR g h0 h1 h2 h3)) fun H1 e1 => ?_
    refine q_when (b := false) ?_ (fun hb => nomatch hb) fun _ H2 e2 => ?_
    · refine et_is (a := (!true || !decide (V.int (amongF r p m) = V.int (amongF r p m)))) (et_or (et_not (et_B (ev_call (ea_cons (ev_var rfl) ea_nil) sv_whole))) fun _ => et_test (ev_op (ev_var rfl) ?_ (rv_ne rfl))) (by rw [decide_eq_true rfl]; rfl)
      exact ev_call1 (P := IsTab K r) (ev_callP (ea_cons (ev_var rfl) ea_nil) (sv_table (hR.mono e1) hl)) (ea_cons (ev_var rfl) (ea_cons (ev_var rfl) ea_nil)) fun v H2 e2 hP => sv_along hP g h0 h1 h2 h3
    · have e12 := e1.trans e2
      refine q_asg (v := .int (sizeR r)) (ev_call (ea_cons (ev_var rfl) ea_nil) (sv_size (hR.mono e12) hl)) fun H3 e3 => ?_
      refine q_asg (v := .int (m / 3)) (ev_op (ev_var rfl) ev_c (rv_I (cd3 _))) fun H4 e4 => ?_
      refine q_asg (v := .int ((p + m / 3) % sizeR r)) (ev_op (ev_op (ev_var rfl) (ev_var rfl) rv_I0) (ev_var rfl) (rv_I (by omega))) fun H5 e5 => ?_
      have e15 := ((e12.trans e3).trans e4).trans e5
      refine q_asg (v := .int (amongF r p (m / 3))) (ev_call (ea_cons (ev_var rfl) (ea_cons (ev_var rfl) (ea_cons (ev_var rfl) ea_nil))) (sv_among (hR.mono e15) g h0 h1 (by omega) (by omega))) fun H6 e6 => ?_
      have m0 := Int.emod_nonneg (p + m / 3) (show sizeR r ≠ 0 by omega)
      have m1 := Int.emod_lt_of_pos (p + m / 3) (show 0 < sizeR r by omega)
      refine s_ret (v := .bl true) (ev_is (ev_op (ev_var rfl) (ev_op (ev_var rfl) (ev_call (ea_cons (ev_var rfl) (ea_cons (ev_var rfl) (ea_cons (ev_op (ev_var rfl) (ev_var rfl) rv_I0) ea_nil))) (sv_among (hR.mono (e15.trans e6)) g m0 m1 (by omega) (by omega))) rv_I0) (rv_eq rfl)) ?_) fun H7 e7 => q H7 ((e15.trans e6).trans e7)
      rw [← among_parts g.pos g.ne, decide_eq_true rfl]
theorem kl_len (b : Bool) : (kl b).length = 1 := by
  cases b <;> decide +kernel
theorem kl_lens : ∀ l : List Str, (∀ s ∈ l, ∃ b, s = kl b) → (l.map (·.length)).sum = l.length
  | [], _ => rfl
  | s :: l, h => by
    obtain ⟨b, rfl⟩ := h s List.mem_cons_self
    rw [List.map_cons, List.sum_cons, kl_len, kl_lens l fun t ht => h t (List.mem_cons_of_mem _ ht), List.length_cons]
    omega
theorem among_ab : amongF [(true, 2), (false, 1)] 1 7 = 5 := by decide
theorem given_all (n : Nat) (v : Nat → V) : given n (fun _ => true) v = (List.range n).map v := by
  unfold given
  rw [List.filter_eq_self.mpr (fun _ _ => rfl)]
def spLaw (K : PySem.W.Frag) : Sp := fun vs H Q _ => ∃ (a : Addr) (ns : List Int), vs = [.ref a] ∧ SqL K H a (ns.map V.int) ∧ Bits ns ∧ ∀ H', Q (.bl true) H'
theorem good_ab : Good [(true, 2), (false, 1)] := ⟨by simp, by decide, fun x hx => by
  simp only [List.mem_cons, List.not_mem_nil, or_false] at hx
  rcases hx with rfl | rfl <;> decide, fun x hx => by
  simp only [List.mem_cons, List.not_mem_nil, or_false] at hx
  rcases hx with rfl | rfl <;> decide⟩
theorem good_b : Good [(false, 4)] := ⟨by simp, by decide, fun x hx => by
  simp only [List.mem_cons, List.not_mem_nil, or_false] at hx
  subst hx
  decide, fun x hx => by
  simp only [List.mem_cons, List.not_mem_nil, or_false] at hx
  subst hx
  decide⟩
theorem pair_shaped (a b : Int) : SeqAt.shaped (.tuple [.int a, .int b]) = true := by
  unfold SeqAt.shaped
  simp [PyData.canLay0, PyData.canLayAll0, PyData.depth, PyData.depthAll]
theorem pair_refl (a b : Int) : PyData.eqv (.tuple [.int a, .int b]) (.tuple [.int a, .int b]) = true := by
  simp [PyData.eqv, PyData.eqvAll]
theorem dp_pair {H : Hp} {t : Addr} {a b : Int} (h : SqT K H t [.int a, .int b]) : Dp K H (.ref t) (.tuple [.int a, .int b]) := .tup h (.cons (.int _) (.cons (.int _) .nil))
theorem rc_lenS {H : Hp} {z : Str} (h : z.length ≤ 100000) : RC rLenStr [.str z] H (.int z.length) := fun H1 _ _ q => ⟨z, rfl, sz_of h, q H1 (Ex.refl H1)⟩
abbrev s_law : Stmt := topS 36
theorem sc_law : FnScope ["_law_script", "_law_ring_here", "_law_kept", "_law_size_here", "_law_cell", "_law_told", "_law_mine", "_law_at", "_law_kind", "_law_many", "_law_drawn", "_law_cut_here", "_law_turn", "_law_turned", "_law_far", "_law_place", "_law_some", "_law_here", "_law_row_here"] ["_law_script"] (defScope s_law) := ⟨rfl, rfl, rfl, by decide +kernel, rfl, by decide +kernel, by decide +kernel⟩
theorem ok_law {f : Addr} {fd : FuncData} (F : Fun K "law" "law" s_law f fd) (T : Txt K mg tKIND_A tKIND_B) {f_l_among_right : Addr} {fd_l_among_right : FuncData} (G_l_among_right : FnOk P w K mg base CX0 5 f_l_among_right fd_l_among_right ["_law_ring_here", "_law_place", "_law_many"] (spRight K)) (m_l_among_right : mg "_law_among_right" = some (.ref f_l_among_right)) (k_l_among_right : PySem.W.keepIn K (.ref f_l_among_right) = true) (b_l_among_right : Binds K fd_l_among_right ["_law_ring_here", "_law_place", "_law_many"] []) {f_l_cell_at : Addr} {fd_l_cell_at : FuncData} (G_l_cell_at : FnOk P w K mg base CX0 1 f_l_cell_at fd_l_cell_at ["_law_script", "_law_k"] (spCell K)) (m_l_cell_at : mg "_law_cell_at" = some (.ref f_l_cell_at)) (k_l_cell_at : PySem.W.keepIn K (.ref f_l_cell_at) = true) (b_l_cell_at : Binds K fd_l_cell_at ["_law_script", "_law_k"] []) {f_l_cut : Addr} {fd_l_cut : FuncData} (G_l_cut : FnOk P w K mg base CX0 1 f_l_cut fd_l_cut ["_law_ring_here", "_law_cell"] (spCut K)) (m_l_cut : mg "_law_cut" = some (.ref f_l_cut)) (k_l_cut : PySem.W.keepIn K (.ref f_l_cut) = true) (b_l_cut : Binds K fd_l_cut ["_law_ring_here", "_law_cell"] []) {f_l_ring : Addr} {fd_l_ring : FuncData} (G_l_ring : FnOk P w K mg base CX0 3 f_l_ring fd_l_ring ["_law_script"] (spRing K)) (m_l_ring : mg "_law_ring" = some (.ref f_l_ring)) (k_l_ring : PySem.W.keepIn K (.ref f_l_ring) = true) (b_l_ring : Binds K fd_l_ring ["_law_script"] []) {f_l_row : Addr} {fd_l_row : FuncData} (G_l_row : FnOk P w K mg base CX0 1 f_l_row fd_l_row ["_law_ring_here"] (spRow K)) (m_l_row : mg "_law_row" = some (.ref f_l_row)) (k_l_row : PySem.W.keepIn K (.ref f_l_row) = true) (b_l_row : Binds K fd_l_row ["_law_ring_here"] []) {f_l_size : Addr} {fd_l_size : FuncData} (G_l_size : FnOk P w K mg base CX0 1 f_l_size fd_l_size ["_law_ring_here"] (spSize K)) (m_l_size : mg "_law_size" = some (.ref f_l_size)) (k_l_size : PySem.W.keepIn K (.ref f_l_size) = true) (b_l_size : Binds K fd_l_size ["_law_ring_here"] []) {f_l_small : Addr} {fd_l_small : FuncData} (G_l_small : FnOk P w K mg base CX0 3 f_l_small fd_l_small ["_law_script", "_law_by"] (spSmall K)) (m_l_small : mg "_law_small" = some (.ref f_l_small)) (k_l_small : PySem.W.keepIn K (.ref f_l_small) = true) (b_l_small : Binds K fd_l_small ["_law_script", "_law_by"] []) {f_l_table : Addr} {fd_l_table : FuncData} (G_l_table : FnOk P w K mg base CX0 1 f_l_table fd_l_table ["_law_ring_here"] (spTable K)) (m_l_table : mg "_law_table" = some (.ref f_l_table)) (k_l_table : PySem.W.keepIn K (.ref f_l_table) = true) (b_l_table : Binds K fd_l_table ["_law_ring_here"] []) {f_among : Addr} {fd_among : FuncData} (G_among : FnOk P w K mg base CX0 4 f_among fd_among ["ring", "place", "many"] (spAmong K)) (m_among : mg "among" = some (.ref f_among)) (k_among : PySem.W.keepIn K (.ref f_among) = true) (b_among : Binds K fd_among ["ring", "place", "many"] []) {f_beads : Addr} {fd_beads : FuncData} (G_beads : FnOk P w K mg base CX0 4 f_beads fd_beads ["ring"] (spBeads K)) (m_beads : mg "beads" = some (.ref f_beads)) (k_beads : PySem.W.keepIn K (.ref f_beads) = true) (b_beads : Binds K fd_beads ["ring"] []) {f_kind_at : Addr} {fd_kind_at : FuncData} (G_kind_at : FnOk P w K mg base CX0 4 f_kind_at fd_kind_at ["ring", "place"] (spKind K)) (m_kind_at : mg "kind_at" = some (.ref f_kind_at)) (k_kind_at : PySem.W.keepIn K (.ref f_kind_at) = true) (b_kind_at : Binds K fd_kind_at ["ring", "place"] []) : FnOk P w K mg base CX0 6 f fd ["_law_script"] (spLaw K) := by
  have nd := sc_law.nd
  refine F.ok sc_law (fun vs H Q E h => ?_) (fun cdv A outer s H vs Q E hr h => ?_)
  · obtain ⟨a, ns, rfl, _⟩ := h
    rfl
  · obtain ⟨a, ns, rfl, hS, hB, q⟩ := h
    refine ⟨_, (pss_cons (ps_set (i := 1) nd rfl (Or.inl rfl) (pe_call G_l_ring (hr.mono (by decide)) (by rfl) m_l_ring k_l_ring b_l_ring .nil pass0 (pa_cons (pv 0) pa_nil)))
  (pss_cons (ps_par3 (i := 2) (j := 3) (l := 4) (by rfl) nd rfl rfl rfl (by decide) (by decide) (by decide) rfl rfl rfl (pa_cons (pe_callTy c_list (by rfl) T.z_list (by decide +kernel) (pa_cons (pv 1) pa_nil)) (pa_cons (pe_call G_l_size (hr.mono (by decide)) (by rfl) m_l_size k_l_size b_l_size .nil pass0 (pa_cons (pv 1) pa_nil)) (pa_cons (pe_op op_mod (pe_call G_l_cell_at (hr.mono (by decide)) (by rfl) m_l_cell_at k_l_cell_at b_l_cell_at .nil pass0 (pa_cons (pv 0) (pa_cons pe_int pa_nil))) (pe_op op_pow pe_int pe_int)) pa_nil))) (by rfl))
  (pss_cons (ps_set (i := 5) nd rfl (Or.inl rfl) (pe_call G_beads (hr.mono (by decide)) (by rfl) m_beads k_beads b_beads .nil pass0 (pa_cons (pv 1) pa_nil)))
  (pss_cons (ps_set (i := 6) nd rfl (Or.inl rfl) (pe_ix ix_list (pe_ix ix_tup (pe_call G_l_table (hr.mono (by decide)) (by rfl) m_l_table k_l_table b_l_table .nil pass0 (pa_cons (pv 1) pa_nil)) pe_int (fun _ _ => rfl)) (pe_un un_neg pe_int) (fun _ _ => rfl)))
  (pss_cons (ps_if (PW.pt (pw_or (pt_not (pt_val (pe_callB call_isi (by rfl) T.z_isinstance (by decide +kernel) (pa_cons (pv 5) (pa_cons (pe_bltn (v := .ty "tuple") (by rfl) T.z_tuple (by decide +kernel) rfl) pa_nil))))) (pw_or1 (pt_cmpR (op_neD hr.units) (pv 5) (pe_tup (pa_cons (pv 6) (pa_cons (pe_op op_sub (pv 3) (pv 6)) pa_nil))) (nomark _))))) (pss_one (ps_ret pe_bl)) pss_nil)
  (pss_cons (ps_set (i := 7) nd rfl (Or.inl rfl) pe_int)
  (pss_cons (ps_for PassesOwn.never rfl (pi_list (pv 1)) (pg_tup rfl (pgs_cons (pg_name (i := 8) nd rfl (Or.inl rfl)) (pgs_cons (pg_name (i := 9) nd rfl (Or.inl rfl)) pgs_nil)))
  (pss_cons (ps_set (i := 10) nd rfl (Or.inl rfl) (pe_op op_add (pv 7) (pe_op op_mod (pe_op op_add (pv 4) (pe_op op_mulX pe_int (pv 7))) (pv 9))))
  (pss_cons (ps_if (PW.pt (pw_or (pt_cmpR op_ne (pe_call G_kind_at (hr.mono (by decide)) (by rfl) m_kind_at k_kind_at b_kind_at .nil pass0 (pa_cons (pv 1) (pa_cons (pv 7) pa_nil))) (pv 8) (nomark _)) (pw_or (pt_cmpR op_ne (pe_call G_kind_at (hr.mono (by decide)) (by rfl) m_kind_at k_kind_at b_kind_at .nil pass0 (pa_cons (pv 1) (pa_cons (pe_op op_sub (pe_op op_add (pv 7) (pv 9)) pe_int) pa_nil))) (pv 8) (nomark _)) (pw_or1 (pt_cmpR op_ne (pe_call G_kind_at (hr.mono (by decide)) (by rfl) m_kind_at k_kind_at b_kind_at .nil pass0 (pa_cons (pv 1) (pa_cons (pv 10) pa_nil))) (pv 8) (nomark _)))))) (pss_one (ps_ret pe_bl)) pss_nil)
  (pss_one (ps_set (i := 7) nd rfl (Or.inl rfl) (pe_op op_add (pv 7) (pv 9)))))))
  (pss_cons (ps_par (i := 11) (j := 12) (by rfl) nd rfl rfl (by decide) rfl rfl (pa_cons (pe_call G_l_cut (hr.mono (by decide)) (by rfl) m_l_cut k_l_cut b_l_cut .nil pass0 (pa_cons (pv 1) (pa_cons (pv 4) pa_nil))) (pa_cons (pe_op op_mod (pv 4) (pe_callB c_len (by rfl) T.z_len (by decide +kernel) (pa_cons (pv 1) pa_nil))) pa_nil)) (by rfl))
  (pss_cons (ps_set (i := 13) nd rfl (Or.inl rfl) (pe_op op_cat (pe_slice sl_list (pv 1) (po_some (pv 12)) po_none) (pe_slice sl_list (pv 1) po_none (po_some (pv 12)))))
  (pss_cons (ps_set (i := 14) nd rfl (Or.inl rfl) (pe_call G_l_size (hr.mono (by decide)) (by rfl) m_l_size k_l_size b_l_size .nil pass0 (pa_cons (pe_slice sl_list (pv 1) po_none (po_some (pv 12))) pa_nil)))
  (pss_cons (ps_for PassesOwn.never rfl (pi_tup (pe_tup (pa_cons pe_int (pa_cons (pe_op op_sub (pv 3) pe_int) (pa_cons (pe_op op_mod (pv 4) (pv 3)) (pa_cons (pe_op op_mod (pe_call G_l_cell_at (hr.mono (by decide)) (by rfl) m_l_cell_at k_l_cell_at b_l_cell_at .nil pass0 (pa_cons (pv 0) (pa_cons pe_int pa_nil))) (pv 3)) pa_nil)))))) (pg_name (i := 15) nd rfl (Or.inl rfl))
  (pss_cons (ps_set (i := 16) nd rfl (Or.inl rfl) (pe_op op_mod (pe_call G_l_cell_at (hr.mono (by decide)) (by rfl) m_l_cell_at k_l_cell_at b_l_cell_at .nil pass0 (pa_cons (pv 0) (pa_cons pe_int pa_nil))) (pe_op op_mulX pe_int (pv 3))))
  (pss_cons (ps_for PassesOwn.never rfl (pi_tup (pe_tup (pa_cons pe_int (pa_cons pe_int (pa_cons (pv 3) (pa_cons (pv 4) (pa_cons (pe_op op_add (pe_op op_mulX (pv 3) pe_int) pe_int) (pa_cons (pv 16) pa_nil)))))))) (pg_name (i := 9) nd rfl (Or.inl rfl))
  (pss_cons (ps_if (pt_not (pt_val (pe_call G_l_among_right (hr.mono (by decide)) (by rfl) m_l_among_right k_l_among_right b_l_among_right .nil pass0 (pa_cons (pv 1) (pa_cons (pv 15) (pa_cons (pv 9) pa_nil)))))) (pss_one (ps_ret pe_bl)) pss_nil)
  (pss_cons (ps_if (pt_cmpR op_ne (pe_call G_among (hr.mono (by decide)) (by rfl) m_among k_among b_among .nil pass0 (pa_cons (pv 11) (pa_cons (pv 15) (pa_cons (pv 9) pa_nil)))) (pe_call G_among (hr.mono (by decide)) (by rfl) m_among k_among b_among .nil pass0 (pa_cons (pv 1) (pa_cons (pv 15) (pa_cons (pv 9) pa_nil)))) (nomark _)) (pss_one (ps_ret pe_bl)) pss_nil)
  (pss_cons (ps_set (i := 17) nd rfl (Or.inl rfl) (pe_op op_mod (pe_op op_sub (pv 15) (pv 14)) (pv 3)))
  (pss_one (ps_if (pt_cmpR op_ne (pe_call G_among (hr.mono (by decide)) (by rfl) m_among k_among b_among .nil pass0 (pa_cons (pv 13) (pa_cons (pv 17) (pa_cons (pv 9) pa_nil)))) (pe_call G_among (hr.mono (by decide)) (by rfl) m_among k_among b_among .nil pass0 (pa_cons (pv 1) (pa_cons (pv 15) (pa_cons (pv 9) pa_nil)))) (nomark _)) (pss_one (ps_ret pe_bl)) pss_nil))))))
  (pss_one (ps_if (pt_cmpR op_ne (pe_call G_kind_at (hr.mono (by decide)) (by rfl) m_kind_at k_kind_at b_kind_at .nil pass0 (pa_cons (pv 11) (pa_cons (pv 15) pa_nil))) (pe_call G_kind_at (hr.mono (by decide)) (by rfl) m_kind_at k_kind_at b_kind_at .nil pass0 (pa_cons (pv 1) (pa_cons (pv 15) pa_nil))) (nomark _)) (pss_one (ps_ret pe_bl)) pss_nil)))))
  (pss_cons (ps_set (i := 18) nd rfl (Or.inl rfl) (pe_call G_l_row (hr.mono (by decide)) (by rfl) m_l_row k_l_row b_l_row .nil pass0 (pa_cons (pe_call G_l_small (hr.mono (by decide)) (by rfl) m_l_small k_l_small b_l_small .nil pass0 (pa_cons (pv 0) (pa_cons pe_int pa_nil))) pa_nil)))
  (pss_cons (ps_if (pt_cmpR op_ne (pe_joinN pe_str (pe_lc (g := (gName 15)) (own := [("_law_place", 15)]) (by rfl) nd (pi_range1 (by rfl) T.z_range (pa_cons (pe_callB c_lenS (by rfl) T.z_len (by decide +kernel) (pa_cons (pv 18) pa_nil)) pa_nil)) (blkOk_by (own := [("_law_place", 15)]) (N := ["_law_script", "_law_ring_here", "_law_kept", "_law_size_here", "_law_cell", "_law_told", "_law_mine", "_law_at", "_law_kind", "_law_many", "_law_drawn", "_law_cut_here", "_law_turn", "_law_turned", "_law_far", "_law_place", "_law_some", "_law_here", "_law_row_here"]) (sc := defScope s_law) (by decide +kernel)) (fun _ _ _ _ _ => (pg_name (i := 15) nd rfl (Or.inl rfl) (.inr rfl))) (fun _ _ _ _ _ => pts_nil) (fun _ _ _ _ _ => (pe_call G_kind_at (hr.mono (by decide)) (by rfl) m_kind_at k_kind_at b_kind_at .nil pass0 (pa_cons (pe_call G_l_small (hr.mono (by decide)) (by rfl) m_l_small k_l_small b_l_small .nil pass0 (pa_cons (pv 0) (pa_cons pe_int pa_nil))) (pa_cons (pv 15) pa_nil)))))) (pv 18) (nomark _)) (pss_one (ps_ret pe_bl)) pss_nil)
  (pss_one (ps_ret (pe_and (pe_cmpR (op_eqD hr.units) (pv 1) (pv 2) (nomark _)) (pe_and (pe_cmpR op_eq (pe_call G_among (hr.mono (by decide)) (by rfl) m_among k_among b_among .nil pass0 (pa_cons (pe_lst (pa_cons (pe_tup (pa_cons pe_str (pa_cons pe_int pa_nil))) (pa_cons (pe_tup (pa_cons pe_str (pa_cons pe_int pa_nil))) pa_nil))) (pa_cons pe_int (pa_cons pe_int pa_nil)))) pe_int (nomark _)) (pe_one (pe_cmpR (op_eqD hr.units) (pe_call G_beads (hr.mono (by decide)) (by rfl) m_beads k_beads b_beads .nil pass0 (pa_cons (pe_lst (pa_cons (pe_tup (pa_cons pe_str (pa_cons pe_int pa_nil))) pa_nil)) pa_nil)) (pe_tup (pa_cons pe_int (pa_cons pe_int pa_nil))) (nomark _)))))))))))))))))))), ?_⟩
    have cp40 : CPow 10 40 := by unfold CPow; decide
    have e40 : ∀ {σ : Sg} {H : Hp}, Ev (tOp (rI CPow fun i j => .int (i ^ j.toNat)) (tC (.int 10)) (tC (.int 40))) σ H (.int t40) := fun {σ H} => ev_op ev_c ev_c (rv_I cp40)
    have t40p : 0 < t40 := by rw [t40_eq]; decide
    -- the ring
    have g := ring_good ns
    have hl63 := ring_len ns
    refine q_asgP (ev_callP (ea_cons (ev_var rfl) ea_nil) (sv_ring hS hB)) fun v H1 e1 hP => ?_
    obtain ⟨p1, rfl, hR⟩ := hP
    generalize ringF ns = r at *
    have hl : r.length ≤ 40000 := Nat.le_trans g.len (by decide)
    have hs := g.size
    have hst := g.sizeTop
    have hpos := g.pos
    have hc0 := cnt_nonneg g.pos
    have hc1 := cnt_le g.pos
    -- kept, size, cell
    refine q_par3P (P := IsRing K r) (y := .int (sizeR r)) (z := .int (cellF ns 2 % t40)) (ep_F (ef_list (ev_var rfl) hR)) (fun H2 e2 => ev_call (ea_cons (ev_var rfl) ea_nil) (sv_size (hR.mono e2) hl)) (fun H2 e2 => ev_op (ev_call (ea_cons (ev_var rfl) (ea_cons ev_c ea_nil)) (sv_cell 2 (ex_l (e1.trans e2) hS))) e40 (rv_I t40p)) fun v H1' H2 e1' e2 hP => ?_
    obtain ⟨p2, rfl, hK0⟩ := hP
    have hK2 := hK0.mono e2
    have hc0' : 0 ≤ cellF ns 2 % t40 := Int.emod_nonneg _ (by omega)
    have hc1' : cellF ns 2 % t40 < t40 := Int.emod_lt_of_pos _ t40p
    generalize cellF ns 2 % t40 = c at *
    rw [t40_eq] at hc1'
    have e02 : Ex H H2 := (e1.trans e1').trans e2
    have hR2 : RingAt K H2 p1 r := hR.mono (e1'.trans e2)
    have hS2 := ex_l e02 hS
    clear hR hK0 hS e1 e1' e2
    -- told, mine
    refine q_asgP (ev_callP (ea_cons (ev_var rfl) ea_nil) (sv_beads hR2 g)) fun v H3 e3 hP => ?_
    obtain ⟨tb, rfl, htb⟩ := hP
    refine q_asg (v := .int (cntA r)) (ev_opP1 (P := IsL K (sumsTo r r.length)) (ep_opP1 (P := IsTab K r) (ev_callP (ea_cons (ev_var rfl) ea_nil) (sv_table (hR2.mono e3) hl)) ev_c fun v H4 e4 hP => ?_) (ev_un ev_c ru_neg) fun v H4 e4 hP => ?_) fun H4 e4 => ?_
    · obtain ⟨t, a1, b1, rfl, h1, h2, h3⟩ := hP
      exact ⟨.ref b1, rv_ixT h1 (atI_nat (j := 1) rfl), fun H5 e5 => ⟨b1, rfl, ex_l e5 h3⟩⟩
    · obtain ⟨b1, rfl, h3⟩ := hP
      exact rv_ixL h3 (by rw [sums_last, List.take_length])
    have htb4 := ex_t e4 htb
    refine q_when (b := false) ?_ (fun hb => nomatch hb) fun _ H5 e5 => ?_
    · refine et_is (a := (!true || false)) (et_or (et_not (et_B (ev_isi (d := "tuple") (ev_var rfl) (fun H5 e5 => tyT (ex_t e5 htb4)) (by decide +kernel)))) fun _ => et_test (ev_opU (xs := [.int (cntA r), .int (sizeR r - cntA r)]) (ev_var (v := .ref tb) rfl) (eu_tup (ea_cons (ev_var rfl) (ea_cons (ev_op (ev_var rfl) (ev_var rfl) rv_I0) ea_nil)) (by simp only [List.length_cons, List.length_nil]; decide)) fun p H5 hp e5 => ?_)) rfl
      refine rv_val fun H6 e6 Q q => ⟨_, _, dp_pair (ex_t (e5.trans e6) htb4), dp_pair (st_of (e6 _ _ hp)), pair_shaped _ _, pair_shaped _ _, ?_⟩
      rw [pair_refl]
      exact q
    have e25 := (e3.trans e4).trans e5
    have hR5 := hR2.mono e25
    have hK5 := hK2.mono e25
    have hS5 := ex_l e25 hS2
    clear e3 e4 e5 e25 hR2 hK2 hS2 htb4 htb e02 e40
    -- the kinds, stretch by stretch
    refine q_asg (v := .int 0) ev_c fun H6 e6 => ?_
    refine q_forR (K := K) (r := r) (ev_var (v := .ref p1) rfl) (hR5.mono e6) (fun i σ' H' => Ex H6 H' ∧ ∃ y8 y9 y10 : Option V, σ' = [some (.ref a), some (.ref p1), some (.ref p2), some (.int (sizeR r)), some (.int c), some (.ref tb), some (.int (cntA r)), some (.int (sizeR (r.take i))), y8, y9, y10, none, none, none, none, none, none, none, none])
      (fun H7 e7 => ⟨e7, none, none, none, rfl⟩) (fun i σ' H' p => p.1) (fun i x σ' H' hx p => ?_) (fun σ' H' p => ?_)
    · obtain ⟨e7, y8, y9, y10, rfl⟩ := p
      have hR7 := hR5.mono (e6.trans e7)
      have hx1 := hpos x (mem_at hx)
      have hat0 := size_nonneg (hpos.take i)
      have hat1 : sizeR (r.take i) + x.2 ≤ sizeR r := by
        have h1 := size_take_succ hx
        have h2 := size_take_drop r (i + 1)
        have h3 := size_nonneg (hpos.drop (i + 1))
        omega
      have hnext := size_take_succ hx
      have hkind : ∀ d, 0 ≤ d → d < x.2 → kindR r (sizeR (r.take i) + d) = x.1 := fun d d0 d1 => kind_at' hpos hx d0 d1
      generalize sizeR (r.take i) = at' at *
      have b31 : Bt 20 31 := by unfold Bt; decide
      have ba : Bt 208 at' := Bt.small 208 hat0 (by omega) (by decide)
      have hd0 := Int.emod_nonneg (c + 31 * at') (show x.2 ≠ 0 by omega)
      have hd1 := Int.emod_lt_of_pos (c + 31 * at') (show 0 < x.2 by omega)
      refine q_asg (v := .int (at' + (c + 31 * at') % x.2)) (ev_op (ev_var rfl) (ev_op (ev_op (ev_var rfl) (ev_op ev_c (ev_var rfl) (rv_I (b31.mulx ba (by decide)))) rv_I0) (ev_var rfl) (rv_I (by omega))) rv_I0) fun H8 e8 => ?_
      have hR8 := hR7.mono e8
      generalize (c + 31 * at') % x.2 = dr at *
      have hne : ∀ p, kindR r p = x.1 → (!decide (V.str (kl (kindR r p)) = V.str (kl x.1))) = false := fun p hp => by
        rw [hp, decide_eq_true rfl]
        rfl
      refine q_when (b := false) ?_ (fun hb => nomatch hb) fun _ H9 e9 => ?_
      · refine et_is (a := (false || (false || false))) (et_or ?_ fun _ => et_or ?_ fun _ => ?_) rfl
        · exact et_is (et_test (ev_op (ev_call (ea_cons (ev_var rfl) (ea_cons (ev_var rfl) ea_nil)) (sv_kind (p := at') hR8 g hat0 (by omega))) (ev_var (v := .str (kl x.1)) rfl) (rv_ne rfl))) (hne _ (by have := hkind 0 (by omega) (by omega); rwa [Int.add_zero] at this))
        · exact et_is (et_test (ev_op (ev_call (ea_cons (ev_var rfl) (ea_cons (ev_op (ev_op (ev_var rfl) (ev_var rfl) rv_I0) ev_c rv_I0) ea_nil)) (sv_kind (p := at' + x.2 - 1) hR8 g (by omega) (by omega))) (ev_var (v := .str (kl x.1)) rfl) (rv_ne rfl))) (hne _ (by have := hkind (x.2 - 1) (by omega) (by omega); rwa [show at' + (x.2 - 1) = at' + x.2 - 1 by omega] at this))
        · exact et_is (et_test (ev_op (ev_call (ea_cons (ev_var rfl) (ea_cons (ev_var rfl) ea_nil)) (sv_kind (p := at' + dr) hR8 g (by omega) (by omega))) (ev_var (v := .str (kl x.1)) rfl) (rv_ne rfl))) (hne _ (hkind dr hd0 hd1))
      · refine s_asg (v := .int (at' + x.2)) (ev_op (ev_var rfl) (ev_var rfl) rv_I0) fun H10 e10 => ?_
        refine ⟨((e7.trans e8).trans e9).trans e10, some (.str (kl x.1)), some (.int x.2), some (.int (at' + dr)), ?_⟩
        rw [hnext]
        rfl
    · obtain ⟨e7, y8, y9, y10, rfl⟩ := p
      have e57 := e6.trans e7
      have hR7 := hR5.mono e57
      have hK7 := hK5.mono e57
      have hS7 := ex_l e57 hS5
      rw [List.take_length]
      generalize H' = H7 at *
      clear hR5 hK5 hS5 e6 e7 e57
      -- cut, turn
      have hlen0 : 0 < r.length := by
        cases r with
        | nil => exact absurd rfl g.ne
        | cons x r => simp
      have hct0 := Int.emod_nonneg c (show (r.length : Int) ≠ 0 by omega)
      have hct1 := Int.emod_lt_of_pos c (show 0 < (r.length : Int) by omega)
      obtain ⟨vs7, hvs7, hit7⟩ := id hR7
      refine q_parP (P := fun v H' => ∃ r', Cut r r' ∧ IsRing K r' v H') (y := .int (c % (r.length : Int))) (ev_callP (ea_cons (ev_var rfl) (ea_cons (ev_var rfl) ea_nil)) (sv_cut hR7 g hc0' (by omega))) (fun H8 e8 => ev_op (ev_var rfl) (ev_is (ev_len (ev_var rfl) (ex_l e8 hvs7)) (by rw [hit7.1])) (rv_I (by omega))) fun v H8' H8 e8' e8 hP => ?_
      obtain ⟨rc, hCut, p3, rfl, hC0⟩ := hP
      have hC8 := hC0.mono e8
      have e78 := e8'.trans e8
      have hR8 := hR7.mono e78
      have hK8 := hK7.mono e78
      have hS8 := ex_l e78 hS7
      have gc : Good rc := ⟨hCut.ne g.ne, by
        have h1 := hCut.length
        omega, hCut.pos hpos, hCut.under g.top⟩
      obtain ⟨tn, htn⟩ : ∃ tn : Nat, c % (r.length : Int) = (tn : Int) := ⟨(c % (r.length : Int)).toNat, by omega⟩
      rw [htn] at hct0 hct1 ⊢
      have htn2 : tn < r.length := by omega
      clear hR7 hK7 hS7 hC0 e8 e8' e78 hvs7 hit7
      have hps : Pos (r.take tn) := hpos.take tn
      have hqs : Pos (r.drop tn) := hpos.drop tn
      have hqne : r.drop tn ≠ [] := by
        intro z
        have := congrArg List.length z
        rw [List.length_drop, List.length_nil] at this
        omega
      have hpq : r.take tn ++ r.drop tn = r := List.take_append_drop tn r
      refine q_asgF (K := K) (r := r.drop tn ++ r.take tn) (ef_cat2 (ef_from (ev_var rfl) (ev_var rfl) hR8) (ef_to (ev_var rfl) (ev_var rfl) hR8) (by rw [List.length_drop, List.length_take]; omega)) fun p4 vs4 H9 n9 e9 h9 i9 => ?_
      have hT9 : RingAt K H9 p4 (r.drop tn ++ r.take tn) := ⟨vs4, sq_of h9, i9⟩
      have sizeT : sizeR (r.drop tn ++ r.take tn) = sizeR r := by
        have h := size_take_drop r tn
        rw [size_append]
        omega
      have gt : Good (r.drop tn ++ r.take tn) := ⟨by simp [hqne], by
        have := g.len
        rw [List.length_append, List.length_drop, List.length_take]
        omega, hqs.append hps, fun x hx => by
        rcases List.mem_append.mp hx with h | h
        · exact g.top x (List.mem_of_mem_drop h)
        · exact g.top x (List.mem_of_mem_take h)⟩
      refine q_asg (v := .int (sizeR (r.take tn))) (ev_call1 (P := IsRing K (r.take tn)) (ep_F (ef_to (ev_var rfl) (ev_var rfl) (hR8.mono e9))) ea_nil fun v H10 e10 hP => ?_) fun H10 e10 => ?_
      · obtain ⟨p5, rfl, h5⟩ := hP
        exact sv_size h5 (by rw [List.length_take]; omega)
      have hturned : ∀ p m, amongF (r.drop tn ++ r.take tn) ((p - sizeR (r.take tn)) % sizeR r) m = amongF r p m := fun p m => by
        have h := among_turned hps hqs hqne p m
        rw [hpq] at h
        exact h
      have hfar0 := size_nonneg hps
      have e810 := e9.trans e10
      have hR10 := hR8.mono e810
      have hK10 := hK8.mono e810
      have hC10 := hC8.mono e810
      have hT10 := hT9.mono e10
      have hS10 := ex_l e810 hS8
      generalize r.drop tn ++ r.take tn = rt at *
      generalize sizeR (r.take tn) = far at *
      clear hR8 hK8 hC8 hT9 hS8 e9 e10 e810 h9 i9 n9
      -- places and counts
      have hcs0 := Int.emod_nonneg c (show sizeR r ≠ 0 by omega)
      have hcs1 := Int.emod_lt_of_pos c (show 0 < sizeR r by omega)
      have h30 := Int.emod_nonneg (cellF ns 3) (show sizeR r ≠ 0 by omega)
      have h31 := Int.emod_lt_of_pos (cellF ns 3) (show 0 < sizeR r by omega)
      have h40 := Int.emod_nonneg (cellF ns 4) (show 2 * sizeR r ≠ 0 by omega)
      have h41 := Int.emod_lt_of_pos (cellF ns 4) (show 0 < 2 * sizeR r by omega)
      have b2 : Bt 20 2 := by unfold Bt; decide
      have b5 : Bt 20 5 := by unfold Bt; decide
      have bS : Bt 208 (sizeR r) := Bt.small 208 (by omega) hst (by decide)
      have hplaces : ∀ v ∈ [V.int 0, V.int (sizeR r - 1), V.int (c % sizeR r), V.int (cellF ns 3 % sizeR r)], ∃ p, v = .int p ∧ 0 ≤ p ∧ p < sizeR r := fun v hv => by
        simp only [List.mem_cons, List.not_mem_nil, or_false] at hv
        rcases hv with rfl | rfl | rfl | rfl
        · exact ⟨_, rfl, by omega, by omega⟩
        · exact ⟨_, rfl, by omega, by omega⟩
        · exact ⟨_, rfl, hcs0, hcs1⟩
        · exact ⟨_, rfl, h30, h31⟩
      refine q_forU (K := K) (xs := [V.int 0, V.int (sizeR r - 1), V.int (c % sizeR r), V.int (cellF ns 3 % sizeR r)]) (eu_tup (ea_cons ev_c (ea_cons (ev_op (ev_var rfl) ev_c rv_I0) (ea_cons (ev_op (ev_var rfl) (ev_var rfl) (rv_I (by omega))) (ea_cons (ev_op (ev_call (ea_cons (ev_var rfl) (ea_cons ev_c ea_nil)) (sv_cell 3 hS10)) (ev_var rfl) (rv_I (by omega))) ea_nil)))) (by simp only [List.length_cons, List.length_nil]; decide))
        (fun H11 i σ' H' => Ex H11 H' ∧ ∃ y9 y15 y16 y17 : Option V, σ' = [some (.ref a), some (.ref p1), some (.ref p2), some (.int (sizeR r)), some (.int c), some (.ref tb), some (.int (cntA r)), some (.int (sizeR r)), y8, y9, y10, some (.ref p3), some (.int (tn : Int)), some (.ref p4), some (.int far), y15, y16, y17, none])
        (fun H11 e11 => ⟨Ex.refl H11, y9, none, none, none, rfl⟩) (fun H11 i σ' H' _ p => p.1) (fun H11 i v σ' H' e11 hv p => ?_) (fun H11 σ' H' e11 p => ?_)
      · obtain ⟨e12, z9, z15, z16, z17, rfl⟩ := p
        obtain ⟨pl, rfl, pl0, pl1⟩ := hplaces v (List.mem_of_getElem? hv)
        have e1012 := e11.trans e12
        have hR12 := hR10.mono e1012
        have hC12 := hC10.mono e1012
        have hT12 := hT10.mono e1012
        have hS12 := ex_l e1012 hS10
        refine q_asg (v := .int (cellF ns 4 % (2 * sizeR r))) (ev_op (ev_call (ea_cons (ev_var rfl) (ea_cons ev_c ea_nil)) (sv_cell 4 hS12)) (ev_op ev_c (ev_var rfl) (rv_I (b2.mulx bS (by decide)))) (rv_I (by omega))) fun H13 e13 => ?_
        have hR13 := hR12.mono e13
        have hC13 := hC12.mono e13
        have hT13 := hT12.mono e13
        have hmanys : ∀ v ∈ [V.int 0, V.int 1, V.int (sizeR r), V.int c, V.int (sizeR r * 5 + 3), V.int (cellF ns 4 % (2 * sizeR r))], ∃ m, v = .int m ∧ 0 ≤ m ∧ m < 2 ^ 399 := fun v hv => by
          simp only [List.mem_cons, List.not_mem_nil, or_false] at hv
          rcases hv with rfl | rfl | rfl | rfl | rfl | rfl
          · exact ⟨_, rfl, by omega, by omega⟩
          · exact ⟨_, rfl, by omega, by omega⟩
          · exact ⟨_, rfl, by omega, by omega⟩
          · exact ⟨_, rfl, hc0', by omega⟩
          · exact ⟨_, rfl, by omega, by omega⟩
          · exact ⟨_, rfl, h40, by omega⟩
        generalize cellF ns 4 % (2 * sizeR r) = sm at *
        refine q_forU (K := K) (xs := [V.int 0, V.int 1, V.int (sizeR r), V.int c, V.int (sizeR r * 5 + 3), V.int sm]) (eu_tup (ea_cons ev_c (ea_cons ev_c (ea_cons (ev_var rfl) (ea_cons (ev_var rfl) (ea_cons (ev_op (ev_op (ev_var rfl) ev_c (rv_I (bS.mulx b5 (by decide)))) ev_c rv_I0) (ea_cons (ev_var rfl) ea_nil)))))) (by simp only [List.length_cons, List.length_nil]; decide))
          (fun H14 i σ' H' => Ex H14 H' ∧ ∃ y9 y17 : Option V, σ' = [some (.ref a), some (.ref p1), some (.ref p2), some (.int (sizeR r)), some (.int c), some (.ref tb), some (.int (cntA r)), some (.int (sizeR r)), y8, y9, y10, some (.ref p3), some (.int (tn : Int)), some (.ref p4), some (.int far), some (.int pl), some (.int sm), y17, none])
          (fun H14 e14 => ⟨Ex.refl H14, z9, z17, rfl⟩) (fun H14 i σ' H' _ p => p.1) (fun H14 i v σ' H' e14 hv p => ?_) (fun H14 σ' H' e14 p => ?_)
        · obtain ⟨e15, w9, w17, rfl⟩ := p
          obtain ⟨m, rfl, m0, m1⟩ := hmanys v (List.mem_of_getElem? hv)
          have hR15 := hR13.mono (e14.trans e15)
          have hC15 := hC13.mono (e14.trans e15)
          have hT15 := hT13.mono (e14.trans e15)
          have pc1 : pl < sizeR rc := by rw [hCut.size]; exact pl1
          have same : ∀ i j : Int, i = j → (!decide (V.int i = V.int j)) = false := fun i j e => by
            rw [e, decide_eq_true rfl]
            rfl
          refine q_when (b := !true) (et_not (et_B (ev_call (ea_cons (ev_var rfl) (ea_cons (ev_var rfl) (ea_cons (ev_var rfl) ea_nil))) (sv_right hR15 g pl0 pl1 m0 m1)))) (fun hb => nomatch hb) fun _ H16 e16 => ?_
          refine q_when (b := false) (et_is (et_test (ev_op (ev_call (ea_cons (ev_var rfl) (ea_cons (ev_var rfl) (ea_cons (ev_var rfl) ea_nil))) (sv_among (hC15.mono e16) gc pl0 pc1 m0 m1)) (ev_call (ea_cons (ev_var rfl) (ea_cons (ev_var rfl) (ea_cons (ev_var rfl) ea_nil))) (sv_among (hR15.mono e16) g pl0 pl1 m0 m1)) (rv_ne rfl))) (same _ _ (hCut.among hpos g.ne pl m))) (fun hb => nomatch hb) fun _ H17 e17 => ?_
          have hh0 := Int.emod_nonneg (pl - far) (show sizeR r ≠ 0 by omega)
          have hh1 := Int.emod_lt_of_pos (pl - far) (show 0 < sizeR r by omega)
          refine q_asg (v := .int ((pl - far) % sizeR r)) (ev_op (ev_op (ev_var rfl) (ev_var rfl) rv_I0) (ev_var rfl) (rv_I (by omega))) fun H18 e18 => ?_
          have e1518 := (e16.trans e17).trans e18
          refine s_when (b := false) (et_is (et_test (ev_op (ev_call (ea_cons (ev_var rfl) (ea_cons (ev_var rfl) (ea_cons (ev_var rfl) ea_nil))) (sv_among (hT15.mono e1518) gt hh0 (by rw [sizeT]; exact hh1) m0 m1)) (ev_call (ea_cons (ev_var rfl) (ea_cons (ev_var rfl) (ea_cons (ev_var rfl) ea_nil))) (sv_among (hR15.mono e1518) g pl0 pl1 m0 m1)) (rv_ne rfl))) (same _ _ (hturned pl m))) (fun hb => nomatch hb) fun _ H19 e19 => ?_
          exact ⟨(e15.trans e1518).trans e19, _, _, rfl⟩
        · obtain ⟨e15, w9, w17, rfl⟩ := p
          have e1315 := e14.trans e15
          have pc1 : pl < sizeR rc := by rw [hCut.size]; exact pl1
          refine s_when (b := false) (et_is (et_test (ev_op (ev_call (ea_cons (ev_var rfl) (ea_cons (ev_var rfl) ea_nil)) (sv_kind (hC13.mono e1315) gc pl0 pc1)) (ev_call (ea_cons (ev_var rfl) (ea_cons (ev_var rfl) ea_nil)) (sv_kind (hR13.mono e1315) g pl0 pl1)) (rv_ne rfl))) (by
            rw [hCut.kind pl0, decide_eq_true rfl]
            rfl)) (fun hb => nomatch hb) fun _ H16 e16 => ?_
          exact ⟨((e12.trans e13).trans e1315).trans e16, _, _, _, _, rfl⟩
      · obtain ⟨e12, z9, z15, z16, z17, rfl⟩ := p
        have e1012 := e11.trans e12
        have hR12 := hR10.mono e1012
        have hK12 := hK10.mono e1012
        have hS12 := ex_l e1012 hS10
        -- the small ring, bead by bead
        have hsm := small_ok ns 5
        have gsm := small_good ns 5
        have hsml := row_len hsm
        have hszb : sizeR (smallF ns 5) ≤ 30 := by
          have h := size_bound (B := 3) (r := smallF ns 5) fun x hx => (hsm.size x hx).2
          have h2 := hsm.len
          omega
        have hsz0 := size_nonneg hsm.pos
        have hrk := row_kinds hsm
        refine q_asg (v := .str (rowS (smallF ns 5))) (ev_call1 (P := IsRing K (smallF ns 5)) (ev_callP (ea_cons (ev_var rfl) (ea_cons ev_c ea_nil)) (sv_small hS12 hB (by decide) (by decide))) ea_nil fun v H13 e13 hP => ?_) fun H13 e13 => ?_
        · obtain ⟨p6, rfl, h6⟩ := hP
          exact sv_row h6 hsm
        have hR13 := hR12.mono e13
        have hK13 := hK12.mono e13
        have hS13 := ex_l e13 hS12
        refine q_when (b := false) ?_ (fun hb => nomatch hb) fun _ H14 e14 => ?_
        · refine et_is (et_test (ev_op (ev_join (ys := (List.range (sizeR (smallF ns 5)).toNat).map fun (i : Nat) => kl (kindR (smallF ns 5) (i : Int))) ev_c (el_lcR1 (n := ((rowS (smallF ns 5)).length : Int)) (fun _ => true) (fun i => .str (kl (kindR (smallF ns 5) (i : Int)))) (ea_cons (ev_cb (ea_cons (ev_var rfl) ea_nil) (rc_lenS (by omega))) ea_nil) (by omega) (fun _ => rfl) (fun i H14 e14 hi H15 _ Q q => q H15 (Ex.refl H15)) (fun i H14 e14 hi _ => ?_)) ?_ ?_) (ev_var (v := .str (rowS (smallF ns 5))) rfl) (rv_ne rfl))) ?_
          · refine ev_call1 (P := IsRing K (smallF ns 5)) (ev_callP (ea_cons (ev_var rfl) (ea_cons ev_c ea_nil)) (sv_small (ex_l e14 hS13) hB (by decide) (by decide))) (ea_cons (ev_var rfl) ea_nil) fun v H15 e15 hP => ?_
            obtain ⟨p6, rfl, h6⟩ := hP
            exact sv_kind h6 gsm (by omega) (by omega)
          · rw [given_all, List.map_map, show ((rowS (smallF ns 5)).length : Int).toNat = (sizeR (smallF ns 5)).toNat by rw [hsml]]
            rfl
          · rw [kl_lens _ fun s hs => by
              obtain ⟨i, _, rfl⟩ := List.mem_map.mp hs
              exact ⟨_, rfl⟩]
            have h0 : ("" : Str).length = 0 := by decide +kernel
            rw [h0, Nat.mul_zero, List.length_map, List.length_range]
            omega
          · rw [hrk, decide_eq_true rfl]
            rfl
        · have hR14 := hR13.mono e14
          have hK14 := hK13.mono e14
          refine s_ret (v := .bl true) (ev_is (v := .bl (true && (true && true))) (ev_andV ?_ fun _ => ev_andV ?_ fun _ => ?_) rfl) fun H15 e15 => q H15
          · refine ev_op (ev_var (v := .ref p1) rfl) (ev_var (v := .ref p2) rfl) (rv_val fun H15 e15 Q q => ⟨_, _, dp_ring (hR14.mono e15), dp_ring (hK14.mono e15), dat_shaped r, dat_shaped r, ?_⟩)
            rw [dat_refl]
            exact q
          · refine ev_is (ev_op (ev_call1 (P := IsRing K [(true, 2), (false, 1)]) (z := .int 5) (ep_F (ef_lst (ei_cons (b := true) (n := 2) (eu_tup (ea_cons ev_c (ea_cons ev_c ea_nil)) (by simp only [List.length_cons, List.length_nil]; decide)) (ei_cons (b := false) (n := 1) (eu_tup (ea_cons ev_c (ea_cons ev_c ea_nil)) (by simp only [List.length_cons, List.length_nil]; decide)) ei_nil)) (by decide))) (ea_cons ev_c (ea_cons ev_c ea_nil)) fun v H15 e15 hP => ?_) ev_c (rv_eq rfl)) (by rw [decide_eq_true rfl])
            obtain ⟨p7, rfl, h7⟩ := hP
            have := sv_among (m := 7) (p := 1) h7 good_ab (by decide) (by decide) (by decide) (by omega)
            rw [among_ab] at this
            exact this
          · refine ev_is (v := .bl true) (ev_opP (P := IsT K [.int (cntA [(false, 4)]), .int (sizeR [(false, 4)] - cntA [(false, 4)])]) (P' := IsT K [.int 0, .int 4]) (ev_call1P (P := IsRing K [(false, 4)]) (ep_F (ef_lst (ei_cons (b := false) (n := 4) (eu_tup (ea_cons ev_c (ea_cons ev_c ea_nil)) (by simp only [List.length_cons, List.length_nil]; decide)) ei_nil) (by decide))) ea_nil fun v H15 e15 hP => ?_) (fun H15 e15 => ep_U (eu_tup (ea_cons ev_c (ea_cons ev_c ea_nil)) (by simp only [List.length_cons, List.length_nil]; decide))) fun v w H15 H16 e15 e16 hv hw => ?_) rfl
            · obtain ⟨p7, rfl, h7⟩ := hP
              exact sv_beads h7 good_b
            · obtain ⟨t1, rfl, h1⟩ := hv
              obtain ⟨t2, rfl, h2⟩ := hw
              refine rv_val fun H17 e17 Q q => ⟨_, _, dp_pair (ex_t (e16.trans e17) h1), dp_pair (ex_t e17 h2), pair_shaped _ _, pair_shaped _ _, ?_⟩
              exact q
end

theorem all_mk {l : PySem.W.OpenLaw} {w : World} {K : PySem.W.Frag} {h : Heap} {mg : Str → Option Value} {fa : Addr} {tKIND_A tKIND_B : Tok}  (X : K.In h) (G : h.Ns mainGlobals mg) (hfa : mg "law" = some (.ref fa))
    {f_beads : Addr} {od_beads an_beads : Option Addr} {sl_beads : Array (Option Value)} {oc_beads kV_beads dc_beads pm_beads cd_beads ct_beads : Value}
    (a_beads : PySem.W.nsIn K mainGlobals "beads" = some (some (.ref f_beads)))
    (l_beads : K.lookup f_beads = some ⟨oc_beads, od_beads, .func (PySem.W.fnOf "beads" "beads" (defArgs s_beads) (defBody s_beads) (defScope s_beads) .none kV_beads dc_beads pm_beads an_beads cd_beads ct_beads), sl_beads⟩) (c_beads : PySem.W.codeIn K cd_beads "beads" = true) (k_beads : PySem.W.keepIn K (.ref f_beads) = true)
    {f_kind_at : Addr} {od_kind_at an_kind_at : Option Addr} {sl_kind_at : Array (Option Value)} {oc_kind_at kV_kind_at dc_kind_at pm_kind_at cd_kind_at ct_kind_at : Value}
    (a_kind_at : PySem.W.nsIn K mainGlobals "kind_at" = some (some (.ref f_kind_at)))
    (l_kind_at : K.lookup f_kind_at = some ⟨oc_kind_at, od_kind_at, .func (PySem.W.fnOf "kind_at" "kind_at" (defArgs s_kind_at) (defBody s_kind_at) (defScope s_kind_at) .none kV_kind_at dc_kind_at pm_kind_at an_kind_at cd_kind_at ct_kind_at), sl_kind_at⟩) (c_kind_at : PySem.W.codeIn K cd_kind_at "kind_at" = true) (k_kind_at : PySem.W.keepIn K (.ref f_kind_at) = true)
    {f_among : Addr} {od_among an_among : Option Addr} {sl_among : Array (Option Value)} {oc_among kV_among dc_among pm_among cd_among ct_among : Value}
    (a_among : PySem.W.nsIn K mainGlobals "among" = some (some (.ref f_among)))
    (l_among : K.lookup f_among = some ⟨oc_among, od_among, .func (PySem.W.fnOf "among" "among" (defArgs s_among) (defBody s_among) (defScope s_among) .none kV_among dc_among pm_among an_among cd_among ct_among), sl_among⟩) (c_among : PySem.W.codeIn K cd_among "among" = true) (k_among : PySem.W.keepIn K (.ref f_among) = true)
    {f_inside : Addr} {od_inside an_inside : Option Addr} {sl_inside : Array (Option Value)} {oc_inside kV_inside dc_inside pm_inside cd_inside ct_inside : Value}
    (a_inside : PySem.W.nsIn K mainGlobals "inside" = some (some (.ref f_inside)))
    (l_inside : K.lookup f_inside = some ⟨oc_inside, od_inside, .func (PySem.W.fnOf "inside" "inside" (defArgs s_inside) (defBody s_inside) (defScope s_inside) .none kV_inside dc_inside pm_inside an_inside cd_inside ct_inside), sl_inside⟩) (c_inside : PySem.W.codeIn K cd_inside "inside" = true) (k_inside : PySem.W.keepIn K (.ref f_inside) = true)
    {f_from_first : Addr} {od_from_first an_from_first : Option Addr} {sl_from_first : Array (Option Value)} {oc_from_first kV_from_first dc_from_first pm_from_first cd_from_first ct_from_first : Value}
    (a_from_first : PySem.W.nsIn K mainGlobals "from_first" = some (some (.ref f_from_first)))
    (l_from_first : K.lookup f_from_first = some ⟨oc_from_first, od_from_first, .func (PySem.W.fnOf "from_first" "from_first" (defArgs s_from_first) (defBody s_from_first) (defScope s_from_first) .none kV_from_first dc_from_first pm_from_first an_from_first cd_from_first ct_from_first), sl_from_first⟩) (c_from_first : PySem.W.codeIn K cd_from_first "from_first" = true) (k_from_first : PySem.W.keepIn K (.ref f_from_first) = true)
    {f_many_of : Addr} {od_many_of an_many_of : Option Addr} {sl_many_of : Array (Option Value)} {oc_many_of kV_many_of dc_many_of pm_many_of cd_many_of ct_many_of : Value}
    (a_many_of : PySem.W.nsIn K mainGlobals "many_of" = some (some (.ref f_many_of)))
    (l_many_of : K.lookup f_many_of = some ⟨oc_many_of, od_many_of, .func (PySem.W.fnOf "many_of" "many_of" (defArgs s_many_of) (defBody s_many_of) (defScope s_many_of) .none kV_many_of dc_many_of pm_many_of an_many_of cd_many_of ct_many_of), sl_many_of⟩) (c_many_of : PySem.W.codeIn K cd_many_of "many_of" = true) (k_many_of : PySem.W.keepIn K (.ref f_many_of) = true)
    {f_size : Addr} {od_size an_size : Option Addr} {sl_size : Array (Option Value)} {oc_size kV_size dc_size pm_size cd_size ct_size : Value}
    (a_size : PySem.W.nsIn K mainGlobals "size" = some (some (.ref f_size)))
    (l_size : K.lookup f_size = some ⟨oc_size, od_size, .func (PySem.W.fnOf "size" "size" (defArgs s_size) (defBody s_size) (defScope s_size) .none kV_size dc_size pm_size an_size cd_size ct_size), sl_size⟩) (c_size : PySem.W.codeIn K cd_size "size" = true) (k_size : PySem.W.keepIn K (.ref f_size) = true)
    {f_check_ring : Addr} {od_check_ring an_check_ring : Option Addr} {sl_check_ring : Array (Option Value)} {oc_check_ring kV_check_ring dc_check_ring pm_check_ring cd_check_ring ct_check_ring : Value}
    (a_check_ring : PySem.W.nsIn K mainGlobals "check_ring" = some (some (.ref f_check_ring)))
    (l_check_ring : K.lookup f_check_ring = some ⟨oc_check_ring, od_check_ring, .func (PySem.W.fnOf "check_ring" "check_ring" (defArgs s_check_ring) (defBody s_check_ring) (defScope s_check_ring) .none kV_check_ring dc_check_ring pm_check_ring an_check_ring cd_check_ring ct_check_ring), sl_check_ring⟩) (c_check_ring : PySem.W.codeIn K cd_check_ring "check_ring" = true) (k_check_ring : PySem.W.keepIn K (.ref f_check_ring) = true)
    {f_check_place : Addr} {od_check_place an_check_place : Option Addr} {sl_check_place : Array (Option Value)} {oc_check_place kV_check_place dc_check_place pm_check_place cd_check_place ct_check_place : Value}
    (a_check_place : PySem.W.nsIn K mainGlobals "check_place" = some (some (.ref f_check_place)))
    (l_check_place : K.lookup f_check_place = some ⟨oc_check_place, od_check_place, .func (PySem.W.fnOf "check_place" "check_place" (defArgs s_check_place) (defBody s_check_place) (defScope s_check_place) .none kV_check_place dc_check_place pm_check_place an_check_place cd_check_place ct_check_place), sl_check_place⟩) (c_check_place : PySem.W.codeIn K cd_check_place "check_place" = true) (k_check_place : PySem.W.keepIn K (.ref f_check_place) = true)
    {f_check_many : Addr} {od_check_many an_check_many : Option Addr} {sl_check_many : Array (Option Value)} {oc_check_many kV_check_many dc_check_many pm_check_many cd_check_many ct_check_many : Value}
    (a_check_many : PySem.W.nsIn K mainGlobals "check_many" = some (some (.ref f_check_many)))
    (l_check_many : K.lookup f_check_many = some ⟨oc_check_many, od_check_many, .func (PySem.W.fnOf "check_many" "check_many" (defArgs s_check_many) (defBody s_check_many) (defScope s_check_many) .none kV_check_many dc_check_many pm_check_many an_check_many cd_check_many ct_check_many), sl_check_many⟩) (c_check_many : PySem.W.codeIn K cd_check_many "check_many" = true) (k_check_many : PySem.W.keepIn K (.ref f_check_many) = true)
    {f_is_place : Addr} {od_is_place an_is_place : Option Addr} {sl_is_place : Array (Option Value)} {oc_is_place kV_is_place dc_is_place pm_is_place cd_is_place ct_is_place : Value}
    (a_is_place : PySem.W.nsIn K mainGlobals "is_place" = some (some (.ref f_is_place)))
    (l_is_place : K.lookup f_is_place = some ⟨oc_is_place, od_is_place, .func (PySem.W.fnOf "is_place" "is_place" (defArgs s_is_place) (defBody s_is_place) (defScope s_is_place) .none kV_is_place dc_is_place pm_is_place an_is_place cd_is_place ct_is_place), sl_is_place⟩) (c_is_place : PySem.W.codeIn K cd_is_place "is_place" = true) (k_is_place : PySem.W.keepIn K (.ref f_is_place) = true)
    {f_is_stretch : Addr} {od_is_stretch an_is_stretch : Option Addr} {sl_is_stretch : Array (Option Value)} {oc_is_stretch kV_is_stretch dc_is_stretch pm_is_stretch cd_is_stretch ct_is_stretch : Value}
    (a_is_stretch : PySem.W.nsIn K mainGlobals "is_stretch" = some (some (.ref f_is_stretch)))
    (l_is_stretch : K.lookup f_is_stretch = some ⟨oc_is_stretch, od_is_stretch, .func (PySem.W.fnOf "is_stretch" "is_stretch" (defArgs s_is_stretch) (defBody s_is_stretch) (defScope s_is_stretch) .none kV_is_stretch dc_is_stretch pm_is_stretch an_is_stretch cd_is_stretch ct_is_stretch), sl_is_stretch⟩) (c_is_stretch : PySem.W.codeIn K cd_is_stretch "is_stretch" = true) (k_is_stretch : PySem.W.keepIn K (.ref f_is_stretch) = true)
    {f_is_letter : Addr} {od_is_letter an_is_letter : Option Addr} {sl_is_letter : Array (Option Value)} {oc_is_letter kV_is_letter dc_is_letter pm_is_letter cd_is_letter ct_is_letter : Value}
    (a_is_letter : PySem.W.nsIn K mainGlobals "is_letter" = some (some (.ref f_is_letter)))
    (l_is_letter : K.lookup f_is_letter = some ⟨oc_is_letter, od_is_letter, .func (PySem.W.fnOf "is_letter" "is_letter" (defArgs s_is_letter) (defBody s_is_letter) (defScope s_is_letter) .none kV_is_letter dc_is_letter pm_is_letter an_is_letter cd_is_letter ct_is_letter), sl_is_letter⟩) (c_is_letter : PySem.W.codeIn K cd_is_letter "is_letter" = true) (k_is_letter : PySem.W.keepIn K (.ref f_is_letter) = true)
    {f_is_whole : Addr} {od_is_whole an_is_whole : Option Addr} {sl_is_whole : Array (Option Value)} {oc_is_whole kV_is_whole dc_is_whole pm_is_whole cd_is_whole ct_is_whole : Value}
    (a_is_whole : PySem.W.nsIn K mainGlobals "is_whole" = some (some (.ref f_is_whole)))
    (l_is_whole : K.lookup f_is_whole = some ⟨oc_is_whole, od_is_whole, .func (PySem.W.fnOf "is_whole" "is_whole" (defArgs s_is_whole) (defBody s_is_whole) (defScope s_is_whole) .none kV_is_whole dc_is_whole pm_is_whole an_is_whole cd_is_whole ct_is_whole), sl_is_whole⟩) (c_is_whole : PySem.W.codeIn K cd_is_whole "is_whole" = true) (k_is_whole : PySem.W.keepIn K (.ref f_is_whole) = true)
    {f_l_cell_at : Addr} {od_l_cell_at an_l_cell_at : Option Addr} {sl_l_cell_at : Array (Option Value)} {oc_l_cell_at kV_l_cell_at dc_l_cell_at pm_l_cell_at cd_l_cell_at ct_l_cell_at : Value}
    (a_l_cell_at : PySem.W.nsIn K mainGlobals "_law_cell_at" = some (some (.ref f_l_cell_at)))
    (l_l_cell_at : K.lookup f_l_cell_at = some ⟨oc_l_cell_at, od_l_cell_at, .func (PySem.W.fnOf "_law_cell_at" "_law_cell_at" (defArgs s_l_cell_at) (defBody s_l_cell_at) (defScope s_l_cell_at) .none kV_l_cell_at dc_l_cell_at pm_l_cell_at an_l_cell_at cd_l_cell_at ct_l_cell_at), sl_l_cell_at⟩) (c_l_cell_at : PySem.W.codeIn K cd_l_cell_at "_law_cell_at" = true) (k_l_cell_at : PySem.W.keepIn K (.ref f_l_cell_at) = true)
    {f_l_draw : Addr} {od_l_draw an_l_draw : Option Addr} {sl_l_draw : Array (Option Value)} {oc_l_draw kV_l_draw dc_l_draw pm_l_draw cd_l_draw ct_l_draw : Value}
    (a_l_draw : PySem.W.nsIn K mainGlobals "_law_draw" = some (some (.ref f_l_draw)))
    (l_l_draw : K.lookup f_l_draw = some ⟨oc_l_draw, od_l_draw, .func (PySem.W.fnOf "_law_draw" "_law_draw" (defArgs s_l_draw) (defBody s_l_draw) (defScope s_l_draw) .none kV_l_draw dc_l_draw pm_l_draw an_l_draw cd_l_draw ct_l_draw), sl_l_draw⟩) (c_l_draw : PySem.W.codeIn K cd_l_draw "_law_draw" = true) (k_l_draw : PySem.W.keepIn K (.ref f_l_draw) = true)
    {f_l_number : Addr} {od_l_number an_l_number : Option Addr} {sl_l_number : Array (Option Value)} {oc_l_number kV_l_number dc_l_number pm_l_number cd_l_number ct_l_number : Value}
    (a_l_number : PySem.W.nsIn K mainGlobals "_law_number" = some (some (.ref f_l_number)))
    (l_l_number : K.lookup f_l_number = some ⟨oc_l_number, od_l_number, .func (PySem.W.fnOf "_law_number" "_law_number" (defArgs s_l_number) (defBody s_l_number) (defScope s_l_number) .none kV_l_number dc_l_number pm_l_number an_l_number cd_l_number ct_l_number), sl_l_number⟩) (c_l_number : PySem.W.codeIn K cd_l_number "_law_number" = true) (k_l_number : PySem.W.keepIn K (.ref f_l_number) = true)
    {f_l_ring : Addr} {od_l_ring an_l_ring : Option Addr} {sl_l_ring : Array (Option Value)} {oc_l_ring kV_l_ring dc_l_ring pm_l_ring cd_l_ring ct_l_ring : Value}
    (a_l_ring : PySem.W.nsIn K mainGlobals "_law_ring" = some (some (.ref f_l_ring)))
    (l_l_ring : K.lookup f_l_ring = some ⟨oc_l_ring, od_l_ring, .func (PySem.W.fnOf "_law_ring" "_law_ring" (defArgs s_l_ring) (defBody s_l_ring) (defScope s_l_ring) .none kV_l_ring dc_l_ring pm_l_ring an_l_ring cd_l_ring ct_l_ring), sl_l_ring⟩) (c_l_ring : PySem.W.codeIn K cd_l_ring "_law_ring" = true) (k_l_ring : PySem.W.keepIn K (.ref f_l_ring) = true)
    {f_l_small : Addr} {od_l_small an_l_small : Option Addr} {sl_l_small : Array (Option Value)} {oc_l_small kV_l_small dc_l_small pm_l_small cd_l_small ct_l_small : Value}
    (a_l_small : PySem.W.nsIn K mainGlobals "_law_small" = some (some (.ref f_l_small)))
    (l_l_small : K.lookup f_l_small = some ⟨oc_l_small, od_l_small, .func (PySem.W.fnOf "_law_small" "_law_small" (defArgs s_l_small) (defBody s_l_small) (defScope s_l_small) .none kV_l_small dc_l_small pm_l_small an_l_small cd_l_small ct_l_small), sl_l_small⟩) (c_l_small : PySem.W.codeIn K cd_l_small "_law_small" = true) (k_l_small : PySem.W.keepIn K (.ref f_l_small) = true)
    {f_l_whole : Addr} {od_l_whole an_l_whole : Option Addr} {sl_l_whole : Array (Option Value)} {oc_l_whole kV_l_whole dc_l_whole pm_l_whole cd_l_whole ct_l_whole : Value}
    (a_l_whole : PySem.W.nsIn K mainGlobals "_law_whole" = some (some (.ref f_l_whole)))
    (l_l_whole : K.lookup f_l_whole = some ⟨oc_l_whole, od_l_whole, .func (PySem.W.fnOf "_law_whole" "_law_whole" (defArgs s_l_whole) (defBody s_l_whole) (defScope s_l_whole) .none kV_l_whole dc_l_whole pm_l_whole an_l_whole cd_l_whole ct_l_whole), sl_l_whole⟩) (c_l_whole : PySem.W.codeIn K cd_l_whole "_law_whole" = true) (k_l_whole : PySem.W.keepIn K (.ref f_l_whole) = true)
    {f_l_size : Addr} {od_l_size an_l_size : Option Addr} {sl_l_size : Array (Option Value)} {oc_l_size kV_l_size dc_l_size pm_l_size cd_l_size ct_l_size : Value}
    (a_l_size : PySem.W.nsIn K mainGlobals "_law_size" = some (some (.ref f_l_size)))
    (l_l_size : K.lookup f_l_size = some ⟨oc_l_size, od_l_size, .func (PySem.W.fnOf "_law_size" "_law_size" (defArgs s_l_size) (defBody s_l_size) (defScope s_l_size) .none kV_l_size dc_l_size pm_l_size an_l_size cd_l_size ct_l_size), sl_l_size⟩) (c_l_size : PySem.W.codeIn K cd_l_size "_law_size" = true) (k_l_size : PySem.W.keepIn K (.ref f_l_size) = true)
    {f_l_table : Addr} {od_l_table an_l_table : Option Addr} {sl_l_table : Array (Option Value)} {oc_l_table kV_l_table dc_l_table pm_l_table cd_l_table ct_l_table : Value}
    (a_l_table : PySem.W.nsIn K mainGlobals "_law_table" = some (some (.ref f_l_table)))
    (l_l_table : K.lookup f_l_table = some ⟨oc_l_table, od_l_table, .func (PySem.W.fnOf "_law_table" "_law_table" (defArgs s_l_table) (defBody s_l_table) (defScope s_l_table) .none kV_l_table dc_l_table pm_l_table an_l_table cd_l_table ct_l_table), sl_l_table⟩) (c_l_table : PySem.W.codeIn K cd_l_table "_law_table" = true) (k_l_table : PySem.W.keepIn K (.ref f_l_table) = true)
    {f_l_ahead : Addr} {od_l_ahead an_l_ahead : Option Addr} {sl_l_ahead : Array (Option Value)} {oc_l_ahead kV_l_ahead dc_l_ahead pm_l_ahead cd_l_ahead ct_l_ahead : Value}
    (a_l_ahead : PySem.W.nsIn K mainGlobals "_law_ahead" = some (some (.ref f_l_ahead)))
    (l_l_ahead : K.lookup f_l_ahead = some ⟨oc_l_ahead, od_l_ahead, .func (PySem.W.fnOf "_law_ahead" "_law_ahead" (defArgs s_l_ahead) (defBody s_l_ahead) (defScope s_l_ahead) .none kV_l_ahead dc_l_ahead pm_l_ahead an_l_ahead cd_l_ahead ct_l_ahead), sl_l_ahead⟩) (c_l_ahead : PySem.W.codeIn K cd_l_ahead "_law_ahead" = true) (k_l_ahead : PySem.W.keepIn K (.ref f_l_ahead) = true)
    {f_l_along : Addr} {od_l_along an_l_along : Option Addr} {sl_l_along : Array (Option Value)} {oc_l_along kV_l_along dc_l_along pm_l_along cd_l_along ct_l_along : Value}
    (a_l_along : PySem.W.nsIn K mainGlobals "_law_along" = some (some (.ref f_l_along)))
    (l_l_along : K.lookup f_l_along = some ⟨oc_l_along, od_l_along, .func (PySem.W.fnOf "_law_along" "_law_along" (defArgs s_l_along) (defBody s_l_along) (defScope s_l_along) .none kV_l_along dc_l_along pm_l_along an_l_along cd_l_along ct_l_along), sl_l_along⟩) (c_l_along : PySem.W.codeIn K cd_l_along "_law_along" = true) (k_l_along : PySem.W.keepIn K (.ref f_l_along) = true)
    {f_l_row : Addr} {od_l_row an_l_row : Option Addr} {sl_l_row : Array (Option Value)} {oc_l_row kV_l_row dc_l_row pm_l_row cd_l_row ct_l_row : Value}
    (a_l_row : PySem.W.nsIn K mainGlobals "_law_row" = some (some (.ref f_l_row)))
    (l_l_row : K.lookup f_l_row = some ⟨oc_l_row, od_l_row, .func (PySem.W.fnOf "_law_row" "_law_row" (defArgs s_l_row) (defBody s_l_row) (defScope s_l_row) .none kV_l_row dc_l_row pm_l_row an_l_row cd_l_row ct_l_row), sl_l_row⟩) (c_l_row : PySem.W.codeIn K cd_l_row "_law_row" = true) (k_l_row : PySem.W.keepIn K (.ref f_l_row) = true)
    {f_l_cut : Addr} {od_l_cut an_l_cut : Option Addr} {sl_l_cut : Array (Option Value)} {oc_l_cut kV_l_cut dc_l_cut pm_l_cut cd_l_cut ct_l_cut : Value}
    (a_l_cut : PySem.W.nsIn K mainGlobals "_law_cut" = some (some (.ref f_l_cut)))
    (l_l_cut : K.lookup f_l_cut = some ⟨oc_l_cut, od_l_cut, .func (PySem.W.fnOf "_law_cut" "_law_cut" (defArgs s_l_cut) (defBody s_l_cut) (defScope s_l_cut) .none kV_l_cut dc_l_cut pm_l_cut an_l_cut cd_l_cut ct_l_cut), sl_l_cut⟩) (c_l_cut : PySem.W.codeIn K cd_l_cut "_law_cut" = true) (k_l_cut : PySem.W.keepIn K (.ref f_l_cut) = true)
    {f_l_among_right : Addr} {od_l_among_right an_l_among_right : Option Addr} {sl_l_among_right : Array (Option Value)} {oc_l_among_right kV_l_among_right dc_l_among_right pm_l_among_right cd_l_among_right ct_l_among_right : Value}
    (a_l_among_right : PySem.W.nsIn K mainGlobals "_law_among_right" = some (some (.ref f_l_among_right)))
    (l_l_among_right : K.lookup f_l_among_right = some ⟨oc_l_among_right, od_l_among_right, .func (PySem.W.fnOf "_law_among_right" "_law_among_right" (defArgs s_l_among_right) (defBody s_l_among_right) (defScope s_l_among_right) .none kV_l_among_right dc_l_among_right pm_l_among_right an_l_among_right cd_l_among_right ct_l_among_right), sl_l_among_right⟩) (c_l_among_right : PySem.W.codeIn K cd_l_among_right "_law_among_right" = true) (k_l_among_right : PySem.W.keepIn K (.ref f_l_among_right) = true)
    {f_law : Addr} {od_law an_law : Option Addr} {sl_law : Array (Option Value)} {oc_law kV_law dc_law pm_law cd_law ct_law : Value}
    (a_law : PySem.W.nsIn K mainGlobals "law" = some (some (.ref f_law)))
    (l_law : K.lookup f_law = some ⟨oc_law, od_law, .func (PySem.W.fnOf "law" "law" (defArgs s_law) (defBody s_law) (defScope s_law) .none kV_law dc_law pm_law an_law cd_law ct_law), sl_law⟩) (c_law : PySem.W.codeIn K cd_law "law" = true) (k_law : PySem.W.keepIn K (.ref f_law) = true)
    (c_KIND_A : PySem.W.nsIn K mainGlobals "KIND_A" = some (some (.str "a" tKIND_A)))
    (c_KIND_B : PySem.W.nsIn K mainGlobals "KIND_B" = some (some (.str "b" tKIND_B)))
    (z_bool : PySem.W.nsIn K mainGlobals "bool" = some none)
    (z_divmod : PySem.W.nsIn K mainGlobals "divmod" = some none)
    (z_enumerate : PySem.W.nsIn K mainGlobals "enumerate" = some none)
    (z_int : PySem.W.nsIn K mainGlobals "int" = some none)
    (z_isinstance : PySem.W.nsIn K mainGlobals "isinstance" = some none)
    (z_len : PySem.W.nsIn K mainGlobals "len" = some none)
    (z_list : PySem.W.nsIn K mainGlobals "list" = some none)
    (z_min : PySem.W.nsIn K mainGlobals "min" = some none)
    (z_range : PySem.W.nsIn K mainGlobals "range" = some none)
    (z_str : PySem.W.nsIn K mainGlobals "str" = some none)
    (z_sum : PySem.W.nsIn K mainGlobals "sum" = some none)
    (z_tuple : PySem.W.nsIn K mainGlobals "tuple" = some none)
    : ∃ fd : FuncData, (∀ (s : Shared) (v : Value), BindsTo s fd ⟨[v], []⟩ [("_law_script", v)]) ∧ ∀ base : Heap, K.In base → base.Ns mainGlobals mg → FnOk l.prog w K mg base CX0 6 fa fd ["_law_script"] (spLaw K) := by
  have e := hfa.symm.trans (PySem.W.mg_of X G a_law)
  cases e
  have T : Txt K mg tKIND_A tKIND_B  := ⟨PySem.W.mg_of X G c_KIND_A, PySem.W.mg_of X G c_KIND_B, PySem.W.mg_none_of X G z_bool, PySem.W.mg_none_of X G z_divmod, PySem.W.mg_none_of X G z_enumerate, PySem.W.mg_none_of X G z_int, PySem.W.mg_none_of X G z_isinstance, PySem.W.mg_none_of X G z_len, PySem.W.mg_none_of X G z_list, PySem.W.mg_none_of X G z_min, PySem.W.mg_none_of X G z_range, PySem.W.mg_none_of X G z_str, PySem.W.mg_none_of X G z_sum, PySem.W.mg_none_of X G z_tuple⟩
  have F_beads := fun_mk (st := s_beads) l_beads c_beads k_beads
  have b_beads := F_beads.binds (ps := ["ring"]) fun _ _ _ _ _ _ us hl => match us, hl with | [_], _ => rfl
  have m_beads := PySem.W.mg_of X G a_beads
  have F_kind_at := fun_mk (st := s_kind_at) l_kind_at c_kind_at k_kind_at
  have b_kind_at := F_kind_at.binds (ps := ["ring", "place"]) fun _ _ _ _ _ _ us hl => match us, hl with | [_, _], _ => rfl
  have m_kind_at := PySem.W.mg_of X G a_kind_at
  have F_among := fun_mk (st := s_among) l_among c_among k_among
  have b_among := F_among.binds (ps := ["ring", "place", "many"]) fun _ _ _ _ _ _ us hl => match us, hl with | [_, _, _], _ => rfl
  have m_among := PySem.W.mg_of X G a_among
  have F_inside := fun_mk (st := s_inside) l_inside c_inside k_inside
  have b_inside := F_inside.binds (ps := ["ring", "place", "many"]) fun _ _ _ _ _ _ us hl => match us, hl with | [_, _, _], _ => rfl
  have m_inside := PySem.W.mg_of X G a_inside
  have F_from_first := fun_mk (st := s_from_first) l_from_first c_from_first k_from_first
  have b_from_first := F_from_first.binds (ps := ["ring", "many"]) fun _ _ _ _ _ _ us hl => match us, hl with | [_, _], _ => rfl
  have m_from_first := PySem.W.mg_of X G a_from_first
  have F_many_of := fun_mk (st := s_many_of) l_many_of c_many_of k_many_of
  have b_many_of := F_many_of.binds (ps := ["ring", "letter"]) fun _ _ _ _ _ _ us hl => match us, hl with | [_, _], _ => rfl
  have m_many_of := PySem.W.mg_of X G a_many_of
  have F_size := fun_mk (st := s_size) l_size c_size k_size
  have b_size := F_size.binds (ps := ["ring"]) fun _ _ _ _ _ _ us hl => match us, hl with | [_], _ => rfl
  have m_size := PySem.W.mg_of X G a_size
  have F_check_ring := fun_mk (st := s_check_ring) l_check_ring c_check_ring k_check_ring
  have b_check_ring := F_check_ring.binds (ps := ["ring"]) fun _ _ _ _ _ _ us hl => match us, hl with | [_], _ => rfl
  have m_check_ring := PySem.W.mg_of X G a_check_ring
  have F_check_place := fun_mk (st := s_check_place) l_check_place c_check_place k_check_place
  have b_check_place := F_check_place.binds (ps := ["ring", "place"]) fun _ _ _ _ _ _ us hl => match us, hl with | [_, _], _ => rfl
  have m_check_place := PySem.W.mg_of X G a_check_place
  have F_check_many := fun_mk (st := s_check_many) l_check_many c_check_many k_check_many
  have b_check_many := F_check_many.binds (ps := ["many"]) fun _ _ _ _ _ _ us hl => match us, hl with | [_], _ => rfl
  have m_check_many := PySem.W.mg_of X G a_check_many
  have F_is_place := fun_mk (st := s_is_place) l_is_place c_is_place k_is_place
  have b_is_place := F_is_place.binds (ps := ["ring", "thing"]) fun _ _ _ _ _ _ us hl => match us, hl with | [_, _], _ => rfl
  have m_is_place := PySem.W.mg_of X G a_is_place
  have F_is_stretch := fun_mk (st := s_is_stretch) l_is_stretch c_is_stretch k_is_stretch
  have b_is_stretch := F_is_stretch.binds (ps := ["thing"]) fun _ _ _ _ _ _ us hl => match us, hl with | [_], _ => rfl
  have m_is_stretch := PySem.W.mg_of X G a_is_stretch
  have F_is_letter := fun_mk (st := s_is_letter) l_is_letter c_is_letter k_is_letter
  have b_is_letter := F_is_letter.binds (ps := ["thing"]) fun _ _ _ _ _ _ us hl => match us, hl with | [_], _ => rfl
  have m_is_letter := PySem.W.mg_of X G a_is_letter
  have F_is_whole := fun_mk (st := s_is_whole) l_is_whole c_is_whole k_is_whole
  have b_is_whole := F_is_whole.binds (ps := ["thing"]) fun _ _ _ _ _ _ us hl => match us, hl with | [_], _ => rfl
  have m_is_whole := PySem.W.mg_of X G a_is_whole
  have F_l_cell_at := fun_mk (st := s_l_cell_at) l_l_cell_at c_l_cell_at k_l_cell_at
  have b_l_cell_at := F_l_cell_at.binds (ps := ["_law_script", "_law_k"]) fun _ _ _ _ _ _ us hl => match us, hl with | [_, _], _ => rfl
  have m_l_cell_at := PySem.W.mg_of X G a_l_cell_at
  have F_l_draw := fun_mk (st := s_l_draw) l_l_draw c_l_draw k_l_draw
  have b_l_draw := F_l_draw.binds (ps := ["_law_cell", "_law_k", "_law_many"]) fun _ _ _ _ _ _ us hl => match us, hl with | [_, _, _], _ => rfl
  have m_l_draw := PySem.W.mg_of X G a_l_draw
  have F_l_number := fun_mk (st := s_l_number) l_l_number c_l_number k_l_number
  have b_l_number := F_l_number.binds (ps := ["_law_cell", "_law_k", "_law_limit"]) fun _ _ _ _ _ _ us hl => match us, hl with | [_, _, _], _ => rfl
  have m_l_number := PySem.W.mg_of X G a_l_number
  have F_l_ring := fun_mk (st := s_l_ring) l_l_ring c_l_ring k_l_ring
  have b_l_ring := F_l_ring.binds (ps := ["_law_script"]) fun _ _ _ _ _ _ us hl => match us, hl with | [_], _ => rfl
  have m_l_ring := PySem.W.mg_of X G a_l_ring
  have F_l_small := fun_mk (st := s_l_small) l_l_small c_l_small k_l_small
  have b_l_small := F_l_small.binds (ps := ["_law_script", "_law_by"]) fun _ _ _ _ _ _ us hl => match us, hl with | [_, _], _ => rfl
  have m_l_small := PySem.W.mg_of X G a_l_small
  have F_l_whole := fun_mk (st := s_l_whole) l_l_whole c_l_whole k_l_whole
  have b_l_whole := F_l_whole.binds (ps := ["_law_number_here"]) fun _ _ _ _ _ _ us hl => match us, hl with | [_], _ => rfl
  have m_l_whole := PySem.W.mg_of X G a_l_whole
  have F_l_size := fun_mk (st := s_l_size) l_l_size c_l_size k_l_size
  have b_l_size := F_l_size.binds (ps := ["_law_ring_here"]) fun _ _ _ _ _ _ us hl => match us, hl with | [_], _ => rfl
  have m_l_size := PySem.W.mg_of X G a_l_size
  have F_l_table := fun_mk (st := s_l_table) l_l_table c_l_table k_l_table
  have b_l_table := F_l_table.binds (ps := ["_law_ring_here"]) fun _ _ _ _ _ _ us hl => match us, hl with | [_], _ => rfl
  have m_l_table := PySem.W.mg_of X G a_l_table
  have F_l_ahead := fun_mk (st := s_l_ahead) l_l_ahead c_l_ahead k_l_ahead
  have b_l_ahead := F_l_ahead.binds (ps := ["_law_table_here", "_law_place"]) fun _ _ _ _ _ _ us hl => match us, hl with | [_, _], _ => rfl
  have m_l_ahead := PySem.W.mg_of X G a_l_ahead
  have F_l_along := fun_mk (st := s_l_along) l_l_along c_l_along k_l_along
  have b_l_along := F_l_along.binds (ps := ["_law_table_here", "_law_place", "_law_many"]) fun _ _ _ _ _ _ us hl => match us, hl with | [_, _, _], _ => rfl
  have m_l_along := PySem.W.mg_of X G a_l_along
  have F_l_row := fun_mk (st := s_l_row) l_l_row c_l_row k_l_row
  have b_l_row := F_l_row.binds (ps := ["_law_ring_here"]) fun _ _ _ _ _ _ us hl => match us, hl with | [_], _ => rfl
  have m_l_row := PySem.W.mg_of X G a_l_row
  have F_l_cut := fun_mk (st := s_l_cut) l_l_cut c_l_cut k_l_cut
  have b_l_cut := F_l_cut.binds (ps := ["_law_ring_here", "_law_cell"]) fun _ _ _ _ _ _ us hl => match us, hl with | [_, _], _ => rfl
  have m_l_cut := PySem.W.mg_of X G a_l_cut
  have F_l_among_right := fun_mk (st := s_l_among_right) l_l_among_right c_l_among_right k_l_among_right
  have b_l_among_right := F_l_among_right.binds (ps := ["_law_ring_here", "_law_place", "_law_many"]) fun _ _ _ _ _ _ us hl => match us, hl with | [_, _, _], _ => rfl
  have m_l_among_right := PySem.W.mg_of X G a_l_among_right
  have F_law := fun_mk (st := s_law) l_law c_law k_law
  refine ⟨PySem.W.fnOf "law" "law" (defArgs s_law) (defBody s_law) (defScope s_law) .none kV_law dc_law pm_law an_law cd_law ct_law, fun s v => .of_eq rfl, fun base _ _ => ?_⟩
  have G_many_of : FnOk l.prog w K mg base CX0 1 f_many_of _ ["ring", "letter"] (spMany K) := ok_many_of F_many_of T 
  have G_size : FnOk l.prog w K mg base CX0 1 f_size _ ["ring"] (spSize K) := ok_size F_size T 
  have G_is_letter : FnOk l.prog w K mg base CX0 1 f_is_letter _ ["thing"] spLetter := ok_is_letter F_is_letter T 
  have G_is_whole : FnOk l.prog w K mg base CX0 1 f_is_whole _ ["thing"] spWhole := ok_is_whole F_is_whole T 
  have G_l_cell_at : FnOk l.prog w K mg base CX0 1 f_l_cell_at _ ["_law_script", "_law_k"] (spCell K) := ok_l_cell_at F_l_cell_at T 
  have G_l_draw : FnOk l.prog w K mg base CX0 1 f_l_draw _ ["_law_cell", "_law_k", "_law_many"] spDraw := ok_l_draw F_l_draw T 
  have G_l_whole : FnOk l.prog w K mg base CX0 1 f_l_whole _ ["_law_number_here"] spWhole := ok_l_whole F_l_whole T 
  have G_l_size : FnOk l.prog w K mg base CX0 1 f_l_size _ ["_law_ring_here"] (spSize K) := ok_l_size F_l_size T 
  have G_l_table : FnOk l.prog w K mg base CX0 1 f_l_table _ ["_law_ring_here"] (spTable K) := ok_l_table F_l_table T 
  have G_l_ahead : FnOk l.prog w K mg base CX0 1 f_l_ahead _ ["_law_table_here", "_law_place"] (spAhead K) := ok_l_ahead F_l_ahead T 
  have G_l_row : FnOk l.prog w K mg base CX0 1 f_l_row _ ["_law_ring_here"] (spRow K) := ok_l_row F_l_row T 
  have G_l_cut : FnOk l.prog w K mg base CX0 1 f_l_cut _ ["_law_ring_here", "_law_cell"] (spCut K) := ok_l_cut F_l_cut T 
  have G_from_first : FnOk l.prog w K mg base CX0 2 f_from_first _ ["ring", "many"] (spFirst K) := ok_from_first F_from_first T G_many_of m_many_of k_many_of b_many_of G_size m_size k_size b_size
  have G_check_many : FnOk l.prog w K mg base CX0 2 f_check_many _ ["many"] spCheckMany := ok_check_many F_check_many T G_is_whole m_is_whole k_is_whole b_is_whole
  have G_is_place : FnOk l.prog w K mg base CX0 2 f_is_place _ ["ring", "thing"] (spIsPlace K) := ok_is_place F_is_place T G_is_whole m_is_whole k_is_whole b_is_whole G_size m_size k_size b_size
  have G_is_stretch : FnOk l.prog w K mg base CX0 2 f_is_stretch _ ["thing"] (spStretch K) := ok_is_stretch F_is_stretch T G_is_letter m_is_letter k_is_letter b_is_letter G_is_whole m_is_whole k_is_whole b_is_whole
  have G_l_number : FnOk l.prog w K mg base CX0 2 f_l_number _ ["_law_cell", "_law_k", "_law_limit"] spNumber := ok_l_number F_l_number T G_l_draw m_l_draw k_l_draw b_l_draw
  have G_l_along : FnOk l.prog w K mg base CX0 2 f_l_along _ ["_law_table_here", "_law_place", "_law_many"] (spAlong K) := ok_l_along F_l_along T G_l_ahead m_l_ahead k_l_ahead b_l_ahead
  have G_inside : FnOk l.prog w K mg base CX0 3 f_inside _ ["ring", "place", "many"] (spInside K) := ok_inside F_inside T G_from_first m_from_first k_from_first b_from_first
  have G_check_ring : FnOk l.prog w K mg base CX0 3 f_check_ring _ ["ring"] (spCheckRing K) := ok_check_ring F_check_ring T G_is_stretch m_is_stretch k_is_stretch b_is_stretch
  have G_check_place : FnOk l.prog w K mg base CX0 3 f_check_place _ ["ring", "place"] (spCheckPlace K) := ok_check_place F_check_place T G_is_place m_is_place k_is_place b_is_place
  have G_l_ring : FnOk l.prog w K mg base CX0 3 f_l_ring _ ["_law_script"] (spRing K) := ok_l_ring F_l_ring T G_l_cell_at m_l_cell_at k_l_cell_at b_l_cell_at G_l_draw m_l_draw k_l_draw b_l_draw G_l_number m_l_number k_l_number b_l_number
  have G_l_small : FnOk l.prog w K mg base CX0 3 f_l_small _ ["_law_script", "_law_by"] (spSmall K) := ok_l_small F_l_small T G_l_number m_l_number k_l_number b_l_number
  have G_beads : FnOk l.prog w K mg base CX0 4 f_beads _ ["ring"] (spBeads K) := ok_beads F_beads T G_check_ring m_check_ring k_check_ring b_check_ring G_many_of m_many_of k_many_of b_many_of
  have G_kind_at : FnOk l.prog w K mg base CX0 4 f_kind_at _ ["ring", "place"] (spKind K) := ok_kind_at F_kind_at T G_check_place m_check_place k_check_place b_check_place G_check_ring m_check_ring k_check_ring b_check_ring
  have G_among : FnOk l.prog w K mg base CX0 4 f_among _ ["ring", "place", "many"] (spAmong K) := ok_among F_among T G_check_many m_check_many k_check_many b_check_many G_check_place m_check_place k_check_place b_check_place G_check_ring m_check_ring k_check_ring b_check_ring G_inside m_inside k_inside b_inside
  have G_l_among_right : FnOk l.prog w K mg base CX0 5 f_l_among_right _ ["_law_ring_here", "_law_place", "_law_many"] (spRight K) := ok_l_among_right F_l_among_right T G_l_along m_l_along k_l_along b_l_along G_l_size m_l_size k_l_size b_l_size G_l_table m_l_table k_l_table b_l_table G_l_whole m_l_whole k_l_whole b_l_whole G_among m_among k_among b_among
  exact ok_law F_law T G_l_among_right m_l_among_right k_l_among_right b_l_among_right G_l_cell_at m_l_cell_at k_l_cell_at b_l_cell_at G_l_cut m_l_cut k_l_cut b_l_cut G_l_ring m_l_ring k_l_ring b_l_ring G_l_row m_l_row k_l_row b_l_row G_l_size m_l_size k_l_size b_l_size G_l_small m_l_small k_l_small b_l_small G_l_table m_l_table k_l_table b_l_table G_among m_among k_among b_among G_beads m_beads k_beads b_beads G_kind_at m_kind_at k_kind_at b_kind_at
end RB
open PySem PySem.W PyProof.Rows in
set_option maxRecDepth 100000 in
set_option maxHeartbeats 0 in
theorem PySem.Challenge.cw_ringbeads_k03_whole_among_holds : PySem.Challenge.rw_ringbeads_k03_whole_among.Holds := by
  w_on; o_law; k_head; (case hw => w_witness2)
  k_fill
  refine L2.walk_ofB (l := PySem.Challenge.rw_ringbeads_k03_whole_among) (n := 63) (k := 6) (x := "_law_script") (CX := fun _ => L2.CX0) (sp := fun w => RB.spLaw _) rfl (by decide) rfl ⟨rfl, by decide, by decide⟩ (fun w h Y => PySem.W.kIn_of Y) ?F (fun _ _ a ns hl hb _ hS => ⟨a, ns, rfl, hS, hb, fun _ => rfl⟩) (fun _ _ _ _ _ h => h)
  case F =>
    intro w mg fa h KX G hmg
    refine' RB.all_mk KX G hmg ?a_beads ?l_beads ?c_beads ?k_beads ?a_kind_at ?l_kind_at ?c_kind_at ?k_kind_at ?a_among ?l_among ?c_among ?k_among ?a_inside ?l_inside ?c_inside ?k_inside ?a_from_first ?l_from_first ?c_from_first ?k_from_first ?a_many_of ?l_many_of ?c_many_of ?k_many_of ?a_size ?l_size ?c_size ?k_size ?a_check_ring ?l_check_ring ?c_check_ring ?k_check_ring ?a_check_place ?l_check_place ?c_check_place ?k_check_place ?a_check_many ?l_check_many ?c_check_many ?k_check_many ?a_is_place ?l_is_place ?c_is_place ?k_is_place ?a_is_stretch ?l_is_stretch ?c_is_stretch ?k_is_stretch ?a_is_letter ?l_is_letter ?c_is_letter ?k_is_letter ?a_is_whole ?l_is_whole ?c_is_whole ?k_is_whole ?a_l_cell_at ?l_l_cell_at ?c_l_cell_at ?k_l_cell_at ?a_l_draw ?l_l_draw ?c_l_draw ?k_l_draw ?a_l_number ?l_l_number ?c_l_number ?k_l_number ?a_l_ring ?l_l_ring ?c_l_ring ?k_l_ring ?a_l_small ?l_l_small ?c_l_small ?k_l_small ?a_l_whole ?l_l_whole ?c_l_whole ?k_l_whole ?a_l_size ?l_l_size ?c_l_size ?k_l_size ?a_l_table ?l_l_table ?c_l_table ?k_l_table ?a_l_ahead ?l_l_ahead ?c_l_ahead ?k_l_ahead ?a_l_along ?l_l_along ?c_l_along ?k_l_along ?a_l_row ?l_l_row ?c_l_row ?k_l_row ?a_l_cut ?l_l_cut ?c_l_cut ?k_l_cut ?a_l_among_right ?l_l_among_right ?c_l_among_right ?k_l_among_right ?a_law ?l_law ?c_law ?k_law ?c_KIND_A ?c_KIND_B ?z_bool ?z_divmod ?z_enumerate ?z_int ?z_isinstance ?z_len ?z_list ?z_min ?z_range ?z_str ?z_sum ?z_tuple
    (case a_beads => k_is)
    (case l_beads => k_is)
    (case c_beads => k_is)
    (case k_beads => k_is)
    (case a_kind_at => k_is)
    (case l_kind_at => k_is)
    (case c_kind_at => k_is)
    (case k_kind_at => k_is)
    (case a_among => k_is)
    (case l_among => k_is)
    (case c_among => k_is)
    (case k_among => k_is)
    (case a_inside => k_is)
    (case l_inside => k_is)
    (case c_inside => k_is)
    (case k_inside => k_is)
    (case a_from_first => k_is)
    (case l_from_first => k_is)
    (case c_from_first => k_is)
    (case k_from_first => k_is)
    (case a_many_of => k_is)
    (case l_many_of => k_is)
    (case c_many_of => k_is)
    (case k_many_of => k_is)
    (case a_size => k_is)
    (case l_size => k_is)
    (case c_size => k_is)
    (case k_size => k_is)
    (case a_check_ring => k_is)
    (case l_check_ring => k_is)
    (case c_check_ring => k_is)
    (case k_check_ring => k_is)
    (case a_check_place => k_is)
    (case l_check_place => k_is)
    (case c_check_place => k_is)
    (case k_check_place => k_is)
    (case a_check_many => k_is)
    (case l_check_many => k_is)
    (case c_check_many => k_is)
    (case k_check_many => k_is)
    (case a_is_place => k_is)
    (case l_is_place => k_is)
    (case c_is_place => k_is)
    (case k_is_place => k_is)
    (case a_is_stretch => k_is)
    (case l_is_stretch => k_is)
    (case c_is_stretch => k_is)
    (case k_is_stretch => k_is)
    (case a_is_letter => k_is)
    (case l_is_letter => k_is)
    (case c_is_letter => k_is)
    (case k_is_letter => k_is)
    (case a_is_whole => k_is)
    (case l_is_whole => k_is)
    (case c_is_whole => k_is)
    (case k_is_whole => k_is)
    (case a_l_cell_at => k_is)
    (case l_l_cell_at => k_is)
    (case c_l_cell_at => k_is)
    (case k_l_cell_at => k_is)
    (case a_l_draw => k_is)
    (case l_l_draw => k_is)
    (case c_l_draw => k_is)
    (case k_l_draw => k_is)
    (case a_l_number => k_is)
    (case l_l_number => k_is)
    (case c_l_number => k_is)
    (case k_l_number => k_is)
    (case a_l_ring => k_is)
    (case l_l_ring => k_is)
    (case c_l_ring => k_is)
    (case k_l_ring => k_is)
    (case a_l_small => k_is)
    (case l_l_small => k_is)
    (case c_l_small => k_is)
    (case k_l_small => k_is)
    (case a_l_whole => k_is)
    (case l_l_whole => k_is)
    (case c_l_whole => k_is)
    (case k_l_whole => k_is)
    (case a_l_size => k_is)
    (case l_l_size => k_is)
    (case c_l_size => k_is)
    (case k_l_size => k_is)
    (case a_l_table => k_is)
    (case l_l_table => k_is)
    (case c_l_table => k_is)
    (case k_l_table => k_is)
    (case a_l_ahead => k_is)
    (case l_l_ahead => k_is)
    (case c_l_ahead => k_is)
    (case k_l_ahead => k_is)
    (case a_l_along => k_is)
    (case l_l_along => k_is)
    (case c_l_along => k_is)
    (case k_l_along => k_is)
    (case a_l_row => k_is)
    (case l_l_row => k_is)
    (case c_l_row => k_is)
    (case k_l_row => k_is)
    (case a_l_cut => k_is)
    (case l_l_cut => k_is)
    (case c_l_cut => k_is)
    (case k_l_cut => k_is)
    (case a_l_among_right => k_is)
    (case l_l_among_right => k_is)
    (case c_l_among_right => k_is)
    (case k_l_among_right => k_is)
    (case a_law => k_is)
    (case l_law => k_is)
    (case c_law => k_is)
    (case k_law => k_is)
    (case c_KIND_A => k_is)
    (case c_KIND_B => k_is)
    (case z_bool => k_is)
    (case z_divmod => k_is)
    (case z_enumerate => k_is)
    (case z_int => k_is)
    (case z_isinstance => k_is)
    (case z_len => k_is)
    (case z_list => k_is)
    (case z_min => k_is)
    (case z_range => k_is)
    (case z_str => k_is)
    (case z_sum => k_is)
    (case z_tuple => k_is)
