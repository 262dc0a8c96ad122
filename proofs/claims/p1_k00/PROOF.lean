import PyProof.Rows.All
import Wide.All
import OpenK.AllK
import Wide.FinOn
import KE.KStateDown
import HandS.HeadHook4
import HandS.Head2
import HandS.HeadEnd
import HandS.Conv
import HandS.Replace
import KE.GoesEnum
import HandS.ForMost
import HandS.Exc
import HandS.Codes
import HandS.Zip
import HandS.IntHex
import HandS.StrMore
import HandS.IsInst
import HandS.Wide
import HandS.Flow
import HandS.FStr
import PyProof.Rows.StrIntSpec
import KE.GoesMore
import HandS.Ends
import HandS.Words
import HandS.Defaults
import PyProof.ReprRoads
import HandS.Walk
import HandS.More
import PyProof.ListStr
import HandS.Zip0
import HandS.Deep
import HandS.Style
import HandS.Text
import PyProof.Rows.StrCut
import HandS.ExcInit
import HandS.ExcField
import HandS.ExcIs
import HandS.Property
import KE.KExcIs
import HandS.Lambda
import HandS.EndTab
import HandS.RaiseMore
import HandS.DictComp
import PyProof.WalkInts
import HandS.TupLe
import HandS.Small
import HandS.ListItems
import HandS.TupAny
import HandS.MakeKw
import HandS.MakeKwOnly
import PySem.Challenge.RW_worneven_k00_whole_chips_deed_by_deed
set_option Elab.async false
set_option linter.all false
set_option maxRecDepth 100000
set_option maxHeartbeats 4000000
namespace WM
def hx (d : Nat) : Nat := if d < 10 then 48 + d else 87 + d
def wo (c : Nat) : Nat := if c < 58 then c - 48 else c - 87
def IsCell (c : Nat) : Prop := (48 ≤ c ∧ c ≤ 57) ∨ (97 ≤ c ∧ c ≤ 102)
def lack (c : Nat) : Nat := 15 - wo c
def Cells (l : List Nat) : Prop := ∀ c ∈ l, IsCell c
theorem hx_cell {d : Nat} (h : d < 16) : IsCell (hx d) := by unfold IsCell hx; split <;> omega
theorem wo_lt {c : Nat} (h : IsCell c) : wo c < 16 := by unfold IsCell at h; unfold wo; split <;> omega
theorem wo_hx {d : Nat} (h : d < 16) : wo (hx d) = d := by
  unfold wo hx
  split <;> split <;> omega
theorem hx_wo {c : Nat} (h : IsCell c) : hx (wo c) = c := by
  unfold IsCell at h
  unfold wo hx
  split <;> split <;> omega
theorem lack_hx {d : Nat} (h : d < 16) : lack (hx d) = 15 - d := by unfold lack; rw [wo_hx h]
theorem lack_le (c : Nat) : lack c ≤ 15 := by unfold lack; omega
theorem hx_lack {c : Nat} (h : IsCell c) : hx (15 - lack c) = c := by
  have := wo_lt h
  unfold lack
  rw [show 15 - (15 - wo c) = wo c by omega, hx_wo h]
theorem wo_mono {a b : Nat} (ha : IsCell a) (hb : IsCell b) : wo a < wo b ↔ a < b := by
  unfold IsCell at ha hb
  unfold wo
  split <;> split <;> omega
theorem wo_inj {a b : Nat} (ha : IsCell a) (hb : IsCell b) (h : wo a = wo b) : a = b := by rw [← hx_wo ha, ← hx_wo hb, h]
theorem hx_mono {a b : Nat} (ha : a < 16) (hb : b < 16) : hx a < hx b ↔ a < b := by
  unfold hx
  split <;> split <;> omega
theorem lack_lt {a b : Nat} (ha : IsCell a) (hb : IsCell b) : lack a < lack b ↔ b < a := by
  rw [← wo_mono hb ha]
  have := wo_lt ha; have := wo_lt hb
  unfold lack; omega
theorem lack_inj {a b : Nat} (ha : IsCell a) (hb : IsCell b) (h : lack a = lack b) : a = b := by
  have := wo_lt ha; have := wo_lt hb
  refine wo_inj ha hb ?_
  unfold lack at h; omega
/-- the sum of what the cells lack, times their places from p on to the k -/
def S (k : Nat) : Nat → List Nat → Nat
  | _, [] => 0
  | p, c :: l => lack c * p ^ k + S k (p + 1) l
def figs : Nat → Nat → List Nat
  | 0, _ => []
  | k + 1, n => figs k (n / 16) ++ [hx (n % 16)]
theorem figs_len (k n : Nat) : (figs k n).length = k := by
  induction k generalizing n with
  | zero => rfl
  | succ k ih => simp [figs, ih]
theorem figs_cells (k n : Nat) : Cells (figs k n) := by
  induction k generalizing n with
  | zero => intro c h; simp [figs] at h
  | succ k ih =>
    intro c h
    simp only [figs, List.mem_append, List.mem_singleton] at h
    rcases h with h | h
    · exact ih _ c h
    · rw [h]; exact hx_cell (by omega)
def num (l : List Nat) : Nat := l.foldl (fun a c => a * 16 + wo c) 0
theorem num_figs (k n : Nat) (h : n < 16 ^ k) : num (figs k n) = n := by
  induction k generalizing n with
  | zero => simp [figs, num] at *; omega
  | succ k ih =>
    have e : num (figs (k + 1) n) = num (figs k (n / 16)) * 16 + wo (hx (n % 16)) := by
      unfold num; simp [figs, List.foldl_append]
    rw [e, ih (n / 16) (by rw [Nat.pow_succ] at h; omega), wo_hx (by omega)]
    omega
def flip (l : List Nat) : List Nat := l.map fun c => hx (lack c)
def twice (l : List Nat) : List Nat := l ++ flip l
theorem flip_len (l : List Nat) : (flip l).length = l.length := by simp [flip]
theorem flip_cells (l : List Nat) : Cells (flip l) := by
  intro c h
  simp only [flip, List.mem_map] at h
  obtain ⟨d, _, rfl⟩ := h
  exact hx_cell (by have := lack_le d; omega)
theorem twice_len (l : List Nat) : (twice l).length = 2 * l.length := by simp [twice, flip]; omega
def tail (h : List Nat) : List Nat := twice (figs 3 (S 0 1 h)) ++ twice (figs 5 (S 1 1 h)) ++ twice (figs 7 (S 2 1 h))
theorem tail_len (h : List Nat) : (tail h).length = 30 := by simp [tail, twice_len, figs_len]
def enc (t : List Nat) : List Nat := t.flatMap (figs 2)
theorem enc_len (t : List Nat) : (enc t).length = 2 * t.length := by
  induction t with
  | nil => rfl
  | cons a t ih => simp only [enc, List.flatMap_cons, List.length_append, figs_len, List.length_cons] at *; omega
def headOf (t : List Nat) : List Nat := enc t ++ List.replicate (226 - 2 * t.length) 102
def page (t : List Nat) : List Nat := headOf t ++ tail (headOf t)
def okc (c : Nat) : Prop := c = 10 ∨ (32 ≤ c ∧ c ≤ 126 ∧ c ≠ 37)
instance (c : Nat) : Decidable (okc c) := by unfold okc; infer_instance
structure IsText (t : List Nat) : Prop where
  ok : ∀ c ∈ t, okc c
  len : t.length ≤ 113
theorem head_len {t : List Nat} (h : t.length ≤ 113) : (headOf t).length = 226 := by simp [headOf, enc_len]; omega
theorem page_len {t : List Nat} (h : t.length ≤ 113) : (page t).length = 256 := by simp [page, tail_len, head_len h]
theorem enc_cells (t : List Nat) : Cells (enc t) := by
  intro c h
  simp only [enc, List.mem_flatMap] at h
  obtain ⟨a, _, h⟩ := h
  exact figs_cells _ _ c h
theorem cells_app {a b : List Nat} (ha : Cells a) (hb : Cells b) : Cells (a ++ b) := fun c h => (List.mem_append.mp h).elim (ha c) (hb c)
theorem rep_cells (n : Nat) : Cells (List.replicate n 102) := fun c h => by
  rw [List.eq_of_mem_replicate h]; exact .inr ⟨by omega, by omega⟩
theorem head_cells (t : List Nat) : Cells (headOf t) := cells_app (enc_cells t) (rep_cells _)
theorem twice_cells {l : List Nat} (h : Cells l) : Cells (twice l) := cells_app h (flip_cells l)
theorem tail_cells (h : List Nat) : Cells (tail h) := cells_app (cells_app (twice_cells (figs_cells _ _)) (twice_cells (figs_cells _ _))) (twice_cells (figs_cells _ _))
theorem page_cells (t : List Nat) : Cells (page t) := cells_app (head_cells t) (tail_cells _)
/-! bounds of the sums -/
theorem S_le (k : Nat) : ∀ (l : List Nat) (p b : Nat), p + l.length ≤ b + 1 → S k p l ≤ 15 * b ^ k * l.length := by
  intro l
  induction l with
  | nil => intro p b _; simp [S]
  | cons c l ih =>
    intro p b h
    simp only [List.length_cons] at h
    have h1 := ih (p + 1) b (by omega)
    have h2 : p ^ k ≤ b ^ k := Nat.pow_le_pow_left (by omega) k
    have h3 : lack c * p ^ k ≤ 15 * b ^ k := Nat.mul_le_mul (lack_le c) h2
    simp only [S, List.length_cons, Nat.mul_add, Nat.mul_one]
    omega
end WM
namespace WM
theorem S0_lt {l : List Nat} (h : l.length ≤ 226) : S 0 1 l < 16 ^ 3 := by
  have := S_le 0 l 1 226 (by omega)
  simp only [Nat.pow_zero, Nat.mul_one] at this
  omega
theorem S1_lt {l : List Nat} (h : l.length ≤ 226) : S 1 1 l < 16 ^ 5 := by
  have := S_le 1 l 1 226 (by omega)
  simp only [Nat.pow_one] at this
  omega
theorem S2_lt {l : List Nat} (h : l.length ≤ 226) : S 2 1 l < 16 ^ 7 := by
  have h1 := S_le 2 l 1 226 (by omega)
  have h2 : 15 * 226 ^ 2 * l.length ≤ 15 * 226 ^ 2 * 226 := Nat.mul_le_mul_left _ h
  omega
/-- a is greater than b at just these places of the list -/
def gr : List Nat → List Nat → Nat
  | a :: l, b :: m => (if b < a then 1 else 0) + gr l m
  | _, _ => 0
theorem gr_app {a b c d : List Nat} (h : a.length = c.length) : gr (a ++ b) (c ++ d) = gr a c + gr b d := by
  induction a generalizing c with
  | nil => cases c with
    | nil => simp [gr]
    | cons x c => simp at h
  | cons x a ih => cases c with
    | nil => simp at h
    | cons y c =>
      simp only [List.length_cons, Nat.add_right_cancel_iff] at h
      simp only [List.cons_append, gr, ih h]
      omega
/-- nowhere greater: the lacks are so -/
theorem gr0_le {a b : List Nat} (ha : Cells a) (hb : Cells b) (hl : a.length = b.length) (h : gr a b = 0) (k p : Nat) (hp : 1 ≤ p) : S k p b ≤ S k p a ∧ (S k p b = S k p a → a = b) := by
  induction a generalizing b p with
  | nil => cases b with
    | nil => simp
    | cons y b => simp at hl
  | cons x a ih => cases b with
    | nil => simp at hl
    | cons y b =>
      simp only [List.length_cons, Nat.add_right_cancel_iff] at hl
      have hx := ha x List.mem_cons_self
      have hy := hb y List.mem_cons_self
      simp only [gr] at h
      have hxy : ¬ y < x := by
        intro q
        rw [if_pos q] at h; omega
      have h0 : gr a b = 0 := by omega
      obtain ⟨i1, i2⟩ := ih (b := b) (fun c hc => ha c (List.mem_cons_of_mem _ hc)) (fun c hc => hb c (List.mem_cons_of_mem _ hc)) hl h0 (p + 1) (by omega)
      have l1 : lack y ≤ lack x := by
        rcases Nat.lt_or_ge (lack x) (lack y) with q | q
        · exact absurd ((lack_lt hx hy).mp q) hxy
        · exact q
      have l2 : lack y * p ^ k ≤ lack x * p ^ k := Nat.mul_le_mul_right _ l1
      simp only [S]
      refine ⟨by omega, fun e => ?_⟩
      have e1 : S k (p + 1) b = S k (p + 1) a := by omega
      have e2 : lack y * p ^ k = lack x * p ^ k := by omega
      have e3 : lack y = lack x := Nat.eq_of_mul_eq_mul_right (Nat.pow_pos hp) e2
      rw [i2 e1, lack_inj hx hy e3.symm]
theorem gr_flip {a b : List Nat} (ha : Cells a) (hb : Cells b) (hl : a.length = b.length) : gr (flip a) (flip b) = gr b a := by
  induction a generalizing b with
  | nil => cases b with
    | nil => simp [flip, gr]
    | cons y b => simp at hl
  | cons x a ih => cases b with
    | nil => simp at hl
    | cons y b =>
      simp only [List.length_cons, Nat.add_right_cancel_iff] at hl
      have hx := ha x List.mem_cons_self
      have hy := hb y List.mem_cons_self
      have i := ih (b := b) (fun c hc => ha c (List.mem_cons_of_mem _ hc)) (fun c hc => hb c (List.mem_cons_of_mem _ hc)) hl
      simp only [flip, List.map_cons, gr] at *
      rw [i]
      have e : (WM.hx (lack y) < WM.hx (lack x)) ↔ x < y := by
        rw [hx_mono (by have := lack_le y; omega) (by have := lack_le x; omega), lack_lt hy hx]
      simp only [e]
theorem gr_self (a : List Nat) : gr a a = 0 := by
  induction a with
  | nil => rfl
  | cons x a ih => simp [gr, ih]
/-- unlike lists of cells: one is greater somewhere -/
theorem gr_ne {a b : List Nat} (hl : a.length = b.length) (h : a ≠ b) : 1 ≤ gr a b + gr b a := by
  induction a generalizing b with
  | nil => cases b with
    | nil => exact absurd rfl h
    | cons y b => simp at hl
  | cons x a ih => cases b with
    | nil => simp at hl
    | cons y b =>
      simp only [List.length_cons, Nat.add_right_cancel_iff] at hl
      simp only [gr]
      by_cases e : x = y
      · subst e
        have := ih hl (fun q => h (by rw [q]))
        omega
      · rcases Nat.lt_or_ge x y with q | q
        · rw [if_pos q]; omega
        · rw [if_pos (show y < x by omega)]; omega
theorem gr_twice {a b : List Nat} (ha : Cells a) (hb : Cells b) (hl : a.length = b.length) (h : a ≠ b) : 1 ≤ gr (twice a) (twice b) := by
  unfold twice
  rw [gr_app hl, gr_flip ha hb hl]
  exact gr_ne hl h
/-- the weighted squares about k: what one greater cell would need -/
def V (k : Int) : Int → List Nat → List Nat → Int
  | p, a :: l, b :: m => ((lack a : Int) - lack b) * (p - k) * (p - k) + V k (p + 1) l m
  | _, _, _ => 0
theorem V_eq (k : Int) : ∀ (a b : List Nat) (p : Nat), a.length = b.length →
    V k p a b = ((S 2 p a : Int) - S 2 p b) - 2 * k * ((S 1 p a : Int) - S 1 p b) + k * k * ((S 0 p a : Int) - S 0 p b) := by
  intro a
  induction a with
  | nil => intro b p h; cases b with
    | nil => simp [V, S]
    | cons y b => simp at h
  | cons x a ih => intro b p h; cases b with
    | nil => simp at h
    | cons y b =>
      simp only [List.length_cons, Nat.add_right_cancel_iff] at h
      have i := ih b (p + 1) h
      simp only [V, S, Nat.pow_zero, Nat.pow_one, Nat.mul_one]
      have e : ((p + 1 : Nat) : Int) = (p : Int) + 1 := by omega
      rw [e] at i
      rw [i]
      push_cast
      rw [show ((p : Int)) ^ 2 = (p : Int) * p by rw [Int.pow_succ, Int.pow_succ, Int.pow_zero, Int.one_mul]]
      generalize (lack x : Int) = u
      generalize (lack y : Int) = v
      generalize (p : Int) = q
      generalize (S 2 (p + 1) a : Int) = s1
      generalize (S 2 (p + 1) b : Int) = s2
      generalize (S 1 (p + 1) a : Int) = s3
      generalize (S 1 (p + 1) b : Int) = s4
      generalize (S 0 (p + 1) a : Int) = s5
      generalize (S 0 (p + 1) b : Int) = s6
      grind
end WM
namespace WM
/-- one greater place at most: its place from p on, what the sum about it tells -/
theorem V_zero : ∀ (a b : List Nat) (p : Nat), Cells a → Cells b → a.length = b.length → gr a b ≤ 1 →
    gr a b = 0 ∨ ∃ k : Nat, p ≤ k ∧ (V k p a b = 0 → S 0 p a = S 0 p b → a = b) ∧ 0 ≤ V k p a b := by
  intro a
  induction a with
  | nil => intro b p _ _ hl h; left; cases b <;> simp_all [gr]
  | cons x a ih => intro b p ha hb hl h; cases b with
    | nil => simp at hl
    | cons y b =>
      simp only [List.length_cons, Nat.add_right_cancel_iff] at hl
      have hx := ha x List.mem_cons_self
      have hy := hb y List.mem_cons_self
      have ha' : Cells a := fun c hc => ha c (List.mem_cons_of_mem _ hc)
      have hb' : Cells b := fun c hc => hb c (List.mem_cons_of_mem _ hc)
      simp only [gr] at h ⊢
      by_cases q : y < x
      · -- the greater one is here: the rest is nowhere greater
        rw [if_pos q] at h ⊢
        have h0 : gr a b = 0 := by omega
        right
        have rest : ∀ (a b : List Nat) (r : Nat), Cells a → Cells b → a.length = b.length → gr a b = 0 → p < r → 0 ≤ V p r a b ∧ (V p r a b = 0 → a = b) := by
          intro a
          induction a with
          | nil => intro b r _ _ hl _ _; cases b <;> simp_all [V]
          | cons u a ih2 => intro b r ha hb hl h hr; cases b with
            | nil => simp at hl
            | cons v b =>
              simp only [List.length_cons, Nat.add_right_cancel_iff] at hl
              have hu := ha u List.mem_cons_self
              have hv := hb v List.mem_cons_self
              simp only [gr] at h
              have hvu : ¬ v < u := fun q => by rw [if_pos q] at h; omega
              have h0 : gr a b = 0 := by omega
              obtain ⟨j1, j2⟩ := ih2 b (r + 1) (fun c hc => ha c (List.mem_cons_of_mem _ hc)) (fun c hc => hb c (List.mem_cons_of_mem _ hc)) hl h0 (by omega)
              have l1 : lack v ≤ lack u := by
                rcases Nat.lt_or_ge (lack u) (lack v) with q | q
                · exact absurd ((lack_lt hu hv).mp q) hvu
                · exact q
              have e : ((r + 1 : Nat) : Int) = (r : Int) + 1 := by omega
              rw [e] at j1 j2
              simp only [V]
              have m1 : 0 < ((r : Int) - p) * (r - p) := Int.mul_pos (by omega) (by omega)
              have m2 : 0 ≤ ((lack u : Int) - lack v) * ((r : Int) - p) * (r - p) := by
                rw [Int.mul_assoc]
                exact Int.mul_nonneg (by omega) (by omega)
              refine ⟨by omega, fun z => ?_⟩
              have z1 : V p (r + 1) a b = 0 := by omega
              have z2 : ((lack u : Int) - lack v) * ((r : Int) - p) * (r - p) = 0 := by omega
              rw [Int.mul_assoc] at z2
              have z3 : (lack u : Int) - lack v = 0 := by
                rcases Int.mul_eq_zero.mp z2 with z | z
                · exact z
                · omega
              rw [j2 z1, lack_inj hu hv (by omega)]
        refine ⟨p, Nat.le_refl _, fun z zs => ?_, ?_⟩
        · obtain ⟨j1, j2⟩ := rest a b (p + 1) ha' hb' hl h0 (by omega)
          have e : ((p + 1 : Nat) : Int) = (p : Int) + 1 := by omega
          rw [e] at j1 j2
          simp only [V, Int.sub_self, Int.mul_zero, Int.zero_add] at z
          have e1 := j2 z
          subst e1
          simp only [S, Nat.pow_zero, Nat.mul_one] at zs
          rw [lack_inj hx hy (by omega)]
        · obtain ⟨j1, j2⟩ := rest a b (p + 1) ha' hb' hl h0 (by omega)
          have e : ((p + 1 : Nat) : Int) = (p : Int) + 1 := by omega
          rw [e] at j1
          simp only [V, Int.sub_self, Int.mul_zero, Int.zero_add]
          exact j1
      · rw [if_neg q] at h ⊢
        rw [Nat.zero_add] at h ⊢
        rcases ih b (p + 1) ha' hb' hl h with h0 | ⟨k, hk, h1, h2⟩
        · exact .inl h0
        · right
          have l1 : lack y ≤ lack x := by
            rcases Nat.lt_or_ge (lack x) (lack y) with q' | q'
            · exact absurd ((lack_lt hx hy).mp q') q
            · exact q'
          have e : ((p + 1 : Nat) : Int) = (p : Int) + 1 := by omega
          rw [e] at h1 h2
          have m1 : 0 < ((p : Int) - k) * (p - k) := Int.mul_pos_of_neg_of_neg (by omega) (by omega)
          have m2 : 0 ≤ ((lack x : Int) - lack y) * ((p : Int) - k) * (p - k) := by
            rw [Int.mul_assoc]
            exact Int.mul_nonneg (by omega) (by omega)
          refine ⟨k, by omega, fun z zs => ?_, ?_⟩
          · simp only [V] at z
            have z1 : V k (p + 1) a b = 0 := by omega
            have z2 : ((lack x : Int) - lack y) * ((p : Int) - k) * (p - k) = 0 := by omega
            rw [Int.mul_assoc] at z2
            have z3 : (lack x : Int) - lack y = 0 := by
              rcases Int.mul_eq_zero.mp z2 with z | z
              · exact z
              · omega
            simp only [S, Nat.pow_zero, Nat.mul_one] at zs
            have e2 : lack x = lack y := by omega
            rw [h1 z1 (by omega), lack_inj hx hy e2]
          · simp only [V]
            omega
theorem figs_inj {k n m : Nat} (hn : n < 16 ^ k) (hm : m < 16 ^ k) (h : figs k n = figs k m) : n = m := by
  rw [← num_figs k n hn, ← num_figs k m hm, h]
theorem S_bound (k : Nat) (hk : k = 0 ∨ k = 1 ∨ k = 2) {l : List Nat} (h : l.length ≤ 226) : S k 1 l < 16 ^ (3 + 2 * k) := by
  rcases hk with rfl | rfl | rfl
  · exact S0_lt h
  · exact S1_lt h
  · exact S2_lt h
/-- where a sum differs, one is greater in its tellings -/
theorem gr_tell {k n m : Nat} (hn : n < 16 ^ k) (hm : m < 16 ^ k) (h : n ≠ m) : 1 ≤ gr (twice (figs k n)) (twice (figs k m)) :=
  gr_twice (figs_cells _ _) (figs_cells _ _) (by rw [figs_len, figs_len]) fun e => h (figs_inj hn hm e)
theorem gr_tail (a b : List Nat) : gr (tail a) (tail b) = gr (twice (figs 3 (S 0 1 a))) (twice (figs 3 (S 0 1 b))) + gr (twice (figs 5 (S 1 1 a))) (twice (figs 5 (S 1 1 b))) + gr (twice (figs 7 (S 2 1 a))) (twice (figs 7 (S 2 1 b))) := by
  unfold tail
  rw [gr_app (by simp [twice_len, figs_len]), gr_app (by simp [twice_len, figs_len])]
/-- of two heads with their tails: one greater place at most, then they are alike -/
theorem alike {a b : List Nat} (ha : Cells a) (hb : Cells b) (la : a.length = 226) (lb : b.length = 226) (h : gr (a ++ tail a) (b ++ tail b) ≤ 1) : a = b := by
  rw [gr_app (by omega), gr_tail] at h
  have t0 : S 0 1 a ≠ S 0 1 b → 1 ≤ _ := fun q => gr_tell (S0_lt (by omega)) (S0_lt (by omega)) q
  have t1 : S 1 1 a ≠ S 1 1 b → 1 ≤ _ := fun q => gr_tell (S1_lt (by omega)) (S1_lt (by omega)) q
  have t2 : S 2 1 a ≠ S 2 1 b → 1 ≤ _ := fun q => gr_tell (S2_lt (by omega)) (S2_lt (by omega)) q
  by_cases hab : gr a b = 0
  · -- nowhere greater in the head: were it unlike, all three sums would be
    obtain ⟨_, i0⟩ := gr0_le ha hb (by omega) hab 0 1 (by omega)
    obtain ⟨_, i1⟩ := gr0_le ha hb (by omega) hab 1 1 (by omega)
    by_cases q0 : S 0 1 a = S 0 1 b
    · exact i0 q0.symm
    · by_cases q1 : S 1 1 a = S 1 1 b
      · exact i1 q1.symm
      · have := t0 q0; have := t1 q1; omega
  · have e0 : S 0 1 a = S 0 1 b := Decidable.byContradiction fun q => by have := t0 q; omega
    have e1 : S 1 1 a = S 1 1 b := Decidable.byContradiction fun q => by have := t1 q; omega
    have e2 : S 2 1 a = S 2 1 b := Decidable.byContradiction fun q => by have := t2 q; omega
    rcases V_zero a b 1 ha hb (by omega) (by omega) with q | ⟨k, _, h1, _⟩
    · exact absurd q hab
    · refine h1 ?_ e0
      have := V_eq k a b 1 (by omega)
      rw [e0, e1, e2] at this
      simpa using this
/-- of two sealed pages each one is greater at two cells at least -/
theorem page_two {t u : List Nat} (ht : IsText t) (hu : IsText u) (h : gr (page t) (page u) ≤ 1) : page t = page u := by
  unfold page at h ⊢
  have e := alike (head_cells t) (head_cells u) (head_len ht.len) (head_len hu.len) h
  rw [e]
end WM
namespace WM
def signOf (n : Nat) : Option Nat := if n = 10 then some 10 else if 32 ≤ n ∧ n ≤ 126 ∧ n ≠ 37 then some n else none
def textIn : List Nat → Option (List Nat)
  | a :: b :: r => if a = 102 ∧ b = 102 then some [] else
    match signOf (wo a * 16 + wo b) with
    | none => none
    | some s => (textIn r).map (s :: ·)
  | _ => some []
inductive Told where
  | empty | whole (t : List Nat) | mended (t : List Nat) (i : Nat) | torn
  deriving DecidableEq
/-- the places at which two lists differ, from p on -/
def unl : Nat → List Nat → List Nat → List Nat
  | p, a :: l, b :: m => if a = b then unl (p + 1) l m else p :: unl (p + 1) l m
  | _, _, _ => []
def toldBy (c r : List Nat) : Option Told :=
  match textIn (r.take 226) with
  | none => none
  | some t => if c = page t then some (.whole t) else
    match unl 0 c (page t) with
    | [i] => if c.getD i 0 < (page t).getD i 0 then some (.mended t i) else none
    | _ => none
def allf : List Nat := List.replicate 256 102
def cut (l : List Nat) (a b : Nat) : List Nat := (l.drop a).take (b - a)
def lift (c : List Nat) : List Nat :=
  let h := c.take 226
  let by_ : Int := (S 0 1 h : Int) - num (cut c 226 229)
  if by_ < 1 then c else
  let at_ : Int := ((S 1 1 h : Int) - num (cut c 232 237)) / by_ - 1
  if ¬ (0 ≤ at_ ∧ at_ < 226) then c else
  let lk : Int := (lack (c.getD at_.toNat 0) : Int) - by_
  if lk < 0 then c else c.take at_.toNat ++ [hx (15 - lk).toNat] ++ c.drop (at_.toNat + 1)
def opn (c : List Nat) : Told :=
  if c = allf then .empty else
  match toldBy c c with
  | some x => x
  | none => match toldBy c (lift c) with
    | some x => x
    | none => .torn
/-- what a told page is -/
inductive Rel (c : List Nat) : Told → Prop where
  | whole {t : List Nat} (ht : IsText t) (e : c = page t) : Rel c (.whole t)
  | mended {t : List Nat} {i d : Nat} (ht : IsText t) (hi : i < 256) (hd : IsCell d) (hl : d < (page t).getD i 0) (e : c = (page t).set i d) : Rel c (.mended t i)
/-! reading a text -/
theorem signOf_ok {n s : Nat} (h : signOf n = some s) : okc s ∧ s = n := by
  unfold signOf at h
  split at h
  · rename_i q; cases h; exact ⟨.inl rfl, q.symm⟩
  · split at h
    · rename_i q; cases h; exact ⟨.inr q, rfl⟩
    · cases h
theorem signOf_of {n : Nat} (h : okc n) : signOf n = some n := by
  unfold signOf
  rcases h with h | h
  · rw [if_pos h, h]
  · split
    · rename_i q; rw [q]
    · first | rfl | rw [if_pos h]
theorem textIn_ok : ∀ (n : Nat) (l : List Nat) (t : List Nat), l.length ≤ n → textIn l = some t → (∀ c ∈ t, okc c) ∧ 2 * t.length ≤ l.length := by
  intro n
  induction n using Nat.strongRecOn with
  | _ n ih =>
    intro l t hl h
    match l, h with
    | [], h => cases h; simp
    | [a], h => cases h; simp
    | a :: b :: r, h =>
      unfold textIn at h
      split at h
      · cases h; simp
      · split at h
        · cases h
        · rename_i s hs
          cases q : textIn r with
          | none => rw [q] at h; cases h
          | some u =>
            rw [q] at h
            cases h
            obtain ⟨i1, i2⟩ := ih (n - 2) (by simp only [List.length_cons] at hl; omega) r u (by simp only [List.length_cons] at hl; omega) q
            refine ⟨fun c hc => ?_, by simp only [List.length_cons]; omega⟩
            rcases List.mem_cons.mp hc with e | e
            · rw [e]; exact (signOf_ok hs).1
            · exact i1 c e
theorem okc_lt {c : Nat} (h : okc c) : c < 127 := by unfold okc at h; omega
theorem figs2 (c : Nat) : figs 2 c = [hx (c / 16 % 16), hx (c % 16)] := by simp [figs]
theorem textIn_enc : ∀ (t r : List Nat), (∀ c ∈ t, okc c) → textIn (enc t ++ r) = (textIn r).map (t ++ ·) := by
  intro t
  induction t with
  | nil => intro r _; simp [enc]
  | cons c t ih =>
    intro r h
    have hc := h c List.mem_cons_self
    have e : enc (c :: t) ++ r = hx (c / 16 % 16) :: hx (c % 16) :: (enc t ++ r) := by
      simp [enc, figs2]
    have hlt := okc_lt hc
    rw [e]
    have n1 : ¬ (hx (c / 16 % 16) = 102 ∧ hx (c % 16) = 102) := by
      rintro ⟨q, _⟩
      unfold hx at q
      split at q <;> omega
    rw [textIn, if_neg n1, wo_hx (by omega), wo_hx (by omega), show c / 16 % 16 * 16 + c % 16 = c by omega, signOf_of hc]
    simp only
    rw [ih r (fun d hd => h d (List.mem_cons_of_mem _ hd)), Option.map_map]
    rfl
theorem textIn_rep (n : Nat) : textIn (List.replicate (2 * n) 102) = some [] := by
  cases n with
  | zero => rfl
  | succ n =>
    rw [show 2 * (n + 1) = 2 * n + 2 by omega, List.replicate_succ, List.replicate_succ]
    unfold textIn
    simp
theorem textIn_head {t : List Nat} (h : IsText t) : textIn (headOf t) = some t := by
  unfold headOf
  have := h.len
  rw [textIn_enc _ _ h.ok, show 226 - 2 * t.length = 2 * (113 - t.length) by omega, textIn_rep]
  simp
theorem head_page {t : List Nat} (h : IsText t) : (page t).take 226 = headOf t := by
  unfold page
  rw [List.take_left' (head_len h.len)]
/-- what is read of a page's cells is its text -/
theorem page_inj {t u : List Nat} (ht : IsText t) (hu : IsText u) (h : page t = page u) : t = u := by
  have e := congrArg (fun l => textIn (l.take 226)) h
  simp only [head_page ht, head_page hu, textIn_head ht, textIn_head hu] at e
  exact Option.some.inj e
/-! the places that differ -/
theorem unl_self (p : Nat) (a : List Nat) : unl p a a = [] := by
  induction a generalizing p with
  | nil => rfl
  | cons x a ih => simp [unl, ih]
theorem unl_nil : ∀ (a b : List Nat) (p : Nat), a.length = b.length → unl p a b = [] → a = b := by
  intro a
  induction a with
  | nil => intro b p h _; cases b <;> simp_all
  | cons x a ih => intro b p h e; cases b with
    | nil => simp at h
    | cons y b =>
      simp only [List.length_cons, Nat.add_right_cancel_iff] at h
      unfold unl at e
      split at e
      · rename_i q; rw [q, ih b (p + 1) h e]
      · cases e
theorem unl_one : ∀ (a b : List Nat) (p i : Nat), a.length = b.length → unl p a b = [i] → p ≤ i ∧ i < p + b.length ∧ a = b.set (i - p) (a.getD (i - p) 0) := by
  intro a
  induction a with
  | nil => intro b p i h e; cases b <;> simp_all [unl]
  | cons x a ih => intro b p i h e; cases b with
    | nil => simp at h
    | cons y b =>
      simp only [List.length_cons, Nat.add_right_cancel_iff] at h
      unfold unl at e
      split at e
      · rename_i q
        obtain ⟨h1, h2, h3⟩ := ih b (p + 1) i h e
        refine ⟨by omega, by simp only [List.length_cons]; omega, ?_⟩
        have e2 : i - p = (i - (p + 1)) + 1 := by omega
        rw [e2, List.set_cons_succ, List.getD_cons_succ, q, ← h3]
      · have e1 : p = i := (List.cons.inj e).1
        have e2 : unl (p + 1) a b = [] := (List.cons.inj e).2
        subst e1
        refine ⟨Nat.le_refl _, by simp, ?_⟩
        simp [unl_nil a b (p + 1) h e2]
theorem unl_set : ∀ (b : List Nat) (p i d : Nat), i < b.length → d ≠ b.getD i 0 → unl p (b.set i d) b = [p + i] := by
  intro b
  induction b with
  | nil => intro p i d h _; simp at h
  | cons y b ih =>
    intro p i d h hd
    cases i with
    | zero =>
      simp only [List.getD_cons_zero] at hd
      simp only [List.set_cons_zero, unl, if_neg hd, unl_self, Nat.add_zero]
    | succ i =>
      simp only [List.getD_cons_succ] at hd
      simp only [List.set_cons_succ, unl, if_true]
      rw [ih (p + 1) i d (by simpa using h) hd]
      congr 1; omega
theorem gr_set : ∀ (b : List Nat) (i d : Nat), gr (b.set i d) b ≤ 1 ∧ gr b (b.set i d) ≤ 1 := by
  intro b
  induction b with
  | nil => intro i d; simp [gr]
  | cons y b ih =>
    intro i d
    cases i with
    | zero =>
      simp only [List.set_cons_zero, gr, gr_self]
      constructor <;> split <;> omega
    | succ i =>
      simp only [List.set_cons_succ, gr, Nat.lt_irrefl, if_false, Nat.zero_add]
      exact ih i d
theorem gr_le_of : ∀ (a b : List Nat), (∀ i, i < a.length → a.getD i 0 ≤ b.getD i 0) → gr a b = 0 := by
  intro a
  induction a with
  | nil => intro b _; simp [gr]
  | cons x a ih => intro b h; cases b with
    | nil => simp [gr]
    | cons y b =>
      have h0 := h 0 (by simp)
      simp only [List.getD_cons_zero] at h0
      have := ih b fun i hi => by
        have := h (i + 1) (by simp; omega)
        simpa using this
      simp only [gr, this]
      rw [if_neg (by omega)]
/-- of three: what b lacks of a, and c of b, at most together -/
theorem gr_tri : ∀ (a b c : List Nat), a.length = b.length → b.length = c.length → gr a c ≤ gr a b + gr b c := by
  intro a
  induction a with
  | nil => intro b c _ _; simp [gr]
  | cons x a ih => intro b c h1 h2; cases b with
    | nil => simp at h1
    | cons y b => cases c with
      | nil => simp at h2
      | cons z c =>
        simp only [List.length_cons, Nat.add_right_cancel_iff] at h1 h2
        have := ih b c h1 h2
        simp only [gr]
        by_cases q1 : y < x <;> by_cases q2 : z < y <;> by_cases q3 : z < x <;> simp only [q1, q2, q3, if_true, if_false] <;> omega
theorem set_cells {l : List Nat} {i d : Nat} (h : Cells l) (hd : IsCell d) : Cells (l.set i d) := fun c hc => by
  rcases List.mem_or_eq_of_mem_set hc with q | q
  · exact h c q
  · rw [q]; exact hd
end WM
namespace WM
theorem digit_hx {d : Nat} (h : d < 16) : (Nat.digitChar d).toNat = hx d := by
  match d, h with
  | 0, _ => rfl | 1, _ => rfl | 2, _ => rfl | 3, _ => rfl | 4, _ => rfl | 5, _ => rfl | 6, _ => rfl | 7, _ => rfl
  | 8, _ => rfl | 9, _ => rfl | 10, _ => rfl | 11, _ => rfl | 12, _ => rfl | 13, _ => rfl | 14, _ => rfl | 15, _ => rfl
  | d + 16, h => omega
theorem figs_zero (k : Nat) : figs k 0 = List.replicate k 48 := by
  induction k with
  | zero => rfl
  | succ k ih => rw [figs, Nat.zero_div, ih, List.replicate_succ']; rfl
theorem digs (k : Nat) : ∀ n, 1 ≤ k → n < 16 ^ k → (Nat.toDigits 16 n).length ≤ k ∧ List.replicate (k - (Nat.toDigits 16 n).length) 48 ++ (Nat.toDigits 16 n).map Char.toNat = figs k n := by
  induction k with
  | zero => intro n h; omega
  | succ k ih =>
    intro n _ h
    by_cases hn : n < 16
    · have e : Nat.toDigits 16 n = [Nat.digitChar n] := Nat.toDigits_of_lt_base hn
      rw [e]
      refine ⟨by simp, ?_⟩
      have e2 : n / 16 = 0 := by omega
      have e3 : n % 16 = n := by omega
      rw [figs, e2, e3, figs_zero]
      simp [digit_hx hn]
    · have e : Nat.toDigits 16 n = Nat.toDigits 16 (n / 16) ++ [Nat.digitChar (n % 16)] := Nat.toDigits_of_base_le (by omega) (by omega)
      have hk : 1 ≤ k := by
        rcases Nat.eq_zero_or_pos k with z | z
        · subst z; simp at h; omega
        · exact z
      have hlt : n / 16 < 16 ^ k := by rw [Nat.pow_succ] at h; omega
      obtain ⟨i1, i2⟩ := ih (n / 16) hk hlt
      rw [e]
      refine ⟨by simp; omega, ?_⟩
      rw [figs, ← i2]
      simp only [List.length_append, List.length_cons, List.length_nil, List.map_append, List.map_cons, List.map_nil, ← List.append_assoc, digit_hx (show n % 16 < 16 by omega)]
      congr 3
      omega
end WM
namespace WM
theorem page_ne_allf {t : List Nat} (h : t.length ≤ 113) : page t ≠ allf := by
  intro e
  have hh := head_len h
  have e2 : (page t).drop 226 = List.replicate 30 102 := by rw [e]; rfl
  unfold page at e2
  rw [List.drop_left' hh] at e2
  unfold tail twice at e2
  generalize S 0 1 (headOf t) = s at e2
  have ef : ∃ a b c, figs 3 s = [a, b, c] := ⟨_, _, _, rfl⟩
  obtain ⟨a, b, c, ef⟩ := ef
  rw [ef] at e2
  have e3 : a :: b :: c :: hx (lack a) :: hx (lack b) :: hx (lack c) :: (twice (figs 5 (S 1 1 (headOf t))) ++ twice (figs 7 (S 2 1 (headOf t)))) = 102 :: 102 :: 102 :: 102 :: List.replicate 26 102 := by
    simpa [flip, twice] using e2
  have h1 : a = 102 := (List.cons.inj e3).1
  have h2 : hx (lack a) = 102 := (List.cons.inj (List.cons.inj (List.cons.inj (List.cons.inj e3).2).2).2).1
  rw [h1] at h2
  exact absurd h2 (by decide)
theorem toldBy_page {t : List Nat} (h : IsText t) : toldBy (page t) (page t) = some (.whole t) := by
  unfold toldBy
  rw [head_page h, textIn_head h]
  exact if_pos rfl
theorem opn_page {t : List Nat} (h : IsText t) : opn (page t) = .whole t := by
  unfold opn
  rw [if_neg (page_ne_allf h.len), toldBy_page h]
theorem toldBy_rel {c r : List Nat} {x : Told} (hc : Cells c) (hl : c.length = 256) (hr : r.length = 256) (h : toldBy c r = some x) : Rel c x := by
  unfold toldBy at h
  cases ht : textIn (r.take 226) with
  | none => rw [ht] at h; exact nomatch h
  | some t =>
    rw [ht] at h
    have hT : IsText t := by
      obtain ⟨h1, h2⟩ := textIn_ok _ _ _ (Nat.le_refl _) ht
      simp only [List.length_take] at h2
      exact ⟨h1, by omega⟩
    have pl := page_len hT.len
    simp only at h
    by_cases q : c = page t
    · rw [if_pos q] at h
      rw [← Option.some.inj h]
      exact .whole hT q
    · rw [if_neg q] at h
      cases hu : unl 0 c (page t) with
      | nil => rw [hu] at h; exact nomatch h
      | cons i us => cases us with
        | cons j us => rw [hu] at h; exact nomatch h
        | nil =>
          rw [hu] at h
          simp only at h
          obtain ⟨_, h2, h3⟩ := unl_one c (page t) 0 i (by omega) hu
          by_cases q2 : c.getD i 0 < (page t).getD i 0
          · rw [if_pos q2] at h
            rw [← Option.some.inj h]
            rw [Nat.sub_zero] at h3
            refine .mended hT (by omega) ?_ q2 h3
            have hi : i < c.length := by omega
            rw [List.getD, List.getElem?_eq_getElem hi]
            exact hc _ (List.getElem_mem hi)
          · rw [if_neg q2] at h; exact nomatch h
/-- the page below q, and q below what it is told as: the same page -/
theorem rel_above {t q : List Nat} {x : Told} (ht : IsText t) (hl : q.length = 256) (hge : ∀ i, (page t).getD i 0 ≤ q.getD i 0) (hr : Rel q x) : q = page t := by
  cases hr with
  | whole hu e =>
    rename_i u
    have : page t = page u := page_two ht hu (by rw [gr_le_of _ _ fun i _ => by rw [← e]; exact hge i]; exact Nat.zero_le _)
    rw [e, this]
  | mended hu hi hd hlt e =>
    rename_i u i d
    have pu := page_len hu.len
    have pt := page_len ht.len
    have qle : ∀ j, q.getD j 0 ≤ (page u).getD j 0 := fun j => by
      rw [e]
      by_cases h : j = i
      · subst h
        have e1 : ((page u).set j d).getD j 0 = d := by rw [List.getD, List.getElem?_set_self (by omega)]; rfl
        rw [e1]; exact Nat.le_of_lt hlt
      · have e1 : ((page u).set i d).getD j 0 = (page u).getD j 0 := by rw [List.getD, List.getElem?_set_ne (Ne.symm h)]; rfl
        rw [e1]; exact Nat.le_refl _
    have ep : page t = page u := page_two ht hu (by rw [gr_le_of _ _ fun i _ => Nat.le_trans (hge i) (qle i)]; exact Nat.zero_le _)
    apply List.ext_getElem (by omega)
    intro j h1 h2
    have g := hge j
    have g2 := qle j
    rw [← ep] at g2
    have e1 : (page t).getD j 0 = (page t)[j] := by rw [List.getD, List.getElem?_eq_getElem h2]; rfl
    have e2 : q.getD j 0 = q[j] := by rw [List.getD, List.getElem?_eq_getElem h1]; rfl
    rw [e1, e2] at g g2
    omega
theorem lift_ok {l : List Nat} (hc : Cells l) (hl : l.length = 256) : Cells (lift l) ∧ (lift l).length = 256 := by
  unfold lift
  dsimp only
  split
  · exact ⟨hc, hl⟩
  · split
    · exact ⟨hc, hl⟩
    · split
      · exact ⟨hc, hl⟩
      · rename_i h1 h2 h3
        refine ⟨fun c h => ?_, by simp only [List.length_append, List.length_take, List.length_drop, List.length_cons, List.length_nil]; omega⟩
        rcases List.mem_append.mp h with h | h
        · rcases List.mem_append.mp h with h | h
          · exact hc c (List.mem_of_mem_take h)
          · rw [List.mem_singleton.mp h]; exact hx_cell (by omega)
        · exact hc c (List.mem_of_mem_drop h)
def due (t p q : List Nat) : Told := if q = p then .whole t else if q = allf then .empty else .torn
theorem opn_raised {t q : List Nat} (ht : IsText t) (hc : Cells q) (hl : q.length = 256) (hge : ∀ i, (page t).getD i 0 ≤ q.getD i 0) : opn q = due t (page t) q := by
  unfold due
  by_cases h1 : q = page t
  · rw [if_pos h1, h1, opn_page ht]
  · rw [if_neg h1]
    unfold opn
    by_cases h2 : q = allf
    · rw [if_pos h2, if_pos h2]
    · rw [if_neg h2, if_neg h2]
      have z : ∀ r, r.length = 256 → toldBy q r = none := fun r hr => by
        cases e : toldBy q r with
        | none => rfl
        | some x => exact absurd (rel_above ht hl hge (toldBy_rel hc hl hr e)) h1
      rw [z q hl, z (lift q) (lift_ok hc hl).2]
end WM
namespace WM
theorem cell_le {c : Nat} (h : IsCell c) : c ≤ 102 := by unfold IsCell at h; omega
theorem getD_cell {l : List Nat} {i : Nat} (h : Cells l) (hi : i < l.length) : IsCell (l.getD i 0) := by
  rw [List.getD, List.getElem?_eq_getElem hi]
  exact h _ (List.getElem_mem hi)
theorem getD_set_self {l : List Nat} {i d : Nat} (hi : i < l.length) : (l.set i d).getD i 0 = d := by
  rw [List.getD, List.getElem?_set_self hi]; rfl
theorem getD_set_ne {l : List Nat} {i j d : Nat} (h : i ≠ j) : (l.set i d).getD j 0 = l.getD j 0 := by
  rw [List.getD, List.getElem?_set_ne h]; rfl
/-- the text that a telling tells, and the place that fell -/
def Tells (c u : List Nat) (x : Told) : Prop := (x = .whole u ∧ c = page u) ∨ ∃ i, i < 256 ∧ x = .mended u i ∧ unl 0 c (page u) = [i] ∧ c.getD i 0 < (page u).getD i 0
theorem rel_tells {c : List Nat} {x : Told} (h : Rel c x) : ∃ u, IsText u ∧ gr c (page u) = 0 ∧ gr (page u) c ≤ 1 ∧ Tells c u x := by
  cases h with
  | whole hu e =>
    rename_i u
    refine ⟨u, hu, ?_, ?_, .inl ⟨rfl, e⟩⟩
    · rw [e]; exact gr_le_of _ _ fun i _ => Nat.le_refl _
    · rw [e, gr_le_of _ _ fun i _ => Nat.le_refl _]; exact Nat.zero_le _
  | mended hu hi hd hlt e =>
    rename_i u i d
    have pu := page_len hu.len
    refine ⟨u, hu, ?_, ?_, .inr ⟨i, hi, rfl, ?_, ?_⟩⟩
    · rw [e]
      refine gr_le_of _ _ fun j _ => ?_
      by_cases h : i = j
      · subst h; rw [getD_set_self (by omega)]; exact Nat.le_of_lt hlt
      · rw [getD_set_ne h]; exact Nat.le_refl _
    · rw [e]; exact (gr_set _ _ _).2
    · rw [e, unl_set _ _ _ _ (by omega) (Nat.ne_of_lt hlt), Nat.zero_add]
    · rw [e, getD_set_self (by omega)]; exact hlt
theorem tells_len {c u : List Nat} {x : Told} (hu : IsText u) (hr : Rel c x) : c.length = 256 := by
  cases hr with
  | whole h e => rw [e, page_len h.len]
  | mended h _ _ _ e => rw [e, List.length_set, page_len h.len]
/-- one telling of the cells at most -/
theorem rel_uniq {c : List Nat} {x y : Told} (hx : Rel c x) (hy : Rel c y) : x = y := by
  obtain ⟨u, hu, a1, a2, tu⟩ := rel_tells hx
  obtain ⟨v, hv, b1, b2, tv⟩ := rel_tells hy
  have hl := tells_len hu hx
  have pu := page_len hu.len
  have pv := page_len hv.len
  have e : page u = page v := page_two hu hv (Nat.le_trans (gr_tri _ c _ (by omega) (by omega)) (by omega))
  have euv := page_inj hu hv e
  subst euv
  rcases tu with ⟨rfl, e1⟩ | ⟨i, _, rfl, e1, _⟩ <;> rcases tv with ⟨rfl, e2⟩ | ⟨j, _, rfl, e2, _⟩
  · rfl
  · rw [e1, unl_self] at e2; exact nomatch e2
  · rw [e2, unl_self] at e1; exact nomatch e1
  · rw [e1] at e2; rw [(List.cons.inj e2).1]
theorem toldBy_tells {c r u : List Nat} {x : Told} (hr : textIn (r.take 226) = some u) (h : Tells c u x) : toldBy c r = some x := by
  unfold toldBy
  rw [hr]
  rcases h with ⟨rfl, e⟩ | ⟨i, _, rfl, e, hlt⟩
  · exact if_pos e
  · have ne : c ≠ page u := fun q => by rw [q, unl_self] at e; exact nomatch e
    show (if c = page u then _ else _) = _
    rw [if_neg ne, e]
    exact if_pos hlt
theorem S_set (k : Nat) : ∀ (l : List Nat) (p i d : Nat), i < l.length → S k p (l.set i d) + lack (l.getD i 0) * (p + i) ^ k = S k p l + lack d * (p + i) ^ k
  | [], _, _, _, h => nomatch h
  | c :: l, p, 0, d, _ => by
    show lack d * p ^ k + S k (p + 1) l + lack c * (p + 0) ^ k = lack c * p ^ k + S k (p + 1) l + lack d * (p + 0) ^ k
    simp only [Nat.add_zero]
    omega
  | c :: l, p, i + 1, d, h => by
    have ih := S_set k l (p + 1) i d (by simpa using h)
    have e : p + 1 + i = p + (i + 1) := by omega
    rw [e] at ih
    show lack c * p ^ k + S k (p + 1) (l.set i d) + lack (l.getD i 0) * (p + (i + 1)) ^ k = lack c * p ^ k + S k (p + 1) l + lack d * (p + (i + 1)) ^ k
    omega
theorem drop_set_lo (l : List Nat) (i d n : Nat) (h : i < n) : (l.set i d).drop n = l.drop n := by
  rw [List.drop_set]
  exact if_pos h
theorem page_drop {t : List Nat} (h : IsText t) : (page t).drop 226 = tail (headOf t) := by
  unfold page
  rw [List.drop_left' (head_len h.len)]
theorem cut_tail {t : List Nat} (h : IsText t) {i d : Nat} (hi : i < 226) (a b : Nat) (ha : 226 ≤ a) : cut ((page t).set i d) a b = ((tail (headOf t)).drop (a - 226)).take (b - a) := by
  unfold cut
  rw [drop_set_lo _ _ _ _ (by omega), ← page_drop h, List.drop_drop, show 226 + (a - 226) = a by omega]
theorem cut1 (h : List Nat) : ((tail h).drop 0).take 3 = figs 3 (S 0 1 h) := by
  unfold tail twice
  rw [List.drop_zero, List.append_assoc, List.append_assoc, List.take_left' (figs_len _ _)]
theorem cut1f (h : List Nat) : ((tail h).drop 3).take 3 = flip (figs 3 (S 0 1 h)) := by
  unfold tail twice
  rw [List.append_assoc, List.append_assoc, List.drop_left' (figs_len _ _), List.take_left' (by rw [flip_len, figs_len])]
theorem cut2 (h : List Nat) : ((tail h).drop 6).take 5 = figs 5 (S 1 1 h) := by
  unfold tail
  rw [List.append_assoc, List.drop_left' (by rw [twice_len, figs_len])]
  unfold twice
  rw [List.append_assoc, List.take_left' (figs_len _ _)]
theorem cut2f (h : List Nat) : ((tail h).drop 11).take 5 = flip (figs 5 (S 1 1 h)) := by
  unfold tail
  rw [List.append_assoc, show 11 = 6 + 5 by rfl, ← List.drop_drop, List.drop_left' (by rw [twice_len, figs_len])]
  unfold twice
  rw [List.append_assoc, List.drop_left' (figs_len _ _), List.take_left' (by rw [flip_len, figs_len])]
theorem take_set_hi (l : List Nat) (i d n : Nat) (h : i < n) : (l.set i d).take n = (l.take n).set i d := by
  rw [List.take_set]
theorem take_set_ge (l : List Nat) (i d n : Nat) (h : n ≤ i) : (l.set i d).take n = l.take n := by
  rw [List.take_set, List.set_eq_of_length_le (by rw [List.length_take]; omega)]
/-- the sums of a page's cells of which one fell -/
theorem fallen_sums {t : List Nat} (h : IsText t) {i d : Nat} (hi : i < 226) (hd : IsCell d) (hlt : d < (page t).getD i 0) :
    lack ((page t).getD i 0) < lack d ∧ lack d ≤ 15 ∧
    (S 0 1 (((page t).set i d).take 226) : Int) - (S 0 1 (headOf t) : Int) = (lack d : Int) - (lack ((page t).getD i 0) : Int) ∧
    (S 1 1 (((page t).set i d).take 226) : Int) - (S 1 1 (headOf t) : Int) = ((lack d : Int) - (lack ((page t).getD i 0) : Int)) * ((i : Int) + 1) := by
  have pl := page_len h.len
  have hh := head_len h.len
  have hc : IsCell ((page t).getD i 0) := getD_cell (page_cells t) (by omega)
  have e : ((page t).set i d).take 226 = (headOf t).set i d := by rw [take_set_hi _ _ _ _ hi, head_page h]
  have eg : (page t).getD i 0 = (headOf t).getD i 0 := by
    unfold page
    rw [List.getD, List.getElem?_append_left (by omega)]; rfl
  have s0 := S_set 0 (headOf t) 1 i d (by omega)
  have s1 := S_set 1 (headOf t) 1 i d (by omega)
  rw [Nat.pow_zero, Nat.mul_one, Nat.mul_one] at s0
  rw [Nat.pow_one] at s1
  refine ⟨(lack_lt hc hd).mpr hlt, lack_le d, ?_, ?_⟩
  · rw [e, eg]; omega
  · rw [e, eg, Int.sub_mul]
    have q : ((lack d : Nat) : Int) * ((i : Int) + 1) = ((lack d * (1 + i) : Nat) : Int) := by push_cast; rw [Int.add_comm]
    have q2 : ((lack ((headOf t).getD i 0) : Nat) : Int) * ((i : Int) + 1) = ((lack ((headOf t).getD i 0) * (1 + i) : Nat) : Int) := by push_cast; rw [Int.add_comm]
    rw [q, q2]
    omega
theorem set_back {l : List Nat} {i d c : Nat} (hi : i < l.length) (hc : l.getD i 0 = c) : (l.set i d).take i ++ [c] ++ (l.set i d).drop (i + 1) = l := by
  rw [take_set_ge _ _ _ _ (Nat.le_refl _), drop_set_lo _ _ _ _ (Nat.lt_succ_self _), ← hc, List.append_assoc]
  have e : [l.getD i 0] ++ l.drop (i + 1) = l.drop i := by
    rw [List.drop_eq_getElem_cons hi, List.getD, List.getElem?_eq_getElem hi]; rfl
  rw [e, List.take_append_drop]
theorem lift_fallen {t : List Nat} (h : IsText t) {i d : Nat} (hi : i < 226) (hd : IsCell d) (hlt : d < (page t).getD i 0) : lift ((page t).set i d) = page t := by
  have pl := page_len h.len
  have hh := head_len h.len
  have hc : IsCell ((page t).getD i 0) := getD_cell (page_cells t) (by omega)
  obtain ⟨h1, h2, h3, h4⟩ := fallen_sums h hi hd hlt
  have c1 : cut ((page t).set i d) 226 229 = figs 3 (S 0 1 (headOf t)) := by rw [cut_tail h hi _ _ (by omega)]; exact cut1 _
  have c2 : cut ((page t).set i d) 232 237 = figs 5 (S 1 1 (headOf t)) := by rw [cut_tail h hi _ _ (by omega)]; exact cut2 _
  unfold lift
  dsimp only
  rw [c1, c2, num_figs _ _ (S0_lt (by omega)), num_figs _ _ (S1_lt (by omega)), h3, h4]
  rw [if_neg (by omega)]
  have pos : (lack d : Int) - (lack ((page t).getD i 0) : Int) ≠ 0 := by omega
  rw [Int.mul_ediv_cancel_left _ pos]
  have ea : (i : Int) + 1 - 1 = (i : Int) := by omega
  rw [ea, if_neg (by omega), Int.toNat_natCast, getD_set_self (by omega)]
  have el : (lack d : Int) - ((lack d : Int) - (lack ((page t).getD i 0) : Int)) = (lack ((page t).getD i 0) : Int) := by omega
  rw [el, if_neg (by omega)]
  have et : ((15 : Int) - (lack ((page t).getD i 0) : Int)).toNat = 15 - lack ((page t).getD i 0) := by omega
  rw [et, hx_lack hc]
  exact set_back (by omega) rfl
theorem fallen_ne_allf {t : List Nat} (h : IsText t) {i d : Nat} (hi : i < 256) (hlt : d < (page t).getD i 0) : (page t).set i d ≠ allf := by
  intro e
  have pl := page_len h.len
  have e1 : ((page t).set i d).getD i 0 = d := getD_set_self (by omega)
  have e2 : allf.getD i 0 = 102 := by
    unfold allf
    rw [List.getD, List.getElem?_replicate, if_pos hi]; rfl
  rw [e, e2] at e1
  have := cell_le (getD_cell (page_cells t) (i := i) (by omega))
  omega
theorem rel_ne_allf {c : List Nat} {x : Told} (h : Rel c x) : c ≠ allf := by
  cases h with
  | whole hu e => rw [e]; exact page_ne_allf hu.len
  | mended hu hi hd hlt e => rw [e]; exact fallen_ne_allf hu hi hlt
/-- cells that are a page, or a page of which one cell fell, are told so -/
theorem opn_rel {c : List Nat} {x : Told} (hcc : Cells c) (h : Rel c x) : opn c = x := by
  have hl : c.length = 256 := by obtain ⟨u, hu, _⟩ := rel_tells h; exact tells_len hu h
  unfold opn
  rw [if_neg (rel_ne_allf h)]
  cases e : toldBy c c with
  | some y => exact rel_uniq (toldBy_rel hcc hl hl e) h
  | none =>
    have tt := h
    cases h with
    | whole hu ec =>
      rename_i u
      have : toldBy c c = some (.whole u) := by rw [ec]; exact toldBy_page hu
      rw [this] at e; exact nomatch e
    | mended hu hi hd hlt ec =>
      rename_i u i d
      have pl := page_len hu.len
      have tl : Tells c u (.mended u i) := .inr ⟨i, hi, rfl, by rw [ec, unl_set _ _ _ _ (by omega) (Nat.ne_of_lt hlt), Nat.zero_add], by rw [ec, getD_set_self (by omega)]; exact hlt⟩
      by_cases q : i < 226
      · have el : lift c = page u := by rw [ec]; exact lift_fallen hu q hd hlt
        have : toldBy c (lift c) = some (.mended u i) := toldBy_tells (by rw [el, head_page hu, textIn_head hu]) tl
        rw [this]
      · have : toldBy c c = some (.mended u i) := toldBy_tells (by rw [ec, take_set_ge _ _ _ _ (by omega), head_page hu, textIn_head hu]) tl
        rw [this] at e; exact nomatch e
theorem opn_is {c : List Nat} (hcc : Cells c) (hl : c.length = 256) : (c = allf ∧ opn c = .empty) ∨ (c ≠ allf ∧ (opn c = .torn ∨ Rel c (opn c))) := by
  by_cases h : c = allf
  · exact .inl ⟨h, if_pos h⟩
  · refine .inr ⟨h, ?_⟩
    have e : opn c = (match toldBy c c with
      | some x => x
      | none => match toldBy c (lift c) with
        | some x => x
        | none => .torn) := if_neg h
    cases e1 : toldBy c c with
    | some x => rw [e1] at e; rw [e]; exact .inr (toldBy_rel hcc hl hl e1)
    | none =>
      rw [e1] at e
      cases e2 : toldBy c (lift c) with
      | some x => rw [e2] at e; rw [e]; exact .inr (toldBy_rel hcc hl (lift_ok hcc hl).2 e2)
      | none => rw [e2] at e; exact .inl e
end WM
namespace WM
/-! the law's own reader -/
def lsg (h : List Nat) : List Nat := (List.range 113).map fun j => wo (h.getD (2 * j) 0) * 16 + wo (h.getD (2 * j + 1) 0)
def lmany (h : List Nat) : Nat := ((lsg h).filter fun n => decide (n ≠ 255)).length
def lone (n : Nat) : List Nat := if okc n then [n] else []
def ltx (h : List Nat) : List Nat := ((lsg h).take (lmany h)).flatMap lone
def ltext (h : List Nat) : Option (List Nat) := if (ltx h).length = lmany h ∧ h.drop (2 * lmany h) = List.replicate (226 - 2 * lmany h) 102 then some (ltx h) else none
theorem lsg_len (h : List Nat) : (lsg h).length = 113 := by simp [lsg]
theorem lmany_le (h : List Nat) : lmany h ≤ 113 := by
  unfold lmany
  exact Nat.le_trans (List.length_filter_le _ _) (by rw [lsg_len]; exact Nat.le_refl _)
theorem ltext_ok {h t : List Nat} (e : ltext h = some t) : IsText t := by
  unfold ltext at e
  split at e
  · rename_i q
    have e2 := Option.some.inj e
    refine ⟨fun c hc => ?_, ?_⟩
    · rw [← e2] at hc
      obtain ⟨n, _, hn⟩ := List.mem_flatMap.mp hc
      unfold lone at hn
      split at hn
      · rename_i ok
        rw [List.mem_singleton.mp hn]; exact ok
      · exact nomatch hn
    · rw [← e2, q.1]; exact lmany_le h
  · exact nomatch e
theorem enc_getD : ∀ (t r : List Nat) (j : Nat), j < t.length → (∀ c ∈ t, c < 256) → wo ((enc t ++ r).getD (2 * j) 0) * 16 + wo ((enc t ++ r).getD (2 * j + 1) 0) = t.getD j 0
  | [], _, _, h, _ => nomatch h
  | c :: t, r, 0, _, hc => by
    have h := hc c List.mem_cons_self
    show wo (hx (c / 16 % 16)) * 16 + wo (hx (c % 16)) = c
    rw [wo_hx (by omega), wo_hx (by omega)]
    omega
  | c :: t, r, j + 1, h, hc => by
    have ih := enc_getD t r j (by simpa using h) fun d hd => hc d (List.mem_cons_of_mem _ hd)
    have e : enc (c :: t) ++ r = hx (c / 16 % 16) :: hx (c % 16) :: (enc t ++ r) := by
      show figs 2 c ++ enc t ++ r = _
      rw [figs2]; rfl
    rw [e]
    exact ih
theorem lsg_head {t : List Nat} (h : IsText t) : lsg (headOf t) = t ++ List.replicate (113 - t.length) 255 := by
  have hl := h.len
  apply List.ext_getElem (by rw [lsg_len]; simp; omega)
  intro j h1 h2
  rw [lsg_len] at h1
  have e : (lsg (headOf t))[j]'(by rw [lsg_len]; exact h1) = wo ((headOf t).getD (2 * j) 0) * 16 + wo ((headOf t).getD (2 * j + 1) 0) := by simp only [lsg, List.getElem_map, List.getElem_range]
  rw [e]
  by_cases q : j < t.length
  · unfold headOf
    rw [enc_getD t _ j q fun c hc => by have := okc_lt (h.ok c hc); omega, List.getElem_append_left q, List.getD, List.getElem?_eq_getElem q]
    rfl
  · have e1 : ∀ k, 2 * t.length ≤ k → k < 226 → (headOf t).getD k 0 = 102 := fun k h1 h2 => by
      unfold headOf
      rw [List.getD, List.getElem?_append_right (by rw [enc_len]; exact h1), List.getElem?_replicate, if_pos (by rw [enc_len]; omega)]; rfl
    rw [e1 _ (by omega) (by omega), e1 _ (by omega) (by omega), List.getElem_append_right (by omega), List.getElem_replicate]
    rfl
theorem lmany_head {t : List Nat} (h : IsText t) : lmany (headOf t) = t.length := by
  unfold lmany
  rw [lsg_head h, List.filter_append]
  have e1 : t.filter (fun n => decide (n ≠ 255)) = t := List.filter_eq_self.mpr fun c hc => decide_eq_true (by have := okc_lt (h.ok c hc); omega)
  have e2 : (List.replicate (113 - t.length) 255).filter (fun n => decide (n ≠ 255)) = [] := by
    rw [List.filter_eq_nil_iff]
    intro c hc
    rw [List.eq_of_mem_replicate hc]; decide
  rw [e1, e2, List.append_nil]
theorem ltx_head {t : List Nat} (h : IsText t) : ltx (headOf t) = t := by
  unfold ltx
  rw [lmany_head h, lsg_head h, List.take_left' rfl]
  have : ∀ l : List Nat, (∀ c ∈ l, okc c) → l.flatMap lone = l := by
    intro l
    induction l with
    | nil => intro _; rfl
    | cons c l ih =>
      intro hk
      rw [List.flatMap_cons, ih fun d hd => hk d (List.mem_cons_of_mem _ hd)]
      unfold lone
      rw [if_pos (hk c List.mem_cons_self)]
      rfl
  exact this t h.ok
theorem ltext_head {t : List Nat} (h : IsText t) : ltext (headOf t) = some t := by
  unfold ltext
  rw [ltx_head h, lmany_head h]
  refine if_pos ⟨rfl, ?_⟩
  unfold headOf
  rw [List.drop_left' (enc_len t)]
def lfallen (c p : List Nat) : Option Nat := match unl 0 c p with
  | [i] => if c.getD i 0 < p.getD i 0 then some i else none
  | _ => none
def ltry (c head : List Nat) : Option Told := match ltext head with
  | none => none
  | some t => if page t = c then some (.whole t) else match lfallen c (page t) with
    | some i => some (.mended t i)
    | none => none
theorem ltry_rel {c head : List Nat} {x : Told} (hc : Cells c) (hl : c.length = 256) (e : ltry c head = some x) : Rel c x := by
  unfold ltry at e
  cases ht : ltext head with
  | none => rw [ht] at e; exact nomatch e
  | some t =>
    rw [ht] at e
    have hT := ltext_ok ht
    have pl := page_len hT.len
    simp only at e
    by_cases q : page t = c
    · rw [if_pos q] at e
      rw [← Option.some.inj e]
      exact .whole hT q.symm
    · rw [if_neg q] at e
      unfold lfallen at e
      cases hu : unl 0 c (page t) with
      | nil => rw [hu] at e; exact nomatch e
      | cons i us => cases us with
        | cons j us => rw [hu] at e; exact nomatch e
        | nil =>
          rw [hu] at e
          simp only at e
          obtain ⟨_, h2, h3⟩ := unl_one c (page t) 0 i (by omega) hu
          by_cases q2 : c.getD i 0 < (page t).getD i 0
          · rw [if_pos q2] at e
            rw [← Option.some.inj e]
            rw [Nat.sub_zero] at h3
            exact .mended hT (by omega) (getD_cell hc (by omega)) q2 h3
          · rw [if_neg q2] at e; exact nomatch e
theorem ltry_tells {c head u : List Nat} {x : Told} (hr : ltext head = some u) (h : Tells c u x) : ltry c head = some x := by
  unfold ltry
  rw [hr]
  rcases h with ⟨rfl, e⟩ | ⟨i, _, rfl, e, hlt⟩
  · exact if_pos e.symm
  · have ne : ¬ page u = c := fun q => by rw [← q, unl_self] at e; exact nomatch e
    have e2 : lfallen c (page u) = some i := by unfold lfallen; rw [e]; exact if_pos hlt
    show (if page u = c then _ else _) = _
    rw [if_neg ne, e2]
def llift (c : List Nat) : Option (List Nat) :=
  if cut c 229 232 = flip (cut c 226 229) ∧ cut c 237 242 = flip (cut c 232 237) then
    let by_ : Int := (S 0 1 (c.take 226) : Int) - num (cut c 226 229)
    if ¬ (1 ≤ by_ ∧ by_ ≤ 15) then none else
    let far : Int := (S 1 1 (c.take 226) : Int) - num (cut c 232 237)
    let at_ : Int := far / by_ - 1
    if ¬ (0 ≤ at_ ∧ at_ < 226) then none else
    if far ≠ by_ * (at_ + 1) then none else
    if 15 < (wo (c.getD at_.toNat 0) : Int) + by_ then none else
    some (c.take at_.toNat ++ [hx ((wo (c.getD at_.toNat 0) : Int) + by_).toNat] ++ c.drop (at_.toNat + 1))
  else none
theorem llift_ok {c r : List Nat} (hc : Cells c) (hl : c.length = 256) (e : llift c = some r) : Cells r ∧ r.length = 256 := by
  unfold llift at e
  split at e
  · dsimp only at e
    split at e
    · exact nomatch e
    · split at e
      · exact nomatch e
      · split at e
        · exact nomatch e
        · split at e
          · exact nomatch e
          · rename_i h1 h2 h3 h4
            rw [← Option.some.inj e]
            refine ⟨fun d h => ?_, by simp only [List.length_append, List.length_take, List.length_drop, List.length_cons, List.length_nil]; omega⟩
            rcases List.mem_append.mp h with h | h
            · rcases List.mem_append.mp h with h | h
              · exact hc d (List.mem_of_mem_take h)
              · rw [List.mem_singleton.mp h]; exact hx_cell (by omega)
            · exact hc d (List.mem_of_mem_drop h)
  · exact nomatch e
theorem llift_fallen {t : List Nat} (h : IsText t) {i d : Nat} (hi : i < 226) (hd : IsCell d) (hlt : d < (page t).getD i 0) : llift ((page t).set i d) = some (page t) := by
  have pl := page_len h.len
  have hh := head_len h.len
  have hc : IsCell ((page t).getD i 0) := getD_cell (page_cells t) (by omega)
  obtain ⟨h1, h2, h3, h4⟩ := fallen_sums h hi hd hlt
  have c1 : cut ((page t).set i d) 226 229 = figs 3 (S 0 1 (headOf t)) := by rw [cut_tail h hi _ _ (by omega)]; exact cut1 _
  have c2 : cut ((page t).set i d) 232 237 = figs 5 (S 1 1 (headOf t)) := by rw [cut_tail h hi _ _ (by omega)]; exact cut2 _
  have c3 : cut ((page t).set i d) 229 232 = flip (figs 3 (S 0 1 (headOf t))) := by rw [cut_tail h hi _ _ (by omega)]; exact cut1f _
  have c4 : cut ((page t).set i d) 237 242 = flip (figs 5 (S 1 1 (headOf t))) := by rw [cut_tail h hi _ _ (by omega)]; exact cut2f _
  unfold llift
  dsimp only
  rw [c1, c2, c3, c4, if_pos ⟨rfl, rfl⟩, num_figs _ _ (S0_lt (by omega)), num_figs _ _ (S1_lt (by omega)), h3, h4]
  rw [if_neg (by omega)]
  have pos : (lack d : Int) - (lack ((page t).getD i 0) : Int) ≠ 0 := by omega
  rw [Int.mul_ediv_cancel_left _ pos]
  have ea : (i : Int) + 1 - 1 = (i : Int) := by omega
  rw [ea, if_neg (by omega), if_neg (by simp), Int.toNat_natCast, getD_set_self (by omega)]
  have hw := wo_lt hd
  have hw2 := wo_lt hc
  have el : (wo d : Int) + ((lack d : Int) - (lack ((page t).getD i 0) : Int)) = (wo ((page t).getD i 0) : Int) := by unfold lack; omega
  rw [el, if_neg (by omega), Int.toNat_natCast, hx_wo hc]
  exact congrArg some (set_back (by omega) rfl)
theorem lopn_eq {c : List Nat} (hc : Cells c) (hl : c.length = 256) (hn : c ≠ allf) : opn c = match ltry c (c.take 226) with
    | some x => x
    | none => match llift c with
      | none => .torn
      | some r => match ltry c (r.take 226) with
        | some x => x
        | none => .torn := by
  cases e1 : ltry c (c.take 226) with
  | some x => exact opn_rel hc (ltry_rel hc hl e1)
  | none =>
    have key : ∀ x, Rel c x → ∃ r, llift c = some r ∧ ltry c (r.take 226) = some x := fun x hx => by
      cases hx with
      | whole hu ec =>
        rename_i u
        have : ltry c (c.take 226) = some (.whole u) := ltry_tells (by rw [ec, head_page hu, ltext_head hu]) (.inl ⟨rfl, ec⟩)
        rw [this] at e1; exact nomatch e1
      | mended hu hi hd hlt ec =>
        rename_i u i d
        have pl := page_len hu.len
        have tl : Tells c u (.mended u i) := .inr ⟨i, hi, rfl, by rw [ec, unl_set _ _ _ _ (by omega) (Nat.ne_of_lt hlt), Nat.zero_add], by rw [ec, getD_set_self (by omega)]; exact hlt⟩
        by_cases q : i < 226
        · exact ⟨page u, by rw [ec]; exact llift_fallen hu q hd hlt, ltry_tells (by rw [head_page hu, ltext_head hu]) tl⟩
        · have : ltry c (c.take 226) = some (.mended u i) := ltry_tells (by rw [ec, take_set_ge _ _ _ _ (by omega), head_page hu, ltext_head hu]) tl
          rw [this] at e1; exact nomatch e1
    rcases opn_is hc hl with ⟨h, _⟩ | ⟨_, h⟩
    · exact absurd h hn
    · cases e2 : llift c with
      | none =>
        rcases h with h | h
        · exact h
        · obtain ⟨r, q, _⟩ := key _ h
          rw [e2] at q; exact nomatch q
      | some r =>
        show opn c = match ltry c (r.take 226) with | some x => x | none => .torn
        cases e3 : ltry c (r.take 226) with
        | some x => exact opn_rel hc (ltry_rel hc hl e3)
        | none =>
          rcases h with h | h
          · exact h
          · obtain ⟨r2, q, q2⟩ := key _ h
            rw [e2] at q
            rw [← Option.some.inj q, e3] at q2
            exact nomatch q2
end WM
namespace WR
open PySem PySem.Spec PyProof.Rows L2
section
variable {X : Cx}
/-! a power of a wide base -/
def CPowW (i j : Int) : Prop := 0 ≤ j ∧ (Builtin.Int.intBits i : Int) * j ≤ 2 ^ 27
theorem op_powW : OpR X (binaryOp .Pow) (rI CPowW fun i j => .int (i ^ j.toNat)) := opI fun _ _ _ _ _ _ _ hc q => pow_int hc.1 hc.2 q
/-! a text n times -/
def rMulS : R2 := fun x y H Q => ∃ (z : Str) (n : Int), x = .str z ∧ y = .int n ∧ 0 ≤ n ∧ n ≤ 100000 ∧ z.length ≤ 100 ∧ Q (.str ⟨(List.replicate n.toNat z.cps).foldl (· ++ ·) #[]⟩) H
theorem op_mulS : OpR X (binaryOp .Mult) rMulS := by
  intro pins s σ H x y v u Q I rx ry h
  obtain ⟨z, n, rfl, rfl, h0, h1, hz, q⟩ := h
  obtain ⟨t, rfl⟩ := rx
  obtain ⟨t', rfl⟩ := ry
  have e1 : (decide (n < -(2 ^ 63 : Int)) || decide (n ≥ 2 ^ 63)) = false := by
    rw [decide_eq_false (by omega), decide_eq_false (by omega)]; rfl
  refine P.mul_str e1 (fun a b => ?_) (fun a b => ?_) ?_
  · have hn : 0 < n := by omega
    have : (z.length : Int) ≤ (2 ^ 63 - 1) / n := by
      refine (Int.le_ediv_iff_mul_le hn).mpr ?_
      have h2 : (z.length : Int) * n ≤ 100 * 100000 := Int.mul_le_mul (by omega) h1 h0 (by omega)
      omega
    omega
  · have h2 : z.length * n.toNat ≤ 100 * 100000 := Nat.mul_le_mul hz (by omega)
    exact decide_eq_false (by rw [sizeLine_eq]; omega)
  · by_cases c : n < 1
    · rw [if_pos c]
      have e : n = 0 := by omega
      subst e
      exact ⟨by decide, ⟨.str Str.empty, H, I.tok _, ⟨_, rfl⟩, q⟩⟩
    · rw [if_neg c]
      by_cases c2 : (n == 1 || z.length == 0) = true
      · rw [if_pos c2]
        refine ⟨.str z, H, I, ⟨_, rfl⟩, ?_⟩
        have e : (List.replicate n.toNat z.cps).foldl (· ++ ·) #[] = z.cps := by
          rw [Bool.or_eq_true] at c2
          rcases c2 with c2 | c2
          · have : n = 1 := eq_of_beq c2
            subst this
            simp [List.replicate]
          · have e0 : z.cps = #[] := by
              have := eq_of_beq c2
              exact Array.eq_empty_of_size_eq_zero this
            rw [e0]
            have : ∀ k : Nat, (List.replicate k (#[] : Array Nat)).foldl (· ++ ·) #[] = #[] := by
              intro k
              induction k with
              | zero => rfl
              | succ k ih => simpa [List.replicate_succ] using ih
            exact this _
        rw [e] at q
        exact q
      · rw [if_neg c2]
        refine ⟨?_, ⟨.str _, H, I.tok _, ⟨_, rfl⟩, q⟩⟩
        have len : ∀ (k : Nat) (a : Array Nat), ((List.replicate k z.cps).foldl (· ++ ·) a).size = a.size + k * z.cps.size := by
          intro k
          induction k with
          | zero => intro a; simp
          | succ k ih =>
            intro a
            rw [List.replicate_succ, List.foldl_cons, ih, Array.size_append, Nat.succ_mul]
            omega
        have h2 : n.toNat * z.cps.size ≤ 100000 * 100 := Nat.mul_le_mul (by omega) hz
        show ((List.replicate n.toNat z.cps).foldl (· ++ ·) #[]).size ≤ sizeLine
        rw [len, sizeLine_eq]
        simp only [List.size_toArray, List.length_nil, Nat.zero_add]
        omega
end
end WR
namespace WR
open PySem PySem.Spec PyProof.Rows L2
open Builtin Builtin.Int Builtin.Float
/-- the spec 0kx -/
def spX (k : Nat) : Str := ⟨#[48, 48 + k, 120]⟩
def fsX (k : Nat) : FormatSpec := { fill := 48, align := 61, width := some k, type := some 120 }
theorem parse2 : parseFormatSpec (spX 2).cps.toList "int" 62 = .ok (fsX 2) := by kernel_rfl
theorem parse3 : parseFormatSpec (spX 3).cps.toList "int" 62 = .ok (fsX 3) := by kernel_rfl
theorem parse5 : parseFormatSpec (spX 5).cps.toList "int" 62 = .ok (fsX 5) := by kernel_rfl
theorem parse7 : parseFormatSpec (spX 7).cps.toList "int" 62 = .ok (fsX 7) := by kernel_rfl
/-- the digits, filled up with noughts to k -/
def hexT (k n : Nat) : Str := ⟨(List.replicate (k - (Nat.toDigits 16 n).length) 48 ++ (Nat.toDigits 16 n).map Char.toNat).toArray⟩
theorem field_hex {k n : Nat} (hz : (Nat.toDigits 16 n).length ≤ k) : intField' (fsX k) (decide ((n : Int) < 0)) [] ((Nat.toDigits 16 n).map fun c => c.toNat) [] 4 = hexT k n := by
  have h0 : decide ((n : Int) < 0) = false := decide_eq_false (by omega)
  have h1 : ((Nat.toDigits 16 n).map fun c => c.toNat).isEmpty = false := by
    have := tDigits_len_ge 16 n
    cases q : Nat.toDigits 16 n with
    | nil => rw [q] at this; simp at this
    | cons a b => rfl
  unfold intField' hexT
  simp only [h0, h1, fsX, Bool.false_eq_true, if_false, List.length_nil, List.length_map, List.nil_append, List.append_nil]
  simp only [show ((48 : Nat) == 48 && (61 : Nat) == 61) = true from rfl, show ((61 : Nat) == 60) = false from rfl, show ((61 : Nat) == 94) = false from rfl, show ((61 : Nat) == 61) = true from rfl, if_true, Bool.false_eq_true, if_false]
  have e1 : (if ((48 : Nat) == 48 && true) = true then (k : Int) - (((0 : Nat) : Int) + ((0 : Nat) : Int) + ((0 : Nat) : Int)) else 0).toNat = k := by
    rw [if_pos (show ((48 : Nat) == 48 && true) = true from rfl)]; omega
  have e2 : ((k : Int) - (((0 : Nat) : Int) + ((0 : Nat) : Int) + ((0 : Nat) : Int)) - ((List.replicate (k - (Nat.toDigits 16 n).length) 48 ++ (Nat.toDigits 16 n).map fun c : Char => c.toNat).length : Int)).toNat = 0 := by
    simp only [List.length_append, List.length_replicate, List.length_map]
    omega
  rw [e1, e2]
  simp only [List.replicate_zero, List.nil_append, List.append_nil]
theorem retStr_to {M : Model} {A : Around} {E : Value → Shared → Prop} {s : Shared} {x y : Str} {Q : Fin → Shared → Prop} (e : x = y) (h : wpAny M A (retStr y) Q E s) : wpAny M A (retStr x) Q E s := e ▸ h
section
variable {prog : Program} {w : World} {A : Around} {E : Value → Shared → Prop} {s : Shared}
theorem fmt_hex {n k : Nat} {t : Tok} {Q : Value → Shared → Prop} (hp : parseFormatSpec (spX k).cps.toList "int" 62 = .ok (fsX k)) (hk : 1 ≤ k) (hk9 : k ≤ 9) (hz : (Nat.toDigits 16 n).length ≤ k)
    (hq : Q (.str (hexT k n) (s.toks + 1)) { s with toks := s.toks + 1 + 1 }) : wpAny (model prog w) A (formatField (.int (n : Int) t) (spX k)) Q E s := by
  have hne : ((spX k).length == 0) = false := rfl
  have hasc : (((spX k).cps.toList.drop 1).any (· ≥ 128) || (decide ((spX k).cps.getD 0 0 ≥ 128) && !([60, 62, 61, 94] : List Nat).contains ((spX k).cps.getD 1 0))) = false := by
    have e1 : ((spX k).cps.toList.drop 1).any (· ≥ 128) = false := by
      show (([48 + k, 120] : List Nat).any (· ≥ 128)) = false
      simp
      omega
    rw [e1]; rfl
  have e : formatField (.int (n : Int) t) (spX k) = holding [.int (n : Int) t] (pyFormat (.int (n : Int) t) (spX k)) := by
    unfold formatField
    simp only [hne, Bool.false_eq_true, if_false]
  rw [e]
  unfold pyFormat
  refine wpAny_holding (wpAny_bind (wpAny_mkStr (wpAny_bind (m := callSpecial? (.int (n : Int) t) (Str.ofString "__format__") [.str (spX k) s.toks]) ?_) (by show 3 ≤ sizeLine; decide)))
  refine wpAny_callSpecial?_slot (name := Str.ofString "__format__") (typeIs_int _ _ t) slot_int_format (wpAny_call (codeAny_call_builtin slot_int_format.plain entry_int_format (slot_int_format.check _ _ _ _ _ _ _ _ (typeIs_int _ _ t) (args_int_format _ _) ?_)))
  unfold Builtin.«int.__format__»
  simp only [selfAndOne, noKeywords, Int.intOfSelf, asInt?, asStr?, List.isEmpty_nil, if_true, pure_bind, bind_pure, bind_assoc, hne, hasc, Bool.false_eq_true, if_false, show (Value.str (spX k) s.toks == Value.none) = false from rfl]
  refine wpAny_bind (wpAny_typeNameOf (T := "str") (typeIs_str _ _ _) (by decide) fun _ => wpAny_bind (wpAny_typeNameOfCut_int ?_))
  simp only [hp]
  have ht : ∀ d, (fsX k).type.getD d = 120 := fun _ => rfl
  simp only [ht]
  rw [if_pos (by decide)]
  show wpAny _ _ (if _ then _ else _) _ _ _
  have hw : ¬ (fsX k).width.getD 0 > 100000 := by
    show ¬ k > 100000
    omega
  rw [if_neg hw]
  refine retStr_to (y := hexT k n) ?_ ?_
  · show intField' (fsX k) (decide ((n : Int) < 0)) [] ((Nat.toDigits 16 n).map fun c => c.toNat) [] 4 = hexT k n
    exact field_hex hz
  · unfold retStr
    refine wpAny_bind (wpAny_mkStr (wpAny_pure ?_) ?_)
    · exact wpAny_bind (wpAny_isInstance (T := "str") (b := true) rfl isSubtype_str_str (wpAny_pure hq))
    · show (hexT k n).length ≤ sizeLine
      unfold hexT
      show (List.replicate (k - (Nat.toDigits 16 n).length) 48 ++ (Nat.toDigits 16 n).map Char.toNat).toArray.size ≤ sizeLine
      simp only [List.size_toArray, List.length_append, List.length_replicate, List.length_map]
      rw [sizeLine_eq]
      omega
end
section
variable {X : Cx}
/-- {e:0kx}, e an int from 0 on of at most k digits -/
def tFmtX (k : Nat) (te : TE) : TE := fun σ H Q => te σ H fun x H1 => ∃ n : Nat, x = .int (n : Int) ∧ (Nat.toDigits 16 n).length ≤ k ∧ Q (.str (hexT k n)) H1
theorem pe_fmtX {k : Nat} {e : Expr} {te : TE} {p1 p2 p3 : Pos} {kk : Nat} {sp : Str} (hk : k = 2 ∨ k = 3 ∨ k = 5 ∨ k = 7) (hs : sp = spX k) (he : PE X e te) :
    PE X (.FormattedValue e (-1) (some (.JoinedStr [.Constant (.str sp) kk p1] p2)) p3) (tFmtX k te) := by
  refine ⟨fun pins s σ H Q I h => ?_⟩
  refine wpAny_FormattedValue_spec (thn (he.run pins s σ H _ I h) fun v s1 hv => ?_)
  obtain ⟨x, H1, I1, r1, n, rfl, hz, q⟩ := hv
  obtain ⟨t, rfl⟩ := r1
  refine wpAny_JoinedStr_one ?_
  have hp : parseFormatSpec (spX k).cps.toList "int" 62 = .ok (fsX k) := by
    rcases hk with rfl | rfl | rfl | rfl
    · exact parse2
    · exact parse3
    · exact parse5
    · exact parse7
  refine thn ((pe_str (X := X) (x := sp)).run pins s1 σ H1 (fun v H' => v = .str sp ∧ H' = H1) I1 ⟨rfl, rfl⟩) fun u s2 hu => ?_
  obtain ⟨y, H2, I2, r2, e2, e3⟩ := hu
  subst e2 e3
  obtain ⟨t2, rfl⟩ := r2
  refine ⟨sp, t2, rfl, ?_⟩
  subst hs
  exact fmt_hex hp (by omega) (by omega) hz ⟨.str _, _, I2.tok _, ⟨_, rfl⟩, q⟩
end
end WR
namespace WR
open PySem PySem.Spec PyProof.Rows L2
/-! ### enumerate(text), enumerate(text, k) -/
/-- the signs of x, each with its number from k on in a new pair -/
def IteS (k : Int) (x : Str) : It := ⟨fun i _ => i < x.cps.size, fun i H v H' => ∃ T c, v = .ref T ∧ H T = none ∧ H' = upd H T (.tup [.int (k + (i : Nat)), .str ⟨#[c]⟩]) ∧ x.cps[i]? = some c, fun i _ => i = x.cps.size⟩
theorem turn_enumS {P : Program} {w : World} {K : PySem.W.Frag} {elts : List Expr} {kk : Nat} {tpos : Pos} (k : Int) (x : Str) (t : Tok) (e it : Addr) (hne : e ≠ it) :
    Turn P w K (.Tuple elts kk tpos) (IteS k x) [e, it] e (fun i h => (∃ old, IsEnum h e it (k + (i : Nat)) old) ∧ h.IsStrIter it (strIterType x) x t i) where
  mem := by simp
  obj := fun i h st b hb => by
    obtain ⟨⟨old, he⟩, ⟨o, ho, hc, hd⟩⟩ := st
    have hb2 : b = e ∨ b = it := by simpa using hb
    rcases hb2 with z | z
    · rw [z]; exact ⟨_, he, fun v q => nomatch q⟩
    · rw [z]; exact ⟨o, ho, fun v q => by rw [hd] at q; cases q⟩
  keep := fun i h h' st kp => by
    obtain ⟨⟨old, he⟩, ⟨o, ho, r⟩⟩ := st
    exact ⟨⟨old, kp e (by simp) _ he⟩, ⟨o, kp it (by simp) o ho, r⟩⟩
  item := by
    intro X hP hw hK hc i pins s σ H E I hf st hg
    subst hP hw hK
    obtain ⟨⟨old, he⟩, hit⟩ := st
    have hh : X.A.in1.handled = none := I.ok.hd hc
    have D := Draws.text (prog := X.prog) (w := X.w) hh it x t
    have hel : e < s.heap.objs.size := Heap.lt_size he
    have hil : it < s.heap.objs.size := let ⟨_, q, _⟩ := hit; Heap.lt_size q
    refine wpAny_pyNext_enum_itemC D he hit hg hne (by simpa using hne) fun y h1 tk hP ho hit1 hT hsz hk => ?_
    obtain ⟨c, u, hcx, rfl⟩ := hP
    refine ⟨_, rfl, wpAny_letOwnedTupleGo_enum (s := { s with heap := h1, toks := tk + 1 }) ho fun h2 he2 sb => ?_⟩
    have hT2 : h2.get? s.heap.objs.size = some { cls := .type "tuple", data := .seq #[.int (k + (i : Nat)) tk, .str ⟨#[c]⟩ u] } := (sb.2 _ (Nat.ne_of_gt hel)).trans hT
    have ob : ObjOk X.prog X.w (upd H s.heap.objs.size (.tup [.int (k + (i : Nat)), .str ⟨#[c]⟩])) h2 s.heap.objs.size (.tup [.int (k + (i : Nat)), .str ⟨#[c]⟩]) :=
      ⟨by show 2 ≤ sizeLine; decide, [.int (k + (i : Nat)) tk, .str ⟨#[c]⟩ u], .cons ⟨_, rfl⟩ (.cons ⟨_, rfl⟩ .nil), ⟨_, hT2, rfl, _, rfl⟩⟩
    have J : Inv X pins σ (upd H s.heap.objs.size (.tup [.int (k + (i : Nat)), .str ⟨#[c]⟩])) { s with heap := h2, toks := tk + 1 } :=
      I.turnedNew (ch := [e, it]) (fun b o hb q => (sb.2 b fun z => hb (by simp [z])).trans (hk b o (fun z => hb (by simp [z])) (fun z => hb (by simp [z])) q)) hf (Nat.le_refl _) ob
    refine ⟨.ref s.heap.objs.size, _, J, rfl, ⟨_, c, rfl, I.hok.fresh (Nat.le_refl _), rfl, hcx⟩, ⟨⟨.str ⟨#[c]⟩ u, ?_⟩, ?_⟩, fun b hb => ?_⟩
    · have e1 : k + ((i + 1 : Nat) : Int) = k + (i : Nat) + 1 := by omega
      rw [e1]
      exact he2
    · obtain ⟨o, ho', r⟩ := hit1
      exact ⟨o, (sb.2 it (Ne.symm hne)).trans ho', r⟩
    · have hb2 : b < s.heap.objs.size := by
        have hb3 : b = e ∨ b = it := by simpa using hb
        rcases hb3 with z | z
        · rw [z]; exact hel
        · rw [z]; exact hil
      rw [upd_ne (Nat.ne_of_lt hb2)]
      exact (hf b hb).1
  done := by
    intro X hP hw hK hc i pins s σ H E I hf st hg
    subst hP hw hK
    obtain ⟨⟨old, he⟩, hit⟩ := st
    have hh : X.A.in1.handled = none := I.ok.hd hc
    have D := Draws.text (prog := X.prog) (w := X.w) hh it x t
    obtain ⟨f0, f1, f2, f3, f4, f5⟩ := hf it (by simp)
    have hg' : i = x.cps.size := hg
    subst hg'
    exact wpAny_pyNext_enum_endD D he hit fun h1 eb => ⟨rfl, I.turned (t' := s.toks) (fun b o hb q => eb b o hb q) f0 f1 f3 f4 f5⟩
  self := fun A i s Q E st h => let ⟨⟨_, he⟩, _⟩ := st; wpAny_pyIter_enum he h
section
variable {X : Cx}
theorem enumS_pi {x : Str} {t : Tok} {k : Int} {tg : Expr} {elts : List Expr} {kk : Nat} {tpos : Pos} {pins : List (Addr × Obj)} {σ : L2.St} {H : Hp} {s : Shared} {h' : Heap} {R : It → Hp → Prop} (I : Inv X pins σ H s)
    (he : IsEnum h' (s.heap.objs.size + 1) s.heap.objs.size k .none) (hi : h'.IsStrIter s.heap.objs.size (strIterType x) x t 0) (kp : ∀ b o, s.heap.get? b = some o → h'.get? b = some o) (q : R (IteS k x) H) :
    PIE X pins σ (.Tuple elts kk tpos) R (.ref (s.heap.objs.size + 1)) { s with heap := h' } := by
  refine ⟨s.heap.objs.size + 1, [s.heap.objs.size + 1, s.heap.objs.size], _, _, H, rfl, I.kept (t' := s.toks) kp, turn_enumS k x t _ _ (Nat.succ_ne_self _), ⟨⟨.none, ?_⟩, hi⟩, fun b hb => ?_, q⟩
  · have e1 : k + ((0 : Nat) : Int) = k := by omega
    rw [e1]
    exact he
  · have hb2 : b = s.heap.objs.size + 1 ∨ b = s.heap.objs.size := by simpa using hb
    have hle : s.heap.objs.size ≤ b := by
      rcases hb2 with z | z
      · rw [z]; exact Nat.le_succ _
      · rw [z]; exact Nat.le_refl _
    exact I.fpOk hle (I.hok.fresh hle)
def iEnumS (ta : TA) : TI := fun σ H R => ta σ H fun vs H1 => ∃ x, vs = [.str x] ∧ R (IteS 0 x) H1
theorem pi_enumS {e : Expr} {ta : TA} {p pos tpos : Pos} {elts : List Expr} {kk : Nat} (hg : Gl X "enumerate") (hm : X.mg "enumerate" = none) (ha : PA X [e] ta) (hs : starEach [e] X.env = [(false, eval e X.env)] := by rfl) :
    PI X (.Tuple elts kk tpos) (.Call (.Name "enumerate" p) [e] [] pos) (iEnumS ta) := by
  refine ⟨fun pins s σ H R I h => Call_ (ld_blt I hg hm boot_enumerate (PyProof.Rows.callWith_type1 (thn (ha.run pos pins s σ H _ I h) fun us s1 ⟨vs, H1, I1, r1, x, ex, q⟩ => ?_) hs rfl))⟩
  subst ex
  cases r1 with
  | cons r rr =>
    cases rr
    obtain ⟨t, rfl⟩ := r
    exact call_enumerate_str fun h' he hi _ kp => wpAny_pyIter_enum he (enumS_pi (tg := .Tuple elts kk tpos) I1 he hi kp q)
def iEnumS2 (ta : TA) : TI := fun σ H R => ta σ H fun vs H1 => ∃ x k, vs = [.str x, .int k] ∧ -(2 ^ 62) ≤ k ∧ k < 2 ^ 62 ∧ R (IteS k x) H1
theorem pi_enumS2 {a b : Expr} {ta : TA} {p pos tpos : Pos} {elts : List Expr} {kk : Nat} (hg : Gl X "enumerate") (hm : X.mg "enumerate" = none) (ha : PA X [a, b] ta)
    (hs : starEach [a, b] X.env = [(false, eval a X.env), (false, eval b X.env)] := by rfl) (hs2 : starEach [b] X.env = [(false, eval b X.env)] := by rfl) :
    PI X (.Tuple elts kk tpos) (.Call (.Name "enumerate" p) [a, b] [] pos) (iEnumS2 ta) := by
  refine ⟨fun pins s σ H R I h => Call_ (ld_blt I hg hm boot_enumerate (PyProof.Rows.callWith_type1 (thn (ha.run pos pins s σ H _ I h) fun us s1 ⟨vs, H1, I1, r1, x, k, ex, h0, h1, q⟩ => ?_) (by rw [hs, hs2]) (by rw [hs2]; rfl)))⟩
  subst ex
  cases r1 with
  | cons r rr =>
    cases rr with
    | cons r' rr =>
      cases rr
      obtain ⟨t, rfl⟩ := r
      obtain ⟨t', rfl⟩ := r'
      refine enum_begins (begins_text x t) trivial (by omega) (by omega) fun h' he ho _ kp => wpAny_pyIter_enum he (enumS_pi (x := x) (t := t) (tg := .Tuple elts kk tpos) I1 he ?_ kp q)
      exact ⟨_, ho, rfl, rfl⟩
end
end WR
namespace WR
open PySem PySem.Spec PyProof.Rows L2
/-! ### defs called where no repr is under way -/
def NoG (A : Around) : Prop := A.guards = some []
structure FnG (P : Program) (w : World) (K : PySem.W.Frag) (mg : Str → Option Value) (base : Heap) (CX : CXT) (k : Nat) (f : Addr) (fd : FuncData) (ps : List Str) (sp : Sp) : Prop where
  len : ∀ vs H Q E, sp vs H Q E → vs.length = ps.length
  go : ∀ (A : Around) (outer : List Env) (s : Shared) (H : Hp) (args : Args) (us : List Value) (vs : List V) (Q : VK) (E : XK), NoG A → Room k A → Env0 P w K mg base A outer s H → BindsTo s fd args (ps.zip us) → Vals vs us → sp vs H Q E →
    codeAny (model P w) A (.call (.ref f) args) (CR CX outer P w H s Q E) s
theorem FnG.of {P : Program} {w : World} {K : PySem.W.Frag} {mg : Str → Option Value} {base : Heap} {CX : CXT} {k : Nat} {f : Addr} {fd : FuncData} {ps : List Str} {sp : Sp} (F : FnOk P w K mg base CX k f fd ps sp) : FnG P w K mg base CX k f fd ps sp :=
  ⟨F.len, fun A outer s H args us vs Q E _ => F.run A outer s H args us vs Q E⟩
/-- a def by its body, the body walked where no repr is under way -/
theorem fnG_of {CX : CXT} {P : Program} {w : World} {K : PySem.W.Frag} {mg : Str → Option Value} {base : Heap} {k : Nat} {f : Addr} {nm qu : Str} {pa : Arguments} {bd : List Stmt} {sc : Scope} {dV kV dc pm cdv ct oc : Value} {an od : Option Addr}
    {sl : Array (Option Value)} {N ps : List Str} {sp : Sp} (lk : K.lookup f = some ⟨oc, od, .func (PySem.W.fnOf nm qu pa bd sc dV kV dc pm an cdv ct), sl⟩) (hcd : PySem.W.codeIn K cdv qu = true) (S : FnScope N ps sc)
    (len : ∀ vs H Q E, sp vs H Q E → vs.length = ps.length)
    (hb : ∀ (A : Around) (outer : List Env) (s : Shared) (H : Hp) (vs : List V) (Q : VK) (E : XK), NoG (A.deeper (envOfC qu sc s.heap.objs.size f cdv)) → Room k (A.deeper (envOfC qu sc s.heap.objs.size f cdv)) → sp vs H Q E →
      ∃ t, PSs (cxOf CX P w K mg base N qu sc f cdv A outer s H E) bd t ∧ t { nx := fun _ H' => Q .non H', rt := Q } (start N vs) H) :
    FnG P w K mg base CX (k + 1) f (PySem.W.fnOf nm qu pa bd sc dV kV dc pm an cdv ct) ps sp where
  len := len
  go := by
    intro A outer s H args us vs Q E hG hr e0 bnd r q
    have K1 : K.In s.heap := e0.mod.kin.keeps fun b o e => (e0.bs b o e).1
    have lim := e0.mod.nolimit.keeps fun b o e => (e0.bs b o e).1
    have kinds : ∀ y ∈ ps.zip us, sc.names.lookup y.1 = some .local ∨ (sc.names.lookup y.1 = some .cell ∧ ((cellsFrom (s.heap.objs.size + 1) sc.names []).lookup y.1).isSome = true) := by
      rintro ⟨n, v⟩ hy
      cases S.par n (List.of_mem_zip hy).1 with
      | inl q => exact .inl q
      | inr q => exact .inr ⟨q, PySem.W.cellsFrom_some _ _ _ (.inl q)⟩
    refine codeAny_call_function hr.depth (K1 _ _ lk) rfl S.co S.gen rfl (PySem.W.codeRec_of K1 hcd) (bnd _ _ _ _ (wpAny_newFunctionEnv_cells S.kind kinds fun env he s1 x => ?_))
    subst he
    have hl := len _ _ _ _ q
    obtain ⟨t, ht, qt⟩ := hb A outer s H vs Q E hG (hr.deeper _) q
    have J := inv_start (E := E) (CX := CX) S hr.hd e0 hl r x
    refine ⟨lim.keeps x.toInCall.keep, codeAny_func (wpAny_mono (ht.run [] s1 (start N vs) H _ J qt) (fun fl s' hs => ?_) fun e s' hs => hs)⟩
    cases fl with
    | ret u => obtain ⟨v, σ', H', J', rv, q'⟩ := hs; exact ⟨v, H', J'.os, J'.bare, J'.base, J'.hok, rv, q'⟩
    | next => obtain ⟨σ', H', J', q'⟩ := hs; exact ⟨.non, H', J'.os, J'.bare, J'.base, J'.hok, rfl, q'⟩
    | brk => obtain ⟨_, _, _, q'⟩ := hs; exact q'.elim
    | cont => obtain ⟨_, _, _, q'⟩ := hs; exact q'.elim
end WR
namespace WR
open PySem PySem.Spec PyProof.Rows L2
/-- the module's name x is a def that keeps the promise sp where no repr is under way -/
structure Cg (P : Program) (w : World) (K : PySem.W.Frag) (mg : Str → Option Value) (base : Heap) (k : Nat) (x : Str) (ps : List Str) (sp : Sp) : Prop where
  ex : ∃ (f : Addr) (fd : FuncData), FnG P w K mg base CX0 k f fd ps sp ∧ mg x = some (.ref f) ∧ PySem.W.keepIn K (.ref f) = true ∧
    (∀ (s : Shared) (us : List Value), us.length = ps.length → BindsTo s fd ⟨us, []⟩ (ps.zip us)) ∧ ∀ (s : Shared) (us : List Value), us.length = ps.length → BindsTo s fd ⟨[], ps.zip us⟩ (ps.zip us)
/-- a def of the top, as the head tells it -/
abbrev FD (K : PySem.W.Frag) (x : Str) (st : Stmt) (f : Addr) (fd : FuncData) : Prop := FunD K x x (defArgs st) (defBody st) (defScope st) [] [] f fd
section
variable {P : Program} {w : World} {K : PySem.W.Frag} {mg : Str → Option Value} {base : Heap}
theorem cg_of {x : Str} {st : Stmt} {f : Addr} {fd : FuncData} {N ps : List Str} {k : Nat} {sp : Sp} (F : FD K x st f fd) (hm : mg x = some (.ref f)) (S : FnScope N ps (defScope st)) (len : ∀ vs H Q E, sp vs H Q E → vs.length = ps.length)
    (b1 : ∀ (kV dc pm : Value) (an : Option Addr) (cdv ct : Value) (us : List Value), us.length = ps.length → bindArgs (PySem.W.fnOf x x (defArgs st) (defBody st) (defScope st) .none kV dc pm an cdv ct) ⟨us, []⟩ = pure (ps.zip us))
    (b2 : ∀ (kV dc pm : Value) (an : Option Addr) (cdv ct : Value) (us : List Value), us.length = ps.length → bindArgs (PySem.W.fnOf x x (defArgs st) (defBody st) (defScope st) .none kV dc pm an cdv ct) ⟨[], ps.zip us⟩ = pure (ps.zip us))
    (hb : ∀ (cdv : Value) (A : Around) (outer : List Env) (s : Shared) (H : Hp) (vs : List V) (Q : VK) (E : XK), NoG (A.deeper (envOfC x (defScope st) s.heap.objs.size f cdv)) → Room k (A.deeper (envOfC x (defScope st) s.heap.objs.size f cdv)) → sp vs H Q E →
      ∃ t, PSs (cxOf CX0 P w K mg base N x (defScope st) f cdv A outer s H E).nox (defBody st) t ∧ t { nx := fun _ H' => Q .non H', rt := Q } (start N vs) H) : Cg P w K mg base (k + 1) x ps sp := by
  have kp := F.kp
  obtain ⟨oc, od, dV, kV, dc, pm, an, cdv, ct, sl, rfl, lk, hcd, hD, _⟩ := F.ex
  rcases hD with ⟨_, rfl⟩ | ⟨e, _⟩
  · exact ⟨f, _, fnG_of lk hcd S len fun A outer s H vs Q E hG hr hsp => let ⟨t, h1, h2⟩ := hb cdv A outer s H vs Q E hG hr hsp; ⟨t, h1.nox, h2⟩, hm, kp, fun s us hl => .of_eq (b1 kV dc pm an cdv ct us hl), fun s us hl => .of_eq (b2 kV dc pm an cdv ct us hl)⟩
  · exact absurd rfl e
theorem Cg.mono {j k : Nat} {x : Str} {ps : List Str} {sp : Sp} (c : Cg P w K mg base j x ps sp) (h : j ≤ k) : Cg P w K mg base k x ps sp := by
  obtain ⟨f, fd, F, r⟩ := c.ex
  exact ⟨f, fd, ⟨F.len, fun A outer s H args us vs Q E hG hr => F.go A outer s H args us vs Q E hG (hr.mono h)⟩, r⟩
end
section
variable {X : Cx} {x : Str} {ps : List Str} {k j : Nat} {sp : Sp} {p pos : Pos} {e : Expr} {es : List Expr} {t : TA}
theorem run_g {pins : List (Addr × Obj)} {σ : L2.St} {H : Hp} {s : Shared} {Q : VK} {us : List Value} {vs : List V} {f : Addr} {fd : FuncData} {args : Args} (F : FnG X.prog X.w X.K X.mg X.base CX0 k f fd ps sp) (hG : NoG X.A) (hr : Room k X.A) (hb : us.length = ps.length → BindsTo s fd args (ps.zip us))
    (I : Inv X pins σ H s) (r : Vals vs us) (h : sp vs H Q E0) : codeAny (model X.prog X.w) X.A (.call (.ref f) args) (fun r s' => match r with
      | .ok (.ret u) => EP X pins σ Q u s'
      | .ok _ => False
      | .error e => X.xe e s') s := by
  have hl : us.length = ps.length := by rw [← r.length]; exact F.len _ _ _ _ h
  refine codeAny_mono (F.go X.A X.stack s H args us vs Q E0 hG hr I.env0 (hb hl) r h) fun r s' hq => ?_
  cases r with
  | error e => exact False.elim hq
  | ok fl => cases fl with
    | ret u => exact I.after hq
    | next => exact hq.elim
    | brk => exact hq.elim
    | cont => exact hq.elim
/-- f(e, ..) -/
def tCallP (sp : Sp) (t : TA) : TE := fun σ H Q => t σ H fun vs H1 => sp vs H1 Q E0
theorem pe_g (c : Cg X.prog X.w X.K X.mg X.base k x ps sp) (hG : NoG X.A) (hr : Room j X.A) (hk : k ≤ j) (hg : Gl X x) (ha : PA X (e :: es) t)
    (hdb : (x == ("__debug__" : Str)) = false := by decide) (he : starEach (e :: es) X.env = (false, eval e X.env) :: starEach es X.env := by rfl) (hpl : (backTo pos (starEach es X.env)).any (·.1) = false := by rfl) :
    PE X (.Call (.Name x p) (e :: es) [] pos) (tCallP sp t) := by
  obtain ⟨f, fd, F, hm, kp, b1, _⟩ := c.ex
  refine ⟨fun pins s σ H Q I h => wpAny_Call_Name_kw (ld_glob I hg hm ?_ hdb)⟩
  refine PySem.W.callWith_K (h₀ := X.base) I.ok.mod.kin kp (thn (ha.run pos pins s σ H _ I h) fun us s1 ⟨vs, H1, I1, r, q⟩ => ⟨I1.kIn, wpAny_call (codeAny_mono (run_g F hG (hr.mono hk) (b1 s1 us) I1 r q) fun r s' hq => ?_)⟩) he hpl
  cases r with
  | error e => exact hq
  | ok fl => cases fl with
    | ret u => exact hq
    | next => exact hq.elim
    | brk => exact hq.elim
    | cont => exact hq.elim
def tCall0 (sp : Sp) : TE := fun _ H Q => sp [] H Q E0
theorem pe_g0 (c : Cg X.prog X.w X.K X.mg X.base k x ps sp) (hG : NoG X.A) (hr : Room j X.A) (hk : k ≤ j) (hg : Gl X x) (hdb : (x == ("__debug__" : Str)) = false := by decide) : PE X (.Call (.Name x p) [] [] pos) (tCall0 sp) := by
  obtain ⟨f, fd, F, hm, kp, b1, _⟩ := c.ex
  refine ⟨fun pins s σ H Q I h => wpAny_Call_Name_kw (ld_glob I hg hm ?_ hdb)⟩
  refine PySem.W.callWith_K0 I.kIn kp (wpAny_call (codeAny_mono (run_g (us := []) F hG (hr.mono hk) (b1 s []) I .nil h) fun r s' hq => ?_))
  cases r with
  | error e => exact hq
  | ok fl => cases fl with
    | ret u => exact hq
    | next => exact hq.elim
    | brk => exact hq.elim
    | cont => exact hq.elim
/-- f(k = v, ..): all by name, in the parameters' order -/
def tCallN (sp : Sp) (tk : TA) : TE := fun σ H Q => tk σ H fun zs H2 => sp zs H2 Q E0
theorem pe_gN {kws : List Keyword} {tk : TA} (c : Cg X.prog X.w X.K X.mg X.base k x ps sp) (hG : NoG X.A) (hr : Room j X.A) (hk : k ≤ j) (hg : Gl X x) (hkw : PK X kws tk)
    (hall : (backToKw pos (keywordEach kws X.env)).all (·.1.isSome) = true := by rfl) (hks : (backToKw pos (keywordEach kws X.env)).filterMap (·.1) = ps := by rfl) (hdb : (x == ("__debug__" : Str)) = false := by decide)
    (hpl : ((backTo pos (starEach [] X.env)).any (·.1) || (backToKw pos (keywordEach kws X.env)).any (·.1.isNone)) = false := by rfl) : PE X (.Call (.Name x p) [] kws pos) (tCallN sp tk) := by
  obtain ⟨f, fd, F, hm, kp, _, b2⟩ := c.ex
  refine ⟨fun pins s σ H Q I h => wpAny_Call_Name_kw (ld_glob I hg hm ?_ hdb)⟩
  refine PySem.W.callWith_KW0 (h₀ := X.base) I.ok.mod.kin kp hall (thn (hkw.run pos pins s σ H _ I h) fun ws s2 ⟨zs, H2, I2, rz, q2⟩ => ⟨I2.kIn, ?_⟩) hpl
  rw [hks]
  refine wpAny_call (codeAny_mono (run_g F hG (hr.mono hk) (b2 s2 ws) I2 rz q2) fun r s' hq => ?_)
  cases r with
  | error e => exact hq
  | ok fl => cases fl with
    | ret u => exact hq
    | next => exact hq.elim
    | brk => exact hq.elim
    | cont => exact hq.elim
/-! ### repr of data -/
mutual
theorem Dp.plain {K : PySem.W.Frag} {H : Hp} : ∀ (d : PyData) (v : V), Dp K H v d → d.hasDict = false
  | .none, _, _ => rfl
  | .bool _, _, _ => rfl
  | .int _, _, _ => rfl
  | .str _, _, _ => rfl
  | .list ds, _, h => by
    cases h with
    | lst _ ha => exact Dp.plainAll ds _ ha
  | .tuple ds, _, h => by
    cases h with
    | tup _ ha => exact Dp.plainAll ds _ ha
  | .dict _, _, h => by cases h
theorem Dp.plainAll {K : PySem.W.Frag} {H : Hp} : ∀ (ds : List PyData) (vs : List V), DpAll K H vs ds → PyData.hasDictAll ds = false
  | [], _, _ => rfl
  | d :: ds, _, h => by
    cases h with
    | cons h1 h2 =>
      show (d.hasDict || PyData.hasDictAll ds) = false
      rw [Dp.plain d _ h1, Dp.plainAll ds _ h2]; rfl
end
def rReprD (K : PySem.W.Frag) : List V → Hp → VK → Prop := fun vs H Q => ∃ (a : Addr) (d : PyData), vs = [.ref a] ∧ Dp K H (.ref a) d ∧ d.showable = true ∧ d.depth ≤ 40 ∧ d.shown.length ≤ sizeLine ∧ Q (.str d.shown) H
theorem call_reprD (hG : NoG X.A) (hr : Room k X.A) : CallR X (.builtin "repr") (rReprD X.K) := by
  intro pins s σ H xs us Q I r h
  obtain ⟨a, d, rfl, hd, hs, hdep, hz, q⟩ := h
  cases r with
  | cons r rr =>
    cases rr
    cases r
    obtain ⟨as, rd⟩ := Dp.reads I d _ _ hd rfl
    have hp := Dp.plain d _ hd
    have hu := hr.un
    exact repr_of_reads' rd hs (fun z => by rw [hp] at z; cases z) hG (by omega) (fun b o e => e) (fun h' u tk kp => ⟨.str d.shown, H, I.kept (t' := tk) kp, ⟨u, rfl⟩, q⟩) hz
end
end WR
namespace WR
open PySem PySem.W PySem.Calls PySem.Spec PyProof.Rows L2
/-! ### the law's end -/
theorem law_g {P : Program} {w : World} {K : Frag} {mg mb : Str → Option Value} {k : Nat} {fa a : Addr} {x : Str} {sp : Sp} {h1 : Heap} {s1 : Shared} {vs : List Value} {ns : List Int} (he : s1.heap = h1)
    (KX : K.In h1) (hns : h1.Ns mainGlobals mg) (hb : h1.Ns builtinsNs mb) (hbb : ∀ x : Str, x ≠ "__name__" → mb x = bootBuiltins x) (hlim : h1.NoLimit) (hg : s1.gens = #[])
    (ha : h1.get? a = some { cls := .type "list", data := .seq vs.toArray }) (hi : IntsAre vs ns) (hl : ns.length ≤ sizeLine) (hr : Room k callerA) (hnm : mg x = some (.ref fa))
    (F : ∀ base : Heap, K.In base → base.Ns mainGlobals mg → Cg P w K mg base k x ["script"] sp)
    (hsp : ∀ H : Hp, Only H → SqL K H a (ns.map V.int) → sp [.ref a] H (fun v _ => v = .bl true) E0) :
    codeAny (model P w) callerA (.call (.ref fa) ⟨[.ref a], []⟩) (fun r s' => r = .ok (.ret (.bool true)) ∧ OldK h1 s'.heap ∧ s'.os = s1.os ∧ AllBare s'.gens) s1 := by
  subst he
  have rv := vals_ints hi
  -- the script is what is tracked, or nothing is
  have key : ∃ H : Hp, Only H ∧ SqL K H a (ns.map V.int) ∧ HOk P w H s1.heap ∧ (∀ b, H b ≠ none → b = a) ∧ (H a ≠ none → K.lookup a = none) := by
    cases hk : K.lookup a with
    | some o =>
      have e := KX a o hk
      rw [ha] at e
      cases e
      refine ⟨fun _ => none, fun _ => .inl rfl, .inr ⟨_, vs.toArray, _, hk, rfl, rfl, rfl, ?_, by simpa using rv⟩, fun b u z => ?_, fun b z => absurd rfl z, fun z => absurd rfl z⟩
      · rw [List.size_toArray, hi.length]; exact hl
      · cases z
    | none =>
      have at_ : ∀ b, (if b = a then some (HO.frz { cls := .type "list", data := .seq vs.toArray } (.lst (ns.map V.int))) else none) ≠ none → b = a := fun b z => Decidable.byContradiction fun q => z (if_neg q)
      refine ⟨fun b => if b = a then some (.frz { cls := .type "list", data := .seq vs.toArray } (.lst (ns.map V.int))) else none, fun b => ?_, .inl (.inr ⟨_, if_pos rfl⟩), fun b u z => ?_, at_, fun _ => rfl⟩
      · by_cases q : b = a
        · exact .inr ⟨_, _, if_pos q⟩
        · exact .inl (if_neg q)
      · have q : b = a := Decidable.byContradiction fun q => by
          have z' := (if_neg q).symm.trans z
          cases z'
        subst q
        have z' := (if_pos rfl).symm.trans z
        cases z'
        exact ⟨ha, by rw [List.length_map]; exact hl, vs, _, rv, ha⟩
  obtain ⟨H, hO, hS, hok, hA, hK⟩ := key
  have free : ∀ {b : Addr} {o : Obj}, s1.heap.get? b = some o → b ≠ a → (hidT s1.heap H).get? b = some o := fun {b o} e n => hidT_get e (Decidable.byContradiction fun q => n (hA b q))
  have ns' : ∀ {b : Addr} {m : Str → Option Value}, s1.heap.Ns b m → (hidT s1.heap H).Ns b m := by
    rintro b m ⟨o, es, ep, e, d, r⟩
    refine ⟨o, es, ep, free e fun z => ?_, d, r⟩
    subst z
    rw [ha] at e
    cases e
    cases (show Data.seq vs.toArray _ = Data.dict es ep from d)
  have kin : K.In (hidT s1.heap H) := fun b o e => hidT_get (KX b o e) (Decidable.byContradiction fun q => by
    have z := hA b q
    subst z
    rw [hK q] at e
    cases e)
  obtain ⟨mc, q1, q2⟩ := hlim
  have e0 : Env0 P w K mg (hidT s1.heap H) callerA [] s1 H :=
    ⟨rfl, ⟨kin, ns' hns, ⟨mb, ns' hb, hbb⟩, ⟨mc, ns' q1, q2⟩⟩, fun b o e => of_hidT e, Nat.le_of_eq (hidT_size _ _), trivial, (fun b z => by cases z), hok, .of_eq hg⟩
  obtain ⟨f, fd, G, hm, kp, b1, _⟩ := (F _ kin (ns' hns)).ex
  have ef := hnm.symm.trans hm
  cases ef
  refine codeAny_mono (G.go callerA [] s1 H ⟨[.ref a], []⟩ [.ref a] [.ref a] _ E0 rfl hr e0 (b1 s1 [.ref a] rfl) (.cons rfl .nil) (hsp H hO hS)) fun r s' q => ?_
  cases r with
  | error e => exact False.elim q
  | ok fl => cases fl with
    | next => exact False.elim q
    | brk => exact False.elim q
    | cont => exact False.elim q
    | ret u =>
      obtain ⟨v, H', os, bare, un, hok', rr, q'⟩ := q
      have q2 : v = .bl true := q'
      subst q2
      obtain rfl : u = Value.bool true := rr
      refine ⟨rfl, OldK.of_keep fun b o e => ?_, os, bare⟩
      rcases hO b with z | ⟨ob, xs, z⟩
      · exact un.keep b o e z (by intro z; cases z) (by simp)
      · have z2 := un.frzs b ob _ z
        obtain ⟨e1, _⟩ := hok b _ z
        rw [e] at e1
        cases e1
        exact (hok' b _ z2).1
theorem walk_g {l : OpenLaw} {n k : Nat} {q : Program} {loose : List Str} {XP : (Str → Option Value) → Heap → Prop} {YP : World → Heap → Prop} {d : DefRec}
    (hn : l.most = some n) (hn2 : n ≤ sizeLine) (hdf : d.params.defaults = []) (hr : Room k callerA)
    (F : ∀ (w : World) (mg : Str → Option Value) (h : Heap), YP w h → h.Ns mainGlobals mg →
      ∃ (K : Frag) (sp : Sp), K.In h ∧ (∀ (H : Hp) (a : Addr) (ns : List Int), ns.length ≤ n → Only H → SqL K H a (ns.map V.int) → sp [.ref a] H (fun v _ => v = .bl true) E0) ∧
        ∀ base : Heap, K.In base → base.Ns mainGlobals mg → Cg l.prog w K mg base k d.name ["script"] sp) :
    WalkO q loose XP YP l.row.toRowW d [] (fun f vs => PySem.call f vs) := by
  refine Att.attach_call hn hdf fun w s0 s1 mg mb fa o pm cd dc a vs ns G Y ho hd hcd hmg hobj hints hlen hg => ?_
  obtain ⟨K, sp, KX, hsp, hF⟩ := F w mg _ Y G.T.g
  exact law_g rfl KX G.T.g G.T.b G.T.builtins G.T.nolimit hg hobj hints (Nat.le_trans hlen hn2) hr hmg hF fun H hO hS => hsp H a ns hlen hO hS
end WR
namespace L2
open PySem
theorem Same.new {H : Hp} {p : Addr} {o : HO} (h : H p = none) : Same H (upd H p o) := fun b u e => by rw [upd_ne (ne_of_none e h)]; exact e
theorem Same.put {H H' : Hp} {p : Addr} {o : HO} (e : Same H H') (h : H p = none) : Same H (upd H' p o) := fun b u q => by rw [upd_ne (ne_of_none q h)]; exact e b u q
end L2
namespace WR
open PySem PySem.Spec PyProof.Rows L2
abbrev S := SX.S
/-! ### heaps -/
theorem Same.none {H H' : Hp} {p : Addr} (e : Same H H') (h : H' p = none) : H p = Option.none := e.free h
/-- all but what stands at a is as it was -/
def But (a : Addr) (H H' : Hp) : Prop := ∀ b o, b ≠ a → H b = some o → H' b = some o
theorem But.refl (a : Addr) (H : Hp) : But a H H := fun _ _ _ e => e
theorem But.trans {a : Addr} {H H1 H2 : Hp} (x : But a H H1) (y : But a H1 H2) : But a H H2 := fun b o n e => y b o n (x b o n e)
theorem But.of {a : Addr} {H H' : Hp} (x : Same H H') : But a H H' := fun b o _ e => x b o e
theorem But.put {a : Addr} {H : Hp} {o : HO} : But a H (upd H a o) := fun b u n e => by rw [upd_ne n]; exact e
theorem But.new {a p : Addr} {H : Hp} {o : HO} (h : H p = none) : But a H (upd H p o) := But.of (Same.new h)
theorem But.none {a p : Addr} {H H' : Hp} (x : But a H H') (n : p ≠ a) (h : H' p = none) : H p = Option.none := by
  cases q : H p with
  | none => rfl
  | some o => rw [x p o n q] at h; cases h
/-! ### texts as lists of codes -/
theorem S_len (l : List Nat) : (S l).length = l.length := SX.S_len l
theorem S_app (a b : List Nat) : S a ++ S b = S (a ++ b) := by
  show (⟨a.toArray ++ b.toArray⟩ : Str) = _
  simp [SX.S]
theorem S_inj {a b : List Nat} (h : S a = S b) : a = b := by
  have := congrArg (fun z : Str => z.cps.toList) h
  simpa using this
theorem S_dec (a b : List Nat) : decide (V.str (S a) = V.str (S b)) = decide (a = b) := by
  by_cases e : a = b
  · subst e; simp
  · rw [decide_eq_false e, decide_eq_false]
    intro q
    exact e (S_inj (V.str.inj q))
theorem S_cps (l : List Nat) : (S l).cps.toList = l := by simp [SX.S]
theorem S_size (l : List Nat) : (S l).cps.size = l.length := by simp [SX.S]
theorem S_get (l : List Nat) (i : Nat) : (S l).cps[i]? = l[i]? := by simp [SX.S]
theorem cutS_S (l : List Nat) (a b : Nat) : cutS (S l) (some (a : Int)) (some (b : Int)) = S ((l.drop a).take (b - a)) := by
  unfold cutS
  rw [S_cps, S_len, HT.sIx_nat, HT.sIx_nat]
  congr 1
  congr 1
  by_cases h : a ≤ l.length
  · rw [Nat.min_eq_left h]
    by_cases h2 : b ≤ l.length
    · rw [Nat.min_eq_left h2]
    · rw [Nat.min_eq_right (by omega), List.take_of_length_le (by simp), List.take_of_length_le (by simp; omega)]
  · rw [Nat.min_eq_right (show l.length ≤ a by omega), List.drop_of_length_le (Nat.le_refl _), List.drop_of_length_le (show l.length ≤ a by omega)]
    simp
theorem cutS_lo (l : List Nat) (b : Nat) : cutS (S l) none (some (b : Int)) = S (l.take b) := by
  have := cutS_S l 0 b
  rw [List.drop_zero, Nat.sub_zero] at this
  exact this
theorem cutS_hi (l : List Nat) (a : Nat) : cutS (S l) (some (a : Int)) none = S (l.drop a) := by
  unfold cutS
  rw [S_cps, S_len, HT.sIx_nat, HT.sIx_none]
  congr 1
  congr 1
  by_cases h : a ≤ l.length
  · rw [Nat.min_eq_left h, List.take_of_length_le (by simp)]
  · rw [Nat.min_eq_right (show l.length ≤ a by omega), List.drop_of_length_le (Nat.le_refl _), List.drop_of_length_le (show l.length ≤ a by omega)]
    simp
theorem at_S {l : List Nat} {i c : Nat} (h : l[i]? = some c) : atI (S l).cps.toList (i : Int) = some c := by
  rw [S_cps]
  exact atI_nat h
theorem mulS (l : List Nat) (n : Nat) : (⟨(List.replicate n (S l).cps).foldl (· ++ ·) #[]⟩ : Str) = S (List.replicate n l).flatten := by
  have : ∀ (n : Nat) (a : Array Nat), (List.replicate n (S l).cps).foldl (· ++ ·) a = a ++ (List.replicate n l).flatten.toArray := by
    intro n
    induction n with
    | zero => intro a; simp
    | succ n ih =>
      intro a
      rw [List.replicate_succ, List.foldl_cons, ih, List.replicate_succ]
      simp [SX.S]
  rw [this]
  simp [SX.S]
theorem join_S (ls : List (List Nat)) : Txt.join (S []) (ls.map S) = S ls.flatten := by
  have e : Txt.join (S []) (ls.map S) = Str.join (S []) (ls.map S) := PySem.StrLaws.glued_eq_join _ _
  rw [e]
  clear e
  induction ls with
  | nil => rfl
  | cons a r ih =>
    cases r with
    | nil =>
      show S a = S _
      simp
    | cons b r =>
      show S a ++ S [] ++ Str.join (S []) ((b :: r).map S) = S _
      rw [ih, S_app, S_app]
      simp
/-! ### walks -/
theorem walk_enumS {k : Int} {z : Str} : Walk (IteS k z) z.cps.size (fun _ => True) (fun i H v H' => ∃ T c, v = .ref T ∧ H T = none ∧ H' = upd H T (.tup [.int (k + (i : Nat)), .str ⟨#[c]⟩]) ∧ z.cps[i]? = some c) where
  goes := fun i H hi _ => hi
  stops := fun H _ => rfl
  yields := fun i H x H' _ _ y => y
/-- a comprehension whose test and element change nothing -/
theorem lc_pure {J : It} {n : Nat} {G : Hp → Prop} {Y : Nat → Hp → V → Hp → Prop} (w : Walk J n G Y) {g : TG} {tt : TT} {te : TE} {vs : List Nat} {σ : L2.St} {H1 : Hp} {D : Addr} {Qd : Hp → Prop} (b : Nat → Bool) (f : Nat → V)
    (hD : H1 D = none) (hn : n ≤ 1000000) (hG : ∀ H, Same H1 H → G H)
    (hs : ∀ i x H H' (N : V → Hp → Prop) (N0 : Hp → Prop), i < n → Same H1 H → Y i H x H' → (∀ H4, Same H H4 → b i = true → N (f i) H4) → (∀ H4, Same H H4 → b i = false → N0 H4) →
      g x (wipe σ vs) H' fun σ2 H2 => wipe σ2 vs = wipe σ vs ∧ tt σ2 H2 fun c H3 => if c = true then te σ2 H3 N else N0 H3)
    (hd : ∀ H, Same H1 H → H D = some (.lst (((List.range n).filter b).map f)) → Qd H) :
    ∃ W : Nat → Nat → Hp → Prop, (∃ m, W 0 m (upd H1 D (.lst []))) ∧ ∀ i m H, W i m H →
      (J.stop i H ∧ Qd H) ∨ (J.go i H ∧ ∃ Nx : Hp → Prop, (∀ H', Nx H' → ∃ m', m' < m ∧ W (i + 1) m' H') ∧ ∀ x H', J.yld i H x H' → g x (wipe σ vs) H' fun σ2 H2 => wipe σ2 vs = wipe σ vs ∧ tt σ2 H2 fun b H3 =>
        if b = true then te σ2 H3 fun y H4 => ∃ acc, H4 D = some (.lst acc) ∧ acc.length < sizeLine ∧ Nx (upd H4 D (.lst (acc ++ [y]))) else Nx H3) := by
  refine lc_it w (fun i H => Same H1 H ∧ H D = some (.lst (((List.range i).filter b).map f))) ⟨Same.new hD, upd_same⟩ (fun i H _ p => hG H p.1) (fun i x H H' hi p hy => ?_) fun H p => hd H p.1 p.2
  obtain ⟨p1, p2⟩ := p
  refine hs i x H H' _ _ hi p1 hy (fun H4 q c => ⟨_, q _ _ p2, ?_, Same.put (p1.trans q) hD, ?_⟩) fun H4 q c => ⟨p1.trans q, ?_⟩
  · have h1 : (((List.range i).filter b).map f).length ≤ i := by
      rw [List.length_map]
      exact Nat.le_trans (List.length_filter_le _ _) (by simp)
    rw [sizeLine_eq]
    omega
  · rw [upd_same, List.range_succ, List.filter_append, List.map_append, List.filter_cons, if_pos c]
    rfl
  · rw [List.range_succ, List.filter_append, List.map_append, List.filter_cons, if_neg (by rw [c]; exact Bool.false_ne_true)]
    simpa using q _ _ p2
/-! ### list(text) -/
def rListTx : List V → Hp → VK → Prop := fun xs H Q => ∃ l : List Nat, xs = [V.str (S l)] ∧ l.length ≤ 100000 ∧ ∀ p, H p = none → Q (.ref p) (upd H p (.lst (l.map fun c => V.str (S [c]))))
theorem vals_signs : ∀ (l : List Nat) (us : List Value), us.length = l.length → (∀ (j : Nat) (v : Value), us[j]? = some v → ∃ (c : Nat) (u : Tok), l[j]? = some c ∧ v = Value.str ⟨#[c]⟩ u) → Vals (l.map fun c => V.str (S [c])) us
  | [], [], _, _ => .nil
  | [], _ :: _, h, _ => by simp at h
  | _ :: _, [], h, _ => by simp at h
  | c :: l, u :: us, h, hj => by
    obtain ⟨c', t, e1, e2⟩ := hj 0 u rfl
    have e3 : c = c' := Option.some.inj e1
    subst e3
    exact .cons ⟨t, e2⟩ (vals_signs l us (by simpa using h) fun j v hv => hj (j + 1) v hv)
theorem call_list_tx {X : Cx} (hc : X.calm = true) : CallR X (.type "list") rListTx := by
  intro pins s σ H xs us Q I r h
  obtain ⟨l, rfl, hl, q⟩ := h
  cases r with
  | cons r rr =>
    cases rr
    obtain ⟨t, rfl⟩ := r
    refine call_list_str (I.ok.hd hc) (S l) t (hn := by rw [S_size, sizeLine_eq]; omega) fun h' tk acc c hk hS hacc => ?_
    have rv : Vals (l.map fun c => V.str (S [c])) acc.toList := vals_signs l _ (by have := hacc.1; simpa using this) fun j v hv => by
      obtain ⟨c, u, e1, e2⟩ := hacc.2 j v (by simpa using hv)
      exact ⟨c, u, by simpa using e1, e2⟩
    exact ⟨.ref s.heap.objs.size, _, I.laid (t' := tk) hk (Nat.le_refl _) (show ObjOk X.prog X.w _ h' _ (.lst _) from ⟨by rw [List.length_map, sizeLine_eq]; omega, acc.toList, c, rv, by simpa using hS⟩), rfl, q _ (I.hok.fresh (Nat.le_refl _))⟩
/-! ### the cells -/
instance (c : Nat) : Decidable (WM.IsCell c) := by unfold WM.IsCell; infer_instance
instance (l : List Nat) : Decidable (WM.Cells l) := by unfold WM.Cells; infer_instance
theorem mem_cells (c : Nat) : decide (c ∈ (S [48, 49, 50, 51, 52, 53, 54, 55, 56, 57, 97, 98, 99, 100, 101, 102]).cps.toList) = decide (WM.IsCell c) := by
  rw [S_cps]
  have e : c ∈ [48, 49, 50, 51, 52, 53, 54, 55, 56, 57, 97, 98, 99, 100, 101, 102] ↔ WM.IsCell c := by
    simp only [List.mem_cons, List.not_mem_nil, or_false]
    unfold WM.IsCell
    omega
  by_cases h : WM.IsCell c
  · rw [decide_eq_true h, decide_eq_true (e.mpr h)]
  · rw [decide_eq_false h, decide_eq_false fun q => h (e.mp q)]
theorem allr (p : Nat → Bool) (l : List Nat) : ((List.range l.length).map fun i => p (l.getD i 0)).all id = l.all p := by
  have e : (List.range l.length).map (fun i => p (l.getD i 0)) = l.map p := by
    apply List.ext_getElem?
    intro i
    by_cases h : i < l.length
    · simp [h, List.getD]
    · simp [h, List.getElem?_eq_none (show l.length ≤ i by omega)]
  rw [e, List.all_map]
  rfl
/-! ### a comprehension without a test -/
theorem yes_of {σ : L2.St} {H : Hp} {te : TE} {N : V → Hp → Prop} {N0 : Hp → Prop} (h : te σ H N) : tYes σ H fun c H3 => if c = true then te σ H3 N else N0 H3 := by
  show (if true = true then te σ H N else N0 H)
  rw [if_pos rfl]
  exact h
theorem lc_map {J : It} {n : Nat} {G : Hp → Prop} {Y : Nat → Hp → V → Hp → Prop} (w : Walk J n G Y) {g : TG} {te : TE} {vs : List Nat} {σ : L2.St} {H1 : Hp} {D : Addr} {Qd : Hp → Prop} (f : Nat → V)
    (hD : H1 D = none) (hn : n ≤ 1000000) (hG : ∀ H, Same H1 H → G H)
    (hs : ∀ i x H H' (N : V → Hp → Prop), i < n → Same H1 H → Y i H x H' → (∀ H4, Same H H4 → N (f i) H4) → g x (wipe σ vs) H' fun σ2 H2 => wipe σ2 vs = wipe σ vs ∧ te σ2 H2 N)
    (hg : ∀ x σ H (A B : L2.St → Hp → Prop), (∀ s h, A s h → B s h) → g x σ H A → g x σ H B)
    (hd : ∀ H, Same H1 H → H D = some (.lst ((List.range n).map f)) → Qd H) :
    ∃ W : Nat → Nat → Hp → Prop, (∃ m, W 0 m (upd H1 D (.lst []))) ∧ ∀ i m H, W i m H →
      (J.stop i H ∧ Qd H) ∨ (J.go i H ∧ ∃ Nx : Hp → Prop, (∀ H', Nx H' → ∃ m', m' < m ∧ W (i + 1) m' H') ∧ ∀ x H', J.yld i H x H' → g x (wipe σ vs) H' fun σ2 H2 => wipe σ2 vs = wipe σ vs ∧ tYes σ2 H2 fun b H3 =>
        if b = true then te σ2 H3 fun y H4 => ∃ acc, H4 D = some (.lst acc) ∧ acc.length < sizeLine ∧ Nx (upd H4 D (.lst (acc ++ [y]))) else Nx H3) :=
  lc_pure w (fun _ => true) f hD hn hG (fun i x H H' N N0 hi hS hy h1 _ => hg _ _ _ _ _ (fun _ _ q => ⟨q.1, yes_of q.2⟩) (hs i x H H' N hi hS hy fun H4 q => h1 H4 q rfl)) fun H hS hL => hd H hS (by rw [List.filter_eq_self.mpr (by simp)] at hL; exact hL)
theorem mono_name {i : Nat} : ∀ x σ H (A B : L2.St → Hp → Prop), (∀ s h, A s h → B s h) → gName i x σ H A → gName i x σ H B := fun _ _ _ _ _ h q => h _ _ q
theorem map_V {α : Type} {n : Nat} (F : α → V) (p : Nat → α) : (List.range n).map (fun i => F (p i)) = ((List.range n).map p).map F := by rw [List.map_map]; rfl
theorem getD_of {l : List Nat} {i c : Nat} (h : (S l).cps[i]? = some c) : l.getD i 0 = c := by
  rw [S_get] at h
  simp [List.getD, h]
theorem map_getD {α : Type} (f : Nat → α) (l : List Nat) : (List.range l.length).map (fun i => f (l.getD i 0)) = l.map f := by
  apply List.ext_getElem?
  intro i
  by_cases h : i < l.length
  · simp [h, List.getD]
  · simp [h, List.getElem?_eq_none (show l.length ≤ i by omega)]
theorem S_take {k p : Nat} : ∀ {l : List Nat} {i c : Nat}, l[i]? = some c → WM.S k p (l.take (i + 1)) = WM.S k p (l.take i) + WM.lack c * (p + i) ^ k
  | [], i, c, h => by simp at h
  | d :: l, 0, c, h => by
    have e : d = c := by simpa using h
    subst e
    simp [WM.S]
  | d :: l, i + 1, c, h => by
    have := S_take (k := k) (p := p + 1) (l := l) (i := i) (c := c) (by simpa using h)
    simp only [List.take_succ_cons, WM.S, this]
    rw [show p + 1 + i = p + (i + 1) by omega]
    omega
theorem cell_cases {c : Nat} (h : WM.IsCell c) : c = 48 ∨ c = 49 ∨ c = 50 ∨ c = 51 ∨ c = 52 ∨ c = 53 ∨ c = 54 ∨ c = 55 ∨ c = 56 ∨ c = 57 ∨ c = 97 ∨ c = 98 ∨ c = 99 ∨ c = 100 ∨ c = 101 ∨ c = 102 := by
  unfold WM.IsCell at h
  omega
/-! ### figures in sixteens -/
theorem hexT_figs {k n : Nat} (hk : 1 ≤ k) (h : n < 16 ^ k) : (Nat.toDigits 16 n).length ≤ k ∧ hexT k n = S (WM.figs k n) := by
  obtain ⟨h1, h2⟩ := WM.digs k n hk h
  refine ⟨h1, ?_⟩
  unfold hexT
  rw [h2]
theorem ofs_nil : (Str.ofString "" : Str) = S [] := by decide +kernel
theorem one_S (c : Nat) : (⟨#[c]⟩ : Str) = S [c] := rfl
theorem join_V (ls : List (List Nat)) : ls.map (fun l => V.str (S l)) = (ls.map S).map V.str := by rw [List.map_map]; rfl
theorem len_S (ls : List (List Nat)) : ((ls.map S).map (·.length)).sum = ls.flatten.length := by
  rw [List.length_flatten, List.map_map]
  congr 1
theorem flat_one {α β : Type} (f : α → β) (l : List α) : (l.map fun c => [f c]).flatten = l.map f := by
  induction l with
  | nil => rfl
  | cons a l ih => simp [ih]
theorem one_map (ts : List Nat) : (ts.map fun c => S [c]) = (ts.map fun c => [c]).map S := by rw [List.map_map]; rfl
theorem join_one (ts : List Nat) : Txt.join (S []) (ts.map fun c => S [c]) = S ts := by
  rw [one_map, join_S, flat_one, List.map_id']
theorem join_len1 (ts : List Nat) : ((ts.map fun c => S [c]).map (·.length)).sum = ts.length := by
  rw [one_map, len_S, flat_one, List.map_id']
end WR
namespace WR
open PySem
/-! ### zip of two texts -/
/-- the five objects of a zip are five -/
structure Five (z p o a b : Addr) : Prop where
  pz : p ≠ z
  oz : o ≠ z
  az : a ≠ z
  bz : b ≠ z
  po : p ≠ o
  pa : p ≠ a
  pb : p ≠ b
  oa : o ≠ a
  ob : o ≠ b
  ab : a ≠ b
section
variable {prog : Program} {w : World} {A : Around} {E : Value → Shared → Prop} {s : Shared}
theorem iter_at {h h' : Heap} {it : Addr} {T : String} {x : Str} {t : Tok} {i : Nat} (q : h.IsStrIter it T x t i) (k : ∀ o, h.get? it = some o → h'.get? it = some o) : h'.IsStrIter it T x t i := by
  obtain ⟨o, e, r⟩ := q
  exact ⟨o, k o e, r⟩
theorem iter_lt {h : Heap} {it : Addr} {T : String} {x : Str} {t : Tok} {i : Nat} (q : h.IsStrIter it T x t i) : it < h.objs.size := by
  obtain ⟨o, e, r⟩ := q
  exact Heap.lt_size e
theorem zs_item {z p o i j : Addr} {k : Nat} {x y : Str} {t u : Tok} {m n : Value} {Q : Value → Shared → Prop} (hA : A.handled = none) (D : Five z p o i j)
    (fz : IsZip s.heap z p o .none) (fp : IsPair s.heap p (.ref i) (.ref j)) (fo : IsPair s.heap o m n)
    (f1 : s.heap.IsStrIter i (strIterType x) x t k) (f2 : s.heap.IsStrIter j (strIterType y) y u k) (l1 : k < x.cps.size) (l2 : k < y.cps.size)
    (done : ∀ g tk c d v1 v2, x.cps[k]? = some c → y.cps[k]? = some d → IsZip g z p o (rawInt s.heap.objs.size) → IsPair g o (.str ⟨#[c]⟩ v1) (.str ⟨#[d]⟩ v2) →
      g.IsStrIter i (strIterType x) x t (k + 1) → g.IsStrIter j (strIterType y) y u (k + 1) → IsPair g s.heap.objs.size (.str ⟨#[c]⟩ v1) (.str ⟨#[d]⟩ v2) → g.objs.size = s.heap.objs.size + 1 →
      (∀ e ob, e ≠ z → e ≠ o → e ≠ i → e ≠ j → s.heap.get? e = some ob → g.get? e = some ob) → Q (.ref s.heap.objs.size) { s with heap := g, toks := tk }) :
    wpAny (model prog w) A (Builtin.«zip.__next__» ⟨[.ref z], []⟩) (fun fin s' => ∃ v, fin = .done (.ret v) ∧ Q v s') E s := by
  have T1 : ∀ A : Around, A.handled = none → Draws prog w A i [i] x.cps.size _ _ := fun A h => Draws.text h i x t
  have T2 : ∀ A : Around, A.handled = none → Draws prog w A j [j] y.cps.size _ _ := fun A h => Draws.text h j y u
  show wpAny _ _ (field (.ref z) 2 >>= _) _ _ _
  refine wpAny_bind (wpAny_field fz rfl (x := .bool false) rfl ?_)
  show wpAny _ _ (field (.ref z) 3 >>= _) _ _ _
  refine wpAny_bind (wpAny_field fz rfl (x := .ref p) rfl (wpAny_bind (wpAny_seqItems fp rfl ?_)))
  show wpAny _ _ (Builtin.SmallTypes.ownedTupleIsFree (.ref z) >>= _) _ _ _
  refine wpAny_bind ?_
  unfold Builtin.SmallTypes.ownedTupleIsFree
  refine wpAny_bind (wpAny_field fz rfl (x := .none) rfl (wpAny_pure ?_))
  simp only [if_true]
  refine wpAny_bind (wpAny_rule (wpAny_bind (wpAny_field fz rfl (x := .ref o) rfl ?_)))
  refine wpAny_bind (wpAny_setField_rec fz (by simp) fun g1 z1 k1 => ?_)
  replace z1 : IsZip g1 z p o .ellipsis := z1
  refine wpAny_bind ?_
  simp only [List.zipIdx_cons, List.zipIdx_nil, List.forIn_cons, List.forIn_nil]
  refine wpAny_bind (wpAny_bind (wpAny_onRaise ?_))
  show wpAny _ _ (Builtin.SmallTypes.nextOf (.ref i) >>= _) _ _ _
  refine wpAny_bind ((T1 _ hA).item k _ _ _ l1 (iter_at f1 fun ob e => k1.extBut _ _ D.az e) fun v g2 tk2 pv q2 k2 => wpAny_pure ?_)
  obtain ⟨c, v1, hc, rfl⟩ := pv
  have o2 : IsPair g2 o m n := k2.extBut _ _ D.oa (k1.extBut _ _ D.oz fo)
  refine wpAny_bind (wpAny_seqItems o2 rfl (wpAny_bind (wpAny_updateSeq_pair o2 fun g3 o3 k3 => ?_)))
  replace o3 : IsPair g3 o (.str ⟨#[c]⟩ v1) n := o3
  refine wpAny_bind (wpAny_letGo (wpAny_pure (wpAny_bind (wpAny_bind (wpAny_onRaise ?_)))))
  show wpAny _ _ (Builtin.SmallTypes.nextOf (.ref j) >>= _) _ _ _
  refine wpAny_bind ((T2 _ hA).item k _ _ _ l2 (iter_at f2 fun ob e => k3.extBut _ _ (Ne.symm D.ob) (k2.extBut _ _ (Ne.symm D.ab) (k1.extBut _ _ D.bz e))) fun v' g4 tk4 pv' q4 k4 => wpAny_pure ?_)
  obtain ⟨d, v2, hd, rfl⟩ := pv'
  have o4 : IsPair g4 o (.str ⟨#[c]⟩ v1) n := k4.extBut _ _ D.ob o3
  refine wpAny_bind (wpAny_seqItems o4 rfl (wpAny_bind (wpAny_updateSeq_pair o4 fun g5 o5 k5 => ?_)))
  replace o5 : IsPair g5 o (.str ⟨#[c]⟩ v1) (.str ⟨#[d]⟩ v2) := o5
  refine wpAny_bind (wpAny_letGo (wpAny_pure (wpAny_pure (wpAny_bind (wpAny_seqItems o5 rfl (wpAny_bind (wpAny_newTuple ?_)))))))
  have sz : g5.objs.size = s.heap.objs.size := by rw [k5.1, k4.1, k3.1, k2.1, k1.1]
  have z5 : IsZip g5 z p o .ellipsis := k5.extBut _ _ (Ne.symm D.oz) (k4.extBut _ _ (Ne.symm D.bz) (k3.extBut _ _ (Ne.symm D.oz) (k2.extBut _ _ (Ne.symm D.az) z1)))
  have kk : ∀ e ob, e ≠ z → e ≠ o → e ≠ i → e ≠ j → s.heap.get? e = some ob → g5.get? e = some ob := fun e ob n1 n2 n3 n4 r =>
    k5.extBut _ _ n2 (k4.extBut _ _ n4 (k3.extBut _ _ n2 (k2.extBut _ _ n3 (k1.extBut _ _ n1 r))))
  have i5 : g5.IsStrIter i (strIterType x) x t (k + 1) := iter_at q2 fun ob r => k5.extBut _ _ (Ne.symm D.oa) (k4.extBut _ _ D.ab (k3.extBut _ _ (Ne.symm D.oa) r))
  have j5 : g5.IsStrIter j (strIterType y) y u (k + 1) := iter_at q4 fun ob r => k5.extBut _ _ (Ne.symm D.ob) r
  have zl : z < g5.objs.size := Heap.lt_size z5
  show wpAny _ _ (Builtin.SmallTypes.ownedTupleHandOut (.ref z) (.ref g5.objs.size) >>= _) _ _ _
  refine wpAny_bind ?_
  unfold Builtin.SmallTypes.ownedTupleHandOut
  have z6 : IsZip (g5.push { cls := .type "tuple", data := .seq #[.str ⟨#[c]⟩ v1, .str ⟨#[d]⟩ v2] }) z p o .ellipsis := Heap.get?_push_of_some _ z5
  refine wpAny_bind (wpAny_setField_rec z6 (by simp) fun g7 z7 k7 => ?_)
  replace z7 : IsZip g7 z p o (rawInt g5.objs.size) := z7
  refine wpAny_setField_rec z7 (by simp) fun g8 z8 k8 => ?_
  replace z8 : IsZip g8 z p o (rawInt g5.objs.size) := z8
  have up : ∀ e ob, e ≠ z → g5.get? e = some ob → g8.get? e = some ob := fun e ob ne r => k8.extBut _ _ ne (k7.extBut _ _ ne (Heap.get?_push_of_some _ r))
  have nz : g5.objs.size ≠ z := Nat.ne_of_gt zl
  have p8 : IsPair g8 g5.objs.size (.str ⟨#[c]⟩ v1) (.str ⟨#[d]⟩ v2) := k8.extBut _ _ nz (k7.extBut _ _ nz (Heap.get?_push_size _ rfl))
  have s8 : g8.objs.size = g5.objs.size + 1 := by rw [k8.1, k7.1, Heap.size_push]
  rw [sz] at z8 p8 s8
  refine wpAny_pure ⟨_, rfl, ?_⟩
  show Q (.ref g5.objs.size) _
  rw [sz]
  exact done g8 _ c d v1 v2 hc hd z8 (up _ _ D.oz o5) (iter_at i5 fun ob r => up _ ob D.az r) (iter_at j5 fun ob r => up _ ob D.bz r) p8 s8 fun e ob n1 n2 n3 n4 r => up e ob n1 (kk e ob n1 n2 n3 n4 r)
theorem zs_stop {z p o i j : Addr} {x y : Str} {t u : Tok} {m n : Value} {Q : Fin → Shared → Prop} (hA : A.handled = none) (D : Five z p o i j)
    (fz : IsZip s.heap z p o .none) (fp : IsPair s.heap p (.ref i) (.ref j)) (fo : IsPair s.heap o m n) (f1 : s.heap.IsStrIter i (strIterType x) x t x.cps.size)
    (out : ∀ g e, (∀ c ob, c ≠ z → c ≠ o → c ≠ i → c ≠ j → s.heap.get? c = some ob → g.get? c = some ob) → (∃ ob, g.get? e = some ob ∧ ob.cls = .type "StopIteration") → E (.ref e) { s with heap := g }) :
    wpAny (model prog w) A (Builtin.«zip.__next__» ⟨[.ref z], []⟩) Q E s := by
  have T1 : ∀ A : Around, A.handled = none → Draws prog w A i [i] x.cps.size _ _ := fun A h => Draws.text h i x t
  show wpAny _ _ (field (.ref z) 2 >>= _) _ _ _
  refine wpAny_bind (wpAny_field fz rfl (x := .bool false) rfl ?_)
  show wpAny _ _ (field (.ref z) 3 >>= _) _ _ _
  refine wpAny_bind (wpAny_field fz rfl (x := .ref p) rfl (wpAny_bind (wpAny_seqItems fp rfl ?_)))
  show wpAny _ _ (Builtin.SmallTypes.ownedTupleIsFree (.ref z) >>= _) _ _ _
  refine wpAny_bind ?_
  unfold Builtin.SmallTypes.ownedTupleIsFree
  refine wpAny_bind (wpAny_field fz rfl (x := .none) rfl (wpAny_pure ?_))
  simp only [if_true]
  refine wpAny_bind (wpAny_rule (wpAny_bind (wpAny_field fz rfl (x := .ref o) rfl ?_)))
  refine wpAny_bind (wpAny_setField_rec fz (by simp) fun g1 z1 k1 => ?_)
  replace z1 : IsZip g1 z p o .ellipsis := z1
  refine wpAny_bind ?_
  simp only [List.zipIdx_cons, List.zipIdx_nil, List.forIn_cons, List.forIn_nil]
  refine wpAny_bind (wpAny_bind (wpAny_onRaise ?_))
  show wpAny _ _ (Builtin.SmallTypes.nextOf (.ref i) >>= _) _ _ _
  refine wpAny_bind ((T1 _ hA).done _ _ _ (iter_at f1 fun ob e => k1.extBut _ _ D.az e) fun g2 e k2 he => ?_)
  obtain ⟨ob, hob, hcl⟩ := he
  have z2 : IsZip g2 z p o .ellipsis := k2 _ _ (Ne.symm D.az) z1
  have nez : e ≠ z := fun q => by subst q; rw [z2] at hob; cases hob; simp at hcl
  refine wpAny_setField_rec z2 (by simp) fun g3 _ k3 => out g3 e (fun c oc n1 _ n3 _ r => k3.extBut _ _ n1 (k2 _ _ n3 (k1.extBut _ _ n1 r))) ⟨ob, k3.extBut _ _ nez hob, hcl⟩
theorem zs_next {z p o i j : Addr} {k : Nat} {x y : Str} {t u : Tok} {m n : Value} {Q : Option Value → Shared → Prop} (hA : A.handled = none) (D : Five z p o i j)
    (fz : IsZip s.heap z p o .none) (fp : IsPair s.heap p (.ref i) (.ref j)) (fo : IsPair s.heap o m n)
    (f1 : s.heap.IsStrIter i (strIterType x) x t k) (f2 : s.heap.IsStrIter j (strIterType y) y u k) (l1 : k < x.cps.size) (l2 : k < y.cps.size)
    (done : ∀ g tk c d v1 v2, x.cps[k]? = some c → y.cps[k]? = some d → IsZip g z p o (rawInt s.heap.objs.size) → IsPair g o (.str ⟨#[c]⟩ v1) (.str ⟨#[d]⟩ v2) →
      g.IsStrIter i (strIterType x) x t (k + 1) → g.IsStrIter j (strIterType y) y u (k + 1) → IsPair g s.heap.objs.size (.str ⟨#[c]⟩ v1) (.str ⟨#[d]⟩ v2) → g.objs.size = s.heap.objs.size + 1 →
      (∀ e ob, e ≠ z → e ≠ o → e ≠ i → e ≠ j → s.heap.get? e = some ob → g.get? e = some ob) → Q (some (.ref s.heap.objs.size)) { s with heap := g, toks := tk }) :
    wpAny (model prog w) A (pyNext (.ref z)) Q E s := by
  have ty : s.TypeIs (.ref z) "zip" := ⟨_, fz, rfl⟩
  unfold pyNext
  exact wpAny_bind (wpAny_attempt (wpAny_callSpecial?_slot (name := Str.ofString "__next__") ty F.slot_zip_next (wpAny_call_entry F.slot_zip_next ty F.entry_zip_next
    (zs_item hA D fz fp fo f1 f2 l1 l2 fun g tk c d v1 v2 a0 a1 a2 a3 a4 a5 a6 a7 a8 => wpAny_pure (done g tk c d v1 v2 a0 a1 a2 a3 a4 a5 a6 a7 a8)) (F.args_zip_next_1 _))))
theorem zs_none {z p o i j : Addr} {x y : Str} {t u : Tok} {m n : Value} {Q : Option Value → Shared → Prop} (hA : A.handled = none) (D : Five z p o i j)
    (fz : IsZip s.heap z p o .none) (fp : IsPair s.heap p (.ref i) (.ref j)) (fo : IsPair s.heap o m n) (f1 : s.heap.IsStrIter i (strIterType x) x t x.cps.size)
    (done : ∀ g, (∀ c ob, c ≠ z → c ≠ o → c ≠ i → c ≠ j → s.heap.get? c = some ob → g.get? c = some ob) → Q none { s with heap := g }) : wpAny (model prog w) A (pyNext (.ref z)) Q E s := by
  have ty : s.TypeIs (.ref z) "zip" := ⟨_, fz, rfl⟩
  unfold pyNext
  refine wpAny_bind (wpAny_attempt (wpAny_callSpecial?_slot (name := Str.ofString "__next__") ty F.slot_zip_next (wpAny_call_entry F.slot_zip_next ty F.entry_zip_next
    (zs_stop (y := y) (u := u) hA D fz fp fo f1 fun g e kp he => ?_) (F.args_zip_next_1 _))))
  obtain ⟨ob, ho, hc⟩ := he
  exact wpAny_bind (wpAny_isInstance (T := "StopIteration") (b := true) ⟨ob, ho, hc⟩ isSubtype_stop (wpAny_pure (done _ kp)))
end
/-! the five objects of a zip of two texts that begins -/
abbrev zs1 (h : Heap) (x : Str) (t : Tok) : Heap := h.push { cls := .type (strIterType x), data := .fields #[.str x t, .int 0 0] }
abbrev zs2 (h : Heap) (x : Str) (t : Tok) (y : Str) (u : Tok) : Heap := (zs1 h x t).push { cls := .type (strIterType y), data := .fields #[.str y u, .int 0 0] }
abbrev zs3 (h : Heap) (x : Str) (t : Tok) (y : Str) (u : Tok) : Heap := (zs2 h x t y u).push { cls := .type "tuple", data := .seq #[.ref h.objs.size, .ref (zs1 h x t).objs.size] }
abbrev zs4 (h : Heap) (x : Str) (t : Tok) (y : Str) (u : Tok) : Heap := (zs3 h x t y u).push { cls := .type "tuple", data := .seq #[.none, .none] }
abbrev zs5 (h : Heap) (x : Str) (t : Tok) (y : Str) (u : Tok) : Heap := (zs4 h x t y u).push { cls := .type "zip", data := .fields #[.none, .bool false, .bool false, .ref (zs2 h x t y u).objs.size, .ref (zs3 h x t y u).objs.size] }
theorem meets_zs (x : Str) (t : Tok) (y : Str) (u : Tok) :
    Meets (Builtin.«zip.__new__» ⟨[.type "zip", .str x t, .str y u], []⟩) (fun _ R s => R (.ok (.ret (.ref (zs4 s.heap x t y u).objs.size))) { s with heap := zs5 s.heap x t y u }) :=
  .of_wp fun prog w A R s h => by
    obtain ⟨hp, g, d, tk, os⟩ := s
    have hsub := sub_zip
    wp_walk using wpAny_pyIter_strU, wpAny_pyIter_strU
    exact ⟨_, rfl, h⟩
section
variable {prog : Program} {w : World} {A : Around} {E : Value → Shared → Prop} {s : Shared}
theorem call_zs {x y : Str} {t u : Tok} {Q : Value → Shared → Prop}
    (h : ∀ g, IsZip g (s.heap.objs.size + 4) (s.heap.objs.size + 2) (s.heap.objs.size + 3) .none → IsPair g (s.heap.objs.size + 2) (.ref s.heap.objs.size) (.ref (s.heap.objs.size + 1)) →
      IsPair g (s.heap.objs.size + 3) .none .none → g.IsStrIter s.heap.objs.size (strIterType x) x t 0 → g.IsStrIter (s.heap.objs.size + 1) (strIterType y) y u 0 →
      (∀ c o, s.heap.get? c = some o → g.get? c = some o) → Q (.ref (s.heap.objs.size + 4)) { s with heap := g }) :
    wpAny (model prog w) A (call (.type "zip") [.str x t, .str y u]) Q E s := by
  refine callType_new F.called_zip (by decide) (F.typeCall_zip_2 _ _) (F.newCall_zip_2 _ _) (fun obj => F.args_object_init_3 obj _ _) F.entry_zip_new (meets_zs x t y u) ?_
  have a1 : (zs1 s.heap x t).objs.size = s.heap.objs.size + 1 := Heap.size_push ..
  have a2 : (zs2 s.heap x t y u).objs.size = s.heap.objs.size + 2 := by rw [Heap.size_push, a1]
  have a3 : (zs3 s.heap x t y u).objs.size = s.heap.objs.size + 3 := by rw [Heap.size_push, a2]
  have a4 : (zs4 s.heap x t y u).objs.size = s.heap.objs.size + 4 := by rw [Heap.size_push, a3]
  have b5 : (zs5 s.heap x t y u).get? (zs4 s.heap x t y u).objs.size = some _ := Heap.get?_push_size _ rfl
  have b4 : (zs5 s.heap x t y u).get? (zs3 s.heap x t y u).objs.size = some _ := Heap.get?_push_of_some _ (Heap.get?_push_size _ rfl)
  have b3 : (zs5 s.heap x t y u).get? (zs2 s.heap x t y u).objs.size = some _ := Heap.get?_push_of_some _ (Heap.get?_push_of_some _ (Heap.get?_push_size _ rfl))
  have b2 : (zs5 s.heap x t y u).get? (zs1 s.heap x t).objs.size = some _ := Heap.get?_push_of_some _ (Heap.get?_push_of_some _ (Heap.get?_push_of_some _ (Heap.get?_push_size _ rfl)))
  have b1 : (zs5 s.heap x t y u).get? s.heap.objs.size = some _ := Heap.get?_push_of_some _ (Heap.get?_push_of_some _ (Heap.get?_push_of_some _ (Heap.get?_push_of_some _ (Heap.get?_push_size _ rfl))))
  show _ ∧ _
  rw [a2, a3, a4] at b5
  rw [a1, a2] at b3
  rw [a3] at b4
  rw [a1] at b2
  rw [a4]
  exact ⟨⟨_, b5, rfl⟩, h _ b5 b3 b4 ⟨_, b1, rfl, rfl⟩ ⟨_, b2, rfl, rfl⟩ fun c ob r =>
    Heap.get?_push_of_some _ (Heap.get?_push_of_some _ (Heap.get?_push_of_some _ (Heap.get?_push_of_some _ (Heap.get?_push_of_some _ r))))⟩
end
open PySem.Spec PyProof.Rows L2
/-- the signs of x and y, two texts of one length, in new pairs -/
def ItzS (x y : Str) : It := ⟨fun i _ => i < x.cps.size ∧ i < y.cps.size, fun i H v H' => ∃ T c d, v = .ref T ∧ H T = none ∧ H' = upd H T (.tup [.str ⟨#[c]⟩, .str ⟨#[d]⟩]) ∧ x.cps[i]? = some c ∧ y.cps[i]? = some d, fun i _ => i = x.cps.size⟩
theorem turn_zs {P : Program} {w : World} {K : PySem.W.Frag} {elts : List Expr} {kk : Nat} {tpos : Pos} {x y : Str} {t u : Tok} {z p o i j : Addr} (D : Five z p o i j) :
    Turn P w K (.Tuple elts kk tpos) (ItzS x y) [z, p, o, i, j] z (fun k h => IsZip h z p o .none ∧ IsPair h p (.ref i) (.ref j) ∧ (∃ m n, IsPair h o m n) ∧ h.IsStrIter i (strIterType x) x t k ∧ h.IsStrIter j (strIterType y) y u k) where
  mem := by simp
  obj := fun k h st c hc => by
    obtain ⟨fz, fp, ⟨m, n, fo⟩, ⟨oi, ei, _, di⟩, ⟨oj, ej, _, dj⟩⟩ := st
    have e' : c = z ∨ c = p ∨ c = o ∨ c = i ∨ c = j := by simpa using hc
    rcases e' with q | q | q | q | q
    · rw [q]; exact ⟨_, fz, fun v q => nomatch q⟩
    · rw [q]; exact ⟨_, fp, fun v q => nomatch q⟩
    · rw [q]; exact ⟨_, fo, fun v q => nomatch q⟩
    · rw [q]; exact ⟨oi, ei, fun v q => by rw [di] at q; cases q⟩
    · rw [q]; exact ⟨oj, ej, fun v q => by rw [dj] at q; cases q⟩
  keep := fun k h h' st kp => by
    obtain ⟨fz, fp, ⟨m, n, fo⟩, f1, f2⟩ := st
    exact ⟨kp z (by simp) _ fz, kp p (by simp) _ fp, ⟨m, n, kp o (by simp) _ fo⟩, iter_at f1 fun ob q => kp i (by simp) ob q, iter_at f2 fun ob q => kp j (by simp) ob q⟩
  item := by
    intro X hP hw hK hc k pins s σ H E I hf st hg
    subst hP hw hK
    obtain ⟨fz, fp, ⟨m, n, fo⟩, f1, f2⟩ := st
    obtain ⟨l1, l2⟩ := hg
    have zl : z < s.heap.objs.size := Heap.lt_size fz
    refine zs_next (I.ok.hd hc) D fz fp fo f1 f2 l1 l2 fun g tk c d v1 v2 hcx hdy z' o' i' j' pr hsz kp => ?_
    refine ⟨_, rfl, wpAny_letOwnedTupleGo_zip (s := { s with heap := g, toks := tk }) z' fun g2 z2 sb => ?_⟩
    have pr2 : g2.get? s.heap.objs.size = some { cls := .type "tuple", data := .seq #[.str ⟨#[c]⟩ v1, .str ⟨#[d]⟩ v2] } := (sb.2 _ (Nat.ne_of_gt zl)).trans pr
    have new : ObjOk X.prog X.w (upd H s.heap.objs.size (.tup [.str ⟨#[c]⟩, .str ⟨#[d]⟩])) g2 s.heap.objs.size (.tup [.str ⟨#[c]⟩, .str ⟨#[d]⟩]) :=
      ⟨by show 2 ≤ sizeLine; decide, [.str ⟨#[c]⟩ v1, .str ⟨#[d]⟩ v2], .cons ⟨_, rfl⟩ (.cons ⟨_, rfl⟩ .nil), ⟨_, pr2, rfl, _, rfl⟩⟩
    have J : Inv X pins σ (upd H s.heap.objs.size (.tup [.str ⟨#[c]⟩, .str ⟨#[d]⟩])) { s with heap := g2, toks := tk } :=
      I.turnedNew (ch := [z, p, o, i, j]) (fun e ob hb q => (sb.2 e (fun q' => hb (by simp [q']))).trans (kp e ob (fun q' => hb (by simp [q'])) (fun q' => hb (by simp [q'])) (fun q' => hb (by simp [q'])) (fun q' => hb (by simp [q'])) q)) hf (Nat.le_refl _) new
    refine ⟨.ref s.heap.objs.size, _, J, rfl, ⟨_, c, d, rfl, I.hok.fresh (Nat.le_refl _), rfl, hcx, hdy⟩, ⟨z2, ?_, ⟨.str ⟨#[c]⟩ v1, .str ⟨#[d]⟩ v2, ?_⟩, ?_, ?_⟩, fun e hem => ?_⟩
    · exact (sb.2 _ D.pz).trans (kp _ _ D.pz D.po D.pa D.pb fp)
    · exact (sb.2 _ D.oz).trans o'
    · exact iter_at i' fun ob q => (sb.2 _ D.az).trans q
    · exact iter_at j' fun ob q => (sb.2 _ D.bz).trans q
    · have hlt : e < s.heap.objs.size := by
        have e' : e = z ∨ e = p ∨ e = o ∨ e = i ∨ e = j := by simpa using hem
        rcases e' with q | q | q | q | q
        · rw [q]; exact zl
        · rw [q]; exact Heap.lt_size fp
        · rw [q]; exact Heap.lt_size fo
        · rw [q]; exact iter_lt f1
        · rw [q]; exact iter_lt f2
      rw [upd_ne (Nat.ne_of_lt hlt)]
      exact (hf e hem).1
  done := by
    intro X hP hw hK hc k pins s σ H E I hf st hg
    subst hP hw hK
    obtain ⟨fz, fp, ⟨m, n, fo⟩, f1, f2⟩ := st
    have hk : k = x.cps.size := hg
    subst hk
    exact zs_none (y := y) (u := u) (I.ok.hd hc) D fz fp fo f1 fun g kp => ⟨rfl, I.turnedL (t' := s.toks) (ch := [z, p, o, i, j]) (fun e ob hb q =>
      kp e ob (fun q' => hb (by simp [q'])) (fun q' => hb (by simp [q'])) (fun q' => hb (by simp [q'])) (fun q' => hb (by simp [q'])) q) hf⟩
  self := fun A k s Q E st h => wpAny_pyIter_zip st.1 h
section
variable {X : Cx}
theorem five_new (n : Nat) : Five (n + 4) (n + 2) (n + 3) n (n + 1) := ⟨(fun h => absurd (show (n + 2 : Nat) = n + 4 from h) (by omega)), (fun h => absurd (show (n + 3 : Nat) = n + 4 from h) (by omega)), (fun h => absurd (show (n : Nat) = n + 4 from h) (by omega)), (fun h => absurd (show (n + 1 : Nat) = n + 4 from h) (by omega)), (fun h => absurd (show (n + 2 : Nat) = n + 3 from h) (by omega)), (fun h => absurd (show (n + 2 : Nat) = n from h) (by omega)), (fun h => absurd (show (n + 2 : Nat) = n + 1 from h) (by omega)), (fun h => absurd (show (n + 3 : Nat) = n from h) (by omega)), (fun h => absurd (show (n + 3 : Nat) = n + 1 from h) (by omega)), (fun h => absurd (show (n : Nat) = n + 1 from h) (by omega))⟩
def iZipS (ta : TA) : TI := fun σ H R => ta σ H fun vs H1 => ∃ x y, vs = [.str x, .str y] ∧ R (ItzS x y) H1
theorem pi_zipS {e e2 : Expr} {ta : TA} {p pos tpos : Pos} {elts : List Expr} {kk : Nat} (hg : Gl X "zip") (hm : X.mg "zip" = none) (ha : PA X [e, e2] ta)
    (hs : starEach [e, e2] X.env = (false, eval e X.env) :: starEach [e2] X.env := by rfl) (hpl : (backTo pos (starEach [e2] X.env)).any (·.1) = false := by rfl) :
    PI X (.Tuple elts kk tpos) (.Call (.Name "zip" p) [e, e2] [] pos) (iZipS ta) := by
  refine ⟨fun pins s σ H R I h => ?_⟩
  refine Call_ (ld_blt I hg hm PyProof.Rows.boot_zip (PyProof.Rows.callWith_type1 (thn (ha.run pos pins s σ H _ I h) fun us s1 ⟨vs, H1, I1, r1, x, y, ex, q⟩ => ?_) hs hpl))
  subst ex
  cases r1 with
  | cons r rr =>
    cases rr with
    | cons r' rr =>
      cases rr
      obtain ⟨t, rfl⟩ := r
      obtain ⟨u, rfl⟩ := r'
      refine call_zs fun g fz fp fo f1 f2 kp => wpAny_pyIter_zip fz ?_
      have J : Inv X pins σ H1 { s1 with heap := g } := I1.kept (t' := s1.toks) kp
      refine ⟨s1.heap.objs.size + 4, [s1.heap.objs.size + 4, s1.heap.objs.size + 2, s1.heap.objs.size + 3, s1.heap.objs.size, s1.heap.objs.size + 1], _, _, H1, rfl, J, turn_zs (t := t) (u := u) (five_new s1.heap.objs.size), ⟨fz, fp, ⟨_, _, fo⟩, f1, f2⟩, fun c hcm => ?_, q⟩
      have e' : c = s1.heap.objs.size + 4 ∨ c = s1.heap.objs.size + 2 ∨ c = s1.heap.objs.size + 3 ∨ c = s1.heap.objs.size ∨ c = s1.heap.objs.size + 1 := by simpa using hcm
      have hle : s1.heap.objs.size ≤ c := by rcases e' with z | z | z | z | z <;> rw [z] <;> omega
      exact I1.fpOk hle (I1.hok.fresh hle)
theorem walk_zipS {x y : Str} (h : x.cps.size = y.cps.size) : Walk (ItzS x y) x.cps.size (fun _ => True) (fun i H v H' => ∃ T c d, v = .ref T ∧ H T = none ∧ H' = upd H T (.tup [.str ⟨#[c]⟩, .str ⟨#[d]⟩]) ∧ x.cps[i]? = some c ∧ y.cps[i]? = some d) where
  goes := fun i H hi _ => ⟨hi, by omega⟩
  stops := fun H _ => rfl
  yields := fun i H v H' _ _ q => q
end
end WR
namespace WR
open PySem PySem.Spec PyProof.Rows L2
section
variable {X : Cx}
/-! ### x in a tuple of data -/
def rInTup (K : PySem.W.Frag) : R2 := fun x y H Q => ∃ d ds, Dp K H x d ∧ Dp K H y (.tuple ds) ∧ PyData.canLayAll0 ds = true ∧ d.canLay0 = true ∧ PyData.depthAll ds ≤ 40 ∧ Q (.bl (ds.any fun z => PyData.eqv z d)) H
theorem op_inTup (hu : X.A.units + 64 < cLine) : OpR X (compareOp .In) (rInTup X.K) := by
  intro pins s σ H x y v u Q I rx ry h
  obtain ⟨d, ds, hd, he, c1, c2, dep, q⟩ := h
  obtain ⟨as, r1⟩ := Dp.reads I d x v hd rx
  obtain ⟨bs, r2⟩ := Dp.reads I (.tuple ds) y u he ry
  exact SeqAt.in_tuple_reads r2 r1 c1 c2 (by omega) ⟨.bl _, H, I, rfl, q⟩
/-! ### text[::-1] -/
def tRevS (te : TE) : TE := fun σ H Q => te σ H fun x H1 => ∃ z : Str, x = .str z ∧ z.length ≤ sizeLine ∧ Q (.str (Txt.sliceBy z none none (-1, 0))) H1
theorem pe_revS {e : Expr} {te : TE} {k : Nat} {p1 p2 p3 pos : Pos} (he : PE X e te) : PE X (.Subscript e (.Slice none none (some (.UnaryOp .USub (.Constant (.int 1) k p1) p2)) p3) pos) (tRevS te) := by
  refine ⟨fun pins s σ H Q I h => Subscript_ (thn (he.run pins s σ H _ I h) fun v s1 ⟨x, H1, I1, r1, z, ex, hz, q⟩ => ?_)⟩
  subst ex
  obtain ⟨t, rfl⟩ := r1
  have st1 : PO X (some (.UnaryOp .USub (.Constant (.int 1) k p1) p2)) (tPart (tUn (rU fun i => .int (-i)) (tC (.int 1)))) := po_some (pe_un un_neg pe_int)
  refine wpAny_Slice (thn (po_none.run pins s1 σ H1 (fun o G => o = none ∧ G = H1) I1 ⟨rfl, rfl⟩) fun vl s2 ⟨l, H2, I2, pl, el, g2⟩ => ?_)
  subst el g2
  refine thn (po_none.run pins s2 σ H2 (fun o G => o = none ∧ G = H2) I2 ⟨rfl, rfl⟩) fun vu s3 ⟨u, H3, I3, pu, eu, g3⟩ => ?_
  subst eu g3
  refine thn (st1.run pins s3 σ H3 (fun o G => o = some (-1) ∧ G = H3) I3 ⟨1, rfl, -1, rfl, rfl, rfl⟩) fun vs s4 ⟨o, H4, I4, ps, eo, g4⟩ => ?_
  subst eo g4
  have J : Inv X pins σ H4 { s4 with heap := s4.heap.push { cls := .type "slice", data := .fields #[vl, vu, vs] } } := I4.kept (t' := s4.toks) fun b ob r => Heap.get?_push_of_some _ r
  obtain ⟨l', rfl, e1⟩ := IsPart.raw pl
  obtain ⟨u', rfl, e2⟩ := IsPart.raw pu
  obtain ⟨o', rfl, e3⟩ := IsPart.raw ps
  show wpAny (model X.prog X.w) X.A (subscriptTail e (.Slice none none (some (.UnaryOp .USub (.Constant (.int 1) k p1) p2)) p3) (.str z t) (.ref s4.heap.objs.size)) (EP X pins σ Q) X.xe _
  have n1 : l' = none := by cases l' with | none => rfl | some q => exact nomatch e1
  have n2 : u' = none := by cases u' with | none => rfl | some q => exact nomatch e2
  subst n1 n2
  obtain ⟨w', rfl⟩ : ∃ w' : Tok, o' = some (-1, w') := by
    cases o' with
    | none => exact nomatch e3
    | some r =>
      obtain ⟨r1, r2⟩ := r
      exact ⟨r2, by rw [show r1 = -1 from Option.some.inj e3]⟩
  refine tail_any (ops := [.str z t, .ref s4.heap.objs.size]) (typeIs_str _ _ _) F.slot_str_getitem.lookup ?_ (by with_unfolding_all rfl)
  refine wpAny_getItem_str_slice (l := none) (u := none) (st := some (-1, w')) ⟨_, Heap.get?_push_size _ rfl, rfl, rfl⟩ rfl ?_
  refine post_val_or_str ⟨Nat.le_trans (Txt.sliceBy_le z _ _ (-1, w') (show (-1 : Int) ≠ 0 by decide)) hz, fun t' c => ⟨.str (Txt.sliceBy z none none (-1, 0)), H4, J.tok _, ⟨t', rfl⟩, q⟩⟩
end
end WR
/-! strip, rstrip of given signs, over lists of codes -/
namespace WR
open PySem PySem.Spec PyProof.Rows L2
theorem S_getD (l : List Nat) (k : Nat) : (S l).cps.getD k 0 = l.getD k 0 := by
  simp [SX.S, List.getD, Array.getD]
  by_cases h : k < l.length <;> simp [h]
theorem S_cont (m : List Nat) (c : Nat) : (S m).cps.contains c = decide (c ∈ m) := by
  simp [SX.S]
theorem S_sub (l : List Nat) (a b : Nat) : PySem.Builtin.Str.strSub (S l) a b = S ((l.drop a).take (b - a)) := by
  unfold PySem.Builtin.Str.strSub
  simp [SX.S, List.extract_eq_take_drop]
theorem strip_dec (l m : List Nat) : decide (V.str (Txt.stripChars (S l) (S m)) = V.str (Str.ofString "")) = decide (∀ c ∈ l, c ∈ m) := by
  have e0 : (Str.ofString "") = S [] := ofs_nil
  rw [e0]
  have e1 : Txt.stripChars (S l) (S m) = PySem.Builtin.Str.strSub (S l) (stripLo (S m).cps.contains true (S l)) (stripHi (S m).cps.contains true (S l) (stripLo (S m).cps.contains true (S l))) := stripBy_eq _ _ _ _
  rw [e1, S_sub, S_dec]
  have lf := lo_facts (S m).cps.contains (S l)
  have hf := hi_facts (S m).cps.contains (S l) _ lf.1
  generalize stripLo (S m).cps.contains true (S l) = lo at lf hf
  generalize stripHi (S m).cps.contains true (S l) lo = hi at hf
  rw [S_len] at lf hf
  obtain ⟨a1, a2, a3⟩ := lf
  obtain ⟨b1, b2, b3, b4⟩ := hf
  have w1 : ∀ k, (S m).cps.contains ((S l).cps.getD k 0) = decide (l.getD k 0 ∈ m) := fun k => by rw [S_getD, S_cont]
  replace a2 : ∀ k, k < lo → l.getD k 0 ∈ m := fun k hk => of_decide_eq_true ((w1 k).symm.trans (a2 k hk))
  replace b3 : ∀ k, hi ≤ k → k < l.length → l.getD k 0 ∈ m := fun k h1 h2 => of_decide_eq_true ((w1 k).symm.trans (b3 k h1 h2))
  replace a3 : lo = l.length ∨ ¬ l.getD lo 0 ∈ m := a3.imp id fun q => of_decide_eq_false ((w1 lo).symm.trans q)
  rw [Bool.eq_iff_iff, decide_eq_true_iff, decide_eq_true_iff]
  have len : ((l.drop lo).take (hi - lo)).length = hi - lo := by simp; omega
  constructor
  · intro h c hc
    rw [h] at len
    have : hi = lo := by simp at len; omega
    subst this
    obtain ⟨k, hk, rfl⟩ := List.mem_iff_getElem.mp hc
    have g : l.getD k 0 = l[k] := by simp [List.getD, hk]
    rw [← g]
    by_cases z : k < hi
    · exact a2 k z
    · exact b3 k (by omega) hk
  · intro h
    have : lo = l.length := by
      rcases a3 with z | z
      · exact z
      · by_cases y : lo < l.length
        · refine absurd (h (l.getD lo 0) ?_) z
          have g : l.getD lo 0 = l[lo] := by simp [List.getD, y]
          rw [g]
          exact List.getElem_mem y
        · omega
    refine List.length_eq_zero_iff.mp ?_
    rw [len]
    omega
/-- what rstrip('f') leaves -/
theorem rstrip_cells (l : List Nat) : ∃ hi, hi ≤ l.length ∧ Txt.rstripChars (S l) (S [102]) = S (l.take hi) ∧ ∀ k, hi ≤ k → k < l.length → l.getD k 0 = 102 := by
  have e1 : Txt.rstripChars (S l) (S [102]) = PySem.Builtin.Str.strSub (S l) (stripLo (S [102]).cps.contains false (S l)) (stripHi (S [102]).cps.contains true (S l) (stripLo (S [102]).cps.contains false (S l))) := stripBy_eq _ _ _ _
  have e2 : stripLo (S [102]).cps.contains false (S l) = 0 := rfl
  rw [e1, e2, S_sub]
  have hf := hi_facts (S [102]).cps.contains (S l) 0 (Nat.zero_le _)
  generalize stripHi (S [102]).cps.contains true (S l) 0 = hi at hf
  rw [S_len] at hf
  obtain ⟨b1, b2, b3, b4⟩ := hf
  refine ⟨hi, b2, by simp, fun k h1 h2 => ?_⟩
  have w1 : (S [102]).cps.contains ((S l).cps.getD k 0) = decide (l.getD k 0 ∈ [102]) := by rw [S_getD, S_cont]
  have := of_decide_eq_true (w1.symm.trans (b3 k h1 h2))
  simpa using this
end WR
namespace WM
theorem S_zero (k : Nat) : ∀ (l : List Nat) (p : Nat), (∀ c ∈ l, c = 102) → S k p l = 0
  | [], _, _ => rfl
  | c :: l, p, h => by
    show lack c * p ^ k + S k (p + 1) l = 0
    rw [S_zero k l (p + 1) (fun d hd => h d (List.mem_cons_of_mem _ hd)), h c List.mem_cons_self]
    show lack 102 * _ + 0 = 0
    rw [show lack 102 = 0 from rfl]
    omega
theorem S_cat (k : Nat) : ∀ (a b : List Nat) (p : Nat), S k p (a ++ b) = S k p a + S k (p + a.length) b
  | [], b, p => by simp [S]
  | c :: a, b, p => by
    show lack c * p ^ k + S k (p + 1) (a ++ b) = lack c * p ^ k + S k (p + 1) a + S k (p + (a.length + 1)) b
    rw [S_cat k a b (p + 1), Nat.add_assoc p 1, Nat.add_comm 1]
    omega
theorem S_strip {k p : Nat} {l : List Nat} {hi : Nat} (h : ∀ j, hi ≤ j → j < l.length → l.getD j 0 = 102) : S k p (l.take hi) = S k p l := by
  have e := S_cat k (l.take hi) (l.drop hi) p
  rw [List.take_append_drop] at e
  rw [e, S_zero k (l.drop hi) _ (fun c hc => ?_)]
  · omega
  · obtain ⟨j, hj, rfl⟩ := List.mem_iff_getElem.mp hc
    rw [List.length_drop] at hj
    have := h (hi + j) (by omega) (by omega)
    simp only [List.getElem_drop]
    rw [← this]
    simp [List.getD, show hi + j < l.length by omega]
end WM
namespace WR
open PySem PySem.Spec PyProof.Rows L2
/-! ### defs of the program: a promise whatever is under way, perhaps with what they raise -/
structure Cf (CX : CXT) (P : Program) (w : World) (K : PySem.W.Frag) (mg : Str → Option Value) (base : Heap) (k : Nat) (x : Str) (ps : List Str) (sp : Sp) : Prop where
  ex : ∃ (f : Addr) (fd : FuncData), FnOk P w K mg base CX k f fd ps sp ∧ mg x = some (.ref f) ∧ PySem.W.keepIn K (.ref f) = true ∧
    (∀ (s : Shared) (us : List Value), us.length = ps.length → BindsTo s fd ⟨us, []⟩ (ps.zip us)) ∧ ∀ (s : Shared) (us : List Value), us.length = ps.length → BindsTo s fd ⟨[], ps.zip us⟩ (ps.zip us)
abbrev CXr (P : Program) (w : World) : CXT := L2.CX P w
section
variable {CX : CXT} {P : Program} {w : World} {K : PySem.W.Frag} {mg : Str → Option Value} {base : Heap}
theorem Cf.g {k : Nat} {x : Str} {ps : List Str} {sp : Sp} (c : Cf CX0 P w K mg base k x ps sp) : Cg P w K mg base k x ps sp := by
  obtain ⟨f, fd, F, r⟩ := c.ex
  exact ⟨f, fd, .of F, r⟩
theorem Cf.mono {j k : Nat} {x : Str} {ps : List Str} {sp : Sp} (c : Cf CX P w K mg base j x ps sp) (h : j ≤ k) : Cf CX P w K mg base k x ps sp := by
  obtain ⟨f, fd, F, r⟩ := c.ex
  exact ⟨f, fd, F.mono h, r⟩
/-- by the body -/
theorem cf_of {x : Str} {st : Stmt} {f : Addr} {fd : FuncData} {N ps : List Str} {k : Nat} {sp : Sp} (F : FD K x st f fd) (hm : mg x = some (.ref f)) (S : FnScope N ps (defScope st)) (len : ∀ vs H Q E, sp vs H Q E → vs.length = ps.length)
    (b1 : ∀ (kV dc pm : Value) (an : Option Addr) (cdv ct : Value) (us : List Value), us.length = ps.length → bindArgs (PySem.W.fnOf x x (defArgs st) (defBody st) (defScope st) .none kV dc pm an cdv ct) ⟨us, []⟩ = pure (ps.zip us))
    (b2 : ∀ (kV dc pm : Value) (an : Option Addr) (cdv ct : Value) (us : List Value), us.length = ps.length → bindArgs (PySem.W.fnOf x x (defArgs st) (defBody st) (defScope st) .none kV dc pm an cdv ct) ⟨[], ps.zip us⟩ = pure (ps.zip us))
    (hb : ∀ (cdv : Value) (A : Around) (outer : List Env) (s : Shared) (H : Hp) (vs : List V) (Q : VK) (E : XK), Room k (A.deeper (envOfC x (defScope st) s.heap.objs.size f cdv)) → sp vs H Q E →
      ∃ t, PSs (cxOf CX P w K mg base N x (defScope st) f cdv A outer s H E) (defBody st) t ∧ t { nx := fun _ H' => Q .non H', rt := Q } (start N vs) H) : Cf CX P w K mg base (k + 1) x ps sp := by
  have ok := F.ok (P := P) (w := w) (mg := mg) (base := base) (CX := CX) S len hb
  have kp := F.kp
  obtain ⟨oc, od, dV, kV, dc, pm, an, cdv, ct, sl, rfl, lk, hcd, hD, _⟩ := F.ex
  rcases hD with ⟨_, rfl⟩ | ⟨e, _⟩
  · exact ⟨f, _, ok, hm, kp, fun s us hl => .of_eq (b1 kV dc pm an cdv ct us hl), fun s us hl => .of_eq (b2 kV dc pm an cdv ct us hl)⟩
  · exact absurd rfl e
end
section
variable {X : Cx} {x : Str} {ps : List Str} {k j : Nat} {sp : Sp} {p pos : Pos} {e : Expr} {es : List Expr} {t : TA}
/-- f(e, ..), f a def of the program that raises nothing here -/
theorem pe_f (c : Cf CX0 X.prog X.w X.K X.mg X.base k x ps sp) (hr : Room j X.A) (hk : k ≤ j) (hg : Gl X x) (ha : PA X (e :: es) t) (hdb : (x == ("__debug__" : Str)) = false := by decide)
    (he : starEach (e :: es) X.env = (false, eval e X.env) :: starEach es X.env := by rfl) (hpl : (backTo pos (starEach es X.env)).any (·.1) = false := by rfl) : PE X (.Call (.Name x p) (e :: es) [] pos) (tCallP sp t) := by
  obtain ⟨f, fd, F, hm, kp, b1, _⟩ := c.ex
  refine ⟨fun pins s σ H Q I h => ?_⟩
  have hb : Binds X.K fd ps [] := fun s us _ hl => by
    rw [List.append_nil] at hl ⊢
    exact b1 s us hl
  refine (pe_call F (hr.mono hk) hg hm kp hb .nil pass0 ha hdb he hpl).run pins s σ H Q I ?_
  show t σ H fun vs H1 => sp (vs ++ []) H1 Q E0
  simp only [List.append_nil]
  exact h
/-- the same, E what is wished of an exception; at the slots -/
def tCallW (sp : Sp) (W : WX) (t : TA) : TE := fun σ H Q => t σ H fun vs H1 => sp vs H1 Q fun cls d H2 => W cls d σ H2
theorem pe_fR {W : WX} (c : Cf (CXr X.prog X.w) X.prog X.w X.K X.mg X.base k x ps sp) (hr : Room j X.A) (hk : k ≤ j) (tk : Takes X W) (hg : Gl X x) (ha : PA X (e :: es) t) (hdb : (x == ("__debug__" : Str)) = false := by decide)
    (he : starEach (e :: es) X.env = (false, eval e X.env) :: starEach es X.env := by rfl) (hpl : (backTo pos (starEach es X.env)).any (·.1) = false := by rfl) : PE X (.Call (.Name x p) (e :: es) [] pos) (tCallW sp W t) := by
  obtain ⟨f, fd, F, hm, kp, b1, _⟩ := c.ex
  have hb : Binds X.K fd ps [] := fun s us _ hl => by
    rw [List.append_nil] at hl ⊢
    exact b1 s us hl
  refine ⟨fun pins s σ H Q I h => ?_⟩
  refine wpAny_Call_Name_kw (ld_glob I hg hm ?_ hdb)
  refine PySem.W.callWith_K (h₀ := X.base) I.ok.mod.kin kp (thn (ha.run pos pins s σ H _ I h) fun us s1 hq => ?_) he hpl
  obtain ⟨vs, H1, I1, r, q⟩ := hq
  exact ⟨I1.kIn, run_fnS F (hr.mono hk) hb (passAt tk σ) I1 r q⟩
/-- f(k = v, ..), raising -/
def tCallWN (sp : Sp) (W : WX) (tk : TA) : TE := fun σ H Q => tk σ H fun zs H2 => sp zs H2 Q fun cls d H3 => W cls d σ H3
theorem pe_fRN {W : WX} {kws : List Keyword} {tw : TA} (c : Cf (CXr X.prog X.w) X.prog X.w X.K X.mg X.base k x ps sp) (hr : Room j X.A) (hk : k ≤ j) (tk : Takes X W) (hg : Gl X x) (hkw : PK X kws tw)
    (hall : (backToKw pos (keywordEach kws X.env)).all (·.1.isSome) = true := by rfl) (hks : (backToKw pos (keywordEach kws X.env)).filterMap (·.1) = ps := by rfl) (hdb : (x == ("__debug__" : Str)) = false := by decide)
    (hpl : ((backTo pos (starEach [] X.env)).any (·.1) || (backToKw pos (keywordEach kws X.env)).any (·.1.isNone)) = false := by rfl) : PE X (.Call (.Name x p) [] kws pos) (tCallWN sp W tw) := by
  obtain ⟨f, fd, F, hm, kp, _, b2⟩ := c.ex
  refine ⟨fun pins s σ H Q I h => wpAny_Call_Name_kw (ld_glob I hg hm ?_ hdb)⟩
  refine PySem.W.callWith_KW0 (h₀ := X.base) I.ok.mod.kin kp hall (thn (hkw.run pos pins s σ H _ I h) fun ws s2 hq => ?_) hpl
  obtain ⟨zs, H2, I2, rz, q2⟩ := hq
  refine ⟨I2.kIn, ?_⟩
  rw [hks]
  have hl : ws.length = ps.length := by rw [← rz.length]; exact F.len _ _ _ _ q2
  refine wpAny_call (codeAny_mono (F.run X.A X.stack s2 H2 ⟨[], ps.zip ws⟩ ws zs Q _ (hr.mono hk) I2.env0 (b2 s2 ws hl) rz q2) fun r s' hq' => ?_)
  cases r with
  | error er => exact passAt (W := W) tk σ pins H2 s2 er s' I2 hq'
  | ok fl => cases fl with
    | ret u => exact I2.after hq'
    | next => exact hq'.elim
    | brk => exact hq'.elim
    | cont => exact hq'.elim
end
/-! ### raise X(v), X an own class with FlashError's __init__ -/
abbrev fldV (v : V) : List (Str × V) := [(("value" : Str), v)]
/-- what __init__ promises -/
def spEinit (K : PySem.W.Frag) : Sp := fun vs H Q _ => ∃ (a C : Addr) (v : V), vs = [.ref a, v] ∧ OexC K C ∧ PySem.W.findIn K (.ref C) "value" = some none ∧ H a = some (exo a C none) ∧
  ∀ dx, H dx = none → dx ≠ a → Q .non (upd (upd H dx (exd dx (fldV v))) a (exo a C (some dx)))
structure ExT (P : Program) (w : World) (K : PySem.W.Frag) (mg : Str → Option Value) (base : Heap) (x : Str) (C : Addr) : Prop where
  oex : OexC K C
  gx : mg x = some (.ref C)
  noV : PySem.W.findIn K (.ref C) "value" = some none
  ini : ∃ (fI : Addr) (fd : FuncData), PySem.W.findIn K (.ref C) "__init__" = some (some (.ref fI)) ∧ PySem.W.typeIn K (.ref fI) = some (.type "function") ∧ FnOk P w K mg base CX0 1 fI fd ["self", "value"] (spEinit K) ∧ Binds K fd ["self", "value"] []
/-- what the making asks, answered -/
theorem rz_ok {P : Program} {w : World} {K : PySem.W.Frag} {mg : Str → Option Value} {base : Heap} {x : Str} {C : Addr} {H1 : Hp} {v : V} {E : XK} (T : ExT P w K mg base x C) (h : ∀ d, H1 d = none → E (.ref C) (some d) (upd H1 d (.xd (fldV v)))) :
    [v].length ≤ 1000 ∧ ∀ a, H1 a = none → spEinit K (.ref a :: ([v] ++ [])) (upd H1 a (exo a C none))
      (fun u H2 => u = .non ∧ ∃ (d : Addr) (fs : List (Str × V)), H2 a = some (exo a C (some d)) ∧ H2 d = some (exd d fs) ∧ H1 d = none ∧ E (.ref C) (some d) (upd (L2.del H2 a) d (.xd fs))) (fun _ _ _ => False) := by
  refine ⟨by show 1 ≤ 1000; decide, fun a ha => ⟨a, C, v, rfl, T.oex, T.noV, upd_same, fun dx hd hne => ⟨rfl, dx, fldV v, upd_same, ?_, ?_, ?_⟩⟩⟩
  · rw [upd_ne hne, upd_same]
  · rw [upd_ne hne] at hd
    exact hd
  · rw [upd_ne hne] at hd
    have e : upd (L2.del (upd (upd (upd H1 a (exo a C none)) dx (exd dx (fldV v))) a (exo a C (some dx))) a) dx (.xd (fldV v)) = upd H1 dx (.xd (fldV v)) := by
      funext b
      by_cases hb : b = dx
      · rw [hb, upd_same, upd_same]
      · rw [upd_ne hb, upd_ne hb]
        by_cases hb2 : b = a
        · rw [hb2, L2.del_same, ha]
        · rw [L2.del_ne hb2, upd_ne hb2, upd_ne hb, upd_ne hb2]
    rw [e]
    exact h dx hd
section
variable {X : Cx} {x : Str} {C : Addr} {k : Nat} {p pos pos2 : Pos} {e : Expr} {ta : TA} {W : WX}
theorem ps_rz (T : ExT X.prog X.w X.K X.mg X.base x C) (hr : Room 2 X.A) (hc : X.calm = true) (tk : Takes X W) (hg : Gl X x) (ha : PA X [e] ta) (hdb : (x == ("__debug__" : Str)) = false := by decide)
    (he : starEach [e] X.env = (false, eval e X.env) :: starEach [] X.env := by rfl) (hpl : (backTo pos (starEach [] X.env)).any (·.1) = false := by rfl) :
    PS X (.Raise (some (.Call (.Name x p) [e] [] pos)) none pos2) (fun _ σ H => tMkO C (spEinit X.K) [] ta σ H fun cls d H' => W cls d σ H') := by
  obtain ⟨fI, fd, i1, i2, F, hb⟩ := T.ini
  exact ps_raise hc tk (pmk_oex T.oex i1 i2 F hr hb .nil (fun _ _ _ _ _ _ _ z => z.elim) hg T.gx ha hdb he hpl)
end
/-! ### an exception that was caught, as an object of ours -/
def ExA (cls : Value) (d : Option Addr) (a : Addr) : HO := .ext fun h => ∃ (oe : Obj) (vs : Array Value), h.get? a = some oe ∧ Zc cls d oe ∧ oe.data = .fields vs
theorem ExA.ok {P : Program} {w : World} {H : Hp} {h : Heap} {a : Addr} {cls : Value} {d : Option Addr} {oe : Obj} {vs : Array Value} (e : h.get? a = some oe) (z : Zc cls d oe) (hd : oe.data = .fields vs) : ObjOk P w H h a (ExA cls d a) :=
  ⟨⟨oe, vs, e, z, hd⟩, ⟨oe, e⟩, fun _ _ ⟨o, v, q, r⟩ k => ⟨o, v, k o q, r⟩⟩
theorem ExA.at_ {P : Program} {w : World} {H : Hp} {h : Heap} {a : Addr} {cls : Value} {d : Option Addr} (hok : HOk P w H h) (e : H a = some (ExA cls d a)) : ∃ (oe : Obj) (vs : Array Value), h.get? a = some oe ∧ Zc cls d oe ∧ oe.data = .fields vs := by
  have z : ObjOk P w H h a (.ext fun h => ∃ (oe : Obj) (vs : Array Value), h.get? a = some oe ∧ Zc cls d oe ∧ oe.data = .fields vs) := hok a _ e
  exact z.1
section
variable {X : Cx} {pins : List (Addr × Obj)} {σ : L2.St} {H : Hp} {s : Shared}
/-- an untracked object that is younger than the def's entry is tracked from now on -/
theorem Inv.trackNow {a : Addr} {o : HO} (I : Inv X pins σ H s) (new : X.s_0.heap.get? a = none) (na : H a = none) (nL : a ≠ X.env.locals) (nC : ∀ y c, X.env.cells.lookup y = some c → c ≠ a) (nP : ∀ p ∈ X.pn ++ pins, p.1 ≠ a)
    (ok : ObjOk X.prog X.w (upd H a o) s.heap a o) : Inv X pins σ (upd H a o) s where
  ok := I.ok
  os := I.os
  bare := I.bare
  base := ⟨I.base.keep, I.base.slot, fun b u q n hx => by
      rw [upd_ne (fun z => by rw [z, new] at q; cases q)]
      exact I.base.free b u q n hx, I.base.there,
    fun b xs q => by have r := I.base.tups b xs q; rw [upd_ne (ne_of_none r na)]; exact r,
    fun b u v q => by have r := I.base.frzs b u v q; rw [upd_ne (ne_of_none r na)]; exact r,
    fun b ps q => by obtain ⟨m, r⟩ := I.base.tbls b ps q; exact ⟨m, by rw [upd_ne (ne_of_none r na)]; exact r⟩⟩
  loc := I.loc
  cell := I.cell
  free := by rw [upd_ne (Ne.symm nL)]; exact I.free
  freeC := fun y c q => by rw [upd_ne (nC y c q)]; exact I.freeC y c q
  pin := fun p hp => by
    obtain ⟨p1, p2, p3⟩ := I.pin p hp
    exact ⟨p1, by rw [upd_ne (nP p hp)]; exact p2, p3⟩
  hok := fun b u q => by
    by_cases hb : b = a
    · subst hb
      rw [upd_same] at q
      cases q
      exact ok
    · rw [upd_ne hb] at q
      exact (I.hok b u q).stay (fun _ _ _ z => z) (fun c z => by rw [upd_ne (ne_of_none z na)]; exact z) fun c xs z => by rw [upd_ne (ne_of_none z na)]; exact z
  len := I.len
theorem Inv.toSuite (I : Inv X pins σ H s) (a : Addr) : Inv (X.suite a (X.pn ++ pins)) [] σ H s :=
  ⟨I.ok.suite _ _, I.os, I.bare, I.base, I.loc, I.cell, I.free, I.freeC, fun p hp => I.pin p (by rw [List.append_nil] at hp; exact hp), I.hok, I.len⟩
theorem Inv.ofSuite {a : Addr} {pn' : List (Addr × Obj)} (I : Inv (X.suite a (X.pn ++ pins)) pn' σ H s) (ok : X.Ok) : Inv X pins σ H s :=
  ⟨ok, I.os, I.bare, I.base, I.loc, I.cell, I.free, I.freeC, fun p hp => I.pin p (List.mem_append_left _ hp), I.hok, I.len⟩
end
/-- the clause 'except x as n', the exception an object of ours from then on -/
def wKeep (K : PySem.W.Frag) (c : Value) (i : Nat) (ts : Addr → TS) (Wo : WX) (D : Ends) : WX := fun cls d σ H =>
  ∃ yes, PySem.W.exmOne K cls c = some yes ∧
    (yes = true → ∀ a, H a = none → ts a ⟨fun τ G => D.nx (τ.set i none) G, D.rt, fun τ G => D.bk (τ.set i none) G, fun τ G => D.ct (τ.set i none) G⟩ (σ.set i (some (.ref a))) (upd H a (ExA cls d a))) ∧ (yes = false → Wo cls d σ H)
section
variable {X : Cx} {x n : Str} {c : Value} {i : Nat} {body su : List Stmt} {b0 : Stmt} {np pos pos' : Pos} {tb : WX → TS} {ts : Addr → TS} {Wo : WX}
theorem ps_try_keep (hst : X.stack = X.env :: X.outer) (hfr : X.env.frame = some X.env.locals) (hex : X.ex = []) (nd : X.N.Nodup) (hi : X.N[i]? = some n) (hloc : X.env.kindOf n = some .local) (hc : Names X x c) (tk : Takes X Wo)
    (hb : ∀ (W : WX) (pn : List (Addr × Obj)) (xe : Value → Shared → Prop), Takes (X.tr pn xe) W → PassesOwn (model X.prog X.w) X.A X.env xe → PSs (X.tr pn xe) body (tb W))
    (hsu : ∀ (a : Addr) (pn : List (Addr × Obj)), PSs (X.suite a pn) (b0 :: su) (ts a)) :
    PS X (.Try body [.ExceptHandler (some (.Name x np)) (some n) (b0 :: su) pos'] [] [] pos) (fun D σ H => tb (wKeep X.K c i ts Wo D) D σ H) := by
  refine ⟨fun pins s σ H D I h => wpAny_Try_except ?_⟩
  have okX := I.ok
  have frames : X.A.frames = some (X.env :: X.outer) := okX.frames.trans (congrArg some hst)
  refine wpAny_mono ((hb (wKeep X.K c i ts Wo D) (X.pn ++ pins) (fun e z1 => wpAny (model X.prog X.w) X.A (noteFrame e X.env) (fun _ z2 => wpAny (model X.prog X.w) X.A (setFlight e none) (fun _ z3 =>
      wpAny (model X.prog X.w) X.A (handleBy e X.env [.ExceptHandler (some (.Name x np)) (some n) (b0 :: su) pos']) (SP X pins D) X.xe z3) X.xe z2) X.xe z1) (fun u z xx => ?caught) PassesOwn.looking).run [] s σ H D (I.toTry _) h)
    (fun fl z hz => ?through) (fun _ _ q => q)
  case through =>
    cases fl with
    | next => obtain ⟨τ, G, J, q⟩ := hz; exact wpAny_execs_nil ⟨τ, G, J.ofTry okX, q⟩
    | brk => obtain ⟨τ, G, J, q⟩ := hz; exact ⟨τ, G, J.ofTry okX, q⟩
    | cont => obtain ⟨τ, G, J, q⟩ := hz; exact ⟨τ, G, J.ofTry okX, q⟩
    | ret u => obtain ⟨v, τ, G, J, r, q⟩ := hz; exact ⟨v, τ, G, J.ofTry okX, r, q⟩
  case caught =>
    obtain ⟨a, B, zI, ps1, τ, G, cls, d, rfl, J0, nb, up, sky, na, hos, hag, yes, hy1, hyes, hno⟩ := xx
    have J : Inv X pins τ G zI := J0.ofTry okX
    have sky2 : Sky B (X.env :: X.outer) a (Zc cls d) X.env.locals z.heap := hst ▸ sky
    refine Sky.land (Q := fun _ z3 => wpAny (model X.prog X.w) X.A (handleBy (.ref a) X.env [.ExceptHandler (some (.Name x np)) (some n) (b0 :: su) pos']) (SP X pins D) X.xe z3) Zc.steady frames hfr sky2 fun h3 fl3 up3 => ?_
    have J3 : Inv X pins τ G { z with heap := h3 } := J.landed nb fl3.1 (up.trans up3) hos hag
    obtain ⟨oe3, vs3, he3, hz3, hd3⟩ := fl3.there
    have nfr : a ∉ frs (X.env :: X.outer) := fun hm => by
      obtain ⟨_, o', e', hnf⟩ := fl3.2.2.1.mem hm
      rw [he3] at e'
      cases e'
      exact hnf _ hd3
    have nfrX : a ∉ frs X.stack := hst ▸ nfr
    have nL : a ≠ X.env.locals := fun q => nfr (List.mem_filterMap.mpr ⟨X.env, List.mem_cons_self, hfr.trans (congrArg some q.symm)⟩)
    have nF : a ∉ X.fs := fun hm => by
      obtain ⟨en, hen, q⟩ := List.mem_filterMap.mp hm
      exact nfr (List.mem_filterMap.mpr ⟨en, List.mem_cons_of_mem _ hen, q⟩)
    have absI : zI.heap.get? a = none := by
      cases q : zI.heap.get? a with
      | none => rfl
      | some o =>
        have q2 := nb a o q nfrX
        rw [fl3.2.1] at q2
        cases q2
    have abs0 : X.s_0.heap.get? a = none := by
      cases q : X.s_0.heap.get? a with
      | none => rfl
      | some o =>
        obtain ⟨o', q2⟩ := J.base.there a o q (by rw [hex]; exact fun y => nomatch y)
        rw [absI] at q2
        cases q2
    have nP : ∀ p ∈ X.pn ++ pins, p.1 ≠ a := fun p hp q => by
      have q2 := (J.pin p hp).1
      rw [q, absI] at q2
      cases q2
    have S3 := J3.suite he3 hd3 na nL nF
    refine wpAny_handleBy_cons (codeAny_handlers_test ?_) (by intro q; cases q)
    have LT : PySem.W.Looks (model X.prog X.w) h3 (typeOf (.ref a)) cls := fun A Q E s k q => wpAny_typeOf_ref (k _ _ he3) (by rw [hz3.1]; exact q)
    have LM := PySem.W.exm_one (M := model X.prog X.w) J3.kIn LT hy1
    have named : ∀ {Q : Value → Shared → Prop} {E : Value → Shared → Prop}, Q c { z with heap := h3 } → wpAny (model X.prog X.w) (X.A.mark (some (.ref a))) (eval (.Name x np) X.env) Q E { z with heap := h3 } := by
      intro Q E q
      obtain ⟨g1, g2, g3⟩ := hc
      rcases g3 with g3 | ⟨g3, g4, g5⟩
      · exact ld_glob (X := X.suite a ((a, oe3) :: (X.pn ++ pins))) S3 g1 g3 q g2
      · exact ld_blt (X := X.suite a ((a, oe3) :: (X.pn ++ pins))) S3 g1 g3 g4 q g5 g2
    refine named (LM.here ?_)
    cases yes with
    | false =>
      show wpAny _ X.A (handleBy (.ref a) X.env []) _ _ _
      refine wpAny_handleBy_nil ?_
      obtain ⟨_, _, _, oe, vs, T, oT, tz, he, _, hd, h1, _⟩ := id fl3
      have fin : wpAny (model X.prog X.w) X.A (setFlight (.ref a) X.env.frame) (fun _ z4 => wpAny (model X.prog X.w) X.A (throw (.ref a) : Sem Flow) (SP X pins D) X.xe z4) X.xe { z with heap := h3 } := by
        rw [hfr]
        refine HandSPX.setFlight_upZ fl3 fun h4 hh4 up4 => wpAny_throw (tk _ _ ⟨a, B, zI, pins, τ, G, cls, d, rfl, J, nb, (up.trans up3).trans up4, .inr (.inr ?_), na, hos, hag, hno rfl⟩)
        rw [hst]
        exact hh4
      unfold PySem.passOn
      refine wpAny_bind (wpAny_field he hd h1 ?_)
      rw [if_neg (show ¬ ((Value.ref T == Value.none) = true) from by simp)]
      first
        | exact wpAny_bind (wpAny_pure (wpAny_bind fin))
        | exact wpAny_bind fin
    | true =>
      refine codeAny_handlers_suite_as (HandSPX.lands_againZ fl3 fun h4 fl4 up4 => ?_)
      have J4 : Inv X pins τ G { z with heap := h4 } := J.landed nb fl4.1 ((up.trans up3).trans up4) hos hag
      obtain ⟨oe4, vs4, he4, hz4, hd4⟩ := fl4.there
      have nC : ∀ y c, X.env.cells.lookup y = some c → c ≠ a := fun y c q q2 => by
        obtain ⟨v, o, ho, hd⟩ := J4.cell y c q
        have ho' : h4.get? c = some o := ho
        rw [q2, he4] at ho'
        cases ho'
        rw [hd4] at hd
        cases hd
      have T4 := WR.Inv.trackNow J4 (o := ExA cls d a) abs0 na nL nC nP (ExA.ok he4 hz4 hd4)
      refine store_ok (X := X.suite a (X.pn ++ pins)) (v := .ref a) (WR.Inv.toSuite T4 a) nd hi (.inl hloc) rfl (fun z5 S5 => ?_) (.inr hloc)
      refine wpAny_mono ((hsu a (X.pn ++ pins)).run [] z5 _ _ _ S5 (hyes rfl a na)) (fun f z6 hsp => ?_) (fun _ _ q => False.elim q)
      have close : ∀ {τ6 : L2.St} {G6 : Hp} {Q : Shared → Prop}, Inv (X.suite a (X.pn ++ pins)) [] τ6 G6 z6 → (∀ z7, Inv X pins (τ6.set i none) G6 z7 → Q z7) →
          wpAny (model X.prog X.w) X.A (do bindName X.env n .none; unbindBehindTheSuite X.env n pos') (fun _ z7 => Q z7) X.xe z6 := fun S6 hq => gone_ok (WR.Inv.ofSuite S6 okX) nd hi hloc hq
      cases f with
      | next => obtain ⟨τ6, G6, S6, q6⟩ := hsp; exact close S6 fun z7 J7 => ⟨_, _, J7, q6⟩
      | brk => obtain ⟨τ6, G6, S6, q6⟩ := hsp; exact close S6 fun z7 J7 => ⟨_, _, J7, q6⟩
      | cont => obtain ⟨τ6, G6, S6, q6⟩ := hsp; exact close S6 fun z7 J7 => ⟨_, _, J7, q6⟩
      | ret u => obtain ⟨v6, τ6, G6, S6, r6, q6⟩ := hsp; exact close S6 fun z7 J7 => ⟨_, _, _, J7, r6, q6⟩
end
/-! ### isinstance and the field of such an object -/
structure IsC (K : PySem.W.Frag) (D : Addr) : Prop where
  xf : XfC K D
  cl : (PySem.W.clsIn K D).isSome = true
  ha : PySem.W.findIn K (.ref D) "__class__" = some (some (.builtin "object.__class__"))
  hn : PySem.W.specialIn K (.builtin "object.__class__") "__get__" = some (some (.builtin "getset_descriptor.__get__"))
  ht : PySem.W.takesIn K (.builtin "object.__class__") = some true
  hm : PySem.W.mroIn K D (.type "object") = some true
def rIsX (K : PySem.W.Frag) : List V → Hp → VK → Prop := fun xs H Q => ∃ (a D : Addr) (d : Addr) (fs : List (Str × V)) (c : V) (cv : Value) (b : Bool), xs = [.ref a, c] ∧ H a = some (ExA (.ref D) (some d) a) ∧ H d = some (.xd fs) ∧ (∀ u, RelV c u → u = cv) ∧ IsC K D ∧
  PySem.W.kitOne K (.ref D) cv = some b ∧ Q (.bl b) H
section
variable {X : Cx}
theorem inst_x {pins : List (Addr × Obj)} {σ : L2.St} {H : Hp} {s : Shared} {a D d : Addr} {fs : List (Str × V)} (I : Inv X pins σ H s) (e1 : H a = some (ExA (.ref D) (some d) a)) (e2 : H d = some (.xd fs)) :
    ∃ (oe od : Obj) (mA : Str → Option Value), PySem.W.InstAt s.heap a oe D (some od) ∧ (∀ name, PySem.W.lookIn name od = some (mA name)) ∧ ∀ f, RelO (fs.lookup f) (mA f) := by
  obtain ⟨oe, vs, ho, hz, hd⟩ := ExA.at_ I.hok e1
  have hx : ObjOk X.prog X.w H s.heap d (.xd fs) := I.hok d _ e2
  obtain ⟨mA, hns, hr⟩ := hx
  obtain ⟨od, hod, hl⟩ := lookIn_ns hns
  refine ⟨oe, od, mA, ⟨ho, hz.1, by unfold PySem.W.notCls; rw [hd] <;> rfl, by rw [hz.2]; exact hod⟩, hl, hr⟩
theorem call_isX : CallR X (.builtin "isinstance") (rIsX X.K) := by
  intro pins s σ H xs us Q I r h
  obtain ⟨a, D, d, fs, c, cv, b, rfl, e1, e2, hcv, C, e, q⟩ := h
  cases r with
  | cons rx rr =>
    cases rr with
    | cons rt rr =>
      cases rr
      cases rx
      have ec := hcv _ rt
      subst ec
      obtain ⟨oe, od, mA, J, _, _⟩ := inst_x I e1 e2
      exact PySem.W.kia_one (PySem.W.kitx_exc C.cl C.xf.ga C.xf.gg C.xf.exC C.ha C.hn C.ht C.hm) I.kIn J e (fun z => nomatch z) fun tk => ⟨.bl b, H, I.kept (t' := tk) fun _ _ z => z, rfl, q⟩
/-- e.n of it -/
def tXv (K : PySem.W.Frag) (n : Str) (te : TE) : TE := fun σ H Q => te σ H fun x H1 => ∃ (a D d : Addr) (fs : List (Str × V)) (v : V), x = .ref a ∧ H1 a = some (ExA (.ref D) (some d) a) ∧ H1 d = some (.xd fs) ∧ IsC K D ∧ PySem.W.findIn K (.ref D) n = some none ∧ fs.lookup n = some v ∧ Q v H1
theorem pe_xv {e : Expr} {te : TE} {pos : Pos} {n : Str} (he : PE X e te) (hb : attributeBase e n X.env (eval e X.env) = eval e X.env := by rfl) : PE X (.Attribute e n pos) (tXv X.K n te) := by
  refine ⟨fun pins s σ H Q I h => attr_of hb (thn (he.run pins s σ H _ I h) fun u s1 hh => ?_)⟩
  obtain ⟨x, H1, I1, rx, a, D, d, fs, v, rfl, e1, e2, C, hno, l, q⟩ := hh
  obtain rfl : u = Value.ref a := rx
  obtain ⟨oe, od, mA, J, hl, hr⟩ := inst_x I1 e1 e2
  obtain ⟨u, hu, ru⟩ := RelO.some_of (v := v) (o := mA n) (by rw [← l]; exact hr n)
  exact HandSPX.exc_get I1.kIn J C.xf.ga C.xf.gg C.xf.exC (PySem.W.findObj_own C.xf.hdC hno rfl (by rw [hl, hu])) (handed_of ru) ⟨v, H1, I1.tok _, ru, q⟩
end
end WR
namespace WR
open PySem PySem.Spec PyProof.Rows L2 LamX
/-! ### a lambda handed down: what is known of it wherever the maker's frame still stands -/
/-- what is wished of the lambda may be weakened -/
def Mn (tl : XK → Hp → VK → Prop) : Prop := ∀ (E E' : XK) (H : Hp) (Q Q' : VK), tl E H Q → (∀ c d G, E c d G → E' c d G) → (∀ v G, Q v G → Q' v G) → tl E' H Q'
def Clo (tl : XK → Hp → VK → Prop) : XK → Hp → VK → Prop := fun E H Q => ∃ (E0 : XK) (Q0 : VK), tl E0 H Q0 ∧ (∀ c d G, E0 c d G → E c d G) ∧ ∀ v G, Q0 v G → Q v G
theorem Clo.of {tl : XK → Hp → VK → Prop} {E : XK} {H : Hp} {Q : VK} (h : tl E H Q) : Clo tl E H Q := ⟨E, Q, h, fun _ _ _ x => x, fun _ _ x => x⟩
theorem Clo.mn (tl : XK → Hp → VK → Prop) : Mn (Clo tl) := fun E E' H Q Q' h hE hQ => by
  obtain ⟨E0, Q0, h1, h2, h3⟩ := h
  exact ⟨E0, Q0, h1, fun c d G x => hE c d G (h2 c d G x), fun v G x => hQ v G (h3 v G x)⟩
theorem cr_mono {P : Program} {w : World} {outer : List Env} {H : Hp} {s s' : Shared} {Q Q' : VK} {E E' : XK} {r : Result} (h : CR (CXr P w) outer P w H s Q E r s') (hE : ∀ c d G, E c d G → E' c d G) (hQ : ∀ v G, Q v G → Q' v G) : CR (CXr P w) outer P w H s Q' E' r s' := by
  cases r with
  | error e =>
    obtain ⟨a, B, H', cls, d, z, fl, hok, ub, na, os, ag, q⟩ := h
    exact ⟨a, B, H', cls, d, z, fl, hok, ub, na, os, ag, hE _ _ _ q⟩
  | ok fl => cases fl with
    | ret u =>
      obtain ⟨v, H', os, bare, un, hok, rv, q⟩ := h
      exact ⟨v, H', os, bare, un, hok, rv, hQ _ _ q⟩
    | next => exact h
    | brk => exact h
    | cont => exact h
structure LamAt (P : Program) (w : World) (K : PySem.W.Frag) (mg : Str → Option Value) (base : Heap) (j : Nat) (g : Addr) (q : Str) (c : Addr) (fr : List Addr) (H0 : Hp) (h0 : Heap) (tl : XK → Hp → VK → Prop) : Prop where
  mn : Mn tl
  fn : ∀ (H : Hp) (s : Shared), Un fr [] H0 H h0 s.heap → PySem.W.FnAt g s.heap
  run : ∀ (A : Around) (outer : List Env) (s : Shared) (H : Hp) (Q : VK) (E : XK), NoG A → Room j A → Env0 P w K mg base A outer s H → Un fr [] H0 H h0 s.heap → H c = some (CodeO c q) → tl E H Q →
    codeAny (model P w) A (.call (.ref g) ⟨[], []⟩) (CR (CXr P w) outer P w H s Q E) s
theorem LamAt.mono {P : Program} {w : World} {K : PySem.W.Frag} {mg : Str → Option Value} {base : Heap} {i j : Nat} {g c : Addr} {q : Str} {fr : List Addr} {H0 : Hp} {h0 : Heap} {tl : XK → Hp → VK → Prop} (a : LamAt P w K mg base i g q c fr H0 h0 tl) (h : i ≤ j) :
    LamAt P w K mg base j g q c fr H0 h0 tl := ⟨a.mn, a.fn, fun A outer s H Q E hG hr => a.run A outer s H Q E hG (hr.mono h)⟩
theorem un_step {fr fs : List Addr} {H0 H1 H2 : Hp} {h0 h1 h2 : Heap} (u : Un fr [] H0 H1 h0 h1) (v : Un fs [] H1 H2 h1 h2) (hf : ∀ b ∈ fs, b ∈ fr ∨ h0.get? b = none) : Un fr [] H0 H2 h0 h2 where
  keep := fun b o e n nb nx => v.keep b o (u.keep b o e n nb nx) (u.free b o e n nx) (fun hb => by
    rcases hf b hb with z | z
    · exact nb z
    · rw [e] at z; cases z) nx
  slot := fun b o e n hb nx => by
    obtain ⟨sl, e1⟩ := u.slot b o e n hb nx
    obtain ⟨sl2, e2⟩ := v.any e1 (u.free b o e n nx) nx
    exact ⟨sl2, e2⟩
  free := fun b o e n nx => by
    obtain ⟨o1, e1⟩ := u.there b o e nx
    exact v.free b o1 e1 (u.free b o e n nx) nx
  there := fun b o e nx => by
    obtain ⟨o1, e1⟩ := u.there b o e nx
    exact v.there b o1 e1 nx
  tups := fun b xs e => v.tups b xs (u.tups b xs e)
  frzs := fun b o x e => v.frzs b o x (u.frzs b o x e)
  tbls := fun b ps e => by
    obtain ⟨m1, e1⟩ := u.tbls b ps e
    obtain ⟨m2, e2⟩ := v.tbls b _ e1
    exact ⟨m1 ++ m2, by rw [e2, Array.append_assoc]⟩
theorem snap_of {X : Cx} {pins : List (Addr × Obj)} {σ : L2.St} {H H0 : Hp} {s : Shared} {h0 : Heap} {fr : List Addr} (hex : X.ex = []) (hst : X.stack = X.env :: X.outer) (hfr : X.env.frame = some X.s_0.heap.objs.size) (u0 : Un fr [] H0 X.H_0 h0 X.s_0.heap)
    (ho : ∀ b ∈ frs X.outer, b ∈ fr ∨ h0.get? b = none) (I : Inv X pins σ H s) : Un fr [] H0 H h0 s.heap ∧ ∀ b ∈ frs X.stack, b ∈ fr ∨ h0.get? b = none := by
  have b := I.base
  rw [hex] at b
  refine ⟨un_step u0 b ho, fun b hb => ?_⟩
  rw [hst] at hb
  have e : frs (X.env :: X.outer) = X.s_0.heap.objs.size :: frs X.outer := by
    unfold frs
    rw [List.filterMap_cons, hfr]
  rw [e] at hb
  rcases List.mem_cons.mp hb with z | z
  · refine .inr ?_
    cases q : h0.get? b with
    | none => rfl
    | some o =>
      obtain ⟨o1, e1⟩ := u0.there b o q (by simp)
      rw [z] at e1
      exact absurd (Heap.lt_size e1) (Nat.lt_irrefl _)
  · exact ho b z
section
variable {X : Cx} {pins : List (Addr × Obj)} {σ : L2.St} {H : Hp} {s : Shared}
/-- the maker tells it -/
theorem lam_at {k : Nat} {f c : Addr} {pm ctv : Value} {params : Arguments} {body : Expr} {scope : Scope} {t : XK → TE} (I : Inv X pins σ H s) (L : LamS X.env.scope scope)
    (hf : s.heap.get? f = some (PySem.W.kla_obj "<lambda>" (X.env.qual ++ "<lambda>") params body scope (cloFrom X.env.cells scope.names []) pm c ctv)) (hfn : H f = none) (hff : f ∉ frs X.stack)
    (hbind : ∀ (q : Str) (cl : List (Str × Addr)) (pm cv ctv : Value), bindArgs (PySem.W.kla_fn "<lambda>" q params body scope cl pm cv ctv) ⟨[], []⟩ = pure [])
    (hbody : ∀ (A : Around) (outer : List Env) (s1 : Shared) (H1 : Hp) (E : XK), NoG (A.deeper (lamEnv X scope s1.heap.objs.size f c)) → Room k (A.deeper (lamEnv X scope s1.heap.objs.size f c)) → PE (lamCx X A outer s1 H1 E scope f c) body (t E)) :
    LamAt X.prog X.w X.K X.mg X.base (k + 1) f (X.env.qual ++ "<lambda>") c (frs X.stack) H s.heap (Clo fun E H1 Q => t E σ H1 Q) where
  mn := Clo.mn _
  fn := fun H1 s1 un => ⟨_, _, _, _, un.keep f _ hf hfn hff (by simp)⟩
  run := by
    intro A outer s1 H1 Q' E' hG hr e0 un hc ht'
    obtain ⟨E, Q, ht, wE, wQ⟩ := ht'
    refine codeAny_mono (R := CR (CXr X.prog X.w) outer X.prog X.w H1 s1 Q E) ?_ fun r z hz => cr_mono hz wE wQ
    have o1 := un.keep f _ hf hfn hff (by simp)
    obtain ⟨⟨oc, vs, tk, g1, g2, g3⟩, _, _⟩ := e0.hok c _ hc
    have lim : s1.heap.NoLimit := e0.mod.nolimit.keeps fun b o e => (e0.bs b o e).1
    refine PySem.W.kla_callFunE hr.depth o1 rfl L.co L.gen rfl ⟨c, oc, vs, tk, rfl, g1, g2, g3⟩ ?_
    rw [hbind]
    refine wpAny_pure (wpAny_newFunctionEnv (fun y hy => (L.own y hy).2) (fun y hy => absurd hy (by simp)) (fun h1 hns hsb => ?_) L.kind)
    refine ⟨lim.fresh _ hsb, ?_⟩
    have kp : ∀ b o, s1.heap.get? b = some o → h1.get? b = some o := fun b o e => hsb.extBut b o (Nat.ne_of_lt (Heap.lt_size e)) (Heap.get?_push_of_some _ e)
    have J := lam_start2 (E := E) (f := f) (c' := c) (tk := s1.toks + ([] : List (Str × Value)).length) I L e0 hr.hd un hns kp
    refine PySem.W.kla_codeExpr (wpAny_mono ((hbody A outer s1 H1 E hG (hr.deeper _)).run [] _ _ H1 Q J ht) (fun v z hq => ?_) fun _ _ hq => hq)
    obtain ⟨v', H', J', rv, q⟩ := hq
    exact ⟨v', H', J'.os, J'.bare, J'.base, J'.hok, rv, q⟩
end
section
variable {X : Cx} {j : Nat} {g c : Addr} {q a : Str} {fr : List Addr} {H0 : Hp} {h0 : Heap} {tl : XK → Hp → VK → Prop} {i : Nat} {W : WX} {p1 p2 : Pos}
/-- a(), a the lambda that was handed in -/
theorem pe_actL (la : LamAt X.prog X.w X.K X.mg X.base j g q c fr H0 h0 tl) (hG : NoG X.A) (hr : Room j X.A) (hex : X.ex = []) (hst : X.stack = X.env :: X.outer) (hfr : X.env.frame = some X.s_0.heap.objs.size) (u0 : Un fr [] H0 X.H_0 h0 X.s_0.heap)
    (ho : ∀ b ∈ frs X.outer, b ∈ fr ∨ h0.get? b = none) (tk : Takes X W) (hN : X.N[i]? = some a) (hv : Vis X.env.scope a) (hd : (a == ("__debug__" : Str)) = false := by decide) (hcd : (a == ("__classdict__" : Str)) = false := by decide) :
    PE X (.Call (.Name a p1) [] [] p2) (fun σ H Q => σ[i]? = some (some (.ref g)) ∧ H c = some (CodeO c q) ∧ tl (fun cls d H' => W cls d σ H') H Q) := by
  refine ⟨fun pins s σ H Q I h => ?_⟩
  obtain ⟨hs, hc, ht⟩ := h
  refine wpAny_Call_Name_kw (thn ((pe_var (pos := p1) (i := i) hN hv hd hcd).run pins s σ H (fun v H1 => v = .ref g ∧ H1 = H) I ⟨.ref g, hs, rfl, rfl⟩) fun u s1 hq => ?_)
  obtain ⟨v, H1, I1, r1, ev, eH⟩ := hq
  subst ev eH
  obtain rfl : u = Value.ref g := r1
  obtain ⟨un, hb⟩ := snap_of hex hst hfr u0 ho I1
  refine PySem.W.callWith_F0 (la.fn _ _ un) (wpAny_call (codeAny_mono (la.run X.A X.stack s1 H1 Q (fun cls d H' => W cls d σ H') hG hr I1.env0 un hc ht) fun r s2 hq => ?_))
  cases r with
  | error e => exact passAt tk σ pins H1 s1 e s2 I1 hq
  | ok fl => cases fl with
    | ret u => exact I1.after hq
    | next => exact hq.elim
    | brk => exact hq.elim
    | cont => exact hq.elim
end
/-! ### a def that takes a lambda behind n other arguments -/
abbrev SpL := (XK → Hp → VK → Prop) → List V → List V → Hp → VK → Prop
structure Cl (P : Program) (w : World) (K : PySem.W.Frag) (mg : Str → Option Value) (base : Heap) (k : Nat) (x : Str) (ps : List Str) (sp : SpL) : Prop where
  ex : ∃ (f : Addr), mg x = some (.ref f) ∧ PySem.W.keepIn K (.ref f) = true ∧
    ∀ (A : Around) (outer : List Env) (s : Shared) (H : Hp) (us1 us2 : List Value) (vs1 vs2 : List V) (Q : VK) (j : Nat) (g c : Addr) (q : Str) (fr : List Addr) (H0 : Hp) (h0 : Heap) (tl : XK → Hp → VK → Prop), NoG A → Room (k + j) A → Env0 P w K mg base A outer s H →
      Vals vs1 us1 → Vals vs2 us2 → LamAt P w K mg base j g q c fr H0 h0 tl → Un fr [] H0 H h0 s.heap → (∀ b ∈ frs outer, b ∈ fr ∨ h0.get? b = none) → H c = some (CodeO c q) → sp tl vs1 vs2 H Q →
      codeAny (model P w) A (.call (.ref f) ⟨us1 ++ .ref g :: us2, []⟩) (CR CX0 outer P w H s Q E0) s
section
variable {P : Program} {w : World} {K : PySem.W.Frag} {mg : Str → Option Value} {base : Heap}
theorem Cl.mono {i k : Nat} {x : Str} {ps : List Str} {sp : SpL} (c : Cl P w K mg base i x ps sp) (h : i ≤ k) : Cl P w K mg base k x ps sp := by
  obtain ⟨f, h1, h2, h3⟩ := c.ex
  exact ⟨f, h1, h2, fun A outer s H us1 us2 vs1 vs2 Q j g c q fr H0 h0 tl hG hr => h3 A outer s H us1 us2 vs1 vs2 Q j g c q fr H0 h0 tl hG (hr.mono (Nat.add_le_add_right h j))⟩
/-- by the body, walked where the lambda is known -/
theorem cl_of {x : Str} {st : Stmt} {f : Addr} {fd : FuncData} {N ps : List Str} {k : Nat} {sp : SpL} (F : FD K x st f fd) (hm : mg x = some (.ref f)) (S : FnScope N ps (defScope st)) (len : ∀ tl vs1 vs2 H Q, sp tl vs1 vs2 H Q → vs1.length + (vs2.length + 1) = ps.length)
    (b1 : ∀ (kV dc pm : Value) (an : Option Addr) (cdv ct : Value) (us : List Value), us.length = ps.length → bindArgs (PySem.W.fnOf x x (defArgs st) (defBody st) (defScope st) .none kV dc pm an cdv ct) ⟨us, []⟩ = pure (ps.zip us))
    (hb : ∀ (cdv : Value) (A : Around) (outer : List Env) (s : Shared) (H : Hp) (vs1 vs2 : List V) (Q : VK) (j : Nat) (g c : Addr) (q : Str) (fr : List Addr) (H0 : Hp) (h0 : Heap) (tl : XK → Hp → VK → Prop),
      NoG (A.deeper (envOfC x (defScope st) s.heap.objs.size f cdv)) → Room (k + j) (A.deeper (envOfC x (defScope st) s.heap.objs.size f cdv)) → LamAt P w K mg base j g q c fr H0 h0 tl → Un fr [] H0 H h0 s.heap → (∀ b ∈ frs outer, b ∈ fr ∨ h0.get? b = none) → H c = some (CodeO c q) → sp tl vs1 vs2 H Q →
      ∃ t, PSs (cxOf CX0 P w K mg base N x (defScope st) f cdv A outer s H E0).nox (defBody st) t ∧ t { nx := fun _ H' => Q .non H', rt := Q } (start N (vs1 ++ .ref g :: vs2)) H) : Cl P w K mg base (k + 1) x ps sp := by
  have kp := F.kp
  obtain ⟨oc, od, dV, kV, dc, pm, an, cdv, ct, sl, rfl, lk, hcd, hD, _⟩ := F.ex
  rcases hD with ⟨_, rfl⟩ | ⟨e, _⟩
  · refine ⟨f, hm, kp, fun A outer s H us1 us2 vs1 vs2 Q j g c q fr H0 h0 tl hG hr e0 r1 r2 la un ho hc hsp => ?_⟩
    have rv : Vals (vs1 ++ V.ref g :: vs2) (us1 ++ Value.ref g :: us2) := r1.append (.cons rfl r2)
    have hl := len _ _ _ _ _ hsp
    have lv : (vs1 ++ V.ref g :: vs2).length = ps.length := by rw [List.length_append, List.length_cons]; omega
    have lu : (us1 ++ Value.ref g :: us2).length = ps.length := by rw [← rv.length]; exact lv
    have hr2 : Room (k + j + 1) A := hr.mono (by omega)
    refine LamX.run_ofS lk hcd S hr2 e0 (.of_eq (b1 kV dc pm an cdv ct _ lu)) rv lv fun hr3 => ?_
    obtain ⟨t, h1, h2⟩ := hb cdv A outer s H vs1 vs2 Q j g c q fr H0 h0 tl hG hr3 la un ho hc hsp
    exact ⟨t, h1.nox, h2⟩
  · exact absurd rfl e
end
section
variable {X : Cx} {k j m : Nat} {x a : Str} {ps : List Str} {sp : SpL} {g c : Addr} {q : Str} {fr : List Addr} {H0 : Hp} {h0 : Heap} {tl : XK → Hp → VK → Prop} {i : Nat} {p p1 pos : Pos}
/-- x(a), a the lambda that was handed in -/
theorem pe_passL (cl : Cl X.prog X.w X.K X.mg X.base k x ps sp) (la : LamAt X.prog X.w X.K X.mg X.base j g q c fr H0 h0 tl) (hG : NoG X.A) (hr : Room m X.A) (hm : k + j ≤ m) (hex : X.ex = []) (hst : X.stack = X.env :: X.outer)
    (hfr : X.env.frame = some X.s_0.heap.objs.size) (u0 : Un fr [] H0 X.H_0 h0 X.s_0.heap) (ho : ∀ b ∈ frs X.outer, b ∈ fr ∨ h0.get? b = none) (hg : Gl X x) (hN : X.N[i]? = some a) (hv : Vis X.env.scope a) (hdb : (x == ("__debug__" : Str)) = false := by decide)
    (hd : (a == ("__debug__" : Str)) = false := by decide) (hcd : (a == ("__classdict__" : Str)) = false := by decide) :
    PE X (.Call (.Name x p) [.Name a p1] [] pos) (fun σ H Q => σ[i]? = some (some (.ref g)) ∧ H c = some (CodeO c q) ∧ sp tl [] [] H Q) := by
  obtain ⟨f, hm1, kp, F⟩ := cl.ex
  refine ⟨fun pins s σ H Q I h => ?_⟩
  obtain ⟨hs, hc, ht⟩ := h
  refine wpAny_Call_Name_kw (ld_glob I hg hm1 ?_ hdb)
  have pa : PA X [.Name a p1] _ := pa_cons (pe_var (i := i) hN hv hd hcd) pa_nil
  refine PySem.W.callWith_K (h₀ := X.base) I.ok.mod.kin kp (thn (pa.run pos pins s σ H (fun vs H1 => vs = [.ref g] ∧ H1 = H) I ⟨.ref g, hs, rfl, rfl⟩) fun us s1 hq => ?_) rfl rfl
  obtain ⟨vs, H1, I1, r1, ev, eH⟩ := hq
  subst ev eH
  cases r1 with
  | cons ra rr =>
    cases rr
    cases ra
    obtain ⟨un, hb⟩ := snap_of hex hst hfr u0 ho I1
    refine ⟨I1.kIn, wpAny_call (codeAny_mono (F X.A X.stack s1 H1 [] [] [] [] Q j g c q fr H0 h0 tl hG (hr.mono hm) I1.env0 .nil .nil la un hb hc ht) fun r s2 hq => ?_)⟩
    cases r with
    | error e => exact False.elim hq
    | ok fl => cases fl with
      | ret u => exact I1.after hq
      | next => exact hq.elim
      | brk => exact hq.elim
      | cont => exact hq.elim
end
/-! ### x(.., lambda: body, ..) in the maker -/
section
variable {X : Cx} {pins : List (Addr × Obj)} {σ : L2.St} {H : Hp} {s : Shared}
theorem pin_on {a : Addr} {o : Obj} (I : Inv X pins σ H s) (h1 : s.heap.get? a = some o) (h2 : H a = none) (h3 : a ∉ frs (X.env :: X.outer)) (hfr : X.env.frame = some X.env.locals) (h4 : ∀ v, o.data ≠ .cell v) : Inv X (pins ++ [(a, o)]) σ H s :=
  ⟨I.ok, I.os, I.bare, I.base, I.loc, I.cell, I.free, I.freeC, fun p hp => by
    have hp2 : p ∈ X.pn ++ pins ∨ p = (a, o) := by
      rw [← List.append_assoc] at hp
      rcases List.mem_append.mp hp with z | z
      · exact .inl z
      · exact .inr (List.mem_singleton.mp z)
    rcases hp2 with z | z
    · exact I.pin p z
    · subst z
      exact ⟨h1, h2, fun q => h3 (List.mem_filterMap.mpr ⟨X.env, List.mem_cons_self, hfr.trans (congrArg some q.symm)⟩), fun hm => by
        obtain ⟨en, hen, q⟩ := List.mem_filterMap.mp hm
        exact h3 (List.mem_filterMap.mpr ⟨en, List.mem_cons_of_mem _ hen, q⟩), h4⟩, I.hok, I.len⟩
theorem pin_off {a : Addr} {o : Obj} (I : Inv X (pins ++ [(a, o)]) σ H s) : Inv X pins σ H s ∧ s.heap.get? a = some o ∧ H a = none := by
  have e := I.pin (a, o) (by simp)
  exact ⟨⟨I.ok, I.os, I.bare, I.base, I.loc, I.cell, I.free, I.freeC, fun p hp => I.pin p (by rw [← List.append_assoc]; exact List.mem_append_left _ hp), I.hok, I.len⟩, e.1, e.2.1⟩
end
/-- the reading: the tables stand, the arguments ta1 ahead, the lambda, ta2 behind -/
def tLamL (T : List (Addr × Str)) (q : Str) (sp : SpL) (ta1 ta2 : TA) (t : XK → TE) : TE := fun σ H Q => ta1 σ H fun vs1 H1 => Tabs T H1 ∧ ∀ H2, ExtN H1 H2 → Tabs T H2 → ∀ c, H2 c = some (CodeO c q) → ta2 σ H2 fun vs2 H3 => H3 c = some (CodeO c q) ∧ sp (Clo fun E H' Q' => t E σ H' Q') vs1 vs2 H3 Q
section
variable {X : Cx} {T : List (Addr × Str)} {x : Str} {c P : Addr} {k j m : Nat} {ps : List Str} {sp : SpL} {params : Arguments} {body : Expr} {scope : Scope} {t : XK → TE} {ta1 ta2 : TA} {p lpos pos : Pos} {e1 : Expr} {es : List Expr}
/-- what both rules need of the maker -/
structure Maker (X : Cx) (T : List (Addr × Str)) (c P : Addr) : Prop where
  tb : TabB X.base X.mg c P
  code : X.env.code = .ref c
  mem : (P, X.env.qual ++ "<lambda>") ∈ T
  uniq : ∀ p ∈ T, p.1 = P → p.2 = X.env.qual ++ "<lambda>"
  stk : X.stack = X.env :: X.outer
  fr : X.env.frame = some X.env.locals
theorem lam_go {pins : List (Addr × Obj)} {σ : L2.St} {H : Hp} {s : Shared} {Q : VK} {us1 : List Value} {vs1 : List V} (M : Maker X T c P) (cl : Cl X.prog X.w X.K X.mg X.base k x ps sp) (hG : NoG X.A) (hr : Room m X.A) (hm : k + (j + 1) ≤ m) (L : LamS X.env.scope scope) (hdef : defaultsOf params X.env = ([], []))
    (hbind : ∀ (q : Str) (cl : List (Str × Addr)) (pm cv ctv : Value), bindArgs (PySem.W.kla_fn "<lambda>" q params body scope cl pm cv ctv) ⟨[], []⟩ = pure [])
    (hbody : ∀ (A : Around) (outer : List Env) (s1 : Shared) (H1 : Hp) (E : XK) (f c' : Addr), NoG (A.deeper (lamEnv X scope s1.heap.objs.size f c')) → Room j (A.deeper (lamEnv X scope s1.heap.objs.size f c')) → PE (lamCx X A outer s1 H1 E scope f c') body (t E)) (ha : PA X es ta2) {f : Addr}
    (I : Inv X pins σ H s) (r1 : Vals vs1 us1) (hT : Tabs T H) (h : ∀ H2, ExtN H H2 → Tabs T H2 → ∀ c', H2 c' = some (CodeO c' (X.env.qual ++ "<lambda>")) → ta2 σ H2 fun vs2 H3 => H3 c' = some (CodeO c' (X.env.qual ++ "<lambda>")) ∧ sp (Clo fun E H' Q' => t E σ H' Q') vs1 vs2 H3 Q)
    (hf : X.mg x = some (.ref f)) (kp : PySem.W.keepIn X.K (.ref f) = true)
    (F : ∀ (A : Around) (outer : List Env) (s : Shared) (H : Hp) (us1 us2 : List Value) (vs1 vs2 : List V) (Q : VK) (j : Nat) (g c : Addr) (q : Str) (fr : List Addr) (H0 : Hp) (h0 : Heap) (tl : XK → Hp → VK → Prop), NoG A → Room (k + j) A → Env0 X.prog X.w X.K X.mg X.base A outer s H →
      Vals vs1 us1 → Vals vs2 us2 → LamAt X.prog X.w X.K X.mg X.base j g q c fr H0 h0 tl → Un fr [] H0 H h0 s.heap → (∀ b ∈ frs outer, b ∈ fr ∨ h0.get? b = none) → H c = some (CodeO c q) → sp tl vs1 vs2 H Q →
      codeAny (model X.prog X.w) A (.call (.ref f) ⟨us1 ++ .ref g :: us2, []⟩) (CR CX0 outer X.prog X.w H s Q E0) s) :
    wpAny (model X.prog X.w) X.A (spliced ((false, eval (.Lambda params body scope lpos) X.env) :: backTo pos (starEach es X.env))) (fun us s1 => X.K.In s1.heap ∧ wpAny (model X.prog X.w) X.A (call (.ref f) (us1 ++ us)) (EP X pins σ Q) X.xe s1) X.xe s := by
  refine Calls.spliced_cons (lam_make2 I M.tb M.code M.mem M.uniq hT hdef (L.has I.ok) fun g c' pm ctv H2 s2 I2 eN T2 hg hgn hgf hco => ?_)
  have Ip := pin_on I2 hg hgn (M.stk ▸ hgf) M.fr (fun v z => nomatch z)
  refine thn (ha.run pos _ s2 σ H2 _ Ip (h H2 eN T2 c' hco)) fun us2 s3 hq => ?_
  obtain ⟨vs2, H3, I3, r2, hc3, hsp⟩ := hq
  obtain ⟨I3, hg3, hgn3⟩ := pin_off I3
  refine ⟨I3.kIn, ?_⟩
  have la := lam_at (k := j) (t := t) I3 L hg3 hgn3 hgf hbind fun A outer s1 H1 E => hbody A outer s1 H1 E g c'
  refine wpAny_call (codeAny_mono (F X.A X.stack s3 H3 us1 us2 vs1 vs2 Q (j + 1) g c' _ _ _ _ _ hG (hr.mono hm) I3.env0 r1 r2 la Un.refl (fun b hb => .inl hb) hc3 hsp) fun r s4 hq => ?_)
  cases r with
  | error e => exact False.elim hq
  | ok fl => cases fl with
    | ret u => exact I3.after hq
    | next => exact hq.elim
    | brk => exact hq.elim
    | cont => exact hq.elim
/-- x(lambda: body, e, ..) -/
theorem pe_lamL (M : Maker X T c P) (cl : Cl X.prog X.w X.K X.mg X.base k x ps sp) (hG : NoG X.A) (hr : Room m X.A) (hm : k + (j + 1) ≤ m) (hg : Gl X x) (L : LamS X.env.scope scope) (hdef : defaultsOf params X.env = ([], []))
    (hbind : ∀ (q : Str) (cl : List (Str × Addr)) (pm cv ctv : Value), bindArgs (PySem.W.kla_fn "<lambda>" q params body scope cl pm cv ctv) ⟨[], []⟩ = pure [])
    (hbody : ∀ (A : Around) (outer : List Env) (s1 : Shared) (H1 : Hp) (E : XK) (f c' : Addr), NoG (A.deeper (lamEnv X scope s1.heap.objs.size f c')) → Room j (A.deeper (lamEnv X scope s1.heap.objs.size f c')) → PE (lamCx X A outer s1 H1 E scope f c') body (t E)) (ha : PA X es ta2)
    (hdb : (x == ("__debug__" : Str)) = false := by decide) (he : starEach (.Lambda params body scope lpos :: es) X.env = (false, eval (.Lambda params body scope lpos) X.env) :: starEach es X.env := by rfl) (hpl : (backTo pos (starEach es X.env)).any (·.1) = false := by rfl) :
    PE X (.Call (.Name x p) (.Lambda params body scope lpos :: es) [] pos) (tLamL T (X.env.qual ++ "<lambda>") sp tNil ta2 t) := by
  obtain ⟨f, hf, kp, F⟩ := cl.ex
  refine ⟨fun pins s σ H Q I h => wpAny_Call_Name_kw (ld_glob I hg hf ?_ hdb)⟩
  obtain ⟨hT, h⟩ := h
  refine PySem.W.callWith_K (h₀ := X.base) I.ok.mod.kin kp ?_ he hpl
  rw [he]
  exact lam_go M cl hG hr hm L hdef hbind hbody ha I .nil hT h hf kp F
/-- x(e1, lambda: body) -/
theorem pe_lamL1 {te1 : TE} (M : Maker X T c P) (cl : Cl X.prog X.w X.K X.mg X.base k x ps sp) (hG : NoG X.A) (hr : Room m X.A) (hm : k + (j + 1) ≤ m) (hg : Gl X x) (L : LamS X.env.scope scope) (hdef : defaultsOf params X.env = ([], []))
    (hbind : ∀ (q : Str) (cl : List (Str × Addr)) (pm cv ctv : Value), bindArgs (PySem.W.kla_fn "<lambda>" q params body scope cl pm cv ctv) ⟨[], []⟩ = pure [])
    (hbody : ∀ (A : Around) (outer : List Env) (s1 : Shared) (H1 : Hp) (E : XK) (f c' : Addr), NoG (A.deeper (lamEnv X scope s1.heap.objs.size f c')) → Room j (A.deeper (lamEnv X scope s1.heap.objs.size f c')) → PE (lamCx X A outer s1 H1 E scope f c') body (t E)) (h1 : PE X e1 te1)
    (hdb : (x == ("__debug__" : Str)) = false := by decide) (he : starEach [e1, .Lambda params body scope lpos] X.env = (false, eval e1 X.env) :: starEach [.Lambda params body scope lpos] X.env := by rfl) (hpl : (backTo pos (starEach [.Lambda params body scope lpos] X.env)).any (·.1) = false := by rfl) :
    PE X (.Call (.Name x p) [e1, .Lambda params body scope lpos] [] pos) (tLamL T (X.env.qual ++ "<lambda>") sp (tCons te1 tNil) tNil t) := by
  obtain ⟨f, hf, kp, F⟩ := cl.ex
  refine ⟨fun pins s σ H Q I h => wpAny_Call_Name_kw (ld_glob I hg hf ?_ hdb)⟩
  refine PySem.W.callWith_K (h₀ := X.base) I.ok.mod.kin kp ?_ he hpl
  rw [he]
  show wpAny _ _ (spliced ((false, eval e1 X.env) :: backTo pos (starEach [.Lambda params body scope lpos] X.env))) _ _ s
  refine Calls.spliced_cons (thn (h1.run pins s σ H _ I h) fun u s1 hq => ?_)
  obtain ⟨v, H1, I1, rv, hT, hk⟩ := hq
  exact lam_go (us1 := [u]) M cl hG hr hm L hdef hbind hbody pa_nil I1 (.cons rv .nil) hT hk hf kp F
end
end WR
namespace WR
open PySem PySem.W PySem.Calls PySem.Spec PyProof.Rows L2 LamX
/-! ### the law's end with tables of code objects, no repr under way -/
theorem law_gT {P : Program} {w : World} {K : Frag} {mg mb : Str → Option Value} {k : Nat} {fa a : Addr} {x : Str} {sp : Sp} {h1 : Heap} {s1 : Shared} {vs : List Value} {ns : List Int} {cs : List (Addr × Addr)} (he : s1.heap = h1)
    (KX : K.In h1) (hns : h1.Ns mainGlobals mg) (hb : h1.Ns builtinsNs mb) (hbb : ∀ x : Str, x ≠ "__name__" → mb x = bootBuiltins x) (hlim : h1.NoLimit) (hg : s1.gens = #[])
    (tE : ∀ p ∈ cs, h1.get? p.2 = some { cls := .none, data := .fields #[] }) (tK : ∀ p ∈ cs, K.lookup p.2 = none) (tC : ∀ p ∈ cs, CodeHd h1 p.1 p.2)
    (hbm : ∃ (bm : Addr) (ob : Obj), mg "__builtins__" = some (.ref bm) ∧ bm ≠ builtinsNs ∧ h1.get? bm = some ob ∧ ob.cls = .type "module" ∧ ob.dict = some builtinsNs ∧ ob.data = .plain)
    (ha : h1.get? a = some { cls := .type "list", data := .seq vs.toArray }) (hi : IntsAre vs ns) (hl : ns.length ≤ sizeLine) (hr : Room k callerA) (hnm : mg x = some (.ref fa))
    (F : ∀ base : Heap, K.In base → base.Ns mainGlobals mg → (∀ p ∈ cs, TabB base mg p.1 p.2) → Cg P w K mg base k x ["script"] sp)
    (hsp : ∀ H : Hp, (∀ p ∈ cs, H p.2 = some (.tbl #[])) → SqL K H a (ns.map V.int) → sp [.ref a] H (fun v _ => v = .bl true) E0) :
    codeAny (model P w) callerA (.call (.ref fa) ⟨[.ref a], []⟩) (fun r s' => r = .ok (.ret (.bool true)) ∧ OldK h1 s'.heap ∧ s'.os = s1.os ∧ AllBare s'.gens) s1 := by
  subst he
  have rv := vals_ints hi
  have inT : ∀ p ∈ cs, p.2 ∈ cs.map (·.2) := fun p hp => List.mem_map.mpr ⟨p, hp, rfl⟩
  have ofT : ∀ b ∈ cs.map (·.2), s1.heap.get? b = some { cls := .none, data := .fields #[] } ∧ K.lookup b = none := fun b hb => by
    obtain ⟨p, hp, rfl⟩ := List.mem_map.mp hb
    exact ⟨tE p hp, tK p hp⟩
  have aT : a ∉ cs.map (·.2) := fun z => by
    have q := (ofT a z).1
    rw [ha] at q
    cases congrArg Obj.data (Option.some.inj q)
  -- what is tracked: the tables, and the script if the written part does not hold it
  have key : ∃ H : Hp, (∀ p ∈ cs, H p.2 = some (.tbl #[])) ∧ SqL K H a (ns.map V.int) ∧
      ∀ b, H b = none ∨ (b ∈ cs.map (·.2) ∧ H b = some (.tbl #[])) ∨ (b = a ∧ K.lookup a = none ∧ H b = some (.frz { cls := .type "list", data := .seq vs.toArray } (.lst (ns.map V.int)))) := by
    cases hk : K.lookup a with
    | some o =>
      have e := KX a o hk
      rw [ha] at e
      cases e
      refine ⟨fun b => if b ∈ cs.map (·.2) then some (.tbl #[]) else none, fun p hp => if_pos (inT p hp), .inr ⟨_, vs.toArray, _, hk, rfl, rfl, rfl, by rw [List.size_toArray, hi.length]; exact hl, by simpa using rv⟩, fun b => ?_⟩
      by_cases hb2 : b ∈ cs.map (·.2)
      · exact .inr (.inl ⟨hb2, if_pos hb2⟩)
      · exact .inl (if_neg hb2)
    | none =>
      refine ⟨fun b => if b ∈ cs.map (·.2) then some (.tbl #[]) else if b = a then some (HO.frz { cls := .type "list", data := .seq vs.toArray } (.lst (ns.map V.int))) else none, fun p hp => if_pos (inT p hp), .inl (.inr ⟨_, (if_neg aT).trans (if_pos rfl)⟩), fun b => ?_⟩
      by_cases hb2 : b ∈ cs.map (·.2)
      · exact .inr (.inl ⟨hb2, if_pos hb2⟩)
      · by_cases hb3 : b = a
        · exact .inr (.inr ⟨hb3, rfl, (if_neg hb2).trans (if_pos hb3)⟩)
        · exact .inl ((if_neg hb2).trans (if_neg hb3))
  obtain ⟨H, hT, hS, hO⟩ := key
  have hok : HOk P w H s1.heap := fun b u z => by
    rcases hO b with q | ⟨q1, q2⟩ | ⟨q1, q2, q3⟩
    · rw [q] at z; cases z
    · rw [q2] at z; cases z; exact (ofT b q1).1
    · rw [q3] at z; cases z; subst q1; exact ⟨ha, by rw [List.length_map]; exact hl, vs, _, rv, ha⟩
  -- what is neither a list nor an empty record is not tracked
  have vis : ∀ {b : Addr} {o : Obj}, s1.heap.get? b = some o → o.data ≠ .fields #[] → (∀ xs n, o.data ≠ .seq xs n) → (hidT s1.heap H).get? b = some o := fun {b o} e n1 n2 => by
    refine hidT_get e ?_
    rcases hO b with q | ⟨q1, _⟩ | ⟨q1, _⟩
    · exact q
    · rw [(ofT b q1).1] at e; cases e; exact absurd rfl n1
    · rw [q1, ha] at e; cases e; exact absurd rfl (n2 _ _)
  have nsV : ∀ {b : Addr} {m : Str → Option Value}, s1.heap.Ns b m → (hidT s1.heap H).Ns b m := by
    rintro b m ⟨o, es, ep, e, d, r⟩
    exact ⟨o, es, ep, vis e (by rw [d]; intro z; cases z) (fun xs n z => by rw [d] at z; cases z), d, r⟩
  have kin : K.In (hidT s1.heap H) := fun b o e => by
    refine hidT_get (KX b o e) ?_
    rcases hO b with q | ⟨q1, _⟩ | ⟨q1, q2, _⟩
    · exact q
    · rw [(ofT b q1).2] at e; cases e
    · rw [q1, q2] at e; cases e
  obtain ⟨mc, l1, l2⟩ := hlim
  have nG : ∀ b (o : Obj), s1.heap.get? b = some o → (∀ es ep, o.data ≠ .dict es ep) → b ≠ mainGlobals := fun b o e n z => by
    obtain ⟨o', es, ep, e', d, _⟩ := hns
    rw [z, e'] at e
    cases e
    exact n _ _ d
  have TB : ∀ p ∈ cs, TabB (hidT s1.heap H) mg p.1 p.2 := fun p hp => by
    refine ⟨?_, ?_, fun z => nG p.2 _ (tE p hp) (fun es ep q => by cases q) z.symm⟩
    · obtain ⟨o, us, file, tf, flags, tg, inF, text, tt, e1, r1, r2, r3, rr⟩ := tC p hp
      refine ⟨o, us, file, tf, flags, tg, inF, text, tt, vis e1 (fun q => ?_) (fun xs n q => by rw [r2] at q; cases q), r1, r2, r3, rr⟩
      rw [r2] at q
      cases q
      cases (show (#[] : Array Value)[11]? = some (.ref p.2) from r3)
    · obtain ⟨bm, ob, b1, b2, b3, b4, b5, b6⟩ := hbm
      refine ⟨bm, ob, b1, b2, nG bm ob b3 (fun es ep q => by rw [b6] at q; cases q), fun q => ?_, vis b3 (by rw [b6]; intro q; cases q) (fun xs n q => by rw [b6] at q; cases q), b4, b5, b6⟩
      rw [q, tE p hp] at b3
      cases b3
      cases b6
  have e0 : Env0 P w K mg (hidT s1.heap H) callerA [] s1 H :=
    ⟨rfl, ⟨kin, nsV hns, ⟨mb, nsV hb, hbb⟩, ⟨mc, nsV l1, l2⟩⟩, fun b o e => of_hidT e, Nat.le_of_eq (hidT_size _ _), trivial, (fun b z => by cases z), hok, .of_eq hg⟩
  obtain ⟨f, fd, G, hm, kp, b1, _⟩ := (F _ kin (nsV hns) TB).ex
  have ef := hnm.symm.trans hm
  cases ef
  refine codeAny_mono (G.go callerA [] s1 H ⟨[.ref a], []⟩ [.ref a] [.ref a] _ E0 rfl hr e0 (b1 s1 [.ref a] rfl) (.cons rfl .nil) (hsp H hT hS)) fun r s' q => ?_
  cases r with
  | error e => exact False.elim q
  | ok fl => cases fl with
    | next => exact False.elim q
    | brk => exact False.elim q
    | cont => exact False.elim q
    | ret u =>
      obtain ⟨v, H', os, bare, un, hok', rr, q'⟩ := q
      have q2 : v = .bl true := q'
      subst q2
      obtain rfl : u = Value.bool true := rr
      have stay : ∀ b o, b ∉ cs.map (·.2) → s1.heap.get? b = some o → s'.heap.get? b = some o := fun b o nb e => by
        rcases hO b with z | ⟨z, _⟩ | ⟨_, _, z⟩
        · exact un.keep b o e z (by intro z; cases z) (by simp)
        · exact absurd z nb
        · obtain ⟨e1, _⟩ := hok b _ z
          rw [e] at e1
          cases e1
          exact (hok' b _ (un.frzs b _ _ z)).1
      have grown : ∀ b ∈ cs.map (·.2), ∃ (p : Addr × Addr) (more : Array Value), p ∈ cs ∧ p.2 = b ∧ s'.heap.get? b = some { cls := .none, data := .fields more } := fun b hb => by
        obtain ⟨p, hp, rfl⟩ := List.mem_map.mp hb
        obtain ⟨more, z⟩ := un.tbls p.2 #[] (hT p hp)
        exact ⟨p, _, hp, rfl, hok' p.2 _ z⟩
      refine ⟨rfl, ⟨fun b o e => ?_, fun b o e => ?_⟩, os, bare⟩
      · by_cases hb2 : b ∈ cs.map (·.2)
        · obtain ⟨p, more, hp, rfl, hm2⟩ := grown b hb2
          rw [tE p hp] at e
          cases e
          exact .inr (.inl ⟨((tC p hp).tab (tE p hp)).isCodeTable, rfl, #[], more, rfl, by rw [Array.empty_append]; exact hm2⟩)
        · exact .inl (stay b o hb2 e)
      · by_cases hb2 : b ∈ cs.map (·.2)
        · obtain ⟨p, more, hp, rfl, hm2⟩ := grown b hb2
          exact ⟨_, hm2⟩
        · exact ⟨o, stay b o hb2 e⟩
theorem walk_gT {l : OpenLaw} {n k : Nat} {q : Program} {loose : List Str} {XP : (Str → Option Value) → Heap → Prop} {YP : World → Heap → Prop} {d : DefRec}
    (hn : l.most = some n) (hn2 : n ≤ sizeLine) (hdf : d.params.defaults = []) (hr : Room k callerA)
    (F : ∀ (w : World) (mg : Str → Option Value) (h : Heap), YP w h → h.Ns mainGlobals mg →
      ∃ (K : Frag) (sp : Sp) (cs : List (Addr × Addr)), K.In h ∧ (∀ p ∈ cs, h.get? p.2 = some { cls := .none, data := .fields #[] }) ∧ (∀ p ∈ cs, K.lookup p.2 = none) ∧ (∀ p ∈ cs, CodeHd h p.1 p.2) ∧
        (∀ (H : Hp) (a : Addr) (ns : List Int), ns.length ≤ n → (∀ p ∈ cs, H p.2 = some (.tbl #[])) → SqL K H a (ns.map V.int) → sp [.ref a] H (fun v _ => v = .bl true) E0) ∧
        ∀ base : Heap, K.In base → base.Ns mainGlobals mg → (∀ p ∈ cs, TabB base mg p.1 p.2) → Cg l.prog w K mg base k d.name ["script"] sp) :
    WalkO q loose XP YP l.row.toRowW d [] (fun f vs => PySem.call f vs) := by
  refine Att.attach_callB hn hdf fun w s0 s1 mg mb fa o pm cd dc a vs ns G Y ho hd hcd hmg hobj hints hlen hbits hg => ?_
  obtain ⟨K, sp, cs, KX, c1, c2, c3, hsp, hF⟩ := F w mg _ Y G.T.g
  exact law_gT rfl KX G.T.g G.T.b G.T.builtins G.T.nolimit hg c1 c2 c3 G.T.bmain hobj hints (Nat.le_trans hlen hn2) hr hmg hF fun H hH hS => hsp H a ns hlen hH hS
end WR
namespace WR
open PySem PySem.Spec PyProof.Rows L2 LamX
/-! ### what the head must tell of an own exception class (over ValueError, with the one __init__ at fI) -/
def exoB (K : PySem.W.Frag) (C : Addr) : Bool := match K.lookup C with
  | some ⟨.type "type", _, .cls cd, sl⟩ => (match cd.mro, sl.toList with
    | .ref D :: bm, [_, _, _, _, some (.builtin n), _] => (D == C && n == "ValueError.__new__") && ((!cd.hasDel && cd.hasDict) && PySem.HandSPX.refsVE bm)
    | _, _ => false)
  | _ => false
theorem exoB_ok {K : PySem.W.Frag} {C : Addr} (h : exoB K C = true) : ∃ nm q N bs bm sn sub ab col dd k0 k1 k2 k3 k5, K.lookup C = some (excClassObj nm q C N bs bm true sn sub ab col dd k0 k1 k2 k3 k5 "ValueError.__new__") ∧ PySem.HandSPX.refsVE bm = true := by
  unfold exoB at h
  split at h
  · rename_i dd cd sl hl
    split at h
    · rename_i D bm k0 k1 k2 k3 n k5 hm hs
      obtain ⟨h1, h2⟩ := He.ba h
      obtain ⟨h3, h4⟩ := He.ba h1
      obtain ⟨h5, h6⟩ := He.ba h2
      obtain ⟨h7, h8⟩ := He.ba h5
      obtain rfl : D = C := beq_iff_eq.mp h3
      obtain rfl : n = "ValueError.__new__" := beq_iff_eq.mp h4
      obtain ⟨nm, bs, mro, ns, qn, hd, sn, sub, ab, col, del⟩ := cd
      dsimp only at hm h7 h8
      subst hm h8
      obtain rfl : del = false := by simpa using h7
      obtain ⟨ls⟩ := sl
      have e : ls = [k0, k1, k2, k3, some (.builtin "ValueError.__new__"), k5] := hs
      subst e
      exact ⟨nm, qn, ns, bs, bm, sn, sub, ab, col, dd, k0, k1, k2, k3, k5, hl, h6⟩
    · cases h
  · cases h
structure ExF (K : PySem.W.Frag) (C fI : Addr) : Prop where
  oex : OexC K C
  noV : PySem.W.findIn K (.ref C) "value" = some none
  ic : IsC K C
  i1 : PySem.W.findIn K (.ref C) "__init__" = some (some (.ref fI))
  i2 : PySem.W.typeIn K (.ref fI) = some (.type "function")
def exFB (K : PySem.W.Frag) (C fI : Addr) : Bool :=
  (exoB K C && (He.eqO (PySem.W.findIn K (.ref C) "__setattr__") (some (some (.builtin "object.__setattr__"))) && (decide (PySem.W.subIn K (.ref C) (.type "BaseException") = some true) && (decide (PySem.W.typeIn K (.ref C) = some (.type "type")) && PySem.W.keepIn K (.ref C))))) &&
  (He.eqO (PySem.W.findIn K (.ref C) "value") (some none) && ((xfB K C && ((PySem.W.clsIn K C).isSome && (He.eqO (PySem.W.findIn K (.ref C) "__class__") (some (some (.builtin "object.__class__"))) && (He.eqO (PySem.W.specialIn K (.builtin "object.__class__") "__get__") (some (some (.builtin "getset_descriptor.__get__"))) &&
    (decide (PySem.W.takesIn K (.builtin "object.__class__") = some true) && decide (PySem.W.mroIn K C (.type "object") = some true)))))) &&
  (He.eqO (PySem.W.findIn K (.ref C) "__init__") (some (some (.ref fI))) && decide (PySem.W.typeIn K (.ref fI) = some (.type "function")))))
theorem exFB_ok {K : PySem.W.Frag} {C fI : Addr} (h : exFB K C fI = true) : ExF K C fI := by
  obtain ⟨a, b⟩ := He.ba h
  obtain ⟨a1, a⟩ := He.ba a
  obtain ⟨a2, a⟩ := He.ba a
  obtain ⟨a3, a⟩ := He.ba a
  obtain ⟨a4, a5⟩ := He.ba a
  obtain ⟨b1, b⟩ := He.ba b
  obtain ⟨c, d⟩ := He.ba b
  obtain ⟨d1, d2⟩ := He.ba d
  obtain ⟨c1, c⟩ := He.ba c
  obtain ⟨c2, c⟩ := He.ba c
  obtain ⟨c3, c⟩ := He.ba c
  obtain ⟨c4, c⟩ := He.ba c
  obtain ⟨c5, c6⟩ := He.ba c
  exact ⟨⟨exoB_ok a1, He.eqO_ok a2, of_decide_eq_true a3, of_decide_eq_true a4, a5⟩, He.eqO_ok b1, ⟨xfB_ok c1, c2, He.eqO_ok c3, He.eqO_ok c4, of_decide_eq_true c5, of_decide_eq_true c6⟩, He.eqO_ok d1, of_decide_eq_true d2⟩
theorem ext_of {P : Program} {w : World} {K : PySem.W.Frag} {mg : Str → Option Value} {base : Heap} {x : Str} {C fI : Addr} {fd : FuncData} (f : ExF K C fI) (m : mg x = some (.ref C)) (F : FnOk P w K mg base CX0 1 fI fd ["self", "value"] (spEinit K)) (hb : Binds K fd ["self", "value"] []) : ExT P w K mg base x C :=
  ⟨f.oex, m, f.noV, fI, fd, f.i1, f.i2, F, hb⟩
/-- the class's name, as a value -/
theorem pe_clsn {X : Cx} {x : Str} {C : Addr} {pos : Pos} (hg : Gl X x) (hm : X.mg x = some (.ref C)) (hd : (x == ("__debug__" : Str)) = false := by decide) : PE X (.Name x pos) (fun _ H Q => Q (.ref C) H) :=
  ⟨fun pins s σ H Q I h => ld_glob I hg hm ⟨.ref C, H, I, rfl, h⟩ hd⟩
/-- x is None, of any value -/
theorem ref_non {a : Addr} : decide (V.ref a = V.non) = false := rfl
end WR
namespace WR
open PySem PySem.Spec PyProof.Rows L2 LamX
/-! ### repr of any data: also of scalars, of dicts of scalars -/
def kD : Key → PyData
  | .inl i => .int i
  | .inr s => .str s
inductive Sd : V → PyData → Prop
  | non : Sd .non .none
  | bl (b : Bool) : Sd (.bl b) (.bool b)
  | int (i : Int) : Sd (.int i) (.int i)
  | str (x : Str) : Sd (.str x) (.str x)
inductive Sds : List (Key × V) → List (PyData × PyData) → Prop
  | nil : Sds [] []
  | cons {k : Key} {v : V} {d : PyData} {kvs : List (Key × V)} {ds : List (PyData × PyData)} : Sd v d → Sds kvs ds → Sds ((k, v) :: kvs) ((kD k, d) :: ds)
inductive Da (K : PySem.W.Frag) (H : Hp) : V → PyData → Prop
  | of {v : V} {d : PyData} : Dp K H v d → Da K H v d
  | dct {a : Addr} {kvs : List (Key × V)} {ds : List (PyData × PyData)} : H a = some (.dK kvs) → Sds kvs ds → Da K H (.ref a) (.dict ds)
theorem Sd.reads {h : Heap} {v : V} {d : PyData} {u : Value} (s : Sd v d) (r : RelV v u) : Reads h u d [] := by
  cases s with
  | non => cases r; exact .none
  | bl b => cases r; exact .bool b
  | int i => obtain ⟨t, rfl⟩ := r; exact .int i t
  | str x => obtain ⟨t, rfl⟩ := r; exact .str x t
theorem Sds.reads {P : Program} {w : World} {h : Heap} : ∀ {kvs : List (Key × V)} {ds : List (PyData × PyData)} {vs : List (Key × Value)} {es : List DictEntry}, Sds kvs ds → KV kvs vs → Pairs (mixKind P w) es vs →
    ReadsAll h (es.map (·.key)) (ds.map (·.1)) [] ∧ ReadsAll h (es.map (·.val)) (ds.map (·.2)) []
  | [], _, _, _, .nil, r, p => by
    cases r
    cases p
    exact ⟨.nil, .nil⟩
  | (k, v) :: kvs, _, _, _, .cons s t, r, p => by
    cases r with
    | cons r1 r2 =>
      cases p with
      | cons p1 p2 p3 =>
        obtain ⟨q1, q2⟩ := Sds.reads t r2 p3
        obtain ⟨e1, e2⟩ := r1
        rename_i b kv es vs
        refine ⟨ReadsAll.cons (as := []) ?_ q1, ReadsAll.cons (as := []) ?_ q2⟩
        · have p1' : keyIs b.1 es.key = true := p1
          rcases keyIs_shape p1' with ⟨i, tt, z1, z2⟩ | ⟨y, tt, z1, z2⟩
          · have e : k = Sum.inl i := e1.trans z1
            show Reads h es.key (kD k) []
            rw [z2, e]
            exact .int i tt
          · have e : k = Sum.inr y := e1.trans z1
            show Reads h es.key (kD k) []
            rw [z2, e]
            exact .str y tt
        · show Reads h es.val _ []
          rw [p2]
          exact s.reads e2
section
variable {X : Cx} {k : Nat}
theorem Da.reads {pins : List (Addr × Obj)} {σ : L2.St} {H : Hp} {s : Shared} (I : Inv X pins σ H s) {v : V} {d : PyData} {u : Value} (h : Da X.K H v d) (r : RelV v u) : ∃ as, Reads s.heap u d as ∧ (d.hasDict = true → sysModules ∉ as) := by
  cases h with
  | of h =>
    obtain ⟨as, q⟩ := Dp.reads I d v u h r
    exact ⟨as, q, fun z => by rw [Dp.plain d v h] at z; cases z⟩
  | @dct a kvs ds e s1 =>
    cases r
    obtain ⟨_, hns, vs, rk, o, es, ep, ho, hx, hd, _, hp, _⟩ := I.hok a _ e
    obtain ⟨q1, q2⟩ := Sds.reads (h := s.heap) s1 rk hp
    refine ⟨_, Reads.dict ho hx.1 hd q1 q2, fun _ z => ?_⟩
    have z2 : sysModules = a := by simpa using z
    rw [z2] at hns
    simp at hns
def rReprA (K : PySem.W.Frag) : List V → Hp → VK → Prop := fun vs H Q => ∃ (v : V) (d : PyData), vs = [v] ∧ Da K H v d ∧ d.showable = true ∧ d.depth ≤ 40 ∧ d.shown.length ≤ sizeLine ∧ Q (.str d.shown) H
theorem call_reprA (hG : NoG X.A) (hr : Room k X.A) : CallR X (.builtin "repr") (rReprA X.K) := by
  intro pins s σ H xs us Q I r h
  obtain ⟨v, d, rfl, hd, hs, hdep, hz, q⟩ := h
  have hu := hr.un
  obtain ⟨u, rfl, ru⟩ := vals1 r
  have ref : ∀ a, v = .ref a → wpAny (model X.prog X.w) X.A (call (.builtin "repr") [u]) (EP X pins σ Q) X.xe s := fun a e => by
    subst e
    obtain ⟨as, rd, hsm⟩ := Da.reads I hd ru
    cases ru
    exact repr_of_reads' rd hs hsm hG (by omega) (fun b o e => e) (fun h' u tk kp => ⟨.str d.shown, H, I.kept (t' := tk) kp, ⟨u, rfl⟩, q⟩) hz
  cases hd with
  | dct e s1 => exact ref _ rfl
  | of hp =>
    cases hp with
    | lst _ _ => exact ref _ rfl
    | tup _ _ => exact ref _ rfl
    | non => cases ru; exact PySem.P.repr_of_none ⟨.str _, H, I.tok _, ⟨_, rfl⟩, q⟩
    | bl b => cases ru; exact PySem.P.repr_of_bool ⟨.str _, H, I.tok _, ⟨_, by cases b <;> rfl⟩, q⟩
    | int i =>
      obtain ⟨t, rfl⟩ := ru
      exact PySem.P.repr_of_int (of_decide_eq_true hs) ⟨.str _, H, I.tok _, ⟨_, rfl⟩, q⟩
    | str x =>
      obtain ⟨t, rfl⟩ := ru
      exact PySem.P.repr_of_str ⟨.str _, H, I.tok _, ⟨_, rfl⟩, q⟩ hz
end
end WR
namespace WR
open PySem PySem.Spec PyProof.Rows L2 LamX
section
variable {P : Program} {w : World} {K : PySem.W.Frag} {mg : Str → Option Value} {base : Heap}
/-- a def of the program that raises nothing here -/
theorem cf_of0 {x : Str} {st : Stmt} {f : Addr} {fd : FuncData} {N ps : List Str} {k : Nat} {sp : Sp} (F : FD K x st f fd) (hm : mg x = some (.ref f)) (S : FnScope N ps (defScope st)) (len : ∀ vs H Q E, sp vs H Q E → vs.length = ps.length)
    (b1 : ∀ (kV dc pm : Value) (an : Option Addr) (cdv ct : Value) (us : List Value), us.length = ps.length → bindArgs (PySem.W.fnOf x x (defArgs st) (defBody st) (defScope st) .none kV dc pm an cdv ct) ⟨us, []⟩ = pure (ps.zip us))
    (b2 : ∀ (kV dc pm : Value) (an : Option Addr) (cdv ct : Value) (us : List Value), us.length = ps.length → bindArgs (PySem.W.fnOf x x (defArgs st) (defBody st) (defScope st) .none kV dc pm an cdv ct) ⟨[], ps.zip us⟩ = pure (ps.zip us))
    (hb : ∀ (cdv : Value) (A : Around) (outer : List Env) (s : Shared) (H : Hp) (vs : List V) (Q : VK) (E : XK), Room k (A.deeper (envOfC x (defScope st) s.heap.objs.size f cdv)) → sp vs H Q E →
      ∃ t, PSs (cxOf CX0 P w K mg base N x (defScope st) f cdv A outer s H E).nox (defBody st) t ∧ t { nx := fun _ H' => Q .non H', rt := Q } (start N vs) H) : Cf CX0 P w K mg base (k + 1) x ps sp :=
  cf_of F hm S len b1 b2 fun cdv A outer s H vs Q E hr h => by
    obtain ⟨t, h1, h2⟩ := hb cdv A outer s H vs Q E hr h
    exact ⟨t, h1.nox, h2⟩
/-- a def that makes lambdas: its code object is told -/
theorem cg_ofM {x : Str} {st : Stmt} {fd : FuncData} {N ps : List Str} {k : Nat} {sp : Sp} (F : FD K x st (He.fAd K (x, none)) fd) (hm : mg x = some (.ref (He.fAd K (x, none)))) (S : FnScope N ps (defScope st)) (len : ∀ vs H Q E, sp vs H Q E → vs.length = ps.length)
    (b1 : ∀ (kV dc pm : Value) (an : Option Addr) (cdv ct : Value) (us : List Value), us.length = ps.length → bindArgs (PySem.W.fnOf x x (defArgs st) (defBody st) (defScope st) .none kV dc pm an cdv ct) ⟨us, []⟩ = pure (ps.zip us))
    (b2 : ∀ (kV dc pm : Value) (an : Option Addr) (cdv ct : Value) (us : List Value), us.length = ps.length → bindArgs (PySem.W.fnOf x x (defArgs st) (defBody st) (defScope st) .none kV dc pm an cdv ct) ⟨[], ps.zip us⟩ = pure (ps.zip us))
    (hb : ∀ (A : Around) (outer : List Env) (s : Shared) (H : Hp) (vs : List V) (Q : VK) (E : XK), NoG (A.deeper (envOfC x (defScope st) s.heap.objs.size (He.fAd K (x, none)) (.ref (He.codeOf K (x, none))))) → Room k (A.deeper (envOfC x (defScope st) s.heap.objs.size (He.fAd K (x, none)) (.ref (He.codeOf K (x, none))))) → sp vs H Q E →
      ∃ t, PSs (cxOf CX0 P w K mg base N x (defScope st) (He.fAd K (x, none)) (.ref (He.codeOf K (x, none))) A outer s H E).nox (defBody st) t ∧ t { nx := fun _ H' => Q .non H', rt := Q } (start N vs) H) : Cg P w K mg base (k + 1) x ps sp := by
  have kp := F.kp
  obtain ⟨oc, od, dV, kV, dc, pm, an, cdv, ct, sl, rfl, lk, hcd, hD, _⟩ := F.ex
  obtain ⟨c, rfl⟩ := He.codeIn_ref hcd
  have ec : He.codeOf K (x, none) = c := He.codeOf_eq lk rfl
  rcases hD with ⟨_, rfl⟩ | ⟨e, _⟩
  · refine ⟨_, _, fnG_of lk hcd S len fun A outer s H vs Q E hG hr hsp => ?_, hm, kp, fun s us hl => .of_eq (b1 kV dc pm an _ ct us hl), fun s us hl => .of_eq (b2 kV dc pm an _ ct us hl)⟩
    rw [← ec] at hG hr ⊢
    obtain ⟨t, h1, h2⟩ := hb A outer s H vs Q E hG hr hsp
    exact ⟨t, h1.nox, h2⟩
  · exact absurd rfl e
/-- what _law_heard promises; p0: the pair of None and None -/
def spHeard (K : PySem.W.Frag) : SpL := fun tl vs1 vs2 H Q => vs1 = [] ∧ vs2 = [] ∧ ∀ p0, H p0 = none →
  tl (fun cls d H' => PySem.W.exmOne K cls (.ref (He.ga K "FlashError")) = some true ∧ ∀ a, H' a = none → ∀ p, upd H' a (ExA cls d a) p = none → Q (.ref p) (upd (upd H' a (ExA cls d a)) p (.tup [.ref a, .non]))) (upd H p0 (.tup [.non, .non]))
    (fun v H' => ∀ p, H' p = none → Q (.ref p) (upd H' p (.tup [.non, v])))
end
theorem tab_start {K : PySem.W.Frag} {H : Hp} {T : List (Addr × Str)} (h : ∀ p ∈ T, H p.1 = some (.tbl #[])) : Tabs T H := fun p hp => TabS.nil (h p hp)
theorem Same.ext {H H' : Hp} (s : Same H H') : ExtN H H' := ExtN.of s
theorem ExtN.put {H H' : Hp} {p : Addr} {o : HO} (e : ExtN H H') (h : H p = none) : ExtN H (upd H' p o) := fun b u q n => by rw [upd_ne (ne_of_none q h)]; exact e b u q n
end WR
namespace WR
open PySem PySem.Spec PyProof.Rows L2 LamX
/-! ### all but the tables stays: data stays -/
section
variable {K : PySem.W.Frag} {H H' : Hp}
theorem ext_l {a : Addr} {xs : List V} (e : ExtN H H') (h : SqL K H a xs) : SqL K H' a xs := by
  rcases h with (h | ⟨o, h⟩) | h
  · exact .inl (.inl (e _ _ h fun ps z => nomatch z))
  · exact .inl (.inr ⟨o, e _ _ h fun ps z => nomatch z⟩)
  · exact .inr h
theorem ext_t {a : Addr} {xs : List V} (e : ExtN H H') (h : SqT K H a xs) : SqT K H' a xs := by
  rcases h with (h | ⟨o, h⟩) | h
  · exact .inl (.inl (e _ _ h fun ps z => nomatch z))
  · exact .inl (.inr ⟨o, e _ _ h fun ps z => nomatch z⟩)
  · exact .inr h
mutual
theorem Dp.ext : ∀ (d : PyData) (v : V), ExtN H H' → Dp K H v d → Dp K H' v d
  | .none, _, _, h => by cases h; exact .non
  | .bool b, _, _, h => by cases h; exact .bl b
  | .int i, _, _, h => by cases h; exact .int i
  | .str x, _, _, h => by cases h; exact .str x
  | .list ds, _, e, h => by
    cases h with
    | lst hs ha => exact .lst (ext_l e hs) (Dp.extAll ds _ e ha)
  | .tuple ds, _, e, h => by
    cases h with
    | tup hs ha => exact .tup (ext_t e hs) (Dp.extAll ds _ e ha)
  | .dict _, _, _, h => by cases h
theorem Dp.extAll : ∀ (ds : List PyData) (vs : List V), ExtN H H' → DpAll K H vs ds → DpAll K H' vs ds
  | [], _, _, h => by cases h; exact .nil
  | d :: ds, _, e, h => by
    cases h with
    | cons h1 h2 => exact .cons (Dp.ext d _ e h1) (Dp.extAll ds _ e h2)
end
theorem Da.ext {v : V} {d : PyData} (e : ExtN H H') (h : Da K H v d) : Da K H' v d := by
  cases h with
  | of h => exact .of (Dp.ext d v e h)
  | dct h s => exact .dct (e _ _ h fun ps z => nomatch z) s
/-- a text, or of another type -/
theorem Da.ty {v : V} {d : PyData} (h : Da K H v d) : (∃ x, d = .str x ∧ v = .str x) ∨ ((∀ x, d ≠ .str x) ∧ (∀ x, v ≠ .str x) ∧ ∃ t : String, TyX K H v (.type t) ∧ kitB t "str" = some false) := by
  cases h with
  | dct h s => exact .inr ⟨(fun x z => nomatch z), (fun x z => nomatch z), "dict", .base (.dK h), by decide +kernel⟩
  | of h =>
    cases h with
    | non => exact .inr ⟨(fun x z => nomatch z), (fun x z => nomatch z), "NoneType", .base .non, by decide +kernel⟩
    | bl b => exact .inr ⟨(fun x z => nomatch z), (fun x z => nomatch z), "bool", .base (.bl b), by decide +kernel⟩
    | int i => exact .inr ⟨(fun x z => nomatch z), (fun x z => nomatch z), "int", .base (.int i), by decide +kernel⟩
    | str x => exact .inl ⟨x, rfl, rfl⟩
    | lst hs _ =>
      refine .inr ⟨(fun x z => nomatch z), (fun x z => nomatch z), "list", ?_, by decide +kernel⟩
      rcases hs with (h | ⟨o, h⟩) | ⟨o, its, n, h1, h2, _⟩
      · exact .base (.lst h)
      · exact .base (.frz h)
      · exact .kList h1 h2
    | tup hs _ =>
      refine .inr ⟨(fun x z => nomatch z), (fun x z => nomatch z), "tuple", ?_, by decide +kernel⟩
      rcases hs with (h | ⟨o, h⟩) | ⟨o, its, n, h1, h2, _⟩
      · exact .base (.tup h)
      · exact .fTuple h
      · exact .kTuple h1 h2
end
theorem S_of (x : Str) : S x.cps.toList = x := by
  obtain ⟨a⟩ := x
  show (⟨a.toList.toArray⟩ : Str) = ⟨a⟩
  simp
/-! ### one object written, the tables perhaps grown -/
def ButN (a : Addr) (H H' : Hp) : Prop := ∀ b o, b ≠ a → (∀ ps, o ≠ .tbl ps) → H b = some o → H' b = some o
section
variable {a p : Addr} {H H1 H2 : Hp} {o : HO}
theorem ButN.refl (a : Addr) (H : Hp) : ButN a H H := fun _ _ _ _ e => e
theorem ButN.trans (x : ButN a H H1) (y : ButN a H1 H2) : ButN a H H2 := fun b u n t e => y b u n t (x b u n t e)
theorem ButN.of (x : But a H H1) : ButN a H H1 := fun b u n _ e => x b u n e
theorem ButN.ofE (x : ExtN H H1) : ButN a H H1 := fun b u _ t e => x b u e t
theorem ButN.ofS (x : Same H H1) : ButN a H H1 := fun b u _ _ e => x b u e
theorem ButN.ext (x : ButN a H H1) (h : H a = none) : ExtN H H1 := fun b u e t => x b u (ne_of_none e h) t e
theorem ButN.putn (x : ButN a H H1) (h : H p = none) : ButN a H (upd H1 p o) := fun b u n t e => by rw [upd_ne (ne_of_none e h)]; exact x b u n t e
theorem tabs_but {T : List (Addr × Str)} {xs : List V} (t : Tabs T H) (h : H a = some (.lst xs)) (x : But a H H1) : Tabs T H1 := fun q hq => by
  obtain ⟨ps, h1, h2, h3⟩ := t q hq
  refine ⟨ps, x _ _ (ne_of h1 h (by intro z; cases z)) h1, h2, fun pos cv hc => ?_⟩
  obtain ⟨c, e1, e2⟩ := h3 pos cv hc
  exact ⟨c, e1, x _ _ (ne_of e2 h (by intro z; cases z)) e2⟩
end
end WR
namespace WR
open PySem PySem.Spec PyProof.Rows L2 LamX
/-! ### displays of data -/
structure FineD (d : PyData) : Prop where
  sh : d.showable = true
  dp : d.depth ≤ 40
  sz : d.shown.length ≤ sizeLine
  tx : ∀ x, d = .str x → x.cps.toList.length ≤ 100000
def fineB (d : PyData) : Bool := d.showable && (decide (d.depth ≤ 40) && (decide (d.shown.length ≤ 1000) && (match d with
  | .str x => decide (x.cps.toList.length ≤ 1000)
  | _ => true)))
theorem fine_of {d : PyData} (h : fineB d = true) : FineD d := by
  obtain ⟨h1, h⟩ := He.ba h
  obtain ⟨h2, h⟩ := He.ba h
  obtain ⟨h3, h4⟩ := He.ba h
  refine ⟨h1, of_decide_eq_true h2, Nat.le_trans (of_decide_eq_true h3) (by rw [sizeLine_eq]; decide), fun x e => ?_⟩
  subst e
  exact Nat.le_trans (of_decide_eq_true h4) (by decide)
section
variable {K : PySem.W.Frag} {σ : L2.St}
/-- all of these are data -/
def Acc (K : PySem.W.Frag) (H : Hp) (xs : List V) : Prop := ∀ x ∈ xs, ∃ d, Da K H x d ∧ FineD d
theorem Acc.nil {H : Hp} : Acc K H [] := fun x h => nomatch h
theorem Acc.ext {H H2 : Hp} {xs : List V} (h : Acc K H xs) (e : ExtN H H2) : Acc K H2 xs := fun x hx => by
  obtain ⟨d, h1, h2⟩ := h x hx
  exact ⟨d, h1.ext e, h2⟩
theorem Acc.cons {H : Hp} {xs : List V} {v : V} {d : PyData} (h : Acc K H xs) (hd : Da K H v d) (f : FineD d) : Acc K H (v :: xs) := fun x hx => by
  rcases List.mem_cons.mp hx with z | z
  · rw [z]; exact ⟨d, hd, f⟩
  · exact h x z
theorem Acc.app {H : Hp} {xs ys : List V} (h : Acc K H xs) (g : Acc K H ys) : Acc K H (xs ++ ys) := fun x hx => by
  rcases List.mem_append.mp hx with z | z
  · exact h x z
  · exact g x z
/-- what is new since H0 -/
def NP (H0 H : Hp) : Hp := fun b => if (H0 b).isNone then H b else none
theorem NP.at_ {H0 H : Hp} {b : Addr} {o : HO} (n : H0 b = none) (h : H b = some o) : NP H0 H b = some o := by unfold NP; rw [n]; exact h
theorem NP.of {H0 H : Hp} {b : Addr} {o : HO} (h : NP H0 H b = some o) : H0 b = none ∧ H b = some o := by
  unfold NP at h
  cases q : H0 b with
  | none => rw [q] at h; exact ⟨rfl, h⟩
  | some u => rw [q] at h; cases h
theorem NP.ext {H0 H1 H2 : Hp} (s : Same H1 H2) : ExtN (NP H0 H1) (NP H0 H2) := fun b o h _ => NP.at_ (NP.of h).1 (s _ _ (NP.of h).2)
theorem NP.down {H0 H1 H2 : Hp} (s : Same H0 H1) : ExtN (NP H1 H2) (NP H0 H2) := fun b o h _ => NP.at_ (s.free (NP.of h).1) (NP.of h).2
theorem NP.all {H0 H1 : Hp} : ExtN (NP H0 H1) H1 := fun b o h _ => (NP.of h).2
theorem NP.but {H0 H1 H2 : Hp} {a : Addr} (n : H0 a ≠ none) (s : But a H1 H2) : ExtN (NP H0 H1) H2 := fun b o h _ => s b o (fun z => n (by rw [← z]; exact (NP.of h).1)) (NP.of h).2
def EvP (K : PySem.W.Frag) (σ : L2.St) (te : TE) (d : PyData) : Prop := ∀ (H : Hp) (Q : VK), (∀ v H2, Same H H2 → Dp K (NP H H2) v d → Q v H2) → te σ H Q
def EvD (K : PySem.W.Frag) (σ : L2.St) (te : TE) (d : PyData) : Prop := ∀ (H : Hp) (Q : VK), (∀ v H2, Same H H2 → Da K (NP H H2) v d → Q v H2) → te σ H Q
def EvPs (K : PySem.W.Frag) (σ : L2.St) (n : Nat) (ta : TA) (ds : List PyData) : Prop := ∀ (H : Hp) (Q : List V → Hp → Prop), (∀ vs H2, Same H H2 → DpAll K (NP H H2) vs ds → vs.length = n → Q vs H2) → ta σ H Q
def EvL (K : PySem.W.Frag) (σ : L2.St) (n : Nat) (ta : TA) : Prop := ∀ (H : Hp) (Q : List V → Hp → Prop), (∀ vs H2, Same H H2 → Acc K (NP H H2) vs → vs.length = n → Q vs H2) → ta σ H Q
theorem ev_non : EvP K σ (tC .non) .none := fun H Q h => h _ _ (Same.refl _) .non
theorem ev_bl {b : Bool} : EvP K σ (tC (.bl b)) (.bool b) := fun H Q h => h _ _ (Same.refl _) (.bl b)
theorem ev_int {i : Int} : EvP K σ (tC (.int i)) (.int i) := fun H Q h => h _ _ (Same.refl _) (.int i)
theorem ev_str {s : Str} : EvP K σ (tC (.str s)) (.str s) := fun H Q h => h _ _ (Same.refl _) (.str s)
theorem ev_neg {i : Int} : EvP K σ (tUn (rU fun i => .int (-i)) (tC (.int i))) (.int (-i)) := fun H Q h => ⟨i, rfl, h _ _ (Same.refl _) (.int _)⟩
theorem ev_sub {i j : Int} : EvP K σ (tOp (rI0 fun i j => .int (i - j)) (tC (.int i)) (tC (.int j))) (.int (i - j)) := fun H Q h => ⟨i, j, rfl, rfl, h _ _ (Same.refl _) (.int _)⟩
theorem ev_pow {i j : Int} (c : CPowW i j) : EvP K σ (tOp (rI CPowW fun i j => .int (i ^ j.toNat)) (tC (.int i)) (tC (.int j))) (.int (i ^ j.toNat)) := fun H Q h => ⟨i, j, rfl, rfl, c, h _ _ (Same.refl _) (.int _)⟩
theorem evs_nil : EvPs K σ 0 tNil [] := fun H Q h => h _ _ (Same.refl _) .nil rfl
theorem evs_cons {n : Nat} {te : TE} {ta : TA} {d : PyData} {ds : List PyData} (h1 : EvP K σ te d) (h2 : EvPs K σ n ta ds) : EvPs K σ (n + 1) (tCons te ta) (d :: ds) := fun H Q h =>
  h1 H _ fun v H1 s1 p1 => h2 H1 _ fun vs H2 s2 p2 l => h _ _ (s1.trans s2) (.cons (Dp.ext d v (NP.ext s2) p1) (Dp.extAll ds vs (NP.down s1) p2)) (by rw [List.length_cons, l])
theorem ev_tup {n : Nat} {ta : TA} {ds : List PyData} (h : EvPs K σ n ta ds) (hn : n ≤ 1000) : EvP K σ (tTup ta) (.tuple ds) := fun H Q k =>
  h H _ fun vs H1 s1 p1 l => ⟨by rw [l, sizeLine_eq]; omega, fun p hp => k _ _ (s1.put (s1.free hp)) (.tup (SqT.of (NP.at_ (s1.free hp) upd_same)) (Dp.extAll ds vs (NP.ext (Same.new hp)) p1))⟩
theorem ev_lst {n : Nat} {ta : TA} {ds : List PyData} (h : EvPs K σ n ta ds) (hn : n ≤ 1000) : EvP K σ (tLst ta) (.list ds) := fun H Q k =>
  h H _ fun vs H1 s1 p1 l => ⟨by rw [l, sizeLine_eq]; omega, fun p hp => k _ _ (s1.put (s1.free hp)) (.lst (SqL.of (NP.at_ (s1.free hp) upd_same)) (Dp.extAll ds vs (NP.ext (Same.new hp)) p1))⟩
theorem ev_dnew : EvD K σ tDNewK (.dict []) := fun H Q k p hp => k _ _ (Same.new hp) (.dct (NP.at_ hp upd_same) .nil)
theorem ev_d1 {x : Str} {i : Int} : EvD K σ (tDisp [(tC (.str x), tC (.int i))]) (.dict [(.str x, .int i)]) := fun H Q k p hp => by
  refine ⟨upd_same, [(.inr x, .int i)], rfl, (by show 1 ≤ 15; decide), ?_⟩
  exact k _ _ (Same.put (Same.new hp) hp) (.dct (NP.at_ hp upd_same) (.cons (.int i) .nil))
theorem evl_nil : EvL K σ 0 tNil := fun H Q h => h _ _ (Same.refl _) Acc.nil rfl
theorem evl_d {n : Nat} {te : TE} {ta : TA} {d : PyData} (h1 : EvD K σ te d) (f : FineD d) (h2 : EvL K σ n ta) : EvL K σ (n + 1) (tCons te ta) := fun H Q h =>
  h1 H _ fun v H1 s1 p1 => h2 H1 _ fun vs H2 s2 p2 l => h _ _ (s1.trans s2) (Acc.cons (Acc.ext p2 (NP.down s1)) (p1.ext (NP.ext s2)) f) (by rw [List.length_cons, l])
theorem evl_p {n : Nat} {te : TE} {ta : TA} {d : PyData} (h1 : EvP K σ te d) (f : FineD d) (h2 : EvL K σ n ta) : EvL K σ (n + 1) (tCons te ta) :=
  evl_d (fun H Q h => h1 H Q fun v H2 s p => h v H2 s (.of p)) f h2
end
end WR
namespace WR
open PySem PySem.Spec PyProof.Rows L2 LamX
theorem evl_lst {K : PySem.W.Frag} {σ : L2.St} {n : Nat} {ta : TA} {H : Hp} {Q : VK} (h : EvL K σ n ta) (hn : n ≤ 1000) (k : ∀ xs H1, Same H H1 → Acc K (NP H H1) xs → xs.length = n → ∀ p, H1 p = none → Q (.ref p) (upd H1 p (.lst xs))) : tLst ta σ H Q :=
  h H _ fun xs H1 s a l => ⟨by rw [l, sizeLine_eq]; omega, fun p hp => k xs H1 s a l p hp⟩
end WR
namespace WR
open PySem PySem.Spec PyProof.Rows L2 LamX
theorem seq_asg {te : TE} {tg : TG} {ts : TS} {D : Ends} {σ : L2.St} {H : Hp} : tSeq (tAsg te tg) ts D σ H = te σ H fun v H1 => tg v σ H1 (ts D) := rfl
end WR
namespace WR
open PySem PySem.Spec PyProof.Rows L2 LamX
section
variable {K : PySem.W.Frag} {σ : L2.St}
/-- short texts of signs -/
def Sm (l : List Nat) : Prop := l.length ≤ 1000 ∧ ∀ c ∈ l, c < 1114112
theorem fineS {l : List Nat} (h : Sm l) : FineD (.str (S l)) := by
  refine ⟨rfl, by show 0 ≤ 40; decide, ?_, fun x e => ?_⟩
  · have := StrLaws.reprText_len (S l) (fun c hc => by
      rw [S_cps] at hc
      have := h.2 c hc
      have : (1114112 : Nat) ≤ 16 ^ 8 := by decide
      omega)
    rw [S_len l] at this
    have h1 := h.1
    show (reprText (S l)).length ≤ _
    rw [sizeLine_eq]
    omega
  · cases e
    rw [S_cps]
    have := h.1
    omega
theorem evl_s {n : Nat} {te : TE} {ta : TA} {l : List Nat} (h1 : ∀ (H : Hp) (Q : VK), Q (.str (S l)) H → te σ H Q) (f : Sm l) (h2 : EvL K σ n ta) : EvL K σ (n + 1) (tCons te ta) :=
  evl_p (fun H Q h => h1 H Q (h _ _ (Same.refl _) (.str _))) (fineS f) h2
theorem ev_s {te : TE} {l : List Nat} (h1 : ∀ (H : Hp) (Q : VK), Q (.str (S l)) H → te σ H Q) : EvP K σ te (.str (S l)) := fun H Q h => h1 H Q (h _ _ (Same.refl _) (.str _))
theorem Sm.app {a b : List Nat} (h1 : Sm a) (h2 : Sm b) (h : a.length + b.length ≤ 1000) : Sm (a ++ b) := ⟨by rw [List.length_append]; exact h, fun c hc => by
  rcases List.mem_append.mp hc with z | z
  · exact h1.2 c z
  · exact h2.2 c z⟩
theorem Sm.take {a : List Nat} (h : Sm a) (n : Nat) : Sm (a.take n) := ⟨by have := h.1; rw [List.length_take]; omega, fun c hc => h.2 c (List.mem_of_mem_take hc)⟩
theorem Sm.drop {a : List Nat} (h : Sm a) (n : Nat) : Sm (a.drop n) := ⟨by have := h.1; rw [List.length_drop]; omega, fun c hc => h.2 c (List.mem_of_mem_drop hc)⟩
theorem Sm.rep {c n : Nat} (h : c < 1114112) (hn : n ≤ 1000) : Sm (List.replicate n [c]).flatten := by
  have e : (List.replicate n [c]).flatten = List.replicate n c := by
    induction n with
    | zero => rfl
    | succ n ih => rw [List.replicate_succ, List.flatten_cons, ih (by omega), List.replicate_succ]; rfl
  rw [e]
  exact ⟨by rw [List.length_replicate]; exact hn, fun d hd => by rw [List.eq_of_mem_replicate hd]; exact h⟩
theorem fine_l1 {l : List Nat} (h : Sm l) : FineD (.list [.str (S l)]) ∧ FineD (.tuple [.str (S l)]) := by
  have f := fineS h
  have h1 := StrLaws.reprText_len (S l) (fun c hc => by
      rw [S_cps] at hc
      have := h.2 c hc
      have : (1114112 : Nat) ≤ 16 ^ 8 := by decide
      omega)
  rw [S_len l] at h1
  have h2 := h.1
  refine ⟨⟨rfl, ?_, ?_, fun x e => by cases e⟩, ⟨rfl, ?_, ?_, fun x e => by cases e⟩⟩
  · exact of_decide_eq_true rfl
  · show ((("[" : Str) ++ reprText (S l)) ++ ("]" : Str)).length ≤ _
    rw [strLen_append, strLen_append, sizeLine_eq]
    have e1 : (("[" : String) : Str).length = 1 := rfl
    have e2 : (("]" : String) : Str).length = 1 := rfl
    omega
  · exact of_decide_eq_true rfl
  · show (("(" : Str) ++ Str.join ", " [reprText (S l)] ++ (if [reprText (S l)].length == 1 then ",)" else ")" : String)).length ≤ _
    rw [strLen_append, strLen_append, sizeLine_eq]
    have e1 : (("(" : String) : Str).length = 1 := rfl
    have e2 : ((if [reprText (S l)].length == 1 then ",)" else ")" : String) : Str).length = 2 := rfl
    have e3 := join_length_add [reprText (S l)] (by simp)
    simp only [piled_cons, piled_nil] at e3
    omega
end
end WR

namespace WR
open PySem PySem.Spec PyProof.Rows L2 LamX
/-- upper of cells -/
theorem upper_cells {l : List Nat} (h : WM.Cells l) : Txt.upper (S l) = S (l.map fun c => if 97 ≤ c then c - 32 else c) := by
  have e : ∀ c, WM.IsCell c → Unicode.upperOf c = [if 97 ≤ c then c - 32 else c] := by
    intro c hc
    unfold WM.IsCell at hc
    have : c = 48 ∨ c = 49 ∨ c = 50 ∨ c = 51 ∨ c = 52 ∨ c = 53 ∨ c = 54 ∨ c = 55 ∨ c = 56 ∨ c = 57 ∨ c = 97 ∨ c = 98 ∨ c = 99 ∨ c = 100 ∨ c = 101 ∨ c = 102 := by omega
    rcases this with rfl | rfl | rfl | rfl | rfl | rfl | rfl | rfl | rfl | rfl | rfl | rfl | rfl | rfl | rfl | rfl <;> decide +kernel
  show (⟨((S l).cps.mapIdx fun _ c => (Unicode.upperOf c).toArray).flatten⟩ : Str) = _
  have e2 : ((S l).cps.mapIdx fun _ c => (Unicode.upperOf c).toArray) = (l.map fun c => #[if 97 ≤ c then c - 32 else c]).toArray := by
    apply Array.ext'
    simp only [Array.toList_mapIdx, SX.S]
    rw [List.mapIdx_eq_zipIdx_map]
    apply List.ext_getElem (by simp)
    intro i h1 h2
    simp only [List.getElem_map, List.getElem_zipIdx]
    have hi : i < l.length := by simpa using h2
    rw [e _ (h _ (List.getElem_mem hi))]
  rw [e2]
  congr 1
  apply Array.ext'
  simp [SX.S]
  clear e2 h
  induction l with
  | nil => rfl
  | cons c l ih => rw [List.map_cons, List.flatten_cons, ih, List.map_cons]; rfl
end WR
namespace WR
open PySem PySem.Spec PyProof.Rows L2 LamX
theorem gname_eq {i : Nat} {v : V} {σ : L2.St} {H : Hp} {N : L2.St → Hp → Prop} : gName i v σ H N = N (σ.set i (some v)) H := rfl
theorem drop_eq {te : TE} {ts : TS} {D : Ends} {σ : L2.St} {H : Hp} : tSeq (tDrop te) ts D σ H = te σ H fun _ H1 => ts D σ H1 := rfl
end WR
namespace WR
open PySem PySem.Spec PyProof.Rows L2 LamX
/-! ### methods and properties of an own class -/
abbrev FDm (K : PySem.W.Frag) (m qual : Str) (st : Stmt) (f : Addr) (fd : FuncData) : Prop := FunD K m qual (defArgs st) (defBody st) (defScope st) [] [] f fd
structure Mf (CX : CXT) (P : Program) (w : World) (K : PySem.W.Frag) (mg : Str → Option Value) (base : Heap) (k : Nat) (C : Addr) (m : Str) (ps : List Str) (sp : Sp) : Prop where
  ex : ∃ (f : Addr) (fd : FuncData), Meth K C m f ∧ FnOk P w K mg base CX k f fd ps sp ∧ Binds K fd ps []
structure Pf (P : Program) (w : World) (K : PySem.W.Frag) (mg : Str → Option Value) (base : Heap) (k : Nat) (C : Addr) (m : Str) (sp : Sp) : Prop where
  ex : ∃ (p f : Addr) (fd : FuncData), PropOf K C m p f ∧ FnOk P w K mg base CX0 k f fd ["self"] sp ∧ Binds K fd ["self"] []
section
variable {CX : CXT} {P : Program} {w : World} {K : PySem.W.Frag} {mg : Str → Option Value} {base : Heap}
theorem fm_of {m qual : Str} {st : Stmt} {f : Addr} {fd : FuncData} {N ps : List Str} {k : Nat} {sp : Sp} (F : FDm K m qual st f fd) (S : FnScope N ps (defScope st)) (len : ∀ vs H Q E, sp vs H Q E → vs.length = ps.length)
    (b1 : ∀ (kV dc pm : Value) (an : Option Addr) (cdv ct : Value) (us : List Value), us.length = ps.length → bindArgs (PySem.W.fnOf m qual (defArgs st) (defBody st) (defScope st) .none kV dc pm an cdv ct) ⟨us, []⟩ = pure (ps.zip us))
    (hb : ∀ (cdv : Value) (A : Around) (outer : List Env) (s : Shared) (H : Hp) (vs : List V) (Q : VK) (E : XK), Room k (A.deeper (envOfC qual (defScope st) s.heap.objs.size f cdv)) → sp vs H Q E →
      ∃ t, PSs (cxOf CX P w K mg base N qual (defScope st) f cdv A outer s H E) (defBody st) t ∧ t { nx := fun _ H' => Q .non H', rt := Q } (start N vs) H) : FnOk P w K mg base CX (k + 1) f fd ps sp ∧ Binds K fd ps [] :=
  ⟨F.ok S len hb, F.bindsN b1⟩
theorem mf_of {C : Addr} {m qual : Str} {st : Stmt} {f : Addr} {fd : FuncData} {N ps : List Str} {k : Nat} {sp : Sp} (F : FDm K m qual st f fd) (hm : Meth K C m f) (S : FnScope N ps (defScope st)) (len : ∀ vs H Q E, sp vs H Q E → vs.length = ps.length)
    (b1 : ∀ (kV dc pm : Value) (an : Option Addr) (cdv ct : Value) (us : List Value), us.length = ps.length → bindArgs (PySem.W.fnOf m qual (defArgs st) (defBody st) (defScope st) .none kV dc pm an cdv ct) ⟨us, []⟩ = pure (ps.zip us))
    (hb : ∀ (cdv : Value) (A : Around) (outer : List Env) (s : Shared) (H : Hp) (vs : List V) (Q : VK) (E : XK), Room k (A.deeper (envOfC qual (defScope st) s.heap.objs.size f cdv)) → sp vs H Q E →
      ∃ t, PSs (cxOf CX P w K mg base N qual (defScope st) f cdv A outer s H E) (defBody st) t ∧ t { nx := fun _ H' => Q .non H', rt := Q } (start N vs) H) : Mf CX P w K mg base (k + 1) C m ps sp := by
  obtain ⟨a, b⟩ := fm_of F S len b1 hb
  exact ⟨f, fd, hm, a, b⟩
/-- one that raises nothing here -/
theorem mf_of0 {C : Addr} {m qual : Str} {st : Stmt} {f : Addr} {fd : FuncData} {N ps : List Str} {k : Nat} {sp : Sp} (F : FDm K m qual st f fd) (hm : Meth K C m f) (S : FnScope N ps (defScope st)) (len : ∀ vs H Q E, sp vs H Q E → vs.length = ps.length)
    (b1 : ∀ (kV dc pm : Value) (an : Option Addr) (cdv ct : Value) (us : List Value), us.length = ps.length → bindArgs (PySem.W.fnOf m qual (defArgs st) (defBody st) (defScope st) .none kV dc pm an cdv ct) ⟨us, []⟩ = pure (ps.zip us))
    (hb : ∀ (cdv : Value) (A : Around) (outer : List Env) (s : Shared) (H : Hp) (vs : List V) (Q : VK) (E : XK), Room k (A.deeper (envOfC qual (defScope st) s.heap.objs.size f cdv)) → sp vs H Q E →
      ∃ t, PSs (cxOf CX0 P w K mg base N qual (defScope st) f cdv A outer s H E).nox (defBody st) t ∧ t { nx := fun _ H' => Q .non H', rt := Q } (start N vs) H) : Mf CX0 P w K mg base (k + 1) C m ps sp :=
  mf_of F hm S len b1 fun cdv A outer s H vs Q E hr h => by
    obtain ⟨t, h1, h2⟩ := hb cdv A outer s H vs Q E hr h
    exact ⟨t, h1.nox, h2⟩
theorem pf_of {C p : Addr} {m qual : Str} {st : Stmt} {f : Addr} {fd : FuncData} {N : List Str} {k : Nat} {sp : Sp} (F : FDm K m qual st f fd) (hp : PropOf K C m p f) (S : FnScope N ["self"] (defScope st)) (len : ∀ vs H Q E, sp vs H Q E → vs.length = (["self"] : List Str).length)
    (b1 : ∀ (kV dc pm : Value) (an : Option Addr) (cdv ct : Value) (us : List Value), us.length = (["self"] : List Str).length → bindArgs (PySem.W.fnOf m qual (defArgs st) (defBody st) (defScope st) .none kV dc pm an cdv ct) ⟨us, []⟩ = pure ((["self"] : List Str).zip us))
    (hb : ∀ (cdv : Value) (A : Around) (outer : List Env) (s : Shared) (H : Hp) (vs : List V) (Q : VK) (E : XK), Room k (A.deeper (envOfC qual (defScope st) s.heap.objs.size f cdv)) → sp vs H Q E →
      ∃ t, PSs (cxOf CX0 P w K mg base N qual (defScope st) f cdv A outer s H E).nox (defBody st) t ∧ t { nx := fun _ H' => Q .non H', rt := Q } (start N vs) H) : Pf P w K mg base (k + 1) C m sp := by
  obtain ⟨a, b⟩ := fm_of (CX := CX0) F S len b1 fun cdv A outer s H vs Q E hr h => by
    obtain ⟨t, h1, h2⟩ := hb cdv A outer s H vs Q E hr h
    exact ⟨t, h1.nox, h2⟩
  exact ⟨p, f, fd, hp, a, b⟩
end
/-- o.m(e, ..): the object stands there and has no attribute of that name; the method's promise -/
def tMw (C : Addr) (m : Str) (sp : Sp) (W : WX) (ta : TE) (t : TA) : TE := fun σ H Q => ta σ H fun x H1 => ∃ a dx fs, x = .ref a ∧ H1 a = some (.ins C dx fs) ∧ fs.lookup m = none ∧ t σ H1 fun vs H2 => sp (x :: vs) H2 Q fun cls d H3 => W cls d σ H3
def tM (C : Addr) (m : Str) (sp : Sp) (ta : TE) (t : TA) : TE := fun σ H Q => ta σ H fun x H1 => ∃ a dx fs, x = .ref a ∧ H1 a = some (.ins C dx fs) ∧ fs.lookup m = none ∧ t σ H1 fun vs H2 => sp (x :: vs) H2 Q E0
def tP (C : Addr) (sp : Sp) (ta : TE) : TE := fun σ H Q => ta σ H fun x H1 => ∃ a dx fs, x = .ref a ∧ H1 a = some (.ins C dx fs) ∧ sp [.ref a] H1 Q E0
section
variable {X : Cx} {C : Addr} {m : Str} {ps : List Str} {k j : Nat} {sp : Sp} {apos pos : Pos} {o e : Expr} {es : List Expr} {t : TA} {ta : TE}
theorem pe_m {pl : Sem Bool} (M : Mf CX0 X.prog X.w X.K X.mg X.base k C m ps sp) (he : PE X o ta) (c : Cls X.K C) (hr : Room j X.A) (hk : k ≤ j) (ha : PA X (e :: es) t)
    (hst : starEach (e :: es) X.env = (false, eval e X.env) :: starEach es X.env := by rfl) (hpl : (backTo pos (starEach es X.env)).any (·.1) = false := by rfl)
    (ht : eval (.Call (.Attribute o m apos) (e :: es) [] pos) X.env = (do
      let ov ← eval o X.env
      standAt apos.atName
      let (f, first) ← holding [ov] (getMethod ov m pl)
      callWith pos f first (backTo pos (starEach (e :: es) X.env)) (backToKw pos (keywordEach [] X.env))) := by rfl) :
    PE X (.Call (.Attribute o m apos) (e :: es) [] pos) (tM C m sp ta t) := by
  obtain ⟨f, fd, hm, F, hb⟩ := M.ex
  refine ⟨fun pins s σ H Q I h => ?_⟩
  refine (pe_meth he c hm F (hr.mono hk) hb .nil pass0 ha hst hpl ht).run pins s σ H Q I ?_
  show ta σ H _
  simp only [List.append_nil]
  exact h
theorem pe_m0 {pl : Sem Bool} (M : Mf CX0 X.prog X.w X.K X.mg X.base k C m ps sp) (he : PE X o ta) (c : Cls X.K C) (hr : Room j X.A) (hk : k ≤ j)
    (ht : eval (.Call (.Attribute o m apos) [] [] pos) X.env = (do
      let ov ← eval o X.env
      standAt apos.atName
      let (f, first) ← holding [ov] (getMethod ov m pl)
      callWith pos f first (backTo pos (starEach [] X.env)) (backToKw pos (keywordEach [] X.env))) := by rfl) :
    PE X (.Call (.Attribute o m apos) [] [] pos) (tM C m sp ta tNil) := by
  obtain ⟨f, fd, hm, F, hb⟩ := M.ex
  refine ⟨fun pins s σ H Q I h => ?_⟩
  refine (pe_meth0 he c hm F (hr.mono hk) hb .nil pass0 ht).run pins s σ H Q I ?_
  show ta σ H _
  simp only [List.append_nil]
  exact h
theorem pe_mR {W : WX} {pl : Sem Bool} (M : Mf (CXr X.prog X.w) X.prog X.w X.K X.mg X.base k C m ps sp) (he : PE X o ta) (c : Cls X.K C) (hr : Room j X.A) (hk : k ≤ j) (tk : Takes X W) (ha : PA X (e :: es) t)
    (hst : starEach (e :: es) X.env = (false, eval e X.env) :: starEach es X.env := by rfl) (hpl : (backTo pos (starEach es X.env)).any (·.1) = false := by rfl)
    (ht : eval (.Call (.Attribute o m apos) (e :: es) [] pos) X.env = (do
      let ov ← eval o X.env
      standAt apos.atName
      let (f, first) ← holding [ov] (getMethod ov m pl)
      callWith pos f first (backTo pos (starEach (e :: es) X.env)) (backToKw pos (keywordEach [] X.env))) := by rfl) :
    PE X (.Call (.Attribute o m apos) (e :: es) [] pos) (tMw C m sp W ta t) := by
  obtain ⟨f, fd, hm, F, hb⟩ := M.ex
  refine ⟨fun pins s σ H Q I h => ?_⟩
  refine PySem.W.methodCall_KW (pl := pl) (thn (he.run pins s σ H _ I h) fun u s1 ⟨x, H1, I1, rx, a, dx, fs, ex, ea, l, q⟩ => ?_) ht
  subst ex
  obtain rfl : u = Value.ref a := rx
  refine getmeth_ok I1 ea c hm l ?_
  refine PySem.W.callWith_K (first := [.ref a]) (h₀ := X.base) I.ok.mod.kin hm.kp (thn (ha.run pos pins s1 σ H1 _ I1 q) fun us s2 ⟨vs, H2, I2, r, q2⟩ => ⟨I2.kIn, ?_⟩) hst hpl
  exact run_fnS (us := .ref a :: us) (vs := .ref a :: vs) F (hr.mono hk) hb (passAt tk σ) I2 (.cons rfl r) q2
theorem pe_mR0 {W : WX} {pl : Sem Bool} (M : Mf (CXr X.prog X.w) X.prog X.w X.K X.mg X.base k C m ps sp) (he : PE X o ta) (c : Cls X.K C) (hr : Room j X.A) (hk : k ≤ j) (tk : Takes X W)
    (ht : eval (.Call (.Attribute o m apos) [] [] pos) X.env = (do
      let ov ← eval o X.env
      standAt apos.atName
      let (f, first) ← holding [ov] (getMethod ov m pl)
      callWith pos f first (backTo pos (starEach [] X.env)) (backToKw pos (keywordEach [] X.env))) := by rfl) :
    PE X (.Call (.Attribute o m apos) [] [] pos) (tMw C m sp W ta tNil) := by
  obtain ⟨f, fd, hm, F, hb⟩ := M.ex
  refine ⟨fun pins s σ H Q I h => ?_⟩
  refine PySem.W.methodCall_KW (pl := pl) (thn (he.run pins s σ H _ I h) fun u s1 ⟨x, H1, I1, rx, a, dx, fs, ex, ea, l, q⟩ => ?_) ht
  subst ex
  obtain rfl : u = Value.ref a := rx
  refine getmeth_ok I1 ea c hm l ?_
  exact PySem.W.callWith_K0 (first := [.ref a]) I1.kIn hm.kp (run_fnS (us := [.ref a]) (vs := [.ref a]) F (hr.mono hk) hb (passAt tk σ) I1 (.cons rfl .nil) q)
theorem pe_p {f : Str} (M : Pf X.prog X.w X.K X.mg X.base k C f sp) (he : PE X e ta) (c : Cls X.K C) (hr : Room j X.A) (hk : k + 1 ≤ j) (hab : attributeBase e f X.env (eval e X.env) = eval e X.env := by rfl) : PE X (.Attribute e f pos) (tP C sp ta) := by
  obtain ⟨p, g, fd, hp, F, hb⟩ := M.ex
  exact pe_prop he c hp F (hr.mono hk) hb .nil pass0 hab
end
end WR
namespace WR
open PySem PySem.Spec PyProof.Rows L2 LamX
/-! ### properties at the head: the getter's text and facts -/
structure GetD where
  cls : Str
  prop : Str
  name : Str
  qual : Str
  params : Arguments
  body : List Stmt
  scope : Scope
def getA (K : PySem.W.Frag) (C : Addr) (m : Str) : Addr := match PySem.W.recIn K (He.ma K C m) "property" with
  | some (.ref g :: _) => g
  | _ => 0
def fnTx (K : PySem.W.Frag) (a : Addr) : He.FnW := match K.lookup a with
  | some o => (match o.data with
    | .func fd => some (fd.name, fd.qualname, fd.params, fd.body, fd.scope, fd.globals, fd.closure, fd.builtins)
    | _ => none)
  | none => none
def GetD.val (d : GetD) : He.FnW := some (d.name, d.qual, d.params, .stmts d.body, d.scope, mainGlobals, [], builtinsNs)
def GetD.at_ (K : PySem.W.Frag) (d : GetD) : Addr := getA K (He.ga K d.cls) d.prop
def fnFine (K : PySem.W.Frag) (a : Addr) (q : Str) : Bool := PySem.W.keepIn K (.ref a) && (match K.lookup a with
  | some o => (match o.data with
    | .func fd => PySem.W.codeIn K fd.code q && (He.dflB K fd.defaults [] && He.kwdB K fd.kwdefaults [])
    | _ => false)
  | none => false)
def GetD.ok (K : PySem.W.Frag) (d : GetD) : Bool :=
  (He.eqO (PySem.W.findIn K (.ref (He.ga K d.cls)) d.prop) (some (some (.ref (He.ma K (He.ga K d.cls) d.prop)))) && (He.eqO (PySem.W.specialIn K (.ref (He.ma K (He.ga K d.cls) d.prop)) "__get__") (some (some (.builtin "property.__get__"))) &&
    decide (PySem.W.takesIn K (.ref (He.ma K (He.ga K d.cls) d.prop)) = some true))) && ((match PySem.W.recIn K (He.ma K (He.ga K d.cls) d.prop) "property" with
    | some (.ref _ :: _) => true
    | _ => false) && fnFine K (d.at_ K) d.qual)
theorem fn_told {K : PySem.W.Frag} {a : Addr} {n q : Str} {ps : Arguments} {b : List Stmt} {sc : Scope} (e : fnTx K a = some (n, q, ps, .stmts b, sc, mainGlobals, [], builtinsNs)) (c : fnFine K a q = true) : ∃ fd, FunD K n q ps b sc [] [] a fd := by
  obtain ⟨kp, c2⟩ := He.ba c
  unfold fnTx at e
  cases lk : K.lookup a with
  | none => rw [lk] at e; cases e
  | some o =>
    rw [lk] at e c2
    obtain ⟨oc, od, dt, sl⟩ := o
    cases dt with
    | func fd =>
      obtain ⟨n1, n2, n3, n4, n5, n6, n7, n8, n9, n10, n11, n12, n13, n14, n15⟩ := fd
      simp only [Option.some.injEq, Prod.mk.injEq] at e
      obtain ⟨rfl, rfl, rfl, rfl, rfl, rfl, rfl, rfl⟩ := e
      obtain ⟨k1, k2⟩ := He.ba c2
      obtain ⟨k3, k4⟩ := He.ba k2
      exact ⟨_, ⟨oc, od, n8, n9, n10, n11, n12, n13, n14, sl, rfl, lk, k1, He.dflB_ok k3, He.kwdB_ok k4⟩, kp⟩
    | _ => cases e
theorem GetD.of {K : PySem.W.Frag} {d : GetD} (e : fnTx K (d.at_ K) = d.val) (c : d.ok K = true) : PropOf K (He.ga K d.cls) d.prop (He.ma K (He.ga K d.cls) d.prop) (d.at_ K) ∧ ∃ fd, FunD K d.name d.qual d.params d.body d.scope [] [] (d.at_ K) fd := by
  obtain ⟨c1, c2⟩ := He.ba c
  obtain ⟨c3, c4⟩ := He.ba c1
  obtain ⟨c5, c6⟩ := He.ba c4
  obtain ⟨c7, c8⟩ := He.ba c2
  refine ⟨⟨He.eqO_ok c3, He.eqO_ok c5, of_decide_eq_true c6, ?_⟩, fn_told e c8⟩
  unfold GetD.at_ getA
  split at c7
  · rename_i g rest h
    rw [h]
    exact ⟨rest, rfl⟩
  · cases c7
abbrev AlZ : Type := He.AlX × (Bool × List He.FnW)
def obsZ (n : Nat) (fa : List He.Fa) (fn : List He.DefD) (ts : List He.Tab) (tf : List He.Defn) (gs : List GetD) (ex : PySem.W.Frag → Bool) (g : Addr → Option Obj) : AlZ :=
  (He.obsX n fa fn ts tf ex g, gs.all (fun d => d.ok (He.frT g (He.asD g n))), gs.map fun d => fnTx (He.frT g (He.asD g n)) (d.at_ (He.frT g (He.asD g n))))
def valZ (fn : List He.DefD) (ts : List He.Tab) (gs : List GetD) (w : World) : AlZ := (He.valX fn ts w, true, gs.map GetD.val)
structure SaysZ (fa : List He.Fa) (fn : List He.DefD) (ts : List He.Tab) (tf : List He.Defn) (gs : List GetD) (ex : PySem.W.Frag → Bool) (w : World) (h : Heap) (K : PySem.W.Frag) : Prop where
  x : He.SaysX fa fn ts tf ex w h K
  g : ∀ d ∈ gs, d.ok K = true
  gt : gs.map (fun d => fnTx K (d.at_ K)) = gs.map GetD.val
theorem SaysZ.get {fa : List He.Fa} {fn : List He.DefD} {ts : List He.Tab} {tf : List He.Defn} {gs : List GetD} {ex : PySem.W.Frag → Bool} {w : World} {h : Heap} {K : PySem.W.Frag} (c : SaysZ fa fn ts tf gs ex w h K) (i : Nat) {d : GetD} (e : gs[i]? = some d) :
    PropOf K (He.ga K d.cls) d.prop (He.ma K (He.ga K d.cls) d.prop) (d.at_ K) ∧ ∃ fd, FunD K d.name d.qual d.params d.body d.scope [] [] (d.at_ K) fd := by
  refine GetD.of ?_ (c.g d (List.mem_of_getElem? e))
  have z := congrArg (fun l : List He.FnW => l[i]?) c.gt
  simp only [List.getElem?_map, e, Option.map_some, Option.some.injEq] at z
  exact z
theorem saysZ_of {n : Nat} {fa : List He.Fa} {fn : List He.DefD} {ts : List He.Tab} {tf : List He.Defn} {gs : List GetD} {ex : PySem.W.Frag → Bool} {w : World} {h : Heap} (e : obsZ n fa fn ts tf gs ex h.get? = valZ fn ts gs w) : SaysZ fa fn ts tf gs ex w h (He.frT h.get? (He.asD h.get? n)) :=
  ⟨He.saysX_of (congrArg (fun z : AlZ => z.1) e), List.all_eq_true.mp (congrArg (fun z : AlZ => z.2.1) e), congrArg (fun z : AlZ => z.2.2) e⟩
def hookZ (n : Nat) (fa : List He.Fa) (fn : List He.DefD) (ts : List He.Tab) (tf : List He.Defn) (gs : List GetD) (ex : PySem.W.Frag → Bool) : PySem.W.Hook where
  α := AlZ
  obs := fun s => obsZ n fa fn ts tf gs ex s.heap.get?
  val := fun w => valZ fn ts gs w
  says := fun w h => ∃ K : PySem.W.Frag, K.In h ∧ SaysZ fa fn ts tf gs ex w h K
  of := fun _ _ e => ⟨_, He.frT_in, saysZ_of e⟩
  keeps := fun _ _ _ ⟨K, hK, c⟩ k => ⟨K, PySem.W.Frag.In.keeps hK k, ⟨⟨c.x.t, c.x.more, c.x.hd, c.x.out, fun p hp => k _ _ (c.x.empty p hp)⟩, c.g, c.gt⟩⟩
theorem obsZ_eq {n : Nat} {fa : List He.Fa} {fn : List He.DefD} {ts : List He.Tab} {tf : List He.Defn} {gs : List GetD} {ex : PySem.W.Frag → Bool} {g : Addr → Option Obj} {s : Shared} (h : ∀ a, g a = s.heap.get? a) : obsZ n fa fn ts tf gs ex g = (hookZ n fa fn ts tf gs ex).obs s := by
  have e : g = s.heap.get? := funext h
  rw [e] <;> rfl
end WR
namespace WR
open PySem PySem.Spec PyProof.Rows L2 LamX
/-! ### an own class is called -/
structure Kf (P : Program) (w : World) (K : PySem.W.Frag) (mg : Str → Option Value) (base : Heap) (k : Nat) (x : Str) (C : Addr) (ps : List Str) (sp : Sp) : Prop where
  ex : ∃ (f : Addr) (fd : FuncData), Mk K C f ∧ FnOk P w K mg base CX0 k f fd ps sp ∧ Binds K fd ps [] ∧ mg x = some (.ref C)
/-- its __init__ has one default, which is never asked for -/
theorem kf_of1 {P : Program} {w : World} {K : PySem.W.Frag} {mg : Str → Option Value} {base : Heap} {x qual : Str} {C : Addr} {st : Stmt} {dv : V} {f : Addr} {fd : FuncData} {N ps : List Str} {k : Nat} {sp : Sp}
    (F : FunD K "__init__" qual (defArgs st) (defBody st) (defScope st) [dv] [] f fd) (hm : Mk K C f) (gx : mg x = some (.ref C)) (S : FnScope N ps (defScope st)) (len : ∀ vs H Q E, sp vs H Q E → vs.length = ps.length)
    (b1 : ∀ (T : Addr) (kV doc pm : Value) (an : Option Addr) (cdv ct : Value) (us its : List Value), us.length = ps.length → its.length = 1 →
      ∃ k, bindArgs (PySem.W.fnOf "__init__" qual (defArgs st) (defBody st) (defScope st) (.ref T) kV doc pm an cdv ct) ⟨us, []⟩ = seqItems? (.ref T) >>= k ∧ k (some its.toArray) = pure (ps.zip (us ++ its.drop 1)))
    (hb : ∀ (cdv : Value) (A : Around) (outer : List Env) (s : Shared) (H : Hp) (vs : List V) (Q : VK) (E : XK), Room k (A.deeper (envOfC qual (defScope st) s.heap.objs.size f cdv)) → sp vs H Q E →
      ∃ t, PSs (cxOf CX0 P w K mg base N qual (defScope st) f cdv A outer s H E).nox (defBody st) t ∧ t { nx := fun _ H' => Q .non H', rt := Q } (start N vs) H) : Kf P w K mg base (k + 1) x C ps sp := by
  have ok : FnOk P w K mg base CX0 (k + 1) f fd ps sp := F.ok S len fun cdv A outer s H vs Q E hr h => by
    obtain ⟨t, h1, h2⟩ := hb cdv A outer s H vs Q E hr h
    exact ⟨t, h1.nox, h2⟩
  obtain ⟨ds, r, b⟩ := F.binds1 (ps := ps) ps.length 1 (by intro z; cases z) (by show ps.length + (1 - 1) = ps.length; omega) fun T kV doc pm an cdv ct us its h1 h2 => b1 T kV doc pm an cdv ct us its h1 h2
  cases r
  exact ⟨f, fd, hm, ok, b, gx⟩
def tN (C : Addr) (sp : Sp) (t : TA) : TE := fun σ H Q => t σ H fun vs H1 => ∀ x dx, H1 x = none → H1 dx = none → dx ≠ x → sp (.ref x :: vs) (upd (upd H1 dx (.own x)) x (.ins C dx [])) (fun v H2 => v = .non ∧ Q (.ref x) H2) E0
section
variable {X : Cx} {C : Addr} {x : Str} {ps : List Str} {k j : Nat} {sp : Sp} {p pos : Pos} {e : Expr} {es : List Expr} {t : TA}
theorem pe_new (M : Kf X.prog X.w X.K X.mg X.base k x C ps sp) (hr : Room j X.A) (hk : k + 1 ≤ j) (hg : Gl X x) (ha : PA X (e :: es) t) (hdb : (x == ("__debug__" : Str)) = false := by decide)
    (he : starEach (e :: es) X.env = (false, eval e X.env) :: starEach es X.env := by rfl) (hpl : (backTo pos (starEach es X.env)).any (·.1) = false := by rfl) :
    PE X (.Call (.Name x p) (e :: es) [] pos) (tN C sp t) := by
  obtain ⟨f, fd, hm, F, hb, gx⟩ := M.ex
  refine ⟨fun pins s σ H Q I h => ?_⟩
  refine (pe_make hm F (hr.mono hk) hg gx hb .nil pass0 ha hdb he hpl).run pins s σ H Q I ?_
  show t σ H _
  simp only [List.append_nil]
  exact h
/-- xs[i] of o[i] op= e -/
def rGetL (K : PySem.W.Frag) : V → V → Hp → VK → Prop := fun o i H Q => ∃ p xs k v, o = .ref p ∧ i = .int k ∧ 0 ≤ k ∧ SqL K H p xs ∧ atI xs k = some v ∧ Q v H
theorem get_list : PGet X (rGetL X.K) := by
  intro pins s σ H x y v u Q I rx ry h
  obtain ⟨p, xs, i, z, rfl, rfl, h0, hq, he, q⟩ := h
  cases rx
  obtain ⟨t, rfl⟩ := ry
  obtain ⟨its, r, pl, hz⟩ := I.list hq
  obtain ⟨j, h1, h2, h3, h4, h5⟩ := atI_get he
  obtain ⟨w, ew, rw'⟩ := r.get h2
  have hl := r.length
  have hn := line63
  have hj : i.toNat = j := by
    rw [seqIndex_of h0 h5] at h1
    exact Option.some.inj h1
  exact wpAny_getItem_list pl.isList h0 (by omega) (by rw [hj]; simpa using ew) ⟨z, H, I, rw', q⟩
end
end WR
namespace WR
open PySem PySem.Spec PyProof.Rows L2 LamX
/-! ### max of two texts -/
def sltB (x y : Str) : Bool := decide (x.cps.toList < y.cps.toList)
def txV : Value → Str
  | .str x _ => x
  | _ => Str.empty
theorem cmpS_gt {prog : Program} {w : World} {A : Around} (vs : Array Value) (hn : ∀ v ∈ vs, ∃ x t, v = .str x t) : CmpOf prog w A .Gt (fun i v => vs[i]? = some v) (fun i j => sltB (txV (vs.getD j .none)) (txV (vs.getD i .none))) := fun i j vi vj s Q E hi hj h => by
  have e1 : vs.getD i .none = vi := by simp [Array.getD_eq_getD_getElem?, hi]
  have e2 : vs.getD j .none = vj := by simp [Array.getD_eq_getD_getElem?, hj]
  simp only [e1, e2] at h
  obtain ⟨x, t, rfl⟩ := hn _ (Array.mem_of_getElem? hi)
  obtain ⟨y, u, rfl⟩ := hn _ (Array.mem_of_getElem? hj)
  exact PySem.P.gt_str h
theorem max_two_txt {prog : Program} {w : World} {A : Around} {E : Value → Shared → Prop} {s : Shared} {Q : Value → Shared → Prop} {x y : Str} {t u : Tok} (hh : A.handled = none)
    (h : ∀ h' tk, (∀ c o, s.heap.get? c = some o → h'.get? c = some o) → Q (if sltB x y then .str y u else .str x t) { s with heap := h', toks := tk }) : wpAny (model prog w) A (call (.builtin "max") [.str x t, .str y u]) Q E s := by
  have hT : (s.heap.push { cls := .type "tuple", data := .seq #[.str x t, .str y u] }).IsTuple s.heap.objs.size #[.str x t, .str y u] := ⟨_, Heap.get?_push_size _ rfl, rfl, 0, rfl⟩
  have hsz : (s.heap.push { cls := .type "tuple", data := .seq #[.str x t, .str y u] }).objs.size = s.heap.objs.size + 1 := Heap.size_push ..
  have hstr : ∀ v ∈ #[Value.str x t, Value.str y u], ∃ x t, v = .str x t := fun v hv => by
    rcases List.mem_cons.mp (Array.mem_toList_iff.mpr hv) with e | hv
    · exact ⟨_, _, e⟩
    · rcases List.mem_cons.mp hv with e | hv
      · exact ⟨_, _, e⟩
      · cases hv
  refine call_max_two (wpAny_pyIter_tuple hT ?_)
  refine ⟨_, [_, s.heap.objs.size], [_], _, _, _, _, rfl, Walks.tuple (A := A.in1) hh _ s.heap.objs.size (by rw [hsz]; exact Nat.ne_of_lt (Nat.lt_succ_self _)) #[.str x t, .str y u], ⟨⟨_, Heap.get?_push_size _ rfl, rfl, rfl⟩, hT.push _⟩, fun c hc => ?_, by simp, cmpS_gt #[.str x t, .str y u] hstr, fun v h' tk hP hk => ?_⟩
  · show c < ((s.heap.push _).push _).objs.size
    rw [Heap.size_push, hsz]
    rcases List.mem_cons.mp hc with rfl | hc
    · rw [hsz]; exact Nat.lt_succ_self _
    · rcases List.mem_cons.mp hc with rfl | hc
      · exact Nat.lt_succ_of_lt (Nat.lt_succ_self _)
      · cases hc
  · have hold : ∀ c o, s.heap.get? c = some o → h'.get? c = some o := fun c o e => hk c o (fun hm => by
      rcases List.mem_cons.mp hm with e1 | hm
      · have := Heap.lt_size e; rw [e1, hsz] at this; exact Nat.lt_irrefl _ (Nat.lt_of_succ_lt this)
      · cases hm) (Heap.get?_push_of_some _ (Heap.get?_push_of_some _ e))
    have hq := h h' tk hold
    have hv : v = if sltB x y then .str y u else .str x t := by
      cases hc : sltB x y <;> simp [argBest, txV, hc] at hP <;> simp [hP]
    rw [hv]
    exact hq
theorem call_maxS2 {X : Cx} (hc : X.calm = true) : CallR X (.builtin "max") (fun xs H Q => ∃ x y : Str, xs = [.str x, .str y] ∧ Q (.str (if sltB x y then y else x)) H) := by
  intro pins s σ H xs us Q I r h
  obtain ⟨x, y, rfl, q⟩ := h
  obtain ⟨u, v, rfl, ⟨t, rfl⟩, ⟨t', rfl⟩⟩ := vals2 r
  refine max_two_txt (I.ok.hd hc) fun h' tk k => ⟨_, H, I.kept k, ?_, q⟩
  cases sltB x y
  · exact ⟨_, rfl⟩
  · exact ⟨_, rfl⟩
end WR
namespace WR
open PySem PySem.Spec PyProof.Rows L2 LamX
theorem walk_zipS2 {x y : Str} (h : x.cps.size ≤ y.cps.size) : Walk (ItzS x y) x.cps.size (fun _ => True) (fun i H v H' => ∃ T c d, v = .ref T ∧ H T = none ∧ H' = upd H T (.tup [.str ⟨#[c]⟩, .str ⟨#[d]⟩]) ∧ x.cps[i]? = some c ∧ y.cps[i]? = some d) where
  goes := fun i H hi _ => ⟨hi, by omega⟩
  stops := fun H _ => rfl
  yields := fun i H v H' _ _ q => q
theorem flat_get (p : List Nat) (hp : 1 ≤ p.length) : ∀ (n i : Nat), i < n * p.length → (List.replicate n p).flatten[i]? = p[i % p.length]?
  | 0, i, h => by omega
  | n + 1, i, h => by
    rw [List.replicate_succ, List.flatten_cons]
    by_cases q : i < p.length
    · rw [List.getElem?_append_left q, Nat.mod_eq_of_lt q]
    · rw [List.getElem?_append_right (by omega), Nat.mod_eq_sub_mod (by omega)]
      exact flat_get p hp n _ (by rw [Nat.succ_mul] at h; omega)
theorem flat_len (p : List Nat) (n : Nat) : (List.replicate n p).flatten.length = n * p.length := by
  induction n with
  | zero => simp
  | succ n ih => rw [List.replicate_succ, List.flatten_cons, List.length_append, ih, Nat.succ_mul]; omega
theorem sltB_one (c d : Nat) : sltB ⟨#[c]⟩ ⟨#[d]⟩ = decide (c < d) := by
  unfold sltB
  rw [Bool.eq_iff_iff, decide_eq_true_iff, decide_eq_true_iff]
  show [c] < [d] ↔ _
  rw [List.cons_lt_cons_iff]; simp
end WR
namespace WR
open PySem PySem.Spec PyProof.Rows L2 LamX
open PySem.AutoSeq1 (wpAny_loadPart')
/-! ### enumerate(tuple) -/
/-- the tuple at a as it stands at each turn, its items with their numbers in new pairs -/
def IteT (K : PySem.W.Frag) (a : Addr) : It :=
  ⟨fun i H => ∃ (xs : List V) (x : V), SqT K H a xs ∧ xs[i]? = some x, fun i H v H' => ∃ T x, v = .ref T ∧ H T = none ∧ H' = upd H T (.tup [.int (i : Nat), x]) ∧ ∀ xs, SqT K H a xs → xs[i]? = some x, fun i H => ∃ xs : List V, SqT K H a xs ∧ xs.length = i⟩
theorem turn_enumT {P : Program} {w : World} {K : PySem.W.Frag} {elts : List Expr} {kk : Nat} {tpos : Pos} (a e it : Addr) (hne : e ≠ it) (hea : e ≠ a) (hai : a ≠ it) :
    Turn P w K (.Tuple elts kk tpos) (IteT K a) [e, it] e (fun i h => (∃ old, IsEnum h e it ((i : Nat) : Int) old) ∧ h.IsTupleIter it a i) where
  mem := by simp
  obj := fun i h st b hb => by
    obtain ⟨⟨old, he⟩, ⟨o, ho, hc, hd⟩⟩ := st
    have hb2 : b = e ∨ b = it := by simpa using hb
    rcases hb2 with z | z
    · rw [z]; exact ⟨_, he, fun v q => nomatch q⟩
    · rw [z]; exact ⟨o, ho, fun v q => by rw [hd] at q; cases q⟩
  keep := fun i h h' st kp => by
    obtain ⟨⟨old, he⟩, hi⟩ := st
    exact ⟨⟨old, kp e (by simp) _ he⟩, hi.at fun o q => kp it (by simp) o q⟩
  item := by
    intro X hP hw hK hc i pins s σ H E I hf st hg
    subst hP hw hK
    obtain ⟨⟨old, he⟩, hit⟩ := st
    obtain ⟨xs, x, hq, hx⟩ := hg
    obtain ⟨its, rv, p, hz⟩ := I.tuple hq
    obtain ⟨u, hu, ru⟩ := rv.get hx
    have hh : X.A.in1.handled = none := I.ok.hd hc
    have D := Draws.tuple (prog := X.prog) (w := X.w) hh it a hai its.toArray
    have hel : e < s.heap.objs.size := Heap.lt_size he
    have hil : it < s.heap.objs.size := let ⟨_, q, _⟩ := hit; Heap.lt_size q
    have hlt : i < its.toArray.size := by
      rw [List.size_toArray]
      exact (List.getElem?_eq_some_iff.mp hu).1
    refine wpAny_pyNext_enum_itemC D he ⟨hit, show s.heap.IsTuple a its.toArray from p⟩ hlt hne (by simp [hne, hea]) fun y h1 tk hP ho st1 hT hsz hk => ?_
    have ey : y = u := by
      rw [List.getElem?_toArray, hu] at hP
      exact (Option.some.inj hP).symm
    subst ey
    refine ⟨_, rfl, wpAny_letOwnedTupleGo_enum (s := { s with heap := h1, toks := tk + 1 }) ho fun h2 he2 sb => ?_⟩
    have hT2 : h2.get? s.heap.objs.size = some { cls := .type "tuple", data := .seq #[.int (i : Nat) tk, y] } := (sb.2 _ (Nat.ne_of_gt hel)).trans hT
    have ob : ObjOk X.prog X.w (upd H s.heap.objs.size (.tup [.int (i : Nat), x])) h2 s.heap.objs.size (.tup [.int (i : Nat), x]) :=
      ⟨by show 2 ≤ sizeLine; decide, [.int (i : Nat) tk, y], .cons ⟨_, rfl⟩ (.cons ru .nil), ⟨_, hT2, rfl, _, rfl⟩⟩
    have J : Inv X pins σ (upd H s.heap.objs.size (.tup [.int (i : Nat), x])) { s with heap := h2, toks := tk + 1 } :=
      I.turnedNew (ch := [e, it]) (fun b o hb q => (sb.2 b fun z => hb (by simp [z])).trans (hk b o (fun z => hb (by simp [z])) (fun z => hb (by simp [z])) q)) hf (Nat.le_refl _) ob
    refine ⟨.ref s.heap.objs.size, _, J, rfl, ⟨_, x, rfl, I.hok.fresh (Nat.le_refl _), rfl, fun ys hy => by rw [I.tuple_inj hy hq]; exact hx⟩, ⟨⟨y, ?_⟩, ?_⟩, fun b hb => ?_⟩
    · have e1 : ((i + 1 : Nat) : Int) = (i : Int) + 1 := by omega
      rw [e1]
      exact he2
    · exact st1.1.at fun o q => (sb.2 it (Ne.symm hne)).trans q
    · have hb2 : b < s.heap.objs.size := by
        have hb3 : b = e ∨ b = it := by simpa using hb
        rcases hb3 with z | z
        · rw [z]; exact hel
        · rw [z]; exact hil
      rw [upd_ne (Nat.ne_of_lt hb2)]
      exact (hf b hb).1
  done := by
    intro X hP hw hK hc i pins s σ H E I hf st hg
    subst hP hw hK
    obtain ⟨⟨old, he⟩, hit⟩ := st
    obtain ⟨xs, hq, hx⟩ := hg
    obtain ⟨its, rv, p, hz⟩ := I.tuple hq
    have hh : X.A.in1.handled = none := I.ok.hd hc
    obtain ⟨f0, f1, f2, f3, f4, f5⟩ := hf it (by simp)
    have hl := rv.length
    have hsz : i = its.toArray.size := by rw [List.size_toArray, ← hl]; exact hx.symm
    have D := Draws.tuple (prog := X.prog) (w := X.w) hh it a hai its.toArray
    subst hsz
    exact wpAny_pyNext_enum_endD D he ⟨hit, show s.heap.IsTuple a its.toArray from p⟩ fun h1 eb => ⟨rfl, I.turned (t' := s.toks) (fun b o hb q => eb b o hb q) f0 f1 f3 f4 f5⟩
  self := fun A i s Q E st h => let ⟨⟨_, he⟩, _⟩ := st; wpAny_pyIter_enum he h
theorem meets_enumT (l : Addr) (items : Array Value) :
    Meets (Builtin.«enumerate.__new__» ⟨[.type "enumerate", .ref l], []⟩) (fun _ R s => s.heap.IsTuple l items ∧
      R (.ok (.ret (.ref (s.heap.push { cls := .type "tuple_iterator", data := .fields #[.ref l, .int 0 0] }).objs.size)))
        { s with heap := (s.heap.push { cls := .type "tuple_iterator", data := .fields #[.ref l, .int 0 0] }).push { cls := .type "enumerate", data := .fields #[.none, .bool false, .ref s.heap.objs.size, rawInt 0, .none, .none] } }) :=
  .of_wp fun prog w A R s h => by
    obtain ⟨hp, g, d, tk, os⟩ := s
    obtain ⟨hl, h⟩ := h
    have hsub := sub_enumerate
    obtain ⟨⟨oc, od, dt, sl⟩, hg, hc, n, hd⟩ := id hl
    replace hc : oc = .type "tuple" := hc
    replace hd : dt = .seq items n := hd
    subst hc hd
    wp_walk using wpAny_loadPart' hg
    refine wpAny_stack_any fun st => wpAny_pure ?_
    split
    · rename_i c _ _ _ _ _
      cases (c == Value.type "enumerate")
      · wp_walk using wpAny_loadPart' hg, wpAny_pyIter_tuple hl
        exact ⟨_, rfl, h⟩
      · wp_walk using wpAny_loadPart' hg, wpAny_pyIter_tuple hl
        exact ⟨_, rfl, h⟩
    · wp_walk using wpAny_loadPart' hg, wpAny_pyIter_tuple hl
      exact ⟨_, rfl, h⟩
theorem call_enumerate_tup {prog : Program} {w : World} {A : Around} {E : Value → Shared → Prop} {s : Shared} {l : Addr} {items : Array Value} {Q : Value → Shared → Prop} (hL : s.heap.IsTuple l items)
    (h : ∀ h', IsEnum h' (s.heap.objs.size + 1) s.heap.objs.size 0 .none → h'.IsTupleIter s.heap.objs.size l 0 → (∀ b o, s.heap.get? b = some o → h'.get? b = some o) → Q (.ref (s.heap.objs.size + 1)) { s with heap := h' }) :
    wpAny (model prog w) A (call (.type "enumerate") [.ref l]) Q E s := by
  refine callType_new F.called_enumerate (by decide) (F.typeCall_enumerate_1 _) (F.newCall_enumerate_1 _) (fun obj => F.args_object_init_2 obj _) F.entry_enumerate_new (meets_enumT l items) ⟨hL, ?_⟩
  have hz : (s.heap.push { cls := .type "tuple_iterator", data := .fields #[.ref l, .int 0 0] }).objs.size = s.heap.objs.size + 1 := Heap.size_push ..
  show _ ∧ _
  rw [hz]
  have he : IsEnum ((s.heap.push { cls := .type "tuple_iterator", data := .fields #[.ref l, .int 0 0] }).push { cls := .type "enumerate", data := .fields #[.none, .bool false, .ref s.heap.objs.size, rawInt 0, .none, .none] }) (s.heap.objs.size + 1) s.heap.objs.size 0 .none := by
    have q := Heap.get?_push_size (s.heap.push { cls := .type "tuple_iterator", data := .fields #[.ref l, .int 0 0] }) (o := { cls := .type "enumerate", data := .fields #[.none, .bool false, .ref s.heap.objs.size, rawInt 0, .none, .none] }) rfl
    rw [hz] at q
    exact q
  exact ⟨⟨_, he, rfl⟩, h _ he ⟨_, Heap.get?_push_of_some _ (Heap.get?_push_size _ rfl), rfl, rfl⟩ fun b o x => Heap.get?_push_of_some _ (Heap.get?_push_of_some _ x)⟩
def iEnumT (K : PySem.W.Frag) (ta : TA) : TI := fun σ H R => ta σ H fun vs H1 => ∃ a xs, vs = [.ref a] ∧ SqT K H1 a xs ∧ R (IteT K a) H1
theorem pi_enumT {X : Cx} {e : Expr} {ta : TA} {p pos tpos : Pos} {elts : List Expr} {kk : Nat} (hg : Gl X "enumerate") (hm : X.mg "enumerate" = none) (ha : PA X [e] ta) (hs : starEach [e] X.env = [(false, eval e X.env)] := by rfl) :
    PI X (.Tuple elts kk tpos) (.Call (.Name "enumerate" p) [e] [] pos) (iEnumT X.K ta) := by
  refine ⟨fun pins s σ H R I h => Call_ (ld_blt I hg hm boot_enumerate (PyProof.Rows.callWith_type1 (thn (ha.run pos pins s σ H _ I h) fun us s1 ⟨vs, H1, I1, r1, a, xs, ex, hq, q⟩ => ?_) hs rfl))⟩
  subst ex
  cases r1 with
  | cons r rr =>
    cases rr
    cases r
    obtain ⟨its, rv, p', hz⟩ := I1.tuple hq
    have hT : s1.heap.IsTuple a its.toArray := p'
    have hal : a < s1.heap.objs.size := let ⟨_, z, _⟩ := hT; Heap.lt_size z
    refine call_enumerate_tup hT fun h' he hit hk => wpAny_pyIter_enum he ?_
    have I2 : Inv X pins σ H1 { s1 with heap := h' } := I1.kept (t' := s1.toks) hk
    refine ⟨s1.heap.objs.size + 1, [s1.heap.objs.size + 1, s1.heap.objs.size], _, _, H1, rfl, I2, turn_enumT a (s1.heap.objs.size + 1) s1.heap.objs.size (Nat.succ_ne_self _) (Nat.ne_of_gt (Nat.lt_succ_of_lt hal)) (Nat.ne_of_lt hal), ⟨⟨.none, he⟩, hit⟩, fun b hb => ?_, q⟩
    have hb2 : b = s1.heap.objs.size + 1 ∨ b = s1.heap.objs.size := by simpa using hb
    have hle : s1.heap.objs.size ≤ b := by
      rcases hb2 with z | z
      · rw [z]; exact Nat.le_succ _
      · rw [z]; exact Nat.le_refl _
    exact I1.fpOk hle (I1.hok.fresh hle)
theorem walk_enumT {K : PySem.W.Frag} {a : Addr} {xs : List V} : Walk (IteT K a) xs.length (fun H => SqT K H a xs) (fun i H v H' => ∃ T x, v = .ref T ∧ H T = none ∧ H' = upd H T (.tup [.int (i : Nat), x]) ∧ xs[i]? = some x) where
  goes := fun i H hi q => ⟨xs, xs[i], q, by simp [hi]⟩
  stops := fun H q => ⟨xs, q, rfl⟩
  yields := fun i H v H' hi q y => by
    obtain ⟨T, x, y1, y2, y3, y4⟩ := y
    exact ⟨T, x, y1, y2, y3, y4 xs q⟩
end WR
namespace WR
open PySem PySem.Spec PyProof.Rows L2 LamX
/-- isinstance of an exception that was caught, or of what is none -/
theorem call_isXi {X : Cx} : CallR X (.builtin "isinstance") (fun xs H Q => rIsX X.K xs H Q ∨ rIsi X.K xs H Q) := by
  intro pins s σ H xs us Q I r h
  rcases h with h | h
  · exact call_isX pins s σ H xs us Q I r h
  · exact call_isi pins s σ H xs us Q I r h
end WR
namespace WR
open PySem PySem.Spec PyProof.Rows L2 LamX
/-! ### xs[a:b] = ys -/
theorem part_int {v : Value} {i : Int} (h : IsPart v (some i)) : RelV (.int i) v := by
  cases h with
  | int => exact ⟨_, rfl⟩
def gSubSl (to : TE) (tl tu : TO) : TG := fun v σ H Q => to σ H fun x H1 => tl σ H1 fun lo H2 => tu σ H2 fun hi H3 => ∃ (l b : Addr) (xs ys : List V) (i j : Int), x = .ref l ∧ v = .ref b ∧ lo = some i ∧ hi = some j ∧
  H3 l = some (.lst xs) ∧ H3 b = some (.lst ys) ∧ l ≠ b ∧ 0 ≤ i ∧ i ≤ j ∧ j ≤ xs.length ∧ xs.length + ys.length ≤ sizeLine ∧ Q σ (upd H3 l (.lst (xs.take i.toNat ++ ys ++ xs.drop j.toNat)))
theorem pg_subSl {X : Cx} {o : Expr} {to : TE} {lo hi : Option Expr} {tl tu : TO} {p2 pos : Pos} (ho : PE X o to) (hl : PO X lo tl) (hu : PO X hi tu)
    (ha : ∀ v, assign (.Subscript o (.Slice lo hi none p2) pos) X.env v = (do
      let ov ← holding [v] (eval o X.env)
      let iv ← holding [v, ov] (eval (.Slice lo hi none p2) X.env)
      standAt pos
      holding [v, ov, iv] (setItem ov iv v)
      release [iv, v, ov] []) := by intro _; rfl) : PG X (.Subscript o (.Slice lo hi none p2) pos) (gSubSl to tl tu) := by
  refine ⟨fun pins s σ H v u Q I r h => ?_⟩
  rw [ha]
  refine wpAny_bind (wpAny_holding (thn (ho.run pins s σ H _ I h) fun ov s1 ⟨x, H1, I1, r1, q1⟩ => ?_))
  refine wpAny_bind (wpAny_holding (wpAny_Slice (thn (hl.run pins s1 σ H1 _ I1 q1) fun vl s2 ⟨lo', H2, I2, pl, q2⟩ => thn (hu.run pins s2 σ H2 _ I2 q2) fun vu s3 ⟨hi', H3, I3, pu, q3⟩ => ?_)))
  rw [evalPart_none]
  refine wpAny_pure ?_
  obtain ⟨l, b, xs, ys, i, j, rfl, rfl, rfl, rfl, e1, e2, ne, h0, h1, h2, hz, q⟩ := q3
  cases r1
  cases r
  have I4 : Inv X pins σ H3 { s3 with heap := s3.heap.push { cls := .type "slice", data := .fields #[vl, vu, .none] } } := I3.kept (t' := s3.toks) fun b ob q => Heap.get?_push_of_some _ q
  refine wpAny_bind (wpAny_standAt (wpAny_bind (wpAny_holding (set_slice I4 e1 e2 ne (Heap.IsSliceOf.new ..) (part_int pl) (part_int pu) h0 h1 h2 hz fun s' I5 => wpAny_release ⟨σ, _, I5, q⟩))))
end WR
namespace WR
open PySem PySem.Spec PyProof.Rows L2 LamX
/-- x is True, x a bool or a text -/
theorem op_is_blS {X : Cx} : OpR X (compareOp .Is) (fun x y H Q => ∃ b : Bool, y = .bl b ∧ ((∃ a, x = .bl a ∧ Q (.bl (decide (a = b))) H) ∨ ∃ z, x = .str z ∧ Q (.bl false) H)) := by
  intro pins s σ H x y v u Q I rx ry h
  obtain ⟨b, rfl, h⟩ := h
  rcases h with ⟨a, rfl, q⟩ | ⟨z, rfl, q⟩
  · exact op_is_bl pins s σ H _ _ v u Q I rx ry ⟨a, b, rfl, rfl, q⟩
  · obtain ⟨t, rfl⟩ := rx
    cases ry
    exact wpAny_is_other rfl (fun e => nomatch e) ⟨.bl false, H, I, rfl, q⟩
end WR
namespace WR
open PySem PySem.Spec PyProof.Rows L2
section
variable {X : Cx}
/-! ### x not in a tuple of data -/
def rNotInTup (K : PySem.W.Frag) : R2 := fun x y H Q => ∃ d ds, Dp K H x d ∧ Dp K H y (.tuple ds) ∧ PyData.canLayAll0 ds = true ∧ d.canLay0 = true ∧ PyData.depthAll ds ≤ 40 ∧ Q (.bl (!(ds.any fun z => PyData.eqv z d))) H
theorem op_notInTup (hu : X.A.units + 64 < cLine) : OpR X (compareOp .NotIn) (rNotInTup X.K) := by
  intro pins s σ H x y v u Q I rx ry h
  obtain ⟨d, ds, hd, he, c1, c2, dep, q⟩ := h
  obtain ⟨as, r1⟩ := Dp.reads I d x v hd rx
  obtain ⟨bs, r2⟩ := Dp.reads I (.tuple ds) y u he ry
  exact SeqAt.notIn_tuple_reads r2 r1 c1 c2 (by omega) ⟨.bl _, H, I, rfl, q⟩
end
end WR
namespace WR
open PySem PySem.Spec PyProof.Rows L2
section
variable {X : Cx} {pins : List (Addr × Obj)} {σ : L2.St} {H : Hp} {s : Shared} {a b : Addr} {kvs more : List (Key × V)} {A : Around} {E : Value → Shared → Prop}
/-! ### d.update(e), e a dict too -/
theorem d_upd {Q : Value → Shared → Prop} (I : Inv X pins σ H s) (e : H a = some (.dK kvs)) (e2 : H b = some (.dK more)) (ne : a ≠ b) (hz : kvs.length + more.length ≤ sizeLine) (h : ∀ s', Inv X pins σ (upd H a (.dK (mergeK kvs more))) s' → Q .none s') :
    wpAny (model X.prog X.w) A (call (.builtin "dict.update") [.ref a, .ref b]) Q E s := by
  obtain ⟨z, hd, vs, rel, dd⟩ := dk_of I.hok e
  obtain ⟨z2, hd2, ws, rel2, dd2⟩ := dk_of I.hok e2
  refine call_meetsIn PySem.F.slot_dict_update dd.typeIs PySem.F.entry_dict_update (PySem.F.args_dict_update_2 _ _) (meets_dict_update (mixKind X.prog X.w) a b ne hd2) ⟨vs, ws, dd, dd2, by rw [← rel.length, ← rel2.length]; exact hz, fun h' dd' _ hs => h _ ?_⟩
  have he : ∃ q, h'.get? a = some q := let ⟨q, _, _, hq, _⟩ := dd'; ⟨q, hq⟩
  exact d_write (t' := s.toks) I (by rw [e]; exact True.intro) hs he (dk_new (Nat.le_trans (length_mergeK more kvs) hz) hd (rel2.merge rel) dd')
end
def tDUpd (td te : TE) : TE := fun σ H Q => td σ H fun x H1 => ∃ a, x = .ref a ∧ IsD H1 a ∧ te σ H1 fun y H2 => ∃ b kvs more, y = .ref b ∧ a ≠ b ∧ H2 a = some (.dK kvs) ∧ H2 b = some (.dK more) ∧ kvs.length + more.length ≤ sizeLine ∧ Q .non (upd H2 a (.dK (mergeK kvs more)))
theorem pe_dupd {X : Cx} {o e : Expr} {td te : TE} {apos cpos : Pos} (ho : PE X o td) (he : PE X e te) (m : M1 X o "update" apos e cpos) : PE X (.Call (.Attribute o "update" apos) [e] [] cpos) (tDUpd td te) := by
  refine ⟨fun pins s σ H Q I h => ?_⟩
  refine wpAny_Call_method m.base m.few m.line PySem.F.plainAttrs_dict PySem.F.slot_dict_update PySem.F.type_dict_update (thn (ho.run pins s σ H _ I h) fun u s1 ⟨x, H1, I1, rx, a, ex, d, q1⟩ => ?_)
  subst ex
  obtain rfl : u = Value.ref a := rx
  obtain ⟨t1, t2, _⟩ := isD_at I1 d
  refine ⟨t1, t2, ?_⟩
  rw [m.trees]
  refine Calls.callWith_builtin rfl (Calls.evalArgs_plain (Calls.spliced_cons (thn (he.run pins s1 σ H1 _ I1 q1) fun iv s2 ⟨y, H2, I2, ry, b, kvs, more, ey, ne, ea, eb, z, q2⟩ => Calls.spliced_nil ?_)))
  subst ey
  obtain rfl : iv = Value.ref b := ry
  exact d_upd I2 ea eb ne z fun s3 I3 => ⟨.non, _, I3, rfl, q2⟩
end WR
/-! t[a:b] of a tuple stands in HandS.TupAny -/
namespace WR
open PySem PySem.Spec PyProof.Rows L2 LamX
/-! ### the head's run looked at in parts (each part runs anew, so that no one takes too much memory) -/
noncomputable abbrev endT (r : PySem.W.OpenRow) (M : Nat) (w : World) (os : OsState) : Option PySem.W.SharedT := HandSHeadRun.endF (HandSHeadRun.stepQ (HandSHeadRun.denQ HandSHeadRun.tabQ) r.prog w) M r.prog w os
def RunL (r : PySem.W.OpenRow) (q : Program) (M : Nat) (loose : List Str) (w : World) : Prop := ∀ os : OsState, (endT r M w os).map (fun s => (HandSHeadRun.looksF r.prog (PySem.W.boot_heap w.params) s.abs, HandSHeadRun.seenQ q loose (importedModules r.prog.main.body) (fun s => PySem.W.xlAt q [] s && PySem.W.recOk r.toRowW.records s) s.abs)) = some (true, PySem.W.openGood q loose)
def RunP (r : PySem.W.OpenRow) (M n : Nat) (fa : List He.Fa) (fn : List He.DefD) (ts : List He.Tab) (tf : List He.Defn) (gs : List GetD) (ex : PySem.W.Frag → Bool) (w : World) : Prop := ∀ os : OsState, (endT r M w os).map (fun s => obsZ n fa fn ts tf gs ex (HandSHeadRun.getT s)) = some (valZ fn ts gs w)
theorem obsZ_app {n : Nat} {fa1 fa2 : List He.Fa} {fn1 fn2 : List He.DefD} {ts : List He.Tab} {tf : List He.Defn} {gs : List GetD} {ex : PySem.W.Frag → Bool} {g : Addr → Option Obj} {w : World} (h1 : obsZ n fa1 fn1 [] [] [] (fun _ => true) g = valZ fn1 [] [] w) (h2 : obsZ n fa2 fn2 ts tf gs ex g = valZ fn2 ts gs w) :
    obsZ n (fa1 ++ fa2) (fn1 ++ fn2) ts tf gs ex g = valZ (fn1 ++ fn2) ts gs w := by
  unfold obsZ He.obsX He.obsT He.obsD valZ He.valX He.valT He.valD at *
  simp only [Prod.mk.injEq, List.all_append, List.map_append, Bool.and_eq_true] at h1 h2 ⊢
  obtain ⟨⟨⟨⟨a1, a2⟩, a3⟩, a4⟩, a5⟩ := h1
  obtain ⟨⟨⟨⟨b1, b2⟩, b3⟩, b4⟩, b5⟩ := h2
  exact ⟨⟨⟨⟨⟨⟨a1.1, b1.1⟩, a1.2, b1.2⟩, by rw [a2, b2]⟩, b3⟩, b4⟩, b5⟩
theorem RunP.app {r : PySem.W.OpenRow} {M n : Nat} {fa1 fa2 : List He.Fa} {fn1 fn2 : List He.DefD} {ts : List He.Tab} {tf : List He.Defn} {gs : List GetD} {ex : PySem.W.Frag → Bool} {w : World} (h1 : RunP r M n fa1 fn1 [] [] [] (fun _ => true) w) (h2 : RunP r M n fa2 fn2 ts tf gs ex w) : RunP r M n (fa1 ++ fa2) (fn1 ++ fn2) ts tf gs ex w := fun os => by
  have e1 := h1 os
  have e2 := h2 os
  revert e1 e2
  generalize endT r M w os = X
  intro e1 e2
  cases X with
  | none => cases e1
  | some s => exact congrArg some (obsZ_app (Option.some.inj e1) (Option.some.inj e2))
theorem runEq_of {r : PySem.W.OpenRow} {q : Program} {M n : Nat} {loose : List Str} {fa : List He.Fa} {fn : List He.DefD} {ts : List He.Tab} {tf : List He.Defn} {gs : List GetD} {ex : PySem.W.Frag → Bool} {w : World} (h1 : RunL r q M loose w) (h2 : RunP r M n fa fn ts tf gs ex w) :
    HandSHeadRun.RunEq r q (hookZ n fa fn ts tf gs ex) (fun s => obsZ n fa fn ts tf gs ex (HandSHeadRun.getT s)) M loose w := fun os => by
  have e1 := h1 os
  have e2 := h2 os
  revert e1 e2
  show _ → _ → (endT r M w os).map _ = _
  generalize endT r M w os = X
  intro e1 e2
  cases X with
  | none => cases e1
  | some s =>
    have a1 := Option.some.inj e1
    have a2 := Option.some.inj e2
    show some (_, _, _) = some (_, _, _)
    rw [a2, (Prod.mk.inj a1).1, (Prod.mk.inj a1).2]
    rfl
end WR
namespace WR
open PySem PySem.Spec PyProof.Rows L2 LamX
/-! ### calls by keywords alone, in any order: each parameter picks its value -/
def pk {α : Type} (is : List Nat) (l : List α) : List α := is.filterMap fun i => l[i]?
theorem Vals.nth {vs : List V} {us : List Value} (h : Vals vs us) : ∀ i : Nat, (∃ v u, vs[i]? = some v ∧ us[i]? = some u ∧ RelV v u) ∨ (vs[i]? = none ∧ us[i]? = none) := by
  induction h with
  | nil => exact fun i => .inr ⟨rfl, rfl⟩
  | cons r _ ih =>
    intro i
    cases i with
    | zero => exact .inl ⟨_, _, rfl, rfl, r⟩
    | succ i => exact ih i
theorem pk_vals {vs : List V} {us : List Value} (h : Vals vs us) : ∀ is : List Nat, Vals (pk is vs) (pk is us)
  | [] => .nil
  | i :: is => by
    unfold pk
    rcases Vals.nth h i with ⟨v, u, e1, e2, r⟩ | ⟨e1, e2⟩
    · rw [List.filterMap_cons_some e1, List.filterMap_cons_some e2]
      exact .cons r (pk_vals h is)
    · rw [List.filterMap_cons_none e1, List.filterMap_cons_none e2]
      exact pk_vals h is
abbrev KBk (K : PySem.W.Frag) (fd : FuncData) (ps : List Str) (n : Nat) (ks : List Str) (is : List Nat) : Prop := KBn K fd ps n ks (fun us ws => pk is (us ++ ws)) (fun vs zs => pk is (vs ++ zs))
theorem kbk_of {K : PySem.W.Frag} {x qual : Str} {params : Arguments} {body : List Stmt} {scope : Scope} {f : Addr} {fd : FuncData} {ps : List Str} (F : FunD K x qual params body scope [] [] f fd) (n : Nat) (ks : List Str) (is : List Nat)
    (h : ∀ (kV doc pm : Value) (an : Option Addr) (cdv ct : Value) (us ws : List Value), us.length = n → ws.length = ks.length → bindArgs (PySem.W.fnOf x qual params body scope .none kV doc pm an cdv ct) ⟨us, ks.zip ws⟩ = pure (ps.zip (pk is (us ++ ws)))) : KBk K fd ps n ks is := by
  obtain ⟨oc, od, dV, kV, doc, pm, an, cdv, ct, osl, rfl, lk, hcd, hD, hK⟩ := F.ex
  rcases hD with ⟨_, rfl⟩ | ⟨e, _⟩
  · exact ⟨fun s us ws _ h1 h2 => .of_eq (h kV doc pm an cdv ct us ws h1 h2), fun r1 r2 => pk_vals (r1.append r2) is⟩
  · exact absurd rfl e
structure Mfk (CX : CXT) (P : Program) (w : World) (K : PySem.W.Frag) (mg : Str → Option Value) (base : Heap) (k : Nat) (C : Addr) (m : Str) (ps ks : List Str) (is : List Nat) (sp : Sp) : Prop where
  ex : ∃ (f : Addr) (fd : FuncData), Meth K C m f ∧ FnOk P w K mg base CX k f fd ps sp ∧ KBk K fd ps 1 ks is
structure Kfk (P : Program) (w : World) (K : PySem.W.Frag) (mg : Str → Option Value) (base : Heap) (k : Nat) (x : Str) (C : Addr) (ps ks : List Str) (is : List Nat) (sp : Sp) : Prop where
  ex : ∃ (f : Addr) (fd : FuncData), Mk K C f ∧ FnOk P w K mg base CX0 k f fd ps sp ∧ KBk K fd ps 1 ks is ∧ mg x = some (.ref C)
structure Cfk (CX : CXT) (P : Program) (w : World) (K : PySem.W.Frag) (mg : Str → Option Value) (base : Heap) (k : Nat) (x : Str) (ps ks : List Str) (is : List Nat) (sp : Sp) : Prop where
  ex : ∃ (f : Addr) (fd : FuncData), FnOk P w K mg base CX k f fd ps sp ∧ mg x = some (.ref f) ∧ PySem.W.keepIn K (.ref f) = true ∧ KBk K fd ps 0 ks is
section
variable {CX : CXT} {P : Program} {w : World} {K : PySem.W.Frag} {mg : Str → Option Value} {base : Heap}
theorem mfk_of {C : Addr} {m qual : Str} {st : Stmt} {f : Addr} {fd : FuncData} {N ps : List Str} {k : Nat} {sp : Sp} (ks : List Str) (is : List Nat) (F : FDm K m qual st f fd) (hm : Meth K C m f) (S : FnScope N ps (defScope st)) (len : ∀ vs H Q E, sp vs H Q E → vs.length = ps.length)
    (b1 : ∀ (kV dc pm : Value) (an : Option Addr) (cdv ct : Value) (us : List Value), us.length = ps.length → bindArgs (PySem.W.fnOf m qual (defArgs st) (defBody st) (defScope st) .none kV dc pm an cdv ct) ⟨us, []⟩ = pure (ps.zip us))
    (bk : ∀ (kV doc pm : Value) (an : Option Addr) (cdv ct : Value) (us ws : List Value), us.length = 1 → ws.length = ks.length → bindArgs (PySem.W.fnOf m qual (defArgs st) (defBody st) (defScope st) .none kV doc pm an cdv ct) ⟨us, ks.zip ws⟩ = pure (ps.zip (pk is (us ++ ws))))
    (hb : ∀ (cdv : Value) (A : Around) (outer : List Env) (s : Shared) (H : Hp) (vs : List V) (Q : VK) (E : XK), Room k (A.deeper (envOfC qual (defScope st) s.heap.objs.size f cdv)) → sp vs H Q E →
      ∃ t, PSs (cxOf CX P w K mg base N qual (defScope st) f cdv A outer s H E) (defBody st) t ∧ t { nx := fun _ H' => Q .non H', rt := Q } (start N vs) H) : Mf CX P w K mg base (k + 1) C m ps sp ∧ Mfk CX P w K mg base (k + 1) C m ps ks is sp := by
  obtain ⟨a, b⟩ := fm_of F S len b1 hb
  exact ⟨⟨f, fd, hm, a, b⟩, ⟨f, fd, hm, a, kbk_of F 1 ks is bk⟩⟩
theorem mfk_of0 {C : Addr} {m qual : Str} {st : Stmt} {f : Addr} {fd : FuncData} {N ps : List Str} {k : Nat} {sp : Sp} (ks : List Str) (is : List Nat) (F : FDm K m qual st f fd) (hm : Meth K C m f) (S : FnScope N ps (defScope st)) (len : ∀ vs H Q E, sp vs H Q E → vs.length = ps.length)
    (b1 : ∀ (kV dc pm : Value) (an : Option Addr) (cdv ct : Value) (us : List Value), us.length = ps.length → bindArgs (PySem.W.fnOf m qual (defArgs st) (defBody st) (defScope st) .none kV dc pm an cdv ct) ⟨us, []⟩ = pure (ps.zip us))
    (bk : ∀ (kV doc pm : Value) (an : Option Addr) (cdv ct : Value) (us ws : List Value), us.length = 1 → ws.length = ks.length → bindArgs (PySem.W.fnOf m qual (defArgs st) (defBody st) (defScope st) .none kV doc pm an cdv ct) ⟨us, ks.zip ws⟩ = pure (ps.zip (pk is (us ++ ws))))
    (hb : ∀ (cdv : Value) (A : Around) (outer : List Env) (s : Shared) (H : Hp) (vs : List V) (Q : VK) (E : XK), Room k (A.deeper (envOfC qual (defScope st) s.heap.objs.size f cdv)) → sp vs H Q E →
      ∃ t, PSs (cxOf CX0 P w K mg base N qual (defScope st) f cdv A outer s H E).nox (defBody st) t ∧ t { nx := fun _ H' => Q .non H', rt := Q } (start N vs) H) : Mf CX0 P w K mg base (k + 1) C m ps sp ∧ Mfk CX0 P w K mg base (k + 1) C m ps ks is sp :=
  mfk_of ks is F hm S len b1 bk fun cdv A outer s H vs Q E hr h => by
    obtain ⟨t, h1, h2⟩ := hb cdv A outer s H vs Q E hr h
    exact ⟨t, h1.nox, h2⟩
theorem kfk_of1 {x qual : Str} {C : Addr} {st : Stmt} {dv : V} {f : Addr} {fd : FuncData} {N ps : List Str} {k : Nat} {sp : Sp} (ks : List Str) (is : List Nat)
    (F : FunD K "__init__" qual (defArgs st) (defBody st) (defScope st) [dv] [] f fd) (hm : Mk K C f) (gx : mg x = some (.ref C)) (S : FnScope N ps (defScope st)) (len : ∀ vs H Q E, sp vs H Q E → vs.length = ps.length)
    (b1 : ∀ (T : Addr) (kV doc pm : Value) (an : Option Addr) (cdv ct : Value) (us its : List Value), us.length = ps.length → its.length = 1 →
      ∃ k, bindArgs (PySem.W.fnOf "__init__" qual (defArgs st) (defBody st) (defScope st) (.ref T) kV doc pm an cdv ct) ⟨us, []⟩ = seqItems? (.ref T) >>= k ∧ k (some its.toArray) = pure (ps.zip (us ++ its.drop 1)))
    (bk : ∀ (T : Addr) (kV doc pm : Value) (an : Option Addr) (cdv ct : Value) (us its ws : List Value), us.length = 1 → its.length = 1 → ws.length = ks.length →
      ∃ k, bindArgs (PySem.W.fnOf "__init__" qual (defArgs st) (defBody st) (defScope st) (.ref T) kV doc pm an cdv ct) ⟨us, ks.zip ws⟩ = seqItems? (.ref T) >>= k ∧ k (some its.toArray) = pure (ps.zip (pk is (us ++ ws))))
    (hb : ∀ (cdv : Value) (A : Around) (outer : List Env) (s : Shared) (H : Hp) (vs : List V) (Q : VK) (E : XK), Room k (A.deeper (envOfC qual (defScope st) s.heap.objs.size f cdv)) → sp vs H Q E →
      ∃ t, PSs (cxOf CX0 P w K mg base N qual (defScope st) f cdv A outer s H E).nox (defBody st) t ∧ t { nx := fun _ H' => Q .non H', rt := Q } (start N vs) H) : Kf P w K mg base (k + 1) x C ps sp ∧ Kfk P w K mg base (k + 1) x C ps ks is sp := by
  have ok : FnOk P w K mg base CX0 (k + 1) f fd ps sp := F.ok S len fun cdv A outer s H vs Q E hr h => by
    obtain ⟨t, h1, h2⟩ := hb cdv A outer s H vs Q E hr h
    exact ⟨t, h1.nox, h2⟩
  obtain ⟨ds, r, b⟩ := F.binds1 (ps := ps) ps.length 1 (by intro z; cases z) (by show ps.length + (1 - 1) = ps.length; omega) fun T kV doc pm an cdv ct us its h1 h2 => b1 T kV doc pm an cdv ct us its h1 h2
  cases r
  obtain ⟨its, q⟩ := F.kbindsD (ps := ps) 1 ks (fun us _ ws => pk is (us ++ ws)) (by intro z; cases z) (fun r1 _ r3 => pk_vals (r1.append r3) is) fun T kV doc pm an cdv ct us its ws h1 h2 h3 => bk T kV doc pm an cdv ct us its ws h1 h2 h3
  exact ⟨⟨f, fd, hm, ok, b, gx⟩, ⟨f, fd, hm, ok, ⟨q.to, q.rel⟩, gx⟩⟩
theorem cfk_of {x : Str} {st : Stmt} {f : Addr} {fd : FuncData} {N ps : List Str} {k : Nat} {sp : Sp} (ks : List Str) (is : List Nat) (F : FD K x st f fd) (hm : mg x = some (.ref f)) (S : FnScope N ps (defScope st)) (len : ∀ vs H Q E, sp vs H Q E → vs.length = ps.length)
    (b1 : ∀ (kV dc pm : Value) (an : Option Addr) (cdv ct : Value) (us : List Value), us.length = ps.length → bindArgs (PySem.W.fnOf x x (defArgs st) (defBody st) (defScope st) .none kV dc pm an cdv ct) ⟨us, []⟩ = pure (ps.zip us))
    (b2 : ∀ (kV dc pm : Value) (an : Option Addr) (cdv ct : Value) (us : List Value), us.length = ps.length → bindArgs (PySem.W.fnOf x x (defArgs st) (defBody st) (defScope st) .none kV dc pm an cdv ct) ⟨[], ps.zip us⟩ = pure (ps.zip us))
    (bk : ∀ (kV doc pm : Value) (an : Option Addr) (cdv ct : Value) (us ws : List Value), us.length = 0 → ws.length = ks.length → bindArgs (PySem.W.fnOf x x (defArgs st) (defBody st) (defScope st) .none kV doc pm an cdv ct) ⟨us, ks.zip ws⟩ = pure (ps.zip (pk is (us ++ ws))))
    (hb : ∀ (cdv : Value) (A : Around) (outer : List Env) (s : Shared) (H : Hp) (vs : List V) (Q : VK) (E : XK), Room k (A.deeper (envOfC x (defScope st) s.heap.objs.size f cdv)) → sp vs H Q E →
      ∃ t, PSs (cxOf CX P w K mg base N x (defScope st) f cdv A outer s H E) (defBody st) t ∧ t { nx := fun _ H' => Q .non H', rt := Q } (start N vs) H) : Cf CX P w K mg base (k + 1) x ps sp ∧ Cfk CX P w K mg base (k + 1) x ps ks is sp := by
  have ok := F.ok (P := P) (w := w) (mg := mg) (base := base) (CX := CX) S len hb
  refine ⟨cf_of F hm S len b1 b2 hb, ⟨f, fd, ok, hm, F.kp, kbk_of F 0 ks is bk⟩⟩
end
theorem run_fnK {X : Cx} {CX : CXT} {k n : Nat} {f : Addr} {fd : FuncData} {ps ks : List Str} {sp : Sp} {E : L2.St → XK} {g : List Value → List Value → List Value} {gV : List V → List V → List V} {pins : List (Addr × Obj)} {σ : L2.St} {H : Hp} {s : Shared} {Q : VK} {us ws : List Value} {vs zs : List V}
    (F : FnOk X.prog X.w X.K X.mg X.base CX k f fd ps sp) (hr : Room k X.A) (hb : KBn X.K fd ps n ks g gV) (hx : PassesAt CX X σ (E σ))
    (I : Inv X pins σ H s) (r : Vals vs us) (rz : Vals zs ws) (l1 : vs.length = n) (l2 : zs.length = ks.length) (h : sp (gV vs zs) H Q (E σ)) : wpAny (model X.prog X.w) X.A (call (.ref f) us (ks.zip ws)) (EP X pins σ Q) X.xe s := by
  have r2 := hb.rel r rz
  refine wpAny_call (codeAny_mono (F.run X.A X.stack s H ⟨us, ks.zip ws⟩ (g us ws) (gV vs zs) Q (E σ) hr I.env0 (hb.to s us ws I.kIn (r.length.symm.trans l1) (rz.length.symm.trans l2)) r2 h) fun r s' hq => ?_)
  cases r with
  | error e => exact hx pins H s e s' I hq
  | ok fl =>
    cases fl with
    | ret u => exact I.after hq
    | next => exact False.elim hq
    | brk => exact False.elim hq
    | cont => exact False.elim hq
/-! ### the calls -/
def tMk (C : Addr) (m : Str) (n : Nat) (is : List Nat) (sp : Sp) (W : WX) (ta : TE) (tk : TA) : TE := fun σ H Q => ta σ H fun x H1 => ∃ a dx fs, x = .ref a ∧ H1 a = some (.ins C dx fs) ∧ fs.lookup m = none ∧ tk σ H1 fun zs H2 => zs.length = n ∧ sp (pk is (x :: zs)) H2 Q fun cls d H3 => W cls d σ H3
def tMk0 (C : Addr) (m : Str) (n : Nat) (is : List Nat) (sp : Sp) (ta : TE) (tk : TA) : TE := fun σ H Q => ta σ H fun x H1 => ∃ a dx fs, x = .ref a ∧ H1 a = some (.ins C dx fs) ∧ fs.lookup m = none ∧ tk σ H1 fun zs H2 => zs.length = n ∧ sp (pk is (x :: zs)) H2 Q E0
def tNk (C : Addr) (n : Nat) (is : List Nat) (sp : Sp) (tk : TA) : TE := fun σ H Q => tk σ H fun zs H2 => ([] : List V).length = 0 ∧ zs.length = n ∧ ∀ x dx, H2 x = none → H2 dx = none → dx ≠ x → sp (pk is ([.ref x] ++ zs)) (upd (upd H2 dx (.own x)) x (.ins C dx [])) (fun v H3 => v = .non ∧ Q (.ref x) H3) E0
def tCk (n : Nat) (is : List Nat) (sp : Sp) (W : WX) (tk : TA) : TE := fun σ H Q => tk σ H fun zs H2 => zs.length = n ∧ sp (pk is zs) H2 Q fun cls d H3 => W cls d σ H3
section
variable {X : Cx} {C : Addr} {x m : Str} {ps ks : List Str} {is : List Nat} {k j : Nat} {sp : Sp} {p apos pos : Pos} {o : Expr} {kws : List Keyword} {ta : TE} {tk : TA}
theorem pe_mk {W : WX} {pl : Sem Bool} (M : Mfk (CXr X.prog X.w) X.prog X.w X.K X.mg X.base k C m ps ks is sp) (he : PE X o ta) (c : Cls X.K C) (hr : Room j X.A) (hk : k ≤ j) (tw : Takes X W) (hkw : PK X kws tk)
    (hall : (backToKw pos (keywordEach kws X.env)).all (·.1.isSome) = true := by rfl) (hks : (backToKw pos (keywordEach kws X.env)).filterMap (·.1) = ks := by rfl)
    (hpl : ((backTo pos (starEach [] X.env)).any (·.1) || (backToKw pos (keywordEach kws X.env)).any (·.1.isNone)) = false := by rfl)
    (ht : eval (.Call (.Attribute o m apos) [] kws pos) X.env = (do
      let ov ← eval o X.env
      standAt apos.atName
      let (f, first) ← holding [ov] (getMethod ov m pl)
      callWith pos f first (backTo pos (starEach [] X.env)) (backToKw pos (keywordEach kws X.env))) := by rfl) :
    PE X (.Call (.Attribute o m apos) [] kws pos) (tMk C m ks.length is sp W ta tk) := by
  obtain ⟨f, fd, hm, F, hb⟩ := M.ex
  refine ⟨fun pins s σ H Q I h => ?_⟩
  refine PySem.W.methodCall_KW (pl := pl) (thn (he.run pins s σ H _ I h) fun u s1 ⟨x, H1, I1, rx, a, dx, fs, ex, ea, l, q⟩ => ?_) ht
  subst ex
  obtain rfl : u = Value.ref a := rx
  refine getmeth_ok I1 ea c hm l ?_
  refine PySem.W.callWith_KW0 (first := [.ref a]) (h₀ := X.base) I.ok.mod.kin hm.kp hall (thn (hkw.run pos pins s1 σ H1 _ I1 q) fun ws s2 ⟨zs, H2, I2, rz, l2, q2⟩ => ⟨I2.kIn, ?_⟩) hpl
  rw [hks]
  exact run_fnK (E := WE W) (us := [.ref a]) (vs := [.ref a]) F (hr.mono hk) hb (passAt tw σ) I2 (.cons rfl .nil) rz rfl l2 q2
theorem pe_mk0 {pl : Sem Bool} (M : Mfk CX0 X.prog X.w X.K X.mg X.base k C m ps ks is sp) (he : PE X o ta) (c : Cls X.K C) (hr : Room j X.A) (hk : k ≤ j) (hkw : PK X kws tk)
    (hall : (backToKw pos (keywordEach kws X.env)).all (·.1.isSome) = true := by rfl) (hks : (backToKw pos (keywordEach kws X.env)).filterMap (·.1) = ks := by rfl)
    (hpl : ((backTo pos (starEach [] X.env)).any (·.1) || (backToKw pos (keywordEach kws X.env)).any (·.1.isNone)) = false := by rfl)
    (ht : eval (.Call (.Attribute o m apos) [] kws pos) X.env = (do
      let ov ← eval o X.env
      standAt apos.atName
      let (f, first) ← holding [ov] (getMethod ov m pl)
      callWith pos f first (backTo pos (starEach [] X.env)) (backToKw pos (keywordEach kws X.env))) := by rfl) :
    PE X (.Call (.Attribute o m apos) [] kws pos) (tMk0 C m ks.length is sp ta tk) := by
  obtain ⟨f, fd, hm, F, hb⟩ := M.ex
  refine ⟨fun pins s σ H Q I h => ?_⟩
  refine PySem.W.methodCall_KW (pl := pl) (thn (he.run pins s σ H _ I h) fun u s1 ⟨x, H1, I1, rx, a, dx, fs, ex, ea, l, q⟩ => ?_) ht
  subst ex
  obtain rfl : u = Value.ref a := rx
  refine getmeth_ok I1 ea c hm l ?_
  refine PySem.W.callWith_KW0 (first := [.ref a]) (h₀ := X.base) I.ok.mod.kin hm.kp hall (thn (hkw.run pos pins s1 σ H1 _ I1 q) fun ws s2 ⟨zs, H2, I2, rz, l2, q2⟩ => ⟨I2.kIn, ?_⟩) hpl
  rw [hks]
  exact run_fnN (us := [.ref a]) (vs := [.ref a]) F (hr.mono hk) hb pass0 I2 (.cons rfl .nil) rz rfl l2 q2
theorem pe_newk (M : Kfk X.prog X.w X.K X.mg X.base k x C ps ks is sp) (hr : Room j X.A) (hk : k + 1 ≤ j) (hg : Gl X x) (hkw : PK X kws tk) (hdb : (x == ("__debug__" : Str)) = false := by decide)
    (hall : (backToKw pos (keywordEach kws X.env)).all (·.1.isSome) = true := by rfl) (hks : (backToKw pos (keywordEach kws X.env)).filterMap (·.1) = ks := by rfl)
    (hpl : ((backTo pos (starEach [] X.env)).any (·.1) || (backToKw pos (keywordEach kws X.env)).any (·.1.isNone)) = false := by rfl) :
    PE X (.Call (.Name x p) [] kws pos) (tNk C ks.length is sp tk) := by
  obtain ⟨f, fd, hm, F, hb, gx⟩ := M.ex
  refine ⟨fun pins s σ H Q I h => ?_⟩
  refine (pe_makeK0 hm F (hr.mono hk) hg gx hb pass0 hkw hall hks hdb hpl).run pins s σ H Q I ?_
  exact h
theorem pe_ck {W : WX} (c : Cfk (CXr X.prog X.w) X.prog X.w X.K X.mg X.base k x ps ks is sp) (hr : Room j X.A) (hk : k ≤ j) (tw : Takes X W) (hg : Gl X x) (hkw : PK X kws tk)
    (hall : (backToKw pos (keywordEach kws X.env)).all (·.1.isSome) = true := by rfl) (hks : (backToKw pos (keywordEach kws X.env)).filterMap (·.1) = ks := by rfl) (hdb : (x == ("__debug__" : Str)) = false := by decide)
    (hpl : ((backTo pos (starEach [] X.env)).any (·.1) || (backToKw pos (keywordEach kws X.env)).any (·.1.isNone)) = false := by rfl) : PE X (.Call (.Name x p) [] kws pos) (tCk ks.length is sp W tk) := by
  obtain ⟨f, fd, F, hm, kp, hb⟩ := c.ex
  refine ⟨fun pins s σ H Q I h => wpAny_Call_Name_kw (ld_glob I hg hm ?_ hdb)⟩
  refine PySem.W.callWith_KW0 (h₀ := X.base) I.ok.mod.kin kp hall (thn (hkw.run pos pins s σ H _ I h) fun ws s2 hq => ?_) hpl
  obtain ⟨zs, H2, I2, rz, l2, q2⟩ := hq
  refine ⟨I2.kIn, ?_⟩
  rw [hks]
  exact run_fnK (E := WE W) (us := []) (vs := []) F (hr.mono hk) hb (passAt tw σ) I2 .nil rz rfl l2 q2
end
end WR
namespace W00
open PySem PySem.Spec PyProof.Rows L2 WR LamX
/-! ### the text by places -/
def top (i : Nat) : Stmt := PySem.Challenge.pw_worneven_k00_whole_chips_deed_by_deed.main.body.getD i (.Pass ⟨0, 0, 0, 0⟩)
def inCls (s : Stmt) (i : Nat) : Stmt := match s with
  | .ClassDef _ _ _ body _ _ _ _ _ _ _ => body.getD i (.Pass ⟨0, 0, 0, 0⟩)
  | _ => s
abbrev s_is_integer : Stmt := top 16
abbrev s_is_between : Stmt := top 17
abbrev s_has_only : Stmt := top 18
abbrev s_are_cells : Stmt := top 19
abbrev s_is_pattern : Stmt := top 20
abbrev s_is_cell : Stmt := top 21
abbrev s_is_page : Stmt := top 22
abbrev s_is_fault : Stmt := top 37
abbrev s_are_faults : Stmt := top 38
abbrev s_torn : Stmt := top 39
abbrev s_Chip___init__ : Stmt := inCls (top 40) 0
abbrev s_Chip_blocks : Stmt := inCls (top 40) 1
abbrev s_Chip_pages : Stmt := inCls (top 40) 2
abbrev s_Chip_wear : Stmt := inCls (top 40) 3
abbrev s_Chip_bad : Stmt := inCls (top 40) 4
abbrev s_Chip_done : Stmt := inCls (top 40) 5
abbrev s_Chip_cuts : Stmt := inCls (top 40) 6
abbrev s_Chip_is_on : Stmt := inCls (top 40) 7
abbrev s_Chip_read : Stmt := inCls (top 40) 8
abbrev s_Chip_write : Stmt := inCls (top 40) 10
abbrev s_Chip_erase : Stmt := inCls (top 40) 11
abbrev s_Chip_again : Stmt := inCls (top 40) 12
abbrev s_Chip_fade : Stmt := inCls (top 40) 13
abbrev s_Chip_image : Stmt := inCls (top 40) 15
abbrev s_Chip__check_place : Stmt := inCls (top 40) 18
abbrev s_Chip__may_fall : Stmt := inCls (top 40) 19
abbrev s_Chip__next_deed : Stmt := inCls (top 40) 20
abbrev s_Chip__deed_told : Stmt := inCls (top 40) 21
abbrev s_law_pot : Stmt := top 42
abbrev s_law_take : Stmt := top 43
abbrev s_law_of : Stmt := top 44
abbrev s_law_some : Stmt := top 45
abbrev s_law_cells : Stmt := top 46
abbrev s_law_heard : Stmt := top 47
abbrev s_law_is_int : Stmt := top 48
abbrev s_law_chip_begun : Stmt := top 49
abbrev s_law_chip_is_cells : Stmt := top 50
abbrev s_law_chip_torn : Stmt := top 51
abbrev s_law_chip_fault : Stmt := top 52
abbrev s_law_chip_deed : Stmt := top 53
abbrev s_law_chip_written : Stmt := top 54
abbrev s_law_chip_erased : Stmt := top 55
abbrev s_law_chip_can_fade : Stmt := top 56
abbrev s_law_chip_faded : Stmt := top 57
abbrev s_law_chip_is_told : Stmt := top 58
abbrev s_law_chip_pattern : Stmt := top 59
abbrev s_law_chip_page : Stmt := top 60
abbrev s_law_chip_faults : Stmt := top 61
abbrev s_law_deed_drawn : Stmt := top 62
abbrev s_law_behind : Stmt := top 63
abbrev s_law_call : Stmt := top 64
abbrev s_law_is_done : Stmt := top 65
abbrev s_law_right : Stmt := top 66
abbrev s_law : Stmt := top 67
abbrev s_xinit : Stmt := inCls (top 2) 0
/-! ### names by slot -/
theorem sc_is_integer : FnScope ["value"] ["value"] (defScope s_is_integer) := ⟨rfl, rfl, rfl, by decide +kernel, rfl, by decide +kernel, by decide +kernel⟩
theorem sc_is_between : FnScope ["value", "low", "high"] ["value", "low", "high"] (defScope s_is_between) := ⟨rfl, rfl, rfl, by decide +kernel, rfl, by decide +kernel, by decide +kernel⟩
theorem sc_has_only : FnScope ["text", "signs"] ["text", "signs"] (defScope s_has_only) := ⟨rfl, rfl, rfl, by decide +kernel, rfl, by decide +kernel, by decide +kernel⟩
theorem sc_are_cells : FnScope ["value"] ["value"] (defScope s_are_cells) := ⟨rfl, rfl, rfl, by decide +kernel, rfl, by decide +kernel, by decide +kernel⟩
theorem sc_is_pattern : FnScope ["value"] ["value"] (defScope s_is_pattern) := ⟨rfl, rfl, rfl, by decide +kernel, rfl, by decide +kernel, by decide +kernel⟩
theorem sc_is_cell : FnScope ["value"] ["value"] (defScope s_is_cell) := ⟨rfl, rfl, rfl, by decide +kernel, rfl, by decide +kernel, by decide +kernel⟩
theorem sc_is_page : FnScope ["value"] ["value"] (defScope s_is_page) := ⟨rfl, rfl, rfl, by decide +kernel, rfl, by decide +kernel, by decide +kernel⟩
theorem sc_is_fault : FnScope ["value", "at", "word", "pattern"] ["value"] (defScope s_is_fault) := ⟨rfl, rfl, rfl, by decide +kernel, rfl, by decide +kernel, by decide +kernel⟩
theorem sc_are_faults : FnScope ["value", "last", "fault"] ["value"] (defScope s_are_faults) := ⟨rfl, rfl, rfl, by decide +kernel, rfl, by decide +kernel, by decide +kernel⟩
theorem sc_torn : FnScope ["cells", "pattern", "times", "cell", "over"] ["cells", "pattern"] (defScope s_torn) := ⟨rfl, rfl, rfl, by decide +kernel, rfl, by decide +kernel, by decide +kernel⟩
theorem sc_Chip___init__ : FnScope ["self", "blocks", "pages", "faults", "at", "word", "pattern"] ["self", "blocks", "pages", "faults"] (defScope s_Chip___init__) := ⟨rfl, rfl, rfl, by decide +kernel, rfl, by decide +kernel, by decide +kernel⟩
theorem sc_Chip_blocks : FnScope ["self"] ["self"] (defScope s_Chip_blocks) := ⟨rfl, rfl, rfl, by decide +kernel, rfl, by decide +kernel, by decide +kernel⟩
theorem sc_Chip_pages : FnScope ["self"] ["self"] (defScope s_Chip_pages) := ⟨rfl, rfl, rfl, by decide +kernel, rfl, by decide +kernel, by decide +kernel⟩
theorem sc_Chip_wear : FnScope ["self"] ["self"] (defScope s_Chip_wear) := ⟨rfl, rfl, rfl, by decide +kernel, rfl, by decide +kernel, by decide +kernel⟩
theorem sc_Chip_bad : FnScope ["self", "block"] ["self"] (defScope s_Chip_bad) := ⟨rfl, rfl, rfl, by decide +kernel, rfl, by decide +kernel, by decide +kernel⟩
theorem sc_Chip_done : FnScope ["self"] ["self"] (defScope s_Chip_done) := ⟨rfl, rfl, rfl, by decide +kernel, rfl, by decide +kernel, by decide +kernel⟩
theorem sc_Chip_cuts : FnScope ["self"] ["self"] (defScope s_Chip_cuts) := ⟨rfl, rfl, rfl, by decide +kernel, rfl, by decide +kernel, by decide +kernel⟩
theorem sc_Chip_is_on : FnScope ["self"] ["self"] (defScope s_Chip_is_on) := ⟨rfl, rfl, rfl, by decide +kernel, rfl, by decide +kernel, by decide +kernel⟩
theorem sc_Chip_read : FnScope ["self", "place"] ["self", "place"] (defScope s_Chip_read) := ⟨rfl, rfl, rfl, by decide +kernel, rfl, by decide +kernel, by decide +kernel⟩
theorem sc_Chip_write : FnScope ["self", "place", "cells", "word", "pattern", "block"] ["self", "place", "cells"] (defScope s_Chip_write) := ⟨rfl, rfl, rfl, by decide +kernel, rfl, by decide +kernel, by decide +kernel⟩
theorem sc_Chip_erase : FnScope ["self", "block", "word", "pattern", "place"] ["self", "block"] (defScope s_Chip_erase) := ⟨rfl, rfl, rfl, by decide +kernel, rfl, by decide +kernel, by decide +kernel⟩
theorem sc_Chip_again : FnScope ["self"] ["self"] (defScope s_Chip_again) := ⟨rfl, rfl, rfl, by decide +kernel, rfl, by decide +kernel, by decide +kernel⟩
theorem sc_Chip_fade : FnScope ["self", "place", "cell", "sign", "cells"] ["self", "place", "cell", "sign"] (defScope s_Chip_fade) := ⟨rfl, rfl, rfl, by decide +kernel, rfl, by decide +kernel, by decide +kernel⟩
theorem sc_Chip_image : FnScope ["self"] ["self"] (defScope s_Chip_image) := ⟨rfl, rfl, rfl, by decide +kernel, rfl, by decide +kernel, by decide +kernel⟩
theorem sc_Chip__check_place : FnScope ["self", "place"] ["self", "place"] (defScope s_Chip__check_place) := ⟨rfl, rfl, rfl, by decide +kernel, rfl, by decide +kernel, by decide +kernel⟩
theorem sc_Chip__may_fall : FnScope ["self", "place", "cell", "sign", "cells"] ["self", "place", "cell", "sign"] (defScope s_Chip__may_fall) := ⟨rfl, rfl, rfl, by decide +kernel, rfl, by decide +kernel, by decide +kernel⟩
theorem sc_Chip__next_deed : FnScope ["self"] ["self"] (defScope s_Chip__next_deed) := ⟨rfl, rfl, rfl, by decide +kernel, rfl, by decide +kernel, by decide +kernel⟩
theorem sc_Chip__deed_told : FnScope ["self", "block", "word"] ["self", "block", "word"] (defScope s_Chip__deed_told) := ⟨rfl, rfl, rfl, by decide +kernel, rfl, by decide +kernel, by decide +kernel⟩
theorem sc_law_pot : FnScope ["script", "place", "cell", "own", "small"] ["script", "place"] (defScope s_law_pot) := ⟨rfl, rfl, rfl, by decide +kernel, rfl, by decide +kernel, by decide +kernel⟩
theorem sc_law_take : FnScope ["pot", "upto", "digit", "prime", "blend"] ["pot", "upto"] (defScope s_law_take) := ⟨rfl, rfl, rfl, by decide +kernel, rfl, by decide +kernel, by decide +kernel⟩
theorem sc_law_of : FnScope ["pot", "some"] ["pot", "some"] (defScope s_law_of) := ⟨rfl, rfl, rfl, by decide +kernel, rfl, by decide +kernel, by decide +kernel⟩
theorem sc_law_some : FnScope ["pot", "pool", "many", "rests", "found", "lap"] ["pot", "pool", "many"] (defScope s_law_some) := ⟨rfl, rfl, rfl, by decide +kernel, rfl, by decide +kernel, by decide +kernel⟩
theorem sc_law_cells : FnScope ["script", "most"] ["script", "most"] (defScope s_law_cells) := ⟨rfl, rfl, rfl, by decide +kernel, rfl, by decide +kernel, by decide +kernel⟩
theorem sc_law_heard : FnScope ["call", "caught", "back", "error"] ["call"] (defScope s_law_heard) := ⟨rfl, rfl, rfl, by decide +kernel, rfl, by decide +kernel, by decide +kernel⟩
theorem sc_law_is_int : FnScope ["value", "low", "high"] ["value", "low", "high"] (defScope s_law_is_int) := ⟨rfl, rfl, rfl, by decide +kernel, rfl, by decide +kernel, by decide +kernel⟩
theorem sc_law_chip_begun : FnScope ["blocks", "pages", "faults", "found"] ["blocks", "pages", "faults"] (defScope s_law_chip_begun) := ⟨rfl, rfl, rfl, by decide +kernel, rfl, by decide +kernel, by decide +kernel⟩
theorem sc_law_chip_is_cells : FnScope ["value", "low", "high", "sign"] ["value", "low", "high"] (defScope s_law_chip_is_cells) := ⟨rfl, rfl, rfl, by decide +kernel, rfl, by decide +kernel, by decide +kernel⟩
theorem sc_law_chip_torn : FnScope ["cells", "pattern", "found", "at", "cell", "raised"] ["cells", "pattern"] (defScope s_law_chip_torn) := ⟨rfl, rfl, rfl, by decide +kernel, rfl, by decide +kernel, by decide +kernel⟩
theorem sc_law_chip_fault : FnScope ["own", "some", "at", "word", "pattern"] ["own"] (defScope s_law_chip_fault) := ⟨rfl, rfl, rfl, by decide +kernel, rfl, by decide +kernel, by decide +kernel⟩
theorem sc_law_chip_deed : FnScope ["own", "block", "word", "later"] ["own", "block", "word"] (defScope s_law_chip_deed) := ⟨rfl, rfl, rfl, by decide +kernel, rfl, by decide +kernel, by decide +kernel⟩
theorem sc_law_chip_written : FnScope ["own", "place", "cells", "word", "pattern", "block", "later", "told", "rows"] ["own", "place", "cells"] (defScope s_law_chip_written) := ⟨rfl, rfl, rfl, by decide +kernel, rfl, by decide +kernel, by decide +kernel⟩
theorem sc_law_chip_erased : FnScope ["own", "block", "word", "pattern", "later", "told", "rows", "wear", "places", "place", "cells"] ["own", "block"] (defScope s_law_chip_erased) := ⟨rfl, rfl, rfl, by decide +kernel, rfl, by decide +kernel, by decide +kernel⟩
theorem sc_law_chip_can_fade : FnScope ["own", "place", "cell", "sign", "cells"] ["own", "place", "cell", "sign"] (defScope s_law_chip_can_fade) := ⟨rfl, rfl, rfl, by decide +kernel, rfl, by decide +kernel, by decide +kernel⟩
theorem sc_law_chip_faded : FnScope ["own", "place", "cell", "sign", "later", "rows"] ["own", "place", "cell", "sign"] (defScope s_law_chip_faded) := ⟨rfl, rfl, rfl, by decide +kernel, rfl, by decide +kernel, by decide +kernel⟩
theorem sc_law_chip_is_told : FnScope ["chip", "own"] ["chip", "own"] (defScope s_law_chip_is_told) := ⟨rfl, rfl, rfl, by decide +kernel, rfl, by decide +kernel, by decide +kernel⟩
theorem sc_law_chip_pattern : FnScope ["pot", "way", "lap"] ["pot"] (defScope s_law_chip_pattern) := ⟨rfl, rfl, rfl, by decide +kernel, rfl, by decide +kernel, by decide +kernel⟩
theorem sc_law_chip_page : FnScope ["pot", "row", "lap"] ["pot"] (defScope s_law_chip_page) := ⟨rfl, rfl, rfl, by decide +kernel, rfl, by decide +kernel, by decide +kernel⟩
theorem sc_law_chip_faults : FnScope ["pot", "many", "most", "ats", "at"] ["pot", "many", "most"] (defScope s_law_chip_faults) := ⟨rfl, rfl, rfl, by decide +kernel, rfl, by decide +kernel, by decide +kernel⟩
theorem sc_law_deed_drawn : FnScope ["pot", "own", "way", "empty", "place", "cell", "at", "cells"] ["pot", "own"] (defScope s_law_deed_drawn) := ⟨rfl, rfl, rfl, by decide +kernel, rfl, by decide +kernel, by decide +kernel⟩
theorem sc_law_behind : FnScope ["own", "deed", "later", "can"] ["own", "deed"] (defScope s_law_behind) := ⟨rfl, rfl, rfl, by decide +kernel, rfl, by decide +kernel, by decide +kernel⟩
theorem sc_law_call : FnScope ["chip", "deed"] ["chip", "deed"] (defScope s_law_call) := ⟨rfl, rfl, rfl, by decide +kernel, rfl, by decide +kernel, by decide +kernel⟩
theorem sc_law_is_done : FnScope ["chip", "deed", "due", "caught", "told"] ["chip", "deed", "due"] (defScope s_law_is_done) := ⟨rfl, rfl, rfl, by decide +kernel, rfl, by decide +kernel, by decide +kernel⟩
theorem sc_law_right : FnScope ["pot", "blocks", "faults", "chip", "own", "lap", "deed", "due", "places", "at"] ["pot"] (defScope s_law_right) := ⟨rfl, rfl, rfl, by decide +kernel, rfl, by decide +kernel, by decide +kernel⟩
theorem sc_law : FnScope ["script", "place"] ["script"] (defScope s_law) := ⟨rfl, rfl, rfl, by decide +kernel, rfl, by decide +kernel, by decide +kernel⟩
theorem sc_xinit : FnScope ["self", "value"] ["self", "value"] (defScope s_xinit) := ⟨rfl, rfl, rfl, by decide +kernel, rfl, by decide +kernel, by decide +kernel⟩
/-! ### what the walk asks of the top -/
structure Txt (K : PySem.W.Frag) (w : World) (mg : Str → Option Value) : Prop where
  f_isinstance : mg "isinstance" = none
  f_int : mg "int" = none
  f_bool : mg "bool" = none
  f_str : mg "str" = none
  f_len : mg "len" = none
  f_tuple : mg "tuple" = none
  f_max : mg "max" = none
  f_zip : mg "zip" = none
  f_range : mg "range" = none
  f_abs : mg "abs" = none
  f_sum : mg "sum" = none
  f_list : mg "list" = none
  f_min : mg "min" = none
  f_all : mg "all" = none
  f_enumerate : mg "enumerate" = none
  f_dict : mg "dict" = none
  f_sorted : mg "sorted" = none
  f_repr : mg "repr" = none
  g_CELLS : ∃ u, mg "CELLS" = some u ∧ RelV (.str (SX.S [48, 49, 50, 51, 52, 53, 54, 55, 56, 57, 97, 98, 99, 100, 101, 102])) u
  g_PAGE_CELLS : ∃ u, mg "PAGE_CELLS" = some u ∧ RelV (.int 256) u
  g_EMPTY_PAGE : ∃ u, mg "EMPTY_PAGE" = some u ∧ RelV (.str (SX.S (List.replicate 256 102))) u
  g_NO_FAULT : ∃ u, mg "NO_FAULT" = some u ∧ RelV (.str (SX.S [])) u
  gx_FlashError : mg "FlashError" = some (.ref (He.ga K "FlashError"))
  gx_Cut : mg "Cut" = some (.ref (He.ga K "Cut"))
  gx_BadFade : mg "BadFade" = some (.ref (He.ga K "BadFade"))
  gx_Chip : mg "Chip" = some (.ref (He.ga K "Chip"))
  cl_Chip : Cls K (He.ga K "Chip")
  na_blocks : NoAttr K (He.ga K "Chip") "_blocks"
  na_pages : NoAttr K (He.ga K "Chip") "_pages"
  na_faults : NoAttr K (He.ga K "Chip") "_faults"
  na_fault_at : NoAttr K (He.ga K "Chip") "_fault_at"
  na_cells : NoAttr K (He.ga K "Chip") "_cells"
  na_stands : NoAttr K (He.ga K "Chip") "_stands"
  na_texts : NoAttr K (He.ga K "Chip") "_texts"
  na_wear : NoAttr K (He.ga K "Chip") "_wear"
  na_is_bad : NoAttr K (He.ga K "Chip") "_is_bad"
  na_done : NoAttr K (He.ga K "Chip") "_done"
  na_cuts : NoAttr K (He.ga K "Chip") "_cuts"
  na_has_current : NoAttr K (He.ga K "Chip") "_has_current"
  ic_Cut : IsC K (He.ga K "Cut")
  nv_Cut : PySem.W.findIn K (.ref (He.ga K "Cut")) "value" = some none
  xm_Cut : PySem.W.exmOne K (.ref (He.ga K "Cut")) (.ref (He.ga K "FlashError")) = some true
  ic_BadFade : IsC K (He.ga K "BadFade")
  nv_BadFade : PySem.W.findIn K (.ref (He.ga K "BadFade")) "value" = some none
  xm_BadFade : PySem.W.exmOne K (.ref (He.ga K "BadFade")) (.ref (He.ga K "FlashError")) = some true
  ki_Cut_Cut : PySem.W.kitOne K (.ref (He.ga K "Cut")) (.ref (He.ga K "Cut")) = some true
  ki_NoneType_Cut : PySem.W.kitOne K (.type "NoneType") (.ref (He.ga K "Cut")) = some false
  ki_BadFade_BadFade : PySem.W.kitOne K (.ref (He.ga K "BadFade")) (.ref (He.ga K "BadFade")) = some true
def toldV : WM.Told → List V
  | .empty => [.str (Str.ofString "empty")]
  | .whole t => [.str (Str.ofString "whole"), .str (S t)]
  | .mended t i => [.str (Str.ofString "mended"), .str (S t), .int (i : Int)]
  | .torn => [.str (Str.ofString "torn")]
/-- a pot on the heap, with m takes to come at least -/
def PotAt (H : Hp) (a : Addr) (m : Nat) : Prop := ∃ own small cnt : Int, 0 ≤ own ∧ own < 10 ^ 300 ∧ 0 ≤ small ∧ small < 2 ^ 61 ∧ 0 ≤ cnt ∧ cnt + m ≤ 10000 ∧ H a = some (.lst [.int own, .int small, .int cnt])
theorem PotAt.mono {H : Hp} {a : Addr} {m n : Nat} (h : PotAt H a m) (l : n ≤ m) : PotAt H a n := by
  obtain ⟨o, s, c, h1, h2, h3, h4, h5, h6, h7⟩ := h
  exact ⟨o, s, c, h1, h2, h3, h4, h5, by omega, h7⟩
theorem PotAt.same {H H' : Hp} {a : Addr} {m : Nat} (h : PotAt H a m) (s : Same H H') : PotAt H' a m := by
  obtain ⟨o, t, c, h1, h2, h3, h4, h5, h6, h7⟩ := h
  exact ⟨o, t, c, h1, h2, h3, h4, h5, h6, s _ _ h7⟩
theorem PotAt.ne {H : Hp} {a p : Addr} {m : Nat} (h : PotAt H a m) (q : H p = none) : p ≠ a := by
  obtain ⟨o, t, c, h1, h2, h3, h4, h5, h6, h7⟩ := h
  rintro rfl
  rw [h7] at q
  exact nomatch q
section
variable {P : Program} {w : World} {K : PySem.W.Frag} {mg : Str → Option Value} {base : Heap}
theorem But.putn {a p : Addr} {H H' : Hp} {o : HO} (e : But a H H') (h : H p = none) : But a H (upd H' p o) := fun b u n q => by rw [upd_ne (ne_of_none q h)]; exact e b u n q
theorem PotAt.new {H : Hp} {a p : Addr} {m : Nat} {o : HO} (h : PotAt H a m) (q : H p = none) : PotAt (upd H p o) a m := h.same (Same.new q)
theorem PotAt.put {H : Hp} {a p : Addr} {m : Nat} {o : HO} (h : PotAt H a m) (q : p ≠ a) : PotAt (upd H p o) a m := by
  obtain ⟨o', t, c, h1, h2, h3, h4, h5, h6, h7⟩ := h
  exact ⟨o', t, c, h1, h2, h3, h4, h5, h6, by rw [upd_ne (Ne.symm q)]; exact h7⟩
theorem lc_pot {J : It} {n : Nat} {G : Hp → Prop} {Y : Nat → Hp → V → Hp → Prop} (w : Walk J n G Y) {g : TG} {te : TE} {vs : List Nat} {σ : L2.St} {H1 : Hp} {D : Addr} {Qd : Hp → Prop} (a : Addr) (m c : Nat) (P : V → Prop)
    (hD : H1 D = none) (hp : PotAt H1 a (m + c * n)) (hn : n ≤ 1000000) (hG : ∀ H, But a H1 H → G H)
    (hs : ∀ i x H H' (N : V → Hp → Prop) k, i < n → But a H1 H → PotAt H a (k + c) → Y i H x H' → (∀ y H4, But a H H4 → P y → PotAt H4 a k → N y H4) → g x (wipe σ vs) H' fun σ2 H2 => wipe σ2 vs = wipe σ vs ∧ te σ2 H2 N)
    (hg : ∀ x σ H (A B : L2.St → Hp → Prop), (∀ s h, A s h → B s h) → g x σ H A → g x σ H B)
    (hd : ∀ H ys, But a H1 H → PotAt H a m → ys.length = n → (∀ y ∈ ys, P y) → H D = some (.lst ys) → Qd H) :
    ∃ W : Nat → Nat → Hp → Prop, (∃ m, W 0 m (upd H1 D (.lst []))) ∧ ∀ i m H, W i m H →
      (J.stop i H ∧ Qd H) ∨ (J.go i H ∧ ∃ Nx : Hp → Prop, (∀ H', Nx H' → ∃ m', m' < m ∧ W (i + 1) m' H') ∧ ∀ x H', J.yld i H x H' → g x (wipe σ vs) H' fun σ2 H2 => wipe σ2 vs = wipe σ vs ∧ tYes σ2 H2 fun b H3 =>
        if b = true then te σ2 H3 fun y H4 => ∃ acc, H4 D = some (.lst acc) ∧ acc.length < sizeLine ∧ Nx (upd H4 D (.lst (acc ++ [y]))) else Nx H3) := by
  have hDa : D ≠ a := hp.ne hD
  refine lc_it w (fun i H => But a H1 H ∧ PotAt H a (m + c * (n - i)) ∧ ∃ ys, ys.length = i ∧ (∀ y ∈ ys, P y) ∧ H D = some (.lst ys)) ⟨But.new hD, hp.new hD, [], rfl, (fun y h => nomatch h), upd_same⟩ (fun i H _ p => hG H p.1) (fun i x H H' hi p hy => ?_) fun H p => ?_
  · obtain ⟨p1, p2, ys, p3, p4, p5⟩ := p
    have e : m + c * (n - i) = (m + c * (n - (i + 1))) + c := by
      rw [show n - i = (n - (i + 1)) + 1 by omega, Nat.mul_add, Nat.mul_one, Nat.add_assoc]
    rw [e] at p2
    refine hg _ _ _ _ _ (fun _ _ q => ⟨q.1, yes_of q.2⟩) (hs i x H H' _ _ hi p1 p2 hy fun y H4 b py pt => ⟨ys, b _ _ hDa p5, by rw [sizeLine_eq]; omega, But.putn (p1.trans b) hD, pt.put hDa, ys ++ [y], by simp [p3], fun z hz => ?_, upd_same⟩)
    rcases List.mem_append.mp hz with h | h
    · exact p4 z h
    · rw [List.mem_singleton.mp h]; exact py
  · obtain ⟨p1, p2, ys, p3, p4, p5⟩ := p
    rw [Nat.sub_self, Nat.mul_zero, Nat.add_zero] at p2
    exact hd H ys p1 p2 p3 p4 p5
theorem unV {p : Nat → Prop} : ∀ ys : List V, (∀ y ∈ ys, ∃ c, y = V.str (S [c]) ∧ p c) → ∃ rs : List Nat, ys = rs.map (fun c => V.str (S [c])) ∧ rs.length = ys.length ∧ ∀ c ∈ rs, p c
  | [], _ => ⟨[], rfl, rfl, (fun c h => nomatch h)⟩
  | y :: ys, h => by
    obtain ⟨c, e, hc⟩ := h y List.mem_cons_self
    obtain ⟨rs, e2, e3, h2⟩ := unV ys fun z hz => h z (List.mem_cons_of_mem _ hz)
    refine ⟨c :: rs, by rw [e, e2]; rfl, by simp [e3], fun d hd => ?_⟩
    rcases List.mem_cons.mp hd with q | q
    · rw [q]; exact hc
    · exact h2 d q
def toldD : WM.Told → PyData
  | .empty => .tuple [.str (Str.ofString "empty")]
  | .whole t => .tuple [.str (Str.ofString "whole"), .str (S t)]
  | .mended t i => .tuple [.str (Str.ofString "mended"), .str (S t), .int (i : Int)]
  | .torn => .tuple [.str (Str.ofString "torn")]
theorem told_dp {H : Hp} {a : Addr} {x : WM.Told} (h : H a = some (.tup (toldV x))) : Dp K H (.ref a) (toldD x) := by
  cases x with
  | empty => exact .tup (SqT.of h) (.cons (.str _) .nil)
  | whole t => exact .tup (SqT.of h) (.cons (.str _) (.cons (.str _) .nil))
  | mended t i => exact .tup (SqT.of h) (.cons (.str _) (.cons (.str _) (.cons (.int _) .nil)))
  | torn => exact .tup (SqT.of h) (.cons (.str _) .nil)
theorem told_depth (x : WM.Told) : (toldD x).depth ≤ 40 := by
  cases x <;> exact of_decide_eq_true rfl
theorem tupleText_le (t : Str) (ts : List Str) : (tupleText (t :: ts)).length ≤ piled (t :: ts) + 1 := by
  have h := join_length_add (t :: ts) (by simp)
  unfold tupleText
  rw [strLen_append, strLen_append]
  have e1 : (("(" : String) : Str).length = 1 := rfl
  have e2 : ((if (t :: ts).length == 1 then ",)" else ")" : String) : Str).length ≤ 2 := by split <;> decide
  omega
theorem repr_S {t : List Nat} (h : WM.IsText t) : (reprText (S t)).length ≤ 1132 := by
  have := StrLaws.reprText_len (S t) (fun c hc => by
    rw [S_cps] at hc
    have := WM.okc_lt (h.ok c hc)
    have : (127 : Nat) ≤ 16 ^ 8 := by decide
    omega)
  rw [S_len t] at this
  have := h.len
  omega
theorem ne_self (x : V) : (!decide (x = x)) = false := by simp
/-- tellings of texts, with small places -/
def Fine : WM.Told → Prop
  | .empty => True
  | .torn => True
  | .whole t => WM.IsText t
  | .mended t i => WM.IsText t ∧ i < 256
theorem told_showable {x : WM.Told} (h : Fine x) : (toldD x).showable = true := by
  cases x with
  | empty => rfl
  | whole t => rfl
  | mended t i =>
    show (true && (true && (decide ((i : Int).natAbs.log2 < 1920) && true))) = true
    have : (i : Int).natAbs.log2 < 1920 := by
      have h1 : (i : Int).natAbs = i := by omega
      rw [h1]
      have : i.log2 < 8 ∨ i = 0 := by
        by_cases z : i = 0
        · exact .inr z
        · exact .inl ((Nat.log2_lt z).mpr h.2)
      rcases this with q | rfl
      · omega
      · decide
    rw [decide_eq_true this]
    rfl
  | torn => rfl
theorem told_shown {x : WM.Told} (h : Fine x) : (toldD x).shown.length ≤ sizeLine := by
  rw [sizeLine_eq]
  cases x with
  | empty => decide +kernel
  | whole t =>
    refine Nat.le_trans (tupleText_le _ _) ?_
    have h1 := repr_S h
    have h2 : (reprText (Str.ofString "whole")).length ≤ 20 := by decide +kernel
    show piled [reprText (Str.ofString "whole"), reprText (S t)] + 1 ≤ _
    simp only [piled_cons, piled_nil]
    omega
  | mended t i =>
    refine Nat.le_trans (tupleText_le _ _) ?_
    have h1 := repr_S h.1
    have h2 : (reprText (Str.ofString "mended")).length ≤ 20 := by decide +kernel
    have h3 : ((PyData.int (i : Int)).shown).length ≤ 20 := by
      have : ∀ j : Nat, j < 256 → ((PyData.int (j : Int)).shown).length ≤ 20 := by decide +kernel
      exact this i h.2
    show piled [reprText (Str.ofString "mended"), reprText (S t), (PyData.int (i : Int)).shown] + 1 ≤ _
    simp only [piled_cons, piled_nil]
    omega
  | torn => decide +kernel
end
def lcond (c : List Nat) : Prop := WM.cut c 229 232 = WM.flip (WM.cut c 226 229) ∧ WM.cut c 237 242 = WM.flip (WM.cut c 232 237)
instance (c : List Nat) : Decidable (lcond c) := by unfold lcond; infer_instance
def LSIGNS : List Nat := [32, 33, 34, 35, 36, 38, 39, 40, 41, 42, 43, 44, 45, 46, 47, 48, 49, 50, 51, 52, 53, 54, 55, 56, 57, 58, 59, 60, 61, 62, 63, 64, 65, 66, 67, 68, 69, 70, 71, 72, 73, 74, 75, 76, 77, 78, 79, 80, 81, 82, 83, 84, 85, 86, 87, 88, 89, 90, 91, 92, 93, 94, 95, 96, 97, 98, 99, 100, 101, 102, 103, 104, 105, 106, 107, 108, 109, 110, 111, 112, 113, 114, 115, 116, 117, 118, 119, 120, 121, 122, 123, 124, 125, 126]
def KNOWN : List (Key × V) := (LSIGNS ++ [10]).map fun n : Nat => (Sum.inl (n : Int), V.str (S [n]))
def SIGNL : List Nat := [32, 33, 34, 35, 36, 32, 38, 39, 40, 41, 42, 43, 44, 45, 46, 47, 48, 49, 50, 51, 52, 53, 54, 55, 56, 57, 58, 59, 60, 61, 62, 63, 64, 65, 66, 67, 68, 69, 70, 71, 72, 73, 74, 75, 76, 77, 78, 79, 80, 81, 82, 83, 84, 85, 86, 87, 88, 89, 90, 91, 92, 93, 94, 95, 96, 97, 98, 99, 100, 101, 102, 103, 104, 105, 106, 107, 108, 109, 110, 111, 112, 113, 114, 115, 116, 117, 118, 119, 120, 121, 122, 123, 124, 125, 126]

def tabsR (K : PySem.W.Frag) : List (Addr × Str) := [((He.cT K ("_law_right", none)).2, ("_law_right" : Str) ++ ".<locals>." ++ "<lambda>")]
theorem maker {X : Cx} {c P : Addr} {q : Str} (tb : TabB X.base X.mg c P) (h1 : X.env.code = .ref c) (h2 : X.env.qual ++ "<lambda>" = q) (h3 : X.stack = X.env :: X.outer) (h4 : X.env.frame = some X.env.locals) : Maker X [(P, q)] c P :=
  ⟨tb, h1, by rw [h2]; exact List.mem_singleton.mpr rfl, fun p hp _ => by rw [List.mem_singleton.mp hp, h2], h3, h4⟩
theorem tabs_pot {H H1 : Hp} {a : Addr} {m : Nat} {T : List (Addr × Str)} (t : Tabs T H) (h : PotAt H a m) (x : But a H H1) : Tabs T H1 := by
  obtain ⟨o, s, c, _, _, _, _, _, _, e⟩ := h
  exact tabs_but t e x
theorem pot_ext {H H1 : Hp} {a : Addr} {m : Nat} (h : PotAt H a m) (x : ExtN H H1) : PotAt H1 a m := by
  obtain ⟨o, s, c, h1, h2, h3, h4, h5, h6, e⟩ := h
  exact ⟨o, s, c, h1, h2, h3, h4, h5, h6, x _ _ e fun ps z => nomatch z⟩
theorem pot_some {H : Hp} {a : Addr} {m : Nat} (h : PotAt H a m) : H a ≠ none := by
  obtain ⟨o, s, c, _, _, _, _, _, _, e⟩ := h
  rw [e]
  intro z
  cases z
theorem hexlit : (Str.ofString "0123456789abcdef" : Str) = SX.S [48, 49, 50, 51, 52, 53, 54, 55, 56, 57, 97, 98, 99, 100, 101, 102] := by decide +kernel
def tabsC (K : PySem.W.Frag) : List (Addr × Str) := [((He.cT K ("_law_call", none)).2, ("_law_call" : Str) ++ ".<locals>." ++ "<lambda>")]

theorem cells_take {l : List Nat} (h : WM.Cells l) (n : Nat) : WM.Cells (l.take n) := fun c hc => h c (List.mem_of_mem_take hc)


/-! ### a chip: what is told of its state, where it stands in the heap -/
structure CS where
  bl : Nat
  pg : Nat
  fa : List (Nat × Str × List Nat)
  cells : List (List Nat)
  stands : List Bool
  wear : List Int
  bad : List Bool
  done : Nat
  cuts : Nat
  on : Bool
structure Lay where
  dx : Addr
  pf : Addr
  pd : Addr
  pc : Addr
  ps : Addr
  pt : Addr
  pw : Addr
  pb : Addr
def flds (L : Lay) (c : CS) : List (Str × V) := [(("_blocks" : Str), .int (c.bl : Int)), (("_pages" : Str), .int (c.pg : Int)), (("_faults" : Str), .ref L.pf), (("_fault_at" : Str), .ref L.pd), (("_cells" : Str), .ref L.pc), (("_stands" : Str), .ref L.ps), (("_texts" : Str), .ref L.pt), (("_wear" : Str), .ref L.pw), (("_is_bad" : Str), .ref L.pb), (("_done" : Str), .int (c.done : Int)), (("_cuts" : Str), .int (c.cuts : Int)), (("_has_current" : Str), .bl c.on)]
/-- the faults, by their numbers -/
def FaK (H : Hp) (kvs : List (Key × V)) (fa : List (Nat × Str × List Nat)) : Prop := ∀ n : Nat, (fa.lookup n = none ∧ valV kvs (.inl (n : Int)) = none) ∨ ∃ w p t, fa.lookup n = some (w, p) ∧ valV kvs (.inl (n : Int)) = some (.ref t) ∧ H t = some (.tup [.str w, .str (S p)])
def FaD (H : Hp) (d : Addr) (fa : List (Nat × Str × List Nat)) : Prop := ∃ kvs, H d = some (.dK kvs) ∧ kvs.length ≤ 1000 ∧ ∀ n : Nat, (fa.lookup n = none ∧ valV kvs (.inl (n : Int)) = none) ∨ ∃ w p t, fa.lookup n = some (w, p) ∧ valV kvs (.inl (n : Int)) = some (.ref t) ∧ H t = some (.tup [.str w, .str (S p)])
/-- the list of the texts told: a list of its own -/
structure TxAt (H : Hp) (L : Lay) : Prop where
  tx : ∃ xs, H L.pt = some (.lst xs) ∧ xs.length ≤ 1024
  nc : L.pt ≠ L.pc
  ns : L.pt ≠ L.ps
  nw : L.pt ≠ L.pw
  nb : L.pt ≠ L.pb
theorem TxAt.keep {H H' : Hp} {L : Lay} (h : TxAt H L) (k : ∀ xs, H L.pt = some (.lst xs) → H' L.pt = some (.lst xs)) : TxAt H' L := by
  obtain ⟨xs, e, l⟩ := h.tx
  exact ⟨⟨xs, k _ e, l⟩, h.nc, h.ns, h.nw, h.nb⟩
structure ChipAt (K : PySem.W.Frag) (H : Hp) (a : Addr) (L : Lay) (c : CS) : Prop where
  obj : H a = some (.ins (He.ga K "Chip") L.dx (flds L c))
  cells : H L.pc = some (.lst (c.cells.map fun l => V.str (S l)))
  stands : H L.ps = some (.lst (c.stands.map V.bl))
  wear : H L.pw = some (.lst (c.wear.map V.int))
  bad : H L.pb = some (.lst (c.bad.map V.bl))
  fd : FaD H L.pd c.fa
  cs : L.pc ≠ L.ps
  cw : L.pc ≠ L.pw
  cb : L.pc ≠ L.pb
  sw : L.ps ≠ L.pw
  sb : L.ps ≠ L.pb
  wb : L.pw ≠ L.pb
  tx : TxAt H L
structure Wf (c : CS) : Prop where
  b4 : 4 ≤ c.bl
  b64 : c.bl ≤ 64
  p4 : 4 ≤ c.pg
  p16 : c.pg ≤ 16
  lc : c.cells.length = c.bl * c.pg
  ls : c.stands.length = c.bl * c.pg
  lw : c.wear.length = c.bl
  lb : c.bad.length = c.bl
  page : ∀ l ∈ c.cells, l.length = 256 ∧ WM.Cells l
  fa : ∀ n w p, c.fa.lookup n = some (w, p) → WM.Cells p ∧ 1 ≤ p.length ∧ p.length ≤ 100 ∧ (w = Str.ofString "cut" ∨ w = Str.ofString "bad")
def deed (c : CS) : Str × List Nat := match c.fa.lookup (c.done + 1) with
  | some q => q
  | none => (Str.ofString "", [102])
def badL (b : List Bool) (n : Nat) : List Int := ((List.range n).filter fun k => b.getD k false).map fun k : Nat => (k : Int)
theorem ixN_to {n j : Nat} (hj : j < n) : ixN n (j : Int) = some j := by
  unfold ixN
  rw [if_pos (by omega), if_pos (by omega)]
  simp
def tornL (l p : List Nat) : List Nat := (List.range l.length).map fun i => if l.getD i 0 < p.getD (i % p.length) 0 then p.getD (i % p.length) 0 else l.getD i 0
def mayFall (c : CS) (n j : Nat) (l g : List Nat) : Bool := decide (l ≠ List.replicate 256 102) && (c.stands.getD n false && decide (g.getD 0 0 < l.getD j 0))
/-- a deed's word is told: cut (none), or whether the block is good -/
def deedTold (c : CS) (b : Nat) (w : Str) : CS × Option Bool :=
  if w = Str.ofString "cut" then ({ c with cuts := c.cuts + 1, on := false }, none)
  else if w = Str.ofString "bad" then ({ c with bad := c.bad.set b true }, some false)
  else (c, some (!(c.bad.getD b false)))
def put (c : CS) (n : Nat) (l : List Nat) (b : Bool) : CS := { c with stands := c.stands.set n b, cells := c.cells.set n l }
def written (c : CS) (n : Nat) (l : List Nat) : CS × Option Bool :=
  let d := deed c
  let c1 := { c with done := c.done + 1 }
  let c2 := if c.bad.getD (n / c.pg) false = true then c1 else put c1 n (if d.1 = Str.ofString "" then l else tornL l d.2) (decide (d.1 = Str.ofString ""))
  deedTold c2 (n / c.pg) d.1
def fresh (bl pg : Nat) (fa : List (Nat × Str × List Nat)) : CS := ⟨bl, pg, fa, List.replicate (bl * pg) (List.replicate 256 102), List.replicate (bl * pg) false, List.replicate bl 0, List.replicate bl false, 0, 0, true⟩
/-- a tuple of faults -/
structure FaT (K : PySem.W.Frag) (H : Hp) (t : Addr) (fa : List (Nat × Str × List Nat)) : Prop where
  ex : ∃ rs : List Addr, SqT K H t (rs.map V.ref) ∧ rs.length = fa.length ∧ ∀ (i : Nat) (r : Addr) (f : Nat × Str × List Nat), rs[i]? = some r → fa[i]? = some f → SqT K H r [.int (f.1 : Int), .str f.2.1, .str (S f.2.2)]
structure FaOk (fa : List (Nat × Str × List Nat)) : Prop where
  up : ∀ (i : Nat) (f g : Nat × Str × List Nat), fa[i]? = some f → fa[i + 1]? = some g → f.1 < g.1
  lo : ∀ f : Nat × Str × List Nat, fa[0]? = some f → 1 ≤ f.1
  len : fa.length ≤ 100
  ok : ∀ f ∈ fa, WM.Cells f.2.2 ∧ 1 ≤ f.2.2.length ∧ f.2.2.length ≤ 100 ∧ (f.2.1 = Str.ofString "cut" ∨ f.2.1 = Str.ofString "bad")
theorem sqT_ty {K : PySem.W.Frag} {H : Hp} {a : Addr} {xs : List V} (hs : SqT K H a xs) : TyX K H (.ref a) (.type "tuple") := by
  rcases hs with (h | ⟨o, h⟩) | ⟨o, its, n, h1, h2, _⟩
  · exact .base (.tup h)
  · exact .fTuple h
  · exact .kTuple h1 h2
theorem sqT_same {K : PySem.W.Frag} {H H2 : Hp} {a : Addr} {xs : List V} (s : Same H H2) (h : SqT K H a xs) : SqT K H2 a xs := ext_t (Same.ext s) h
theorem FaT.same {K : PySem.W.Frag} {H H2 : Hp} {t : Addr} {fa : List (Nat × Str × List Nat)} (h : FaT K H t fa) (s : Same H H2) : FaT K H2 t fa := by
  obtain ⟨rs, h1, h2, h3⟩ := h.ex
  exact ⟨rs, sqT_same s h1, h2, fun i r f e1 e2 => sqT_same s (h3 i r f e1 e2)⟩
theorem sqT_put {K : PySem.W.Frag} {H : Hp} {a b C dx : Addr} {fs : List (Str × V)} {xs : List V} {o : HO} (hs : SqT K H b xs) (ha : H a = some (.ins C dx fs)) : SqT K (upd H a o) b xs := by
  have q : ∀ u, H b = some u → (∀ C dx fs, u ≠ .ins C dx fs) → upd H a o b = some u := fun u e z => by
    rw [upd_ne (fun y => by rw [y, ha] at e; exact z _ _ _ (Option.some.inj e).symm)]
    exact e
  rcases hs with (h | ⟨o2, h⟩) | h
  · exact .inl (.inl (q _ h (fun _ _ _ z => by cases z)))
  · exact .inl (.inr ⟨o2, q _ h (fun _ _ _ z => by cases z)⟩)
  · exact .inr h
theorem FaT.put {K : PySem.W.Frag} {H : Hp} {a t C dx : Addr} {fs : List (Str × V)} {fa : List (Nat × Str × List Nat)} {o : HO} (h : FaT K H t fa) (ha : H a = some (.ins C dx fs)) : FaT K (upd H a o) t fa := by
  obtain ⟨rs, h1, h2, h3⟩ := h.ex
  exact ⟨rs, sqT_put h1 ha, h2, fun i r f e1 e2 => sqT_put (h3 i r f e1 e2) ha⟩
/-- a chip under way: its fields, and what stood before it -/
structure Bl (K : PySem.W.Frag) (H0 H : Hp) (a dx : Addr) (fs : List (Str × V)) : Prop where
  obj : H a = some (.ins (He.ga K "Chip") dx fs)
  kp : ∀ b o, b ≠ a → H0 b = some o → H b = some o
theorem Bl.of {K : PySem.W.Frag} {H0 H : Hp} {a dx : Addr} {fs : List (Str × V)} (s : Same H0 H) (h : H0 a = some (.ins (He.ga K "Chip") dx fs)) : Bl K H0 H a dx fs := ⟨s _ _ h, fun b o _ e => s b o e⟩
theorem Bl.fld {K : PySem.W.Frag} {H0 H : Hp} {a dx : Addr} {fs fs2 : List (Str × V)} (h : Bl K H0 H a dx fs) : Bl K H0 (upd H a (.ins (He.ga K "Chip") dx fs2)) a dx fs2 := ⟨upd_same, fun b o n e => by rw [upd_ne n]; exact h.kp b o n e⟩
theorem Bl.same {K : PySem.W.Frag} {H0 H H1 : Hp} {a dx : Addr} {fs : List (Str × V)} (h : Bl K H0 H a dx fs) (s : Same H H1) : Bl K H0 H1 a dx fs := ⟨s _ _ h.obj, fun b o n e => s b o (h.kp b o n e)⟩
theorem Bl.nw {K : PySem.W.Frag} {H0 H : Hp} {a dx p : Addr} {fs : List (Str × V)} (h : Bl K H0 H a dx fs) (n : H p = none) : H0 p = none ∧ p ≠ a := by
  have na : p ≠ a := fun z => by rw [z, h.obj] at n; cases n
  refine ⟨?_, na⟩
  cases e : H0 p with
  | none => rfl
  | some o => rw [h.kp p o na e] at n; cases n
/-- what is neither the chip itself stays when a field is stored to -/
theorem fld_keep {H : Hp} {a p C dx : Addr} {fs : List (Str × V)} {u o : HO} (ha : H a = some (.ins C dx fs)) (e : H p = some u) (z : ∀ C dx fs, u ≠ .ins C dx fs) : upd H a o p = some u := by
  rw [upd_ne (fun y => by rw [y, ha] at e; exact z _ _ _ (Option.some.inj e).symm)]
  exact e
def f4 (bl pg : Nat) (t D : Addr) : List (Str × V) := [(("_blocks" : Str), .int (bl : Int)), (("_pages" : Str), .int (pg : Int)), (("_faults" : Str), .ref t), (("_fault_at" : Str), .ref D)]
def f5 (bl pg : Nat) (t D pc : Addr) : List (Str × V) := f4 bl pg t D ++ [(("_cells" : Str), .ref pc)]
def f6 (bl pg : Nat) (t D pc ps : Addr) : List (Str × V) := f5 bl pg t D pc ++ [(("_stands" : Str), .ref ps)]
def f6t (bl pg : Nat) (t D pc ps pt : Addr) : List (Str × V) := f6 bl pg t D pc ps ++ [(("_texts" : Str), .ref pt)]
def f7 (bl pg : Nat) (t D pc ps pt pw : Addr) : List (Str × V) := f6t bl pg t D pc ps pt ++ [(("_wear" : Str), .ref pw)]
def f8 (bl pg : Nat) (t D pc ps pt pw pb : Addr) : List (Str × V) := f7 bl pg t D pc ps pt pw ++ [(("_is_bad" : Str), .ref pb)]
theorem rep_one {α : Type} (n : Nat) (x : α) : (List.replicate n [x]).flatten = List.replicate n x := by
  induction n with
  | zero => rfl
  | succ n ih => rw [List.replicate_succ, List.flatten_cons, ih, List.replicate_succ]; rfl
/-- what is no instance stays -/
def KI (H H' : Hp) : Prop := ∀ b u, H b = some u → (∀ C dx fs, u ≠ .ins C dx fs) → H' b = some u
theorem Bl.lst {K : PySem.W.Frag} {H0 H : Hp} {a dx p1 p : Addr} {fs fs2 : List (Str × V)} {o1 : HO} {xs : List V} (h : Bl K H0 H a dx fs) (n1 : H p1 = none) (n : upd H p1 o1 p = none) :
    Bl K H0 (upd (upd (upd H p1 o1) p (.lst xs)) a (.ins (He.ga K "Chip") dx fs2)) a dx fs2 ∧ upd (upd (upd H p1 o1) p (.lst xs)) a (.ins (He.ga K "Chip") dx fs2) p = some (.lst xs) ∧ KI H (upd (upd (upd H p1 o1) p (.lst xs)) a (.ins (He.ga K "Chip") dx fs2)) ∧ H p = none := by
  have s : Same H (upd (upd H p1 o1) p (.lst xs)) := (Same.new n1).trans (Same.new n)
  have hp : H p = none := (Same.new n1).free n
  have np := (h.nw hp).2
  exact ⟨(h.same s).fld, by rw [upd_ne np, upd_same], fun b u e z => fld_keep (s _ _ h.obj) (s _ _ e) z, hp⟩
def below (c r : List Nat) : Nat := ((List.range 256).filter fun i => decide (c.getD i 0 < r.getD i 0)).length
/-- the first i pages of block n erased (or torn) -/
def wiped (c : CS) (n : Nat) (w : Str) (p : List Nat) : Nat → CS
  | 0 => c
  | i + 1 => let d := wiped c n w p i
    put d (n * c.pg + i) (if w = Str.ofString "" then List.replicate 256 102 else tornL (d.cells.getD (n * c.pg + i) []) p) false
def erased (c : CS) (n : Nat) : CS × Option Bool :=
  let d := deed c
  let c1 := { c with done := c.done + 1 }
  let c2 := if c.bad.getD n false = true then c1 else wiped { c1 with wear := c1.wear.set n (c1.wear.getD n 0 + 1) } n d.1 d.2 c.pg
  deedTold c2 n d.1
/-- all but the chip's own stays -/
def ButC (a : Addr) (L : Lay) (H H' : Hp) : Prop := ∀ b o, b ≠ a → b ≠ L.pc → b ≠ L.ps → b ≠ L.pw → b ≠ L.pb → H b = some o → H' b = some o
theorem ButC.refl {a : Addr} {L : Lay} (H : Hp) : ButC a L H H := fun _ _ _ _ _ _ _ e => e
theorem ButC.trans {a : Addr} {L : Lay} {H H1 H2 : Hp} (x : ButC a L H H1) (y : ButC a L H1 H2) : ButC a L H H2 := fun b o n1 n2 n3 n4 n5 e => y b o n1 n2 n3 n4 n5 (x b o n1 n2 n3 n4 n5 e)
theorem ButC.of {a : Addr} {L : Lay} {H H1 : Hp} (x : Same H H1) : ButC a L H H1 := fun b o _ _ _ _ _ e => x b o e
theorem FaD.ext {H H' : Hp} {d : Addr} {fa : List (Nat × Str × List Nat)} (h : FaD H d fa) (k1 : ∀ b kvs, H b = some (.dK kvs) → H' b = some (.dK kvs)) (k2 : ∀ b vs, H b = some (.tup vs) → H' b = some (.tup vs)) : FaD H' d fa := by
  obtain ⟨kvs, h1, h2, h3⟩ := h
  refine ⟨kvs, k1 _ _ h1, h2, fun n => ?_⟩
  rcases h3 n with q | ⟨w, p, t, q1, q2, q3⟩
  · exact .inl q
  · exact .inr ⟨w, p, t, q1, q2, k2 _ _ q3⟩
theorem FaD.ki {H H' : Hp} {d : Addr} {fa : List (Nat × Str × List Nat)} (h : FaD H d fa) (k : KI H H') : FaD H' d fa := h.ext (fun b _ e => k b _ e (fun _ _ _ z => by cases z)) (fun b _ e => k b _ e (fun _ _ _ z => by cases z))
theorem ChipAt.same {K : PySem.W.Frag} {H H' : Hp} {a : Addr} {L : Lay} {c : CS} (h : ChipAt K H a L c) (s : Same H H') : ChipAt K H' a L c :=
  ⟨s _ _ h.obj, s _ _ h.cells, s _ _ h.stands, s _ _ h.wear, s _ _ h.bad, h.fd.ext (fun b _ e => s b _ e) (fun b _ e => s b _ e), h.cs, h.cw, h.cb, h.sw, h.sb, h.wb, h.tx.keep fun _ e => s _ _ e⟩
def Lay.has (L : Lay) (a b : Addr) : Prop := b = a ∨ b = L.pc ∨ b = L.ps ∨ b = L.pw ∨ b = L.pb ∨ b = L.pt
theorem ChipAt.but {K : PySem.W.Frag} {H H' : Hp} {a p : Addr} {L : Lay} {c : CS} {xs : List V} (h : ChipAt K H a L c) (hp : H p = some (.lst xs)) (n : ¬ L.has a p) (s : But p H H') : ChipAt K H' a L c := by
  have q : ∀ b o, H b = some o → (∀ xs, o ≠ .lst xs) → H' b = some o := fun b o e z => s b o (fun y => by rw [y, hp] at e; exact z xs (Option.some.inj e).symm) e
  refine ⟨q _ _ h.obj (fun _ z => by cases z), s _ _ (fun z => n (.inr (.inl z.symm))) h.cells, s _ _ (fun z => n (.inr (.inr (.inl z.symm)))) h.stands, s _ _ (fun z => n (.inr (.inr (.inr (.inl z.symm))))) h.wear, s _ _ (fun z => n (.inr (.inr (.inr (.inr (.inl z.symm)))))) h.bad, h.fd.ext (fun b _ e => q b _ e (fun _ z => by cases z)) (fun b _ e => q b _ e (fun _ z => by cases z)), h.cs, h.cw, h.cb, h.sw, h.sb, h.wb, h.tx.keep fun _ e => s _ _ (fun z => n (.inr (.inr (.inr (.inr (.inr z.symm)))))) e⟩
/-- the fields alone are stored to -/
theorem ChipAt.fld {K : PySem.W.Frag} {H : Hp} {a : Addr} {L : Lay} {c c' : CS} {fs : List (Str × V)} (h : ChipAt K H a L c) (e : fs = flds L c') (e1 : c'.cells = c.cells) (e2 : c'.stands = c.stands) (e3 : c'.wear = c.wear) (e4 : c'.bad = c.bad) (e5 : c'.fa = c.fa) :
    ChipAt K (upd H a (.ins (He.ga K "Chip") L.dx fs)) a L c' := by
  have q : ∀ b o, H b = some o → (∀ C dx fs, o ≠ .ins C dx fs) → upd H a (.ins (He.ga K "Chip") L.dx fs) b = some o := fun b o e z => by
    rw [upd_ne (fun y => by rw [y, h.obj] at e; exact z _ _ _ (Option.some.inj e).symm)]
    exact e
  refine ⟨by rw [upd_same, e], by rw [e1]; exact q _ _ h.cells (fun _ _ _ z => by cases z), by rw [e2]; exact q _ _ h.stands (fun _ _ _ z => by cases z), by rw [e3]; exact q _ _ h.wear (fun _ _ _ z => by cases z), by rw [e4]; exact q _ _ h.bad (fun _ _ _ z => by cases z),
    by rw [e5]; exact h.fd.ext (fun b _ e => q b _ e (fun _ _ _ z => by cases z)) (fun b _ e => q b _ e (fun _ _ _ z => by cases z)), h.cs, h.cw, h.cb, h.sw, h.sb, h.wb, h.tx.keep fun _ e => q _ _ e (fun _ _ _ z => by cases z)⟩
theorem ButC.bad {a : Addr} {L : Lay} {H : Hp} {o : HO} : ButC a L H (upd H L.pb o) := fun b u _ _ _ _ n e => by rw [upd_ne n]; exact e
theorem ButC.wear {a : Addr} {L : Lay} {H : Hp} {o : HO} : ButC a L H (upd H L.pw o) := fun b u _ _ _ n _ e => by rw [upd_ne n]; exact e
theorem ButC.stands {a : Addr} {L : Lay} {H : Hp} {o : HO} : ButC a L H (upd H L.ps o) := fun b u _ _ n _ _ e => by rw [upd_ne n]; exact e
theorem ButC.cells {a : Addr} {L : Lay} {H : Hp} {o : HO} : ButC a L H (upd H L.pc o) := fun b u _ n _ _ _ e => by rw [upd_ne n]; exact e
theorem keepL {H : Hp} {p b : Addr} {o : HO} {xs ys : List V} (hp : H p = some (.lst xs)) (e : H b = some o) (z : ∀ zs, o ≠ .lst zs) : upd H p (.lst ys) b = some o := by
  rw [upd_ne (fun y => by rw [y, hp] at e; exact z _ (Option.some.inj e).symm)]
  exact e
theorem ChipAt.putBad {K : PySem.W.Frag} {H : Hp} {a : Addr} {L : Lay} {c : CS} {n : Nat} {b : Bool} {xs : List V} (h : ChipAt K H a L c) (e : (c.bad.set n b).map V.bl = xs) : ChipAt K (upd H L.pb (.lst xs)) a L { c with bad := c.bad.set n b } :=
  ⟨keepL h.bad h.obj (fun _ z => by cases z), by rw [upd_ne h.cb]; exact h.cells, by rw [upd_ne h.sb]; exact h.stands, by rw [upd_ne h.wb]; exact h.wear, by rw [upd_same, ← e], h.fd.ext (fun b _ e => keepL h.bad e (fun _ z => by cases z)) (fun b _ e => keepL h.bad e (fun _ z => by cases z)), h.cs, h.cw, h.cb, h.sw, h.sb, h.wb, h.tx.keep fun _ e => by rw [upd_ne h.tx.nb]; exact e⟩
theorem ChipAt.putWear {K : PySem.W.Frag} {H : Hp} {a : Addr} {L : Lay} {c : CS} {n : Nat} {b : Int} {xs : List V} (h : ChipAt K H a L c) (e : (c.wear.set n b).map V.int = xs) : ChipAt K (upd H L.pw (.lst xs)) a L { c with wear := c.wear.set n b } :=
  ⟨keepL h.wear h.obj (fun _ z => by cases z), by rw [upd_ne h.cw]; exact h.cells, by rw [upd_ne h.sw]; exact h.stands, by rw [upd_same, ← e], by rw [upd_ne h.wb.symm]; exact h.bad, h.fd.ext (fun b _ e => keepL h.wear e (fun _ z => by cases z)) (fun b _ e => keepL h.wear e (fun _ z => by cases z)), h.cs, h.cw, h.cb, h.sw, h.sb, h.wb, h.tx.keep fun _ e => by rw [upd_ne h.tx.nw]; exact e⟩
theorem ChipAt.putStands {K : PySem.W.Frag} {H : Hp} {a : Addr} {L : Lay} {c : CS} {n : Nat} {b : Bool} {xs : List V} (h : ChipAt K H a L c) (e : (c.stands.set n b).map V.bl = xs) : ChipAt K (upd H L.ps (.lst xs)) a L { c with stands := c.stands.set n b } :=
  ⟨keepL h.stands h.obj (fun _ z => by cases z), by rw [upd_ne h.cs]; exact h.cells, by rw [upd_same, ← e], by rw [upd_ne h.sw.symm]; exact h.wear, by rw [upd_ne h.sb.symm]; exact h.bad, h.fd.ext (fun b _ e => keepL h.stands e (fun _ z => by cases z)) (fun b _ e => keepL h.stands e (fun _ z => by cases z)), h.cs, h.cw, h.cb, h.sw, h.sb, h.wb, h.tx.keep fun _ e => by rw [upd_ne h.tx.ns]; exact e⟩
theorem ChipAt.putCells {K : PySem.W.Frag} {H : Hp} {a : Addr} {L : Lay} {c : CS} {n : Nat} {b : List Nat} {xs : List V} (h : ChipAt K H a L c) (e : ((c.cells.set n b).map fun l => V.str (S l)) = xs) : ChipAt K (upd H L.pc (.lst xs)) a L { c with cells := c.cells.set n b } :=
  ⟨keepL h.cells h.obj (fun _ z => by cases z), by rw [upd_same, ← e], by rw [upd_ne h.cs.symm]; exact h.stands, by rw [upd_ne h.cw.symm]; exact h.wear, by rw [upd_ne h.cb.symm]; exact h.bad, h.fd.ext (fun b _ e => keepL h.cells e (fun _ z => by cases z)) (fun b _ e => keepL h.cells e (fun _ z => by cases z)), h.cs, h.cw, h.cb, h.sw, h.sb, h.wb, h.tx.keep fun _ e => by rw [upd_ne h.tx.nc]; exact e⟩
theorem ButC.obj {a : Addr} {L : Lay} {H : Hp} {o : HO} : ButC a L H (upd H a o) := fun b u n _ _ _ _ e => by rw [upd_ne n]; exact e

/-! ### the law's own chip, a dict -/
structure OwnL where
  cl : Addr
  wl : Addr
  bd : Addr
  wr : Addr
  fa : Addr
def ownK (A : OwnL) (c : CS) : List (Key × V) := [(.inr ("blocks" : Str), .int (c.bl : Int)), (.inr ("pages" : Str), .int (c.pg : Int)), (.inr ("cells" : Str), .ref A.cl), (.inr ("wear" : Str), .ref A.wl), (.inr ("bad" : Str), .ref A.bd), (.inr ("written" : Str), .ref A.wr), (.inr ("faults" : Str), .ref A.fa), (.inr ("done" : Str), .int (c.done : Int)), (.inr ("cuts" : Str), .int (c.cuts : Int)), (.inr ("is_on" : Str), .bl c.on)]
def wsK (ws : List (Nat × List Nat)) : List (Key × V) := ws.map fun p => (.inl (p.1 : Int), .str (S p.2))
structure FaL (K : PySem.W.Frag) (H : Hp) (t : Addr) (fa : List (Nat × Str × List Nat)) : Prop where
  ex : ∃ rs : List Addr, H t = some (.lst (rs.map V.ref)) ∧ rs.length = fa.length ∧ ∀ (i : Nat) (r : Addr) (f : Nat × Str × List Nat), rs[i]? = some r → fa[i]? = some f → SqT K H r [.int (f.1 : Int), .str f.2.1, .str (S f.2.2)]
structure OwnAt (K : PySem.W.Frag) (H : Hp) (o : Addr) (A : OwnL) (c : CS) (ws : List (Nat × List Nat)) : Prop where
  obj : H o = some (.dK (ownK A c))
  cl : H A.cl = some (.lst (c.cells.map fun l => V.str (S l)))
  wl : H A.wl = some (.lst (c.wear.map V.int))
  bd : H A.bd = some (.lst ((badL c.bad c.bl).map V.int))
  wr : H A.wr = some (.dK (wsK ws))
  fa : FaL K H A.fa c.fa
  nd : (ws.map (·.1)).Nodup
/-- what was written whole, and which pages stand -/
def WrOk (c : CS) (ws : List (Nat × List Nat)) : Prop := (∀ p ∈ ws.map (·.1), p < c.cells.length) ∧ ∀ p, p < c.cells.length → (c.cells.getD p [] ≠ List.replicate 256 102 → (c.stands.getD p false = true ↔ ws.lookup p = some (c.cells.getD p []))) ∧ (c.cells.getD p [] = List.replicate 256 102 → ∀ y, ws.lookup p = some y → y = List.replicate 256 102)
/-- the state that a dict tells; its lists are none of Z, at most n places written whole -/
structure Own (K : PySem.W.Frag) (Z : Addr → Prop) (H : Hp) (o : Addr) (c : CS) (n : Nat) : Prop where
  ex : ∃ A ws, OwnAt K H o A c ws ∧ WrOk c ws ∧ ws.length ≤ n ∧ ¬ Z A.cl ∧ ¬ Z A.wl ∧ ¬ Z A.bd ∧ ¬ Z A.fa
def ownTold : Option Bool → V
  | none => .str (Str.ofString "cut")
  | some b => .bl b
/-- what a deed tells -/
def ToldV (tv : V) (r : Option Bool) : Prop := (r = none ∧ tv = .str (Str.ofString "cut")) ∨ ∃ b, r = some b ∧ tv = .bl b
theorem ToldV.eq {tv : V} {r : Option Bool} (h : ToldV tv r) : tv = ownTold r := by
  rcases h with ⟨rfl, rfl⟩ | ⟨b, rfl, rfl⟩ <;> rfl
theorem FaL.same {K : PySem.W.Frag} {H H2 : Hp} {t : Addr} {fa : List (Nat × Str × List Nat)} (h : FaL K H t fa) (s : Same H H2) : FaL K H2 t fa := by
  obtain ⟨rs, h1, h2, h3⟩ := h.ex
  exact ⟨rs, s _ _ h1, h2, fun i r f e1 e2 => sqT_same s (h3 i r f e1 e2)⟩
theorem OwnAt.same {K : PySem.W.Frag} {H H2 : Hp} {o : Addr} {A : OwnL} {c : CS} {ws : List (Nat × List Nat)} (h : OwnAt K H o A c ws) (s : Same H H2) : OwnAt K H2 o A c ws := ⟨s _ _ h.obj, s _ _ h.cl, s _ _ h.wl, s _ _ h.bd, s _ _ h.wr, h.fa.same s, h.nd⟩
theorem own_copy (A : OwnL) (c : CS) : mergeK [] (ownK A c) = ownK A c := rfl
theorem own_done (A : OwnL) (c : CS) (n : Int) : putK (ownK A c) (.inr ("done" : Str)) (.int n) = (ownK A c).set 7 (.inr ("done" : Str), .int n) := rfl
theorem Paired.mono {α β : Type} {F G : α → β → Prop} (h : ∀ a b, F a b → G a b) : ∀ {xs : List α} {ys : List β}, Paired F xs ys → Paired G xs ys
  | _, _, .nil => .nil
  | _, _, .cons a r => .cons (h _ _ a) (Paired.mono h r)
theorem og_blocks {K : PySem.W.Frag} {H : Hp} {o : Addr} {A : OwnL} {c : CS} {ws : List (Nat × List Nat)} (h : OwnAt K H o A c ws) : DGet H o (.str ("blocks" : Str)) (some (.int (c.bl : Int))) := DGet.k (k := .inr ("blocks" : Str)) h.obj
theorem og_pages {K : PySem.W.Frag} {H : Hp} {o : Addr} {A : OwnL} {c : CS} {ws : List (Nat × List Nat)} (h : OwnAt K H o A c ws) : DGet H o (.str ("pages" : Str)) (some (.int (c.pg : Int))) := DGet.k (k := .inr ("pages" : Str)) h.obj
theorem og_cells {K : PySem.W.Frag} {H : Hp} {o : Addr} {A : OwnL} {c : CS} {ws : List (Nat × List Nat)} (h : OwnAt K H o A c ws) : DGet H o (.str ("cells" : Str)) (some (.ref A.cl)) := DGet.k (k := .inr ("cells" : Str)) h.obj
theorem og_wear {K : PySem.W.Frag} {H : Hp} {o : Addr} {A : OwnL} {c : CS} {ws : List (Nat × List Nat)} (h : OwnAt K H o A c ws) : DGet H o (.str ("wear" : Str)) (some (.ref A.wl)) := DGet.k (k := .inr ("wear" : Str)) h.obj
theorem og_bad {K : PySem.W.Frag} {H : Hp} {o : Addr} {A : OwnL} {c : CS} {ws : List (Nat × List Nat)} (h : OwnAt K H o A c ws) : DGet H o (.str ("bad" : Str)) (some (.ref A.bd)) := DGet.k (k := .inr ("bad" : Str)) h.obj
theorem og_written {K : PySem.W.Frag} {H : Hp} {o : Addr} {A : OwnL} {c : CS} {ws : List (Nat × List Nat)} (h : OwnAt K H o A c ws) : DGet H o (.str ("written" : Str)) (some (.ref A.wr)) := DGet.k (k := .inr ("written" : Str)) h.obj
theorem og_faults {K : PySem.W.Frag} {H : Hp} {o : Addr} {A : OwnL} {c : CS} {ws : List (Nat × List Nat)} (h : OwnAt K H o A c ws) : DGet H o (.str ("faults" : Str)) (some (.ref A.fa)) := DGet.k (k := .inr ("faults" : Str)) h.obj
theorem og_done {K : PySem.W.Frag} {H : Hp} {o : Addr} {A : OwnL} {c : CS} {ws : List (Nat × List Nat)} (h : OwnAt K H o A c ws) : DGet H o (.str ("done" : Str)) (some (.int (c.done : Int))) := DGet.k (k := .inr ("done" : Str)) h.obj
theorem og_cuts {K : PySem.W.Frag} {H : Hp} {o : Addr} {A : OwnL} {c : CS} {ws : List (Nat × List Nat)} (h : OwnAt K H o A c ws) : DGet H o (.str ("cuts" : Str)) (some (.int (c.cuts : Int))) := DGet.k (k := .inr ("cuts" : Str)) h.obj
theorem og_on {K : PySem.W.Frag} {H : Hp} {o : Addr} {A : OwnL} {c : CS} {ws : List (Nat × List Nat)} (h : OwnAt K H o A c ws) : DGet H o (.str ("is_on" : Str)) (some (.bl c.on)) := DGet.k (k := .inr ("is_on" : Str)) h.obj
theorem op_done (A : OwnL) (c : CS) : putK (ownK A c) (.inr ("done" : Str)) (.int ((c.done : Int) + 1)) = ownK A { c with done := c.done + 1 } := rfl
theorem op_cuts (A : OwnL) (c : CS) : putK (ownK A c) (.inr ("cuts" : Str)) (.int ((c.cuts : Int) + 1)) = ownK A { c with cuts := c.cuts + 1 } := rfl
theorem op_on (A : OwnL) (c : CS) (b : Bool) : putK (ownK A c) (.inr ("is_on" : Str)) (.bl b) = ownK A { c with on := b } := rfl
theorem op_bad (A : OwnL) (c : CS) (p : Addr) : putK (ownK A c) (.inr ("bad" : Str)) (.ref p) = ownK { A with bd := p } c := rfl
theorem op_cells (A : OwnL) (c : CS) (p : Addr) : putK (ownK A c) (.inr ("cells" : Str)) (.ref p) = ownK { A with cl := p } c := rfl
theorem op_wear (A : OwnL) (c : CS) (p : Addr) : putK (ownK A c) (.inr ("wear" : Str)) (.ref p) = ownK { A with wl := p } c := rfl
theorem op_written (A : OwnL) (c : CS) (p : Addr) : putK (ownK A c) (.inr ("written" : Str)) (.ref p) = ownK { A with wr := p } c := rfl
theorem seq_via {t ts : TS} {D : Ends} {σ : L2.St} {H : Hp} (R : L2.St → Hp → Prop) (h1 : ∀ σ H, R σ H → ts D σ H) (h2 : ∀ D2 : Ends, (∀ σ H, R σ H → D2.nx σ H) → t D2 σ H) : tSeq t ts D σ H := h2 { D with nx := ts D } h1
theorem ifs_via {c : TT} {t u : TS} {D : Ends} {σ : L2.St} {H : Hp} (R1 R2 : Hp → Prop) (hc : ∀ Q : Bool → Hp → Prop, (∀ G, R1 G → Q true G) → (∀ G, R2 G → Q false G) → c σ H Q) (h1 : ∀ G, R1 G → t D σ G) (h2 : ∀ G, R2 G → u D σ G) : tIfS c t u D σ H :=
  hc _ (fun G r => iteT (h1 G r)) (fun G r => iteF (h2 G r))

theorem Own.same {K : PySem.W.Frag} {Z : Addr → Prop} {H H2 : Hp} {o : Addr} {c : CS} {n : Nat} (h : Own K Z H o c n) (s : Same H H2) : Own K Z H2 o c n := by
  obtain ⟨A, ws, h1, h2⟩ := h.ex
  exact ⟨A, ws, h1.same s, h2⟩
/-- what is neither a list nor an instance stays, and the lists that are none of Z -/
def KeepZ (Z : Addr → Prop) (H H2 : Hp) : Prop := ∀ b u, H b = some u → (∀ ps, u ≠ .tbl ps) → (¬ Z b ∨ ((∀ xs, u ≠ .lst xs) ∧ ∀ C dx fs, u ≠ .ins C dx fs)) → H2 b = some u
theorem sqT_keep {K : PySem.W.Frag} {Z : Addr → Prop} {H H2 : Hp} {b : Addr} {xs : List V} (k : KeepZ Z H H2) (h : SqT K H b xs) : SqT K H2 b xs := by
  rcases h with (h | ⟨o, h⟩) | h
  · exact .inl (.inl (k _ _ h (by intro _ z; cases z) (.inr ⟨(by intro _ z; cases z), (by intro _ _ _ z; cases z)⟩)))
  · exact .inl (.inr ⟨o, k _ _ h (by intro _ z; cases z) (.inr ⟨(by intro _ z; cases z), (by intro _ _ _ z; cases z)⟩)⟩)
  · exact .inr h
theorem Own.keep {K : PySem.W.Frag} {Z : Addr → Prop} {H H2 : Hp} {o : Addr} {c : CS} {n : Nat} (h : Own K Z H o c n) (k : KeepZ Z H H2) : Own K Z H2 o c n := by
  obtain ⟨A, ws, h1, h2, h3, z1, z2, z3, z4⟩ := h.ex
  obtain ⟨rs, f1, f2, f3⟩ := h1.fa.ex
  exact ⟨A, ws, ⟨k _ _ h1.obj (by intro _ z; cases z) (.inr ⟨(by intro _ z; cases z), (by intro _ _ _ z; cases z)⟩), k _ _ h1.cl (by intro _ z; cases z) (.inl z1), k _ _ h1.wl (by intro _ z; cases z) (.inl z2), k _ _ h1.bd (by intro _ z; cases z) (.inl z3), k _ _ h1.wr (by intro _ z; cases z) (.inr ⟨(by intro _ z; cases z), (by intro _ _ _ z; cases z)⟩), ⟨rs, k _ _ f1 (by intro _ z; cases z) (.inl z4), f2, fun i r f e1 e2 => sqT_keep k (f3 i r f e1 e2)⟩, h1.nd⟩, h2, h3, z1, z2, z3, z4⟩
/-- a deed -/
inductive Dd where
  | again
  | write (n : Nat) (l : List Nat)
  | erase (b : Nat)
  | fade (n j g : Nat)
def ddV : Dd → List V
  | .again => [.str (Str.ofString "again")]
  | .write n l => [.str (Str.ofString "write"), .int (n : Int), .str (S l)]
  | .erase b => [.str (Str.ofString "erase"), .int (b : Int)]
  | .fade n j g => [.str (Str.ofString "fade"), .int (n : Int), .int (j : Int), .str (S [g])]
def DdOk (c : CS) : Dd → Prop
  | .again => True
  | .write n l => c.cells[n]? = some (List.replicate 256 102) ∧ l.length = 256 ∧ WM.Cells l
  | .erase b => b < c.bl
  | .fade n j g => n < c.cells.length ∧ j < 256 ∧ WM.IsCell g
def behindC (c : CS) : Dd → CS × V
  | .again => ({ c with on := true }, .non)
  | .write n l => if c.on = true then ((written c n l).1, ownTold (written c n l).2) else (c, .str (Str.ofString "cut"))
  | .erase b => if c.on = true then ((erased c b).1, ownTold (erased c b).2) else (c, .str (Str.ofString "cut"))
  | .fade n j g => if mayFall c n j (c.cells.getD n []) [g] = true then (put c n ((c.cells.getD n []).take j ++ [g] ++ (c.cells.getD n []).drop (j + 1)) false, .non) else (c, .str (Str.ofString "fade"))

section
variable {P : Program} {w : World} {K : PySem.W.Frag} {mg : Str → Option Value} {base : Heap}
theorem torn_len (l p : List Nat) : (tornL l p).length = l.length := by unfold tornL; rw [List.length_map, List.length_range]
theorem fa_inc {fa : List (Nat × Str × List Nat)} (hf : FaOk fa) : ∀ (i j : Nat) (f g : Nat × Str × List Nat), j < i → fa[j]? = some f → fa[i]? = some g → f.1 < g.1
  | 0, j, f, g, h, _, _ => by omega
  | i + 1, j, f, g, h, e1, e2 => by
    have hi : i < fa.length := by have := (List.getElem?_eq_some_iff.mp e2).1; omega
    have ei : fa[i]? = some fa[i] := List.getElem?_eq_getElem hi
    have q := hf.up i _ _ ei e2
    by_cases z : j = i
    · subst z
      rw [ei] at e1
      cases e1
      exact q
    · exact Nat.lt_trans (fa_inc hf i j _ _ (by omega) e1 ei) q
theorem take_lookup {fa : List (Nat × Str × List Nat)} (hf : FaOk fa) {i : Nat} (hi : i < fa.length) : (fa.take i).lookup (fa[i].1) = none := by
  rw [List.lookup_eq_none_iff]
  intro p hp
  obtain ⟨j, hj, e⟩ := List.mem_iff_getElem.mp hp
  rw [List.length_take] at hj
  rw [List.getElem_take] at e
  have q := fa_inc hf i j _ _ (by omega) (List.getElem?_eq_getElem (by omega)) (List.getElem?_eq_getElem hi)
  rw [e] at q
  exact bne_iff_ne.mpr (by omega)
theorem badL_succ (b : List Bool) (i : Nat) : badL b (i + 1) = if b.getD i false = true then badL b i ++ [(i : Int)] else badL b i := by
  unfold badL
  rw [List.range_succ, List.filter_append, List.map_append]
  cases h : b.getD i false with
  | true =>
    have e : List.filter (fun k => b.getD k false) [i] = [i] := by rw [List.filter_cons, h]; rfl
    rw [e, if_pos rfl]
    rfl
  | false =>
    have e : List.filter (fun k => b.getD k false) [i] = [] := by rw [List.filter_cons, h]; rfl
    rw [e, if_neg (by intro z; cases z), List.map_nil, List.append_nil]
theorem cell_lt {c : CS} (w : Wf c) {n : Nat} {l : List Nat} (h : c.cells[n]? = some l) : n < c.bl * c.pg := by
  rw [← w.lc]
  exact (List.getElem?_eq_some_iff.mp h).1
theorem cell_at {c : CS} {n : Nat} {l : List Nat} (h : c.cells[n]? = some l) : atI (c.cells.map fun l => V.str (S l)) (n : Int) = some (.str (S l)) := atI_nat (by rw [List.getElem?_map, h]; rfl)
theorem word_dec {w : Str} : decide (V.str w = V.str (SX.S [])) = decide (w = Str.ofString "") := by
  rw [Bool.eq_iff_iff, decide_eq_true_iff, decide_eq_true_iff, ofs_nil]
  exact ⟨fun q => V.str.inj q, fun q => by rw [q]⟩
theorem deed_pat {c : CS} (wf : Wf c) (h : (deed c).1 ≠ Str.ofString "") : WM.Cells (deed c).2 ∧ 1 ≤ (deed c).2.length ∧ (deed c).2.length ≤ 100 ∧ ((deed c).1 = Str.ofString "cut" ∨ (deed c).1 = Str.ofString "bad") := by
  unfold deed at h ⊢
  cases e : c.fa.lookup (c.done + 1) with
  | none => rw [e] at h; exact absurd rfl h
  | some q =>
    obtain ⟨w, p⟩ := q
    exact wf.fa _ _ _ e
theorem torn_page {l p : List Nat} (h1 : l.length = 256) (h2 : WM.Cells l) (h3 : WM.Cells p) (h4 : 1 ≤ p.length) : (tornL l p).length = 256 ∧ WM.Cells (tornL l p) := by
  refine ⟨by rw [torn_len, h1], fun c hc => ?_⟩
  unfold tornL at hc
  obtain ⟨i, hi, rfl⟩ := List.mem_map.mp hc
  have hi2 : i < l.length := List.mem_range.mp hi
  have hm : i % p.length < p.length := Nat.mod_lt _ (by omega)
  have e1 : l.getD i 0 = l[i] := by rw [List.getD, List.getElem?_eq_getElem hi2]; rfl
  have e2 : p.getD (i % p.length) 0 = p[i % p.length] := by rw [List.getD, List.getElem?_eq_getElem hm]; rfl
  split
  · rw [e2]; exact h3 _ (List.getElem_mem hm)
  · rw [e1]; exact h2 _ (List.getElem_mem hi2)
theorem Wf.put {c : CS} {n : Nat} {l : List Nat} {b : Bool} (w : Wf c) (h : l.length = 256 ∧ WM.Cells l) : Wf (put c n l b) :=
  ⟨w.b4, w.b64, w.p4, w.p16, by show (c.cells.set n l).length = _; rw [List.length_set]; exact w.lc, by show (c.stands.set n b).length = _; rw [List.length_set]; exact w.ls, w.lw, w.lb, fun x hx => by
    rcases List.mem_or_eq_of_mem_set hx with q | q
    · exact w.page x q
    · rw [q]; exact h, w.fa⟩
theorem wiped_wf {c : CS} {n : Nat} {w : Str} {p : List Nat} (wf : Wf c) (hn : n < c.bl) (hp : w ≠ Str.ofString "" → WM.Cells p ∧ 1 ≤ p.length) : ∀ i, i ≤ c.pg → Wf (wiped c n w p i) ∧ (wiped c n w p i).pg = c.pg ∧ (wiped c n w p i).bl = c.bl
  | 0, _ => ⟨wf, rfl, rfl⟩
  | i + 1, hi => by
    obtain ⟨h1, h2, h3⟩ := wiped_wf wf hn hp i (by omega)
    refine ⟨h1.put ?_, h2, h3⟩
    by_cases e : w = Str.ofString ""
    · rw [if_pos e]
      exact ⟨List.length_replicate, fun c hc => by rw [List.eq_of_mem_replicate hc]; decide⟩
    · rw [if_neg e]
      obtain ⟨p1, p2⟩ := hp e
      have l3 : (n + 1) * c.pg ≤ c.bl * c.pg := Nat.mul_le_mul_right _ hn
      have l4 : (n + 1) * c.pg = n * c.pg + c.pg := Nat.succ_mul _ _
      have hl : n * c.pg + i < (wiped c n w p i).cells.length := by rw [h1.lc, h2, h3]; omega
      have hm : (wiped c n w p i).cells.getD (n * c.pg + i) [] ∈ (wiped c n w p i).cells := by
        rw [List.getD_eq_getElem?_getD, List.getElem?_eq_getElem hl]
        exact List.getElem_mem hl
      obtain ⟨a, b⟩ := h1.page _ hm
      exact torn_page a b p1 p2
theorem size_lo {c : CS} (w : Wf c) : c.bl * c.pg ≤ 1024 := Nat.mul_le_mul w.b64 w.p16
theorem kint_go {te : TE} {σ : L2.St} {H : Hp} {N : V → Hp → Prop} (h : ∀ N : V → Hp → Prop, (∀ (c : Int) H1, Same H H1 → N (.int c) H1) → te σ H N) (k : ∀ (c : Int) H1, Same H H1 → N (.int c) H1) : te σ H N := h N k
theorem cutV_ints (xs : List Int) (lo hi : Option Int) : ∃ ns : List Int, cutV (xs.map V.int) lo hi = ns.map V.int := by
  unfold cutV
  exact ⟨_, by rw [← List.map_drop, ← List.map_take]⟩
theorem prime_at (c : Int) : ∃ p : Int, atI [V.int 2147483647, V.int 2147483629, V.int 2147483587, V.int 2147483579, V.int 2147483563] (c % 5) = some (.int p) ∧ 1 ≤ p ∧ p ≤ 2147483647 := by
  have h : c % 5 = 0 ∨ c % 5 = 1 ∨ c % 5 = 2 ∨ c % 5 = 3 ∨ c % 5 = 4 := by omega
  rcases h with h | h | h | h | h <;> rw [h] <;> exact ⟨_, rfl, by decide, by decide⟩
theorem mulOkL {i j : Int} (h0 : 0 ≤ i) (h : i < 2 ^ 64) : CMul i j := .inl ⟨by omega, h⟩
theorem mulOkR {i j : Int} (h0 : 0 ≤ j) (h : j < 2 ^ 64) : CMul i j := .inr ⟨by omega, h⟩
theorem pow3Ok {i : Int} (h0 : 0 ≤ i) (h : i < 2 ^ 64) : CPowW i 3 := by
  refine ⟨by decide, ?_⟩
  have : Builtin.Int.intBits i ≤ 64 := by
    exact intBits_le (by omega)
  omega
theorem map_erase {α β : Type} (f : α → β) : ∀ (l : List α) (k : Nat), (l.map f).eraseIdx k = (l.eraseIdx k).map f
  | [], _ => rfl
  | x :: l, 0 => rfl
  | x :: l, k + 1 => by
    rw [List.map_cons, List.eraseIdx_cons_succ, List.eraseIdx_cons_succ, List.map_cons, map_erase f l k]
theorem perm_erase : ∀ (l : List Int) (k : Nat) (h : k < l.length), (l[k] :: l.eraseIdx k).Perm l
  | [], k, h => absurd h (by simp)
  | x :: l, 0, h => List.Perm.refl _
  | x :: l, k + 1, h => by
    rw [List.eraseIdx_cons_succ, List.getElem_cons_succ]
    exact (List.Perm.swap x _ _).trans ((perm_erase l k (by simpa using h)).cons x)
/-- each cell is at least what it was -/
def Ris (x y : List Nat) : Prop := ∀ i, i < 256 → x.getD i 0 ≤ y.getD i 0
theorem Ris.refl (x : List Nat) : Ris x x := fun _ _ => Nat.le_refl _
theorem torn_ris (l p : List Nat) (h : l.length = 256) : Ris l (tornL l p) := fun i hi => by
  unfold tornL
  rw [List.getD_eq_getElem?_getD, List.getD_eq_getElem?_getD (l := List.map _ _), List.getElem?_map, List.getElem?_range (by omega)]
  dsimp only [Option.map, Option.getD_some]
  rw [← List.getD_eq_getElem?_getD]
  split <;> omega
theorem allf_ris {l : List Nat} (h : WM.Cells l) : Ris l (List.replicate 256 102) := fun i hi => by
  rw [List.getD_eq_getElem?_getD (l := List.replicate _ _), List.getElem?_replicate, if_pos hi]
  rw [List.getD_eq_getElem?_getD]
  cases e : l[i]? with
  | none => exact Nat.zero_le _
  | some v =>
    have := h v (List.mem_of_getElem? e)
    unfold WM.IsCell at this
    show v ≤ 102
    omega
theorem below_ris {c c' r : List Nat} (h : Ris c c') : below c' r ≤ below c r := by
  unfold below
  rw [← List.countP_eq_length_filter, ← List.countP_eq_length_filter]
  refine List.countP_mono_left fun i hi q => ?_
  have := h i (List.mem_range.mp hi)
  have q2 := of_decide_eq_true q
  exact decide_eq_true (by omega)
theorem below_self (l : List Nat) : below l l = 0 := by
  unfold below
  rw [← List.countP_eq_length_filter, List.countP_eq_zero]
  intro i _
  simp
theorem count_at (j : Nat) : ∀ n : Nat, (List.range n).countP (fun i => decide (i = j)) ≤ 1 ∧ (n ≤ j → (List.range n).countP (fun i => decide (i = j)) = 0)
  | 0 => ⟨Nat.zero_le _, fun _ => rfl⟩
  | n + 1 => by
    obtain ⟨h1, h2⟩ := count_at j n
    rw [List.range_succ, List.countP_append]
    by_cases e : n = j
    · rw [h2 (by omega)]
      exact ⟨by simp [e], fun h => by omega⟩
    · have : [n].countP (fun i => decide (i = j)) = 0 := by simp [e]
      rw [this]
      exact ⟨h1, fun h => h2 (by omega)⟩
theorem below_one {c c' r : List Nat} {j : Nat} (h : ∀ i, i ≠ j → c'.getD i 0 = c.getD i 0) (z : below c r = 0) : below c' r ≤ 1 ∧ (¬ c'.getD j 0 < r.getD j 0 → below c' r = 0) := by
  have z2 : ∀ i, i < 256 → ¬ c.getD i 0 < r.getD i 0 := fun i hi q => by
    unfold below at z
    rw [← List.countP_eq_length_filter, List.countP_eq_zero] at z
    exact z i (List.mem_range.mpr hi) (decide_eq_true q)
  unfold below
  rw [← List.countP_eq_length_filter]
  refine ⟨Nat.le_trans (List.countP_mono_left fun i hi q => ?_) (count_at j 256).1, fun n => ?_⟩
  · by_cases e : i = j
    · exact decide_eq_true e
    · have q2 := of_decide_eq_true q
      rw [h i e] at q2
      exact absurd q2 (z2 i (List.mem_range.mp hi))
  · rw [List.countP_eq_zero]
    intro i hi q
    have q2 := of_decide_eq_true q
    by_cases e : i = j
    · rw [e] at q2; exact n q2
    · rw [h i e] at q2
      exact z2 i (List.mem_range.mp hi) q2
theorem fallen_get {l : List Nat} {j g : Nat} (hj : j < l.length) : ∀ i, (l.take j ++ [g] ++ l.drop (j + 1)).getD i 0 = if i = j then g else l.getD i 0 := fun i => by
  have e : l.take j ++ [g] ++ l.drop (j + 1) = l.set j g := by
    rw [List.set_eq_take_append_cons_drop, if_pos hj]
    simp
  rw [e, List.getD_eq_getElem?_getD, List.getElem?_set]
  by_cases q : j = i
  · subst q
    rw [if_pos rfl, if_pos rfl, if_pos hj]
    rfl
  · rw [if_neg q, if_neg (fun z => q z.symm), ← List.getD_eq_getElem?_getD]
/-- what the law knows: each page lies between what was written there and f -/
structure Okk (c : CS) (ls : List (List Nat)) (fs : List Int) : Prop where
  len : ls.length = c.cells.length
  page : ∀ l ∈ ls, l.length = 256 ∧ WM.Cells l
  be : ∀ i, i < c.cells.length → below (c.cells.getD i []) (ls.getD i []) ≤ if (i : Int) ∈ fs then 1 else 0
/-- the pages of a chip rise -/
def RisC (c c' : CS) : Prop := c'.cells.length = c.cells.length ∧ ∀ k, k < c.cells.length → Ris (c.cells.getD k []) (c'.cells.getD k [])
theorem RisC.of {c c' : CS} (h : c'.cells = c.cells) : RisC c c' := ⟨by rw [h], fun k _ => by rw [h]; exact Ris.refl _⟩
theorem Okk.ris {c c' : CS} {ls : List (List Nat)} {fs : List Int} (h : Okk c ls fs) (r : RisC c c') : Okk c' ls fs :=
  ⟨h.len.trans r.1.symm, h.page, fun i hi => Nat.le_trans (below_ris (r.2 i (by have := r.1; omega))) (h.be i (by have := r.1; omega))⟩
theorem getD_setN {α : Type} (l : List α) (n i : Nat) (x d : α) : (l.set n x).getD i d = if n = i ∧ n < l.length then x else l.getD i d := by
  rw [List.getD_eq_getElem?_getD, List.getElem?_set]
  by_cases q : n = i
  · subst q
    by_cases hn : n < l.length
    · rw [if_pos rfl, if_pos hn, if_pos ⟨rfl, hn⟩]; rfl
    · rw [if_pos rfl, if_neg hn, if_neg (fun z => hn z.2), List.getD_eq_getElem?_getD, List.getElem?_eq_none (by omega)]
  · rw [if_neg q, if_neg (fun z => q z.1), ← List.getD_eq_getElem?_getD]
theorem Okk.write {c c' : CS} {ls : List (List Nat)} {fs : List Int} {n : Nat} {l x : List Nat} (h : Okk c ls fs) (e : c'.cells = c.cells.set n x) (r : Ris l x) (hl : l.length = 256 ∧ WM.Cells l) : Okk c' (ls.set n l) fs := by
  refine ⟨by rw [e, List.length_set, List.length_set]; exact h.len, fun y hy => ?_, fun i hi => ?_⟩
  · rcases List.mem_or_eq_of_mem_set hy with z | z
    · exact h.page y z
    · rw [z]; exact hl
  · rw [e, List.length_set] at hi
    rw [e, getD_setN, getD_setN]
    by_cases q : n = i
    · subst q
      rw [if_pos ⟨rfl, hi⟩, if_pos ⟨rfl, by rw [h.len]; exact hi⟩]
      have := below_ris (r := l) r
      rw [below_self] at this
      split <;> omega
    · rw [if_neg (fun z => q z.1), if_neg (fun z => q z.1)]
      exact h.be i hi
theorem told_same (c : CS) (b : Nat) (w : Str) : (deedTold c b w).1.cells = c.cells ∧ (deedTold c b w).1.bl = c.bl ∧ (deedTold c b w).1.pg = c.pg ∧ (Wf c → Wf (deedTold c b w).1) ∧ (∀ x, (deedTold c b w).2 = some x → (deedTold c b w).1.on = c.on) := by
  unfold deedTold
  split
  · exact ⟨rfl, rfl, rfl, fun w => ⟨w.b4, w.b64, w.p4, w.p16, w.lc, w.ls, w.lw, w.lb, w.page, w.fa⟩, fun x h => nomatch h⟩
  · split
    · exact ⟨rfl, rfl, rfl, fun w => ⟨w.b4, w.b64, w.p4, w.p16, w.lc, w.ls, w.lw, (List.length_set ..).trans w.lb, w.page, w.fa⟩, fun x h => rfl⟩
    · exact ⟨rfl, rfl, rfl, fun w => w, fun x h => rfl⟩
theorem Wf.on {c : CS} (w : Wf c) (b : Bool) : Wf { c with on := b } := ⟨w.b4, w.b64, w.p4, w.p16, w.lc, w.ls, w.lw, w.lb, w.page, w.fa⟩
theorem Wf.done {c : CS} (w : Wf c) : Wf { c with done := c.done + 1 } := ⟨w.b4, w.b64, w.p4, w.p16, w.lc, w.ls, w.lw, w.lb, w.page, w.fa⟩
theorem Wf.worn {c : CS} (w : Wf c) (n : Nat) (x : Int) : Wf { c with wear := c.wear.set n x } := ⟨w.b4, w.b64, w.p4, w.p16, w.lc, w.ls, (List.length_set ..).trans w.lw, w.lb, w.page, w.fa⟩
/-- what a write leaves -/
theorem written_is {c : CS} {n : Nat} {l : List Nat} (wf : Wf c) (hl : l.length = 256 ∧ WM.Cells l) :
    Wf (written c n l).1 ∧ (written c n l).1.bl = c.bl ∧ (written c n l).1.pg = c.pg ∧ (∀ x, (written c n l).2 = some x → (written c n l).1.on = c.on) ∧
    ((c.bad.getD (n / c.pg) false = true → (written c n l).1.cells = c.cells) ∧ (c.bad.getD (n / c.pg) false = false → ∃ x, (written c n l).1.cells = c.cells.set n x ∧ Ris l x)) := by
  unfold written
  dsimp only
  by_cases hb : c.bad.getD (n / c.pg) false = true
  · rw [if_pos hb]
    obtain ⟨h1, h2, h3, h4, h5⟩ := told_same { c with done := c.done + 1 } (n / c.pg) (deed c).1
    exact ⟨h4 wf.done, h2, h3, h5, fun _ => h1, fun z => by rw [hb] at z; cases z⟩
  · rw [if_neg hb]
    obtain ⟨h1, h2, h3, h4, h5⟩ := told_same (put { c with done := c.done + 1 } n (if (deed c).1 = Str.ofString "" then l else tornL l (deed c).2) (decide ((deed c).1 = Str.ofString ""))) (n / c.pg) (deed c).1
    refine ⟨h4 (wf.done.put ?_), h2, h3, h5, fun z => absurd z hb, fun _ => ⟨_, h1, ?_⟩⟩
    · split
      · exact hl
      · next e => exact torn_page hl.1 hl.2 (deed_pat wf e).1 (deed_pat wf e).2.1
    · split
      · exact Ris.refl _
      · exact torn_ris _ _ hl.1
theorem wiped_cells {c : CS} {n : Nat} {w : Str} {p : List Nat} : ∀ i, n * c.pg + i ≤ c.cells.length → (wiped c n w p i).cells.length = c.cells.length ∧ ∀ k, k < c.cells.length → (wiped c n w p i).cells.getD k [] = if n * c.pg ≤ k ∧ k < n * c.pg + i then (if w = Str.ofString "" then List.replicate 256 102 else tornL (c.cells.getD k []) p) else c.cells.getD k []
  | 0, _ => ⟨rfl, fun k _ => by rw [if_neg (by omega)]; rfl⟩
  | i + 1, hi => by
    obtain ⟨h1, h2⟩ := wiped_cells (c := c) (n := n) (w := w) (p := p) i (by omega)
    refine ⟨(List.length_set ..).trans h1, fun k hk => ?_⟩
    show ((wiped c n w p i).cells.set (n * c.pg + i) (if w = Str.ofString "" then List.replicate 256 102 else tornL ((wiped c n w p i).cells.getD (n * c.pg + i) []) p)).getD k [] = _
    rw [getD_setN, h1]
    by_cases q : n * c.pg + i = k
    · subst q
      rw [if_pos ⟨rfl, hk⟩, h2 _ hk, if_neg (show ¬ (n * c.pg ≤ n * c.pg + i ∧ n * c.pg + i < n * c.pg + i) by omega), if_pos (show n * c.pg ≤ n * c.pg + i ∧ n * c.pg + i < n * c.pg + (i + 1) by omega)]
    · rw [if_neg (fun z => q z.1), h2 k hk]
      by_cases z : n * c.pg ≤ k ∧ k < n * c.pg + i
      · rw [if_pos z, if_pos (show n * c.pg ≤ k ∧ k < n * c.pg + (i + 1) by omega)]
      · rw [if_neg z, if_neg (show ¬ (n * c.pg ≤ k ∧ k < n * c.pg + (i + 1)) by omega)]
theorem wiped_on {c : CS} {n : Nat} {w : Str} {p : List Nat} : ∀ i, (wiped c n w p i).on = c.on
  | 0 => rfl
  | i + 1 => wiped_on i
/-- what an erase leaves -/
theorem erased_is {c : CS} {n : Nat} (wf : Wf c) (hn : n < c.bl) :
    Wf (erased c n).1 ∧ (erased c n).1.bl = c.bl ∧ (erased c n).1.pg = c.pg ∧ (∀ x, (erased c n).2 = some x → (erased c n).1.on = c.on) ∧ RisC c (erased c n).1 ∧
    ((erased c n).2 = some true → (erased c n).1.cells.length = c.cells.length ∧ ∀ k, k < c.cells.length → (erased c n).1.cells.getD k [] = if n * c.pg ≤ k ∧ k < n * c.pg + c.pg then List.replicate 256 102 else c.cells.getD k []) := by
  unfold erased
  dsimp only
  have l3 : (n + 1) * c.pg ≤ c.bl * c.pg := Nat.mul_le_mul_right _ hn
  have l4 : (n + 1) * c.pg = n * c.pg + c.pg := Nat.succ_mul _ _
  by_cases hb : c.bad.getD n false = true
  · rw [if_pos hb]
    obtain ⟨h1, h2, h3, h4, h5⟩ := told_same { c with done := c.done + 1 } n (deed c).1
    refine ⟨h4 wf.done, h2, h3, h5, .of h1, fun z => ?_⟩
    exfalso
    unfold deedTold at z
    split at z
    · cases z
    · split at z
      · cases z
      · have hb2 : ({ c with done := c.done + 1 } : CS).bad.getD n false = true := hb
        rw [hb2] at z
        cases z
  · rw [if_neg hb]
    obtain ⟨q1, q2, q3⟩ := wiped_wf (c := { c with done := c.done + 1, wear := c.wear.set n (c.wear.getD n 0 + 1) }) (n := n) (w := (deed c).1) (p := (deed c).2) (wf.done.worn n _) hn (fun e => ⟨(deed_pat wf e).1, (deed_pat wf e).2.1⟩) c.pg (Nat.le_refl _)
    obtain ⟨e1, e2⟩ := wiped_cells (c := { c with done := c.done + 1, wear := c.wear.set n (c.wear.getD n 0 + 1) }) (n := n) (w := (deed c).1) (p := (deed c).2) c.pg (by show n * c.pg + c.pg ≤ c.cells.length; rw [wf.lc]; omega)
    have q4 := wiped_on (c := { c with done := c.done + 1, wear := c.wear.set n (c.wear.getD n 0 + 1) }) (n := n) (w := (deed c).1) (p := (deed c).2) c.pg
    revert q1 q2 q3 q4 e1 e2
    show ∀ (_ : Wf (wiped _ n _ _ c.pg)), _
    generalize wiped _ n (deed c).1 (deed c).2 c.pg = d
    intro q1 q2 q3 e1 e2 q4
    obtain ⟨h1, h2, h3, h4, h5⟩ := told_same d n (deed c).1
    refine ⟨h4 q1, h2.trans q3, h3.trans q2, fun x hx => (h5 x hx).trans q4, ⟨by rw [h1]; exact e1, fun k hk => ?_⟩, fun z => ⟨by rw [h1]; exact e1, fun k hk => ?_⟩⟩
    · have hp : (c.cells.getD k []).length = 256 ∧ WM.Cells (c.cells.getD k []) := by
        rw [List.getD_eq_getElem?_getD, List.getElem?_eq_getElem hk]
        exact wf.page _ (List.getElem_mem hk)
      rw [h1, e2 k hk]
      split
      · split
        · exact allf_ris hp.2
        · exact torn_ris _ _ hp.1
      · exact Ris.refl _
    · rw [h1, e2 k hk]
      by_cases w0 : (deed c).1 = Str.ofString ""
      · rw [if_pos w0]
      · exfalso
        have q := (deed_pat wf w0).2.2.2
        unfold deedTold at z
        split at z
        · cases z
        · next n1 =>
          split at z
          · cases z
          · next n2 =>
            rcases q with q | q
            · exact n1 q
            · exact n2 q
theorem Okk.erase {c c' : CS} {ls : List (List Nat)} {fs fs' : List Int} {n : Nat} (h : Okk c ls fs) (h1 : c'.cells.length = c.cells.length) (hn : n * 4 + 4 ≤ c.cells.length)
    (h2 : ∀ k, k < c.cells.length → c'.cells.getD k [] = if n * 4 ≤ k ∧ k < n * 4 + 4 then List.replicate 256 102 else c.cells.getD k []) (h3 : ∀ k : Nat, (k : Int) ∈ fs → ¬ (n * 4 ≤ k ∧ k < n * 4 + 4) → (k : Int) ∈ fs') :
    Okk c' (ls.take (n * 4) ++ List.replicate 4 (List.replicate 256 102) ++ ls.drop (n * 4 + 4)) fs' := by
  have hl := h.len
  refine ⟨by rw [List.length_append, List.length_append, List.length_take, List.length_replicate, List.length_drop]; omega, fun y hy => ?_, fun i hi => ?_⟩
  · rcases List.mem_append.mp hy with z | z
    · rcases List.mem_append.mp z with z | z
      · exact h.page y (List.mem_of_mem_take z)
      · rw [List.eq_of_mem_replicate z]
        exact ⟨List.length_replicate, fun c hc => by rw [List.eq_of_mem_replicate hc]; unfold WM.IsCell; omega⟩
    · exact h.page y (List.mem_of_mem_drop z)
  · rw [h1] at hi
    rw [h2 i hi]
    have hg : (ls.take (n * 4) ++ List.replicate 4 (List.replicate 256 102) ++ ls.drop (n * 4 + 4)).getD i [] = if n * 4 ≤ i ∧ i < n * 4 + 4 then List.replicate 256 102 else ls.getD i [] := by
      rw [List.getD_eq_getElem?_getD, List.append_assoc]
      by_cases q1 : i < n * 4
      · rw [if_neg (by omega), List.getElem?_append_left (by rw [List.length_take]; omega), List.getElem?_take, if_pos q1, List.getD_eq_getElem?_getD]
      · rw [List.getElem?_append_right (by rw [List.length_take]; omega)]
        have e : i - (ls.take (n * 4)).length = i - n * 4 := by rw [List.length_take]; omega
        rw [e]
        by_cases q2 : i < n * 4 + 4
        · rw [if_pos ⟨by omega, q2⟩, List.getElem?_append_left (by rw [List.length_replicate]; omega), List.getElem?_replicate, if_pos (by omega)]
          rfl
        · rw [if_neg (by omega), List.getElem?_append_right (by rw [List.length_replicate]; omega), List.length_replicate, List.getElem?_drop, List.getD_eq_getElem?_getD]
          congr 2
          omega
    rw [hg]
    by_cases q : n * 4 ≤ i ∧ i < n * 4 + 4
    · rw [if_pos q, if_pos q, below_self]
      exact Nat.zero_le _
    · rw [if_neg q, if_neg q]
      refine Nat.le_trans (h.be i hi) ?_
      by_cases z : (i : Int) ∈ fs
      · rw [if_pos z, if_pos (h3 i z q)]
        exact Nat.le_refl _
      · rw [if_neg z]
        exact Nat.zero_le _
theorem Okk.fade {c : CS} {ls : List (List Nat)} {fs fs' : List Int} {n j : Nat} {l r : List Nat} {b : Bool} (h : Okk c ls fs) (hn : c.cells[n]? = some l) (hl : l.length = 256) (hr : ls[n]? = some r) (hj : j < 256) (nf : (n : Int) ∉ fs) (h3 : ∀ x ∈ fs, x ∈ fs') (h4 : (48 < r.getD j 0) → (n : Int) ∈ fs') :
    Okk (put c n (l.take j ++ [48] ++ l.drop (j + 1)) b) ls fs' := by
  refine ⟨h.len.trans (List.length_set ..).symm, h.page, fun i hi => ?_⟩
  have hi2 : i < c.cells.length := by rw [show (put c n (l.take j ++ [48] ++ l.drop (j + 1)) b).cells = c.cells.set n _ from rfl, List.length_set] at hi; exact hi
  show below ((c.cells.set n (l.take j ++ [48] ++ l.drop (j + 1))).getD i []) (ls.getD i []) ≤ _
  rw [getD_setN]
  have hb := h.be i hi2
  by_cases q : n = i
  · subst q
    rw [if_pos ⟨rfl, hi2⟩]
    rw [if_neg nf] at hb
    have e1 : c.cells.getD n [] = l := by rw [List.getD_eq_getElem?_getD, hn]; rfl
    have e2 : ls.getD n [] = r := by rw [List.getD_eq_getElem?_getD, hr]; rfl
    rw [e1, e2] at hb
    rw [e2]
    have g := fallen_get (l := l) (g := 48) (j := j) (by omega)
    have o := below_one (c := l) (c' := l.take j ++ [48] ++ l.drop (j + 1)) (r := r) (j := j) (fun i hi => by rw [g i, if_neg hi]) (by omega)
    by_cases z : 48 < r.getD j 0
    · rw [if_pos (h4 z)]
      exact o.1
    · rw [o.2 (by rw [g j, if_pos rfl]; exact z)]
      exact Nat.zero_le _
  · rw [if_neg (fun z => q z.1)]
    refine Nat.le_trans hb ?_
    by_cases z : (i : Int) ∈ fs
    · rw [if_pos z, if_pos (h3 _ z)]
      exact Nat.le_refl _
    · rw [if_neg z]
      exact Nat.zero_le _
theorem written_ex {c : CS} {n : Nat} {l : List Nat} (wf : Wf c) (hl : l.length = 256 ∧ WM.Cells l) (hb : c.bad.getD (n / c.pg) false = false) :
    ((written c n l).2 = some true ∧ (written c n l).1.cells = c.cells.set n l ∧ (written c n l).1.stands = c.stands.set n true) ∨
    ((written c n l).2 ≠ some true ∧ (∃ x, (written c n l).1.cells = c.cells.set n x ∧ Ris l x) ∧ (written c n l).1.stands = c.stands.set n false) := by
  unfold written
  dsimp only
  rw [if_neg (by rw [hb]; exact Bool.false_ne_true)]
  by_cases w0 : (deed c).1 = Str.ofString ""
  · left
    rw [if_pos w0, w0]
    have e : deedTold (put { c with done := c.done + 1 } n l (decide (Str.ofString "" = Str.ofString ""))) (n / c.pg) (Str.ofString "") = (put { c with done := c.done + 1 } n l true, some (!(c.bad.getD (n / c.pg) false))) := by
      unfold deedTold
      rw [if_neg (by decide), if_neg (by decide), decide_eq_true rfl]
      rfl
    rw [e, hb]
    exact ⟨rfl, rfl, rfl⟩
  · right
    have q := deed_pat wf w0
    rw [if_neg w0, decide_eq_false w0]
    have st : ∀ (d : CS) (w : Str), w = Str.ofString "cut" ∨ w = Str.ofString "bad" → (deedTold d (n / c.pg) w).2 ≠ some true ∧ (deedTold d (n / c.pg) w).1.cells = d.cells ∧ (deedTold d (n / c.pg) w).1.stands = d.stands := by
      intro d w hw
      unfold deedTold
      rcases hw with rfl | rfl
      · rw [if_pos rfl]
        exact ⟨(fun z => nomatch z), rfl, rfl⟩
      · rw [if_neg (by decide), if_pos rfl]
        exact ⟨(fun z => nomatch z), rfl, rfl⟩
    obtain ⟨h1, h2, h3⟩ := st (put { c with done := c.done + 1 } n (tornL l (deed c).2) false) (deed c).1 q.2.2.2
    exact ⟨h1, ⟨_, h2, torn_ris _ _ hl.1⟩, h3⟩
theorem torn_allf {p : List Nat} (hp : WM.Cells p) : tornL (List.replicate 256 102) p = List.replicate 256 102 := by
  unfold tornL
  refine List.ext_getElem (by rw [List.length_map, List.length_range]) fun i h1 h2 => ?_
  rw [List.getElem_map, List.getElem_range, List.getElem_replicate, if_neg]
  · rw [List.getD_eq_getElem?_getD, List.getElem?_replicate, if_pos (by rw [List.length_replicate] at h2; exact h2)]
    rfl
  · intro z
    have e : (List.replicate 256 102).getD i 0 = 102 := by
      rw [List.getD_eq_getElem?_getD, List.getElem?_replicate, if_pos (by rw [List.length_replicate] at h2; exact h2)]
      rfl
    rw [e, List.getD_eq_getElem?_getD] at z
    cases q : p[i % p.length]? with
    | none => rw [q] at z; exact absurd z (by decide)
    | some v =>
      rw [q] at z
      have := hp v (List.mem_of_getElem? q)
      unfold WM.IsCell at this
      have z2 : 102 < v := z
      omega
theorem wiped_stands {c : CS} {n : Nat} {w : Str} {p : List Nat} : ∀ i, n * c.pg + i ≤ c.stands.length → (wiped c n w p i).stands.length = c.stands.length ∧ ∀ k, (wiped c n w p i).stands.getD k false = if n * c.pg ≤ k ∧ k < n * c.pg + i then false else c.stands.getD k false
  | 0, _ => ⟨rfl, fun k => by rw [if_neg (by omega)]; rfl⟩
  | i + 1, hi => by
    obtain ⟨h1, h2⟩ := wiped_stands (c := c) (n := n) (w := w) (p := p) i (by omega)
    refine ⟨(List.length_set ..).trans h1, fun k => ?_⟩
    show ((wiped c n w p i).stands.set (n * c.pg + i) false).getD k false = _
    rw [getD_setN, h1, h2 k]
    by_cases q : n * c.pg + i = k
    · rw [if_pos ⟨q, by omega⟩, if_pos (show n * c.pg ≤ k ∧ k < n * c.pg + (i + 1) by omega)]
    · rw [if_neg (fun z => q z.1)]
      by_cases z : n * c.pg ≤ k ∧ k < n * c.pg + i
      · rw [if_pos z, if_pos (show n * c.pg ≤ k ∧ k < n * c.pg + (i + 1) by omega)]
      · rw [if_neg z, if_neg (show ¬ (n * c.pg ≤ k ∧ k < n * c.pg + (i + 1)) by omega)]
theorem told_stands (c : CS) (b : Nat) (w : Str) : (deedTold c b w).1.stands = c.stands := by
  unfold deedTold
  split
  · rfl
  · split <;> rfl
/-- what an erase leaves, exactly -/
theorem erased_ex {c : CS} {n : Nat} (wf : Wf c) (hn : n < c.bl) :
    (c.bad.getD n false = true → (erased c n).2 ≠ some true ∧ (erased c n).1.cells = c.cells ∧ (erased c n).1.stands = c.stands) ∧
    (c.bad.getD n false = false → (∀ k, (erased c n).1.stands.getD k false = if n * c.pg ≤ k ∧ k < n * c.pg + c.pg then false else c.stands.getD k false) ∧
      ∀ k, k < c.cells.length → (¬ (n * c.pg ≤ k ∧ k < n * c.pg + c.pg) → (erased c n).1.cells.getD k [] = c.cells.getD k []) ∧ (c.cells.getD k [] = List.replicate 256 102 → (erased c n).1.cells.getD k [] = List.replicate 256 102)) := by
  have l3 : (n + 1) * c.pg ≤ c.bl * c.pg := Nat.mul_le_mul_right _ hn
  have l4 : (n + 1) * c.pg = n * c.pg + c.pg := Nat.succ_mul _ _
  constructor
  · intro hb
    unfold erased
    dsimp only
    rw [if_pos hb]
    refine ⟨fun z => ?_, (told_same _ _ _).1, told_stands _ _ _⟩
    unfold deedTold at z
    split at z
    · cases z
    · split at z
      · cases z
      · have hb2 : ({ c with done := c.done + 1 } : CS).bad.getD n false = true := hb
        rw [hb2] at z
        cases z
  · intro hb
    unfold erased
    dsimp only
    rw [if_neg (by rw [hb]; exact Bool.false_ne_true)]
    obtain ⟨s1, s2⟩ := wiped_stands (c := { c with done := c.done + 1, wear := c.wear.set n (c.wear.getD n 0 + 1) }) (n := n) (w := (deed c).1) (p := (deed c).2) c.pg (by show n * c.pg + c.pg ≤ c.stands.length; rw [wf.ls]; omega)
    obtain ⟨e1, e2⟩ := wiped_cells (c := { c with done := c.done + 1, wear := c.wear.set n (c.wear.getD n 0 + 1) }) (n := n) (w := (deed c).1) (p := (deed c).2) c.pg (by show n * c.pg + c.pg ≤ c.cells.length; rw [wf.lc]; omega)
    rw [told_stands, (told_same _ _ _).1]
    refine ⟨s2, fun k hk => ⟨fun nk => ?_, fun z => ?_⟩⟩
    · rw [e2 k hk]
      exact if_neg nk
    · rw [e2 k hk]
      show (if n * c.pg ≤ k ∧ k < n * c.pg + c.pg then (if (deed c).1 = Str.ofString "" then List.replicate 256 102 else tornL (c.cells.getD k []) (deed c).2) else c.cells.getD k []) = _
      by_cases z1 : n * c.pg ≤ k ∧ k < n * c.pg + c.pg
      · rw [if_pos z1]
        by_cases w0 : (deed c).1 = Str.ofString ""
        · rw [if_pos w0]
        · rw [if_neg w0, z]
          exact torn_allf (deed_pat wf w0).1
      · rw [if_neg z1, z]
theorem worth_at {c : Nat} (h : WM.IsCell c) : ∃ rest, Builtin.Str.occurrences (Str.ofString "0123456789abcdef") (S [c]) 0 (Str.ofString "0123456789abcdef").length 1 = WM.wo c :: rest := by
  rcases cell_cases h with rfl | rfl | rfl | rfl | rfl | rfl | rfl | rfl | rfl | rfl | rfl | rfl | rfl | rfl | rfl | rfl
  all_goals exact ⟨[], by decide +kernel⟩
def tvl (l r : List Nat) (i : Nat) : Nat := if l.getD i 0 < r.getD (i % r.length) 0 then r.getD (i % r.length) 0 else l.getD i 0
theorem asc_ext : ∀ {xs ys : List Int}, xs.Pairwise (· < ·) → ys.Pairwise (· < ·) → (∀ z, z ∈ xs ↔ z ∈ ys) → xs = ys
  | [], [], _, _, _ => rfl
  | [], y :: ys, _, _, h => absurd ((h y).mpr List.mem_cons_self) List.not_mem_nil
  | x :: xs, [], _, _, h => absurd ((h x).mp List.mem_cons_self) List.not_mem_nil
  | x :: xs, y :: ys, hx, hy, h => by
    obtain ⟨x1, x2⟩ := List.pairwise_cons.mp hx
    obtain ⟨y1, y2⟩ := List.pairwise_cons.mp hy
    have e : x = y := by
      rcases List.mem_cons.mp ((h x).mp List.mem_cons_self) with z | z
      · exact z
      · rcases List.mem_cons.mp ((h y).mpr List.mem_cons_self) with w | w
        · exact w.symm
        · have := y1 x z
          have := x1 y w
          omega
    subst e
    rw [asc_ext x2 y2 fun z => ⟨fun q => by
      rcases List.mem_cons.mp ((h z).mp (List.mem_cons_of_mem _ q)) with w | w
      · have := x1 z q
        omega
      · exact w, fun q => by
      rcases List.mem_cons.mp ((h z).mpr (List.mem_cons_of_mem _ q)) with w | w
      · have := y1 z q
        omega
      · exact w⟩]
theorem badL_asc (b : List Bool) (n : Nat) : (badL b n).Pairwise (· < ·) := by
  unfold badL
  exact List.Pairwise.map _ (fun a b h => by omega) (List.Pairwise.filter _ List.pairwise_lt_range)
theorem badL_mem (b : List Bool) (n : Nat) (z : Int) : z ∈ badL b n ↔ ∃ k : Nat, k < n ∧ b.getD k false = true ∧ z = (k : Int) := by
  unfold badL
  rw [List.mem_map]
  constructor
  · rintro ⟨k, hk, rfl⟩
    obtain ⟨h1, h2⟩ := List.mem_filter.mp hk
    exact ⟨k, List.mem_range.mp h1, h2, rfl⟩
  · rintro ⟨k, h1, h2, rfl⟩
    exact ⟨k, List.mem_filter.mpr ⟨List.mem_range.mpr h1, h2⟩, rfl⟩
theorem bad_in (b : List Bool) {k n : Nat} (h : k < n) : ((k : Int) ∈ badL b n) ↔ b.getD k false = true := by
  rw [badL_mem]
  exact ⟨fun ⟨j, _, h2, h3⟩ => by have : k = j := by omega
                                  rw [this]; exact h2, fun q => ⟨k, h, q, rfl⟩⟩
theorem getD_setB (l : List Bool) (n i : Nat) (h : n < l.length) : (l.set n true).getD i false = if n = i then true else l.getD i false := by
  rw [List.getD_eq_getElem?_getD, List.getElem?_set]
  by_cases q : n = i
  · subst q
    rw [if_pos rfl, if_pos h, if_pos rfl]; rfl
  · rw [if_neg q, if_neg q, ← List.getD_eq_getElem?_getD]
theorem badL_put {b : List Bool} {n k : Nat} (hk : k < n) (hl : b.length = n) {ns : List Int} (pm : ns.Perm (badL b n ++ [(k : Int)])) (nb : b.getD k false = false) (up : ns.Pairwise (· ≤ ·)) : ns = badL (b.set k true) n := by
  have nd : (badL b n ++ [(k : Int)]).Nodup := by
    refine List.nodup_append.mpr ⟨(badL_asc b n).imp (fun h => by omega), by simp, fun x hx y hy e => ?_⟩
    rw [List.mem_singleton.mp hy] at e
    subst e
    rw [bad_in b hk, nb] at hx
    cases hx
  have nd2 : ns.Nodup := pm.nodup_iff.mpr nd
  refine asc_ext ((up.and nd2).imp fun h => by omega) (badL_asc _ _) fun z => ?_
  rw [pm.mem_iff, List.mem_append, List.mem_singleton, badL_mem, badL_mem]
  constructor
  · rintro (⟨j, h1, h2, h3⟩ | h)
    · exact ⟨j, h1, by rw [getD_setB _ _ _ (by omega)]; split; rfl; exact h2, h3⟩
    · exact ⟨k, hk, by rw [getD_setB _ _ _ (by omega), if_pos rfl], h⟩
  · rintro ⟨j, h1, h2, h3⟩
    rw [getD_setB _ _ _ (by omega)] at h2
    by_cases q : k = j
    · subst q
      exact .inr h3
    · rw [if_neg q] at h2
      exact .inl ⟨j, h1, h2, h3⟩
theorem badL_same {b : List Bool} {n k : Nat} (hk : k < n) (hl : b.length = n) (nb : b.getD k false = true) : badL (b.set k true) n = badL b n := by
  refine asc_ext (badL_asc _ _) (badL_asc _ _) fun z => ?_
  rw [badL_mem, badL_mem]
  constructor
  · rintro ⟨j, h1, h2, h3⟩
    rw [getD_setB _ _ _ (by omega)] at h2
    by_cases q : k = j
    · subst q
      exact ⟨k, h1, nb, h3⟩
    · rw [if_neg q] at h2
      exact ⟨j, h1, h2, h3⟩
  · rintro ⟨j, h1, h2, h3⟩
    exact ⟨j, h1, by rw [getD_setB _ _ _ (by omega)]; split; rfl; exact h2, h3⟩
theorem inV_ints (i : Int) : ∀ fs : List Int, inV (.int i) (fs.map V.int) = decide (i ∈ fs)
  | [] => rfl
  | x :: r => by
    have ih := inV_ints i r
    unfold inV at ih ⊢
    rw [List.map_cons, List.any_cons, ih]
    have q : eqV (V.int x) (V.int i) = decide (x = i) := rfl
    rw [q]
    by_cases e : i = x
    · subst e; simp
    · simp [e, show ¬ x = i from fun z => e z.symm]
theorem flats (fs : List Int) : (fs.map V.int).all flatV = true := by
  rw [List.all_eq_true]
  intro y hy
  obtain ⟨z, _, rfl⟩ := List.mem_map.mp hy
  rfl

theorem lookup_none {ws : List (Nat × List Nat)} {n : Nat} (h : n ∉ ws.map (·.1)) : ws.lookup n = none := by
  rw [List.lookup_eq_none_iff]
  intro p hp
  exact bne_iff_ne.mpr fun e => h (List.mem_map.mpr ⟨p, hp, e.symm⟩)
def putW (ws : List (Nat × List Nat)) (n : Nat) (l : List Nat) : List (Nat × List Nat) := if n ∈ ws.map (·.1) then ws.map fun p => if p.1 = n then (n, l) else p else ws ++ [(n, l)]
theorem wsK_any (n : Nat) : ∀ ws : List (Nat × List Nat), ((wsK ws).any fun kv => decide (kv.1 = (.inl (n : Int) : Key))) = decide (n ∈ ws.map (·.1))
  | [] => rfl
  | (m, l) :: ws => by
    show (decide ((.inl (m : Int) : Key) = .inl (n : Int)) || ((wsK ws).any fun kv => decide (kv.1 = (.inl (n : Int) : Key)))) = _
    rw [wsK_any n ws, List.map_cons]
    by_cases e : m = n
    · subst e
      simp
    · have e2 : ¬ (.inl (m : Int) : Key) = .inl (n : Int) := fun z => e (by have := Sum.inl.inj z; omega)
      rw [decide_eq_false e2, Bool.false_or]
      rw [Bool.eq_iff_iff, decide_eq_true_iff, decide_eq_true_iff, List.mem_cons]
      exact ⟨.inr, fun z => z.resolve_left (Ne.symm e)⟩
theorem wsK_put (ws : List (Nat × List Nat)) (n : Nat) (l : List Nat) : putK (wsK ws) (.inl (n : Int)) (.str (S l)) = wsK (putW ws n l) := by
  unfold putK putW
  rw [wsK_any]
  by_cases h : n ∈ ws.map (·.1)
  · rw [decide_eq_true h, if_pos rfl, if_pos h]
    unfold wsK
    rw [List.map_map, List.map_map]
    refine List.map_congr_left fun p _ => ?_
    show (if (.inl (p.1 : Int) : Key) = .inl (n : Int) then _ else _) = _
    by_cases e : p.1 = n
    · rw [if_pos (by rw [e])]
      show _ = (fun p : Nat × List Nat => ((.inl (p.1 : Int) : Key), V.str (S p.2))) (if p.1 = n then (n, l) else p)
      rw [if_pos e]
      show ((.inl (p.1 : Int) : Key), V.str (S l)) = ((.inl (n : Int) : Key), V.str (S l))
      rw [e]
    · rw [if_neg (fun z => e (by have := Sum.inl.inj z; omega))]
      show _ = (fun p : Nat × List Nat => ((.inl (p.1 : Int) : Key), V.str (S p.2))) (if p.1 = n then (n, l) else p)
      rw [if_neg e]
  · rw [decide_eq_false h, if_neg Bool.false_ne_true, if_neg h]
    unfold wsK
    rw [List.map_append]
    rfl
theorem putW_len (ws : List (Nat × List Nat)) (n : Nat) (l : List Nat) : (putW ws n l).length ≤ ws.length + 1 := by
  unfold putW
  split
  · rw [List.length_map]; exact Nat.le_succ _
  · rw [List.length_append]; exact Nat.le_refl _
theorem putW_keys (ws : List (Nat × List Nat)) (n : Nat) (l : List Nat) : (putW ws n l).map (·.1) = if n ∈ ws.map (·.1) then ws.map (·.1) else ws.map (·.1) ++ [n] := by
  unfold putW
  split
  · rw [List.map_map]
    refine List.map_congr_left fun p _ => ?_
    show (if p.1 = n then (n, l) else p).1 = p.1
    split
    · next e => exact e.symm
    · rfl
  · rw [List.map_append]; rfl
theorem putW_nd {ws : List (Nat × List Nat)} {n : Nat} {l : List Nat} (h : (ws.map (·.1)).Nodup) : ((putW ws n l).map (·.1)).Nodup := by
  rw [putW_keys]
  split
  · exact h
  · next e => exact List.nodup_append.mpr ⟨h, by simp, fun a ha b hb => by rw [List.mem_singleton.mp hb]; exact fun z => e (by rw [← z]; exact ha)⟩
theorem putW_get : ∀ (ws : List (Nat × List Nat)) (n : Nat) (l : List Nat) (m : Nat), (putW ws n l).lookup m = if m = n then some l else ws.lookup m := by
  intro ws n l m
  unfold putW
  by_cases h : n ∈ ws.map (·.1)
  · rw [if_pos h]
    induction ws with
    | nil => exact absurd h List.not_mem_nil
    | cons p ws ih =>
      rw [List.map_cons]
      by_cases e : p.1 = n
      · rw [if_pos e, List.lookup_cons]
        by_cases q : m = n
        · subst q
          rw [show (m == m) = true from beq_self_eq_true m, if_pos rfl]
        · rw [show (m == n) = false from beq_false_of_ne q, if_neg q, List.lookup_cons, show (m == p.1) = false from beq_false_of_ne (by rw [e]; exact q)]
          by_cases h2 : n ∈ ws.map (·.1)
          · have := ih h2
            rw [if_neg q] at this
            exact this
          · have e3 : (ws.map fun p => if p.1 = n then (n, l) else p) = ws := by
              refine (List.map_congr_left fun p hp => ?_).trans (List.map_id ws)
              rw [if_neg (fun z => h2 (List.mem_map.mpr ⟨p, hp, z⟩))]
              rfl
            show List.lookup m (ws.map fun p => if p.1 = n then (n, l) else p) = _
            rw [e3]
      · rw [if_neg e, List.lookup_cons, List.lookup_cons]
        have h2 : n ∈ ws.map (·.1) := by
          rcases List.mem_cons.mp h with z | z
          · exact absurd z.symm e
          · exact z
        by_cases q : m = p.1
        · rw [show (m == p.1) = true from by rw [q]; exact beq_self_eq_true _, if_neg (by rw [q]; exact e)]
        · rw [show (m == p.1) = false from beq_false_of_ne q]
          exact ih h2
  · rw [if_neg h, List.lookup_append]
    by_cases q : m = n
    · subst q
      rw [lookup_none h, if_pos rfl, List.lookup_cons, show (m == m) = true from beq_self_eq_true m]
      rfl
    · rw [if_neg q, List.lookup_cons, show (m == n) = false from beq_false_of_ne q]
      cases ws.lookup m <;> rfl
theorem merge_nd {kvs : List (Key × V)} : ∀ {acc : List (Key × V)}, ((acc ++ kvs).map (·.1)).Nodup → mergeK acc kvs = acc ++ kvs := by
  induction kvs with
  | nil => intro acc _; rw [List.append_nil]; rfl
  | cons p r ih =>
    intro acc h
    obtain ⟨k, v⟩ := p
    have hn : valV acc k = none := by
      cases e : valV acc k with
      | none => rfl
      | some v2 =>
        have := valV_in e
        rw [List.map_append] at h
        exact absurd rfl ((List.nodup_append.mp h).2.2 k this k List.mem_cons_self)
    show mergeK (putK acc k v) r = _
    rw [putK_new v hn, ih (by rw [List.append_assoc]; exact h), List.append_assoc]
    rfl
theorem wsK_keys (ws : List (Nat × List Nat)) : (wsK ws).map (·.1) = (ws.map (·.1)).map fun n : Nat => (.inl (n : Int) : Key) := by
  unfold wsK
  rw [List.map_map, List.map_map]
  rfl
theorem wsK_merge {ws : List (Nat × List Nat)} (h : (ws.map (·.1)).Nodup) : mergeK [] (wsK ws) = wsK ws := by
  refine merge_nd ?_
  rw [List.nil_append, wsK_keys]
  exact List.Pairwise.map _ (fun a b (hab : a ≠ b) z => hab (by have := Sum.inl.inj z; omega)) h
theorem wsK_get (ws : List (Nat × List Nat)) (n : Nat) : valV (wsK ws) (.inl (n : Int)) = (ws.lookup n).map fun l => V.str (S l) := by
  induction ws with
  | nil => rfl
  | cons p ws ih =>
    obtain ⟨m, l⟩ := p
    rw [List.lookup_cons]
    by_cases e : n = m
    · subst e
      rw [show (n == n) = true from beq_self_eq_true n]
      exact valV_pos rfl
    · rw [show (n == m) = false from beq_false_of_ne e]
      exact (valV_neg (fun z => e (by have := Sum.inl.inj z; omega))).trans ih

theorem told_put (c : CS) (n : Nat) (x : List Nat) (s : Bool) (b : Nat) (w : Str) : deedTold (put c n x s) b w = (put (deedTold c b w).1 n x s, (deedTold c b w).2) := by
  unfold deedTold
  split
  · rfl
  · split <;> rfl
theorem told_more (c : CS) (b : Nat) (w : Str) : (deedTold c b w).1.wear = c.wear ∧ (deedTold c b w).1.fa = c.fa := by
  unfold deedTold
  split
  · exact ⟨rfl, rfl⟩
  · split <;> exact ⟨rfl, rfl⟩
theorem WrOk.cong {c c2 : CS} {ws : List (Nat × List Nat)} (h : WrOk c ws) (e1 : c2.cells = c.cells) (e2 : c2.stands = c.stands) : WrOk c2 ws := ⟨by rw [e1]; exact h.1, fun p hp => by
  rw [e1] at hp ⊢
  rw [e2]
  exact h.2 p hp⟩
theorem WrOk.write {c : CS} {ws : List (Nat × List Nat)} {n : Nat} {l x : List Nat} {s : Bool} (h : WrOk c ws) (ls : c.stands.length = c.cells.length) (hn : c.cells[n]? = some (List.replicate 256 102)) (hs : (s = true ∧ x = l) ∨ s = false) : WrOk (put c n x s) (if s = true then putW ws n l else ws) := by
  obtain ⟨hn1, hn2⟩ := List.getElem?_eq_some_iff.mp hn
  refine ⟨fun p hp => ?_, fun p hp => ?_⟩
  · show p < (c.cells.set n x).length
    rw [List.length_set]
    split at hp
    · rw [putW_keys] at hp
      split at hp
      · exact h.1 p hp
      · rcases List.mem_append.mp hp with z | z
        · exact h.1 p z
        · rw [List.mem_singleton.mp z]; exact hn1
    · exact h.1 p hp
  have hp2 : p < c.cells.length := by rw [show (put c n x s).cells = c.cells.set n x from rfl, List.length_set] at hp; exact hp
  show ((c.cells.set n x).getD p [] ≠ _ → ((c.stands.set n s).getD p false = true ↔ _ = some ((c.cells.set n x).getD p []))) ∧ ((c.cells.set n x).getD p [] = _ → _)
  rw [getD_setN, getD_setN]
  by_cases q : n = p
  · subst q
    rw [if_pos ⟨rfl, hn1⟩, if_pos ⟨rfl, by rw [ls]; exact hn1⟩]
    have hf : c.cells.getD n [] = List.replicate 256 102 := by rw [List.getD_eq_getElem?_getD, hn]; rfl
    rcases hs with ⟨rfl, rfl⟩ | rfl
    · rw [if_pos rfl, putW_get, if_pos rfl]
      exact ⟨fun _ => ⟨fun _ => rfl, fun _ => rfl⟩, fun e y hy => by cases hy; exact e⟩
    · rw [if_neg Bool.false_ne_true]
      have o := (h.2 n hn1).2 hf
      exact ⟨fun e => ⟨(fun z => nomatch z), fun z => absurd (o x z) e⟩, fun e => o⟩
  · rw [if_neg (fun z => q z.1), if_neg (fun z => q z.1)]
    have g : (if s = true then putW ws n l else ws).lookup p = ws.lookup p := by
      split
      · rw [putW_get, if_neg (Ne.symm q)]
      · rfl
    rw [g]
    exact h.2 p hp2
theorem fa_pw {fa : List (Nat × Str × List Nat)} (hf : FaOk fa) : fa.Pairwise (fun f g => f.1 < g.1) := by
  rw [List.pairwise_iff_getElem]
  intro i j hi hj hij
  exact fa_inc hf j i _ _ hij (List.getElem?_eq_getElem hi) (List.getElem?_eq_getElem hj)
theorem filt_none {n : Nat} : ∀ {fa : List (Nat × Str × List Nat)}, (∀ f ∈ fa, n < f.1) → fa.filter (fun f => decide (f.1 = n)) = []
  | fa, h => List.filter_eq_nil_iff.mpr fun f hf q => by
    have := h f hf
    have := of_decide_eq_true q
    omega
theorem filt_lookup {n : Nat} : ∀ {fa : List (Nat × Str × List Nat)}, fa.Pairwise (fun f g => f.1 < g.1) → fa.filter (fun f => decide (f.1 = n)) = match fa.lookup n with | some q => [(n, q)] | none => []
  | [], _ => rfl
  | (m, q) :: fa, h => by
    obtain ⟨h1, h2⟩ := List.pairwise_cons.mp h
    rw [List.lookup_cons]
    by_cases e : m = n
    · subst e
      rw [List.filter_cons, if_pos (decide_eq_true rfl), filt_none h1, show (m == m) = true from beq_self_eq_true m]
    · rw [List.filter_cons, if_neg (fun z => e (of_decide_eq_true z)), show (n == m) = false from beq_false_of_ne (Ne.symm e)]
      exact filt_lookup h2
theorem strOk_S {l : List Nat} (h : ∀ c ∈ l, c < 1114112) : PyData.strOk (S l) = true := by
  unfold PyData.strOk
  rw [← Array.all_toList, S_cps, List.all_eq_true]
  intro c hc
  exact decide_eq_true (h c hc)
theorem told_wear (c : CS) (ws : List Int) (b : Nat) (w : Str) : deedTold { c with wear := ws } b w = ({ (deedTold c b w).1 with wear := ws }, (deedTold c b w).2) := by
  unfold deedTold
  split
  · rfl
  · split <;> rfl
theorem told_wiped (c : CS) (n b : Nat) (w w2 : Str) (p : List Nat) : ∀ i, deedTold (wiped c n w p i) b w2 = (wiped (deedTold c b w2).1 n w p i, (deedTold c b w2).2)
  | 0 => rfl
  | i + 1 => by
    have ih := told_wiped c n b w w2 p i
    have e1 : (wiped (deedTold c b w2).1 n w p i).cells = (wiped c n w p i).cells := by
      have q := (told_same (wiped c n w p i) b w2).1
      rw [ih] at q
      exact q
    have e2 : (deedTold c b w2).1.pg = c.pg := (told_same c b w2).2.2.1
    show deedTold (put (wiped c n w p i) (n * c.pg + i) (if w = Str.ofString "" then List.replicate 256 102 else tornL ((wiped c n w p i).cells.getD (n * c.pg + i) []) p) false) b w2 = _
    rw [told_put, ih]
    show _ = (put (wiped (deedTold c b w2).1 n w p i) (n * (deedTold c b w2).1.pg + i) (if w = Str.ofString "" then List.replicate 256 102 else tornL ((wiped (deedTold c b w2).1 n w p i).cells.getD (n * (deedTold c b w2).1.pg + i) []) p) false, _)
    rw [e1, e2]
theorem wiped_rest (c : CS) (n : Nat) (w : Str) (p : List Nat) : ∀ i, (wiped c n w p i).bl = c.bl ∧ (wiped c n w p i).pg = c.pg ∧ (wiped c n w p i).fa = c.fa ∧ (wiped c n w p i).wear = c.wear ∧ (wiped c n w p i).bad = c.bad ∧ (wiped c n w p i).done = c.done ∧ (wiped c n w p i).cuts = c.cuts ∧ (wiped c n w p i).on = c.on
  | 0 => ⟨rfl, rfl, rfl, rfl, rfl, rfl, rfl, rfl⟩
  | i + 1 => wiped_rest c n w p i
theorem wiped_cong {c c2 : CS} (n : Nat) (w : Str) (p : List Nat) (e1 : c2.cells = c.cells) (e2 : c2.pg = c.pg) : ∀ i, (wiped c2 n w p i).cells = (wiped c n w p i).cells
  | 0 => e1
  | i + 1 => by
    have ih := wiped_cong n w p e1 e2 i
    show ((wiped c2 n w p i).cells.set (n * c2.pg + i) (if w = Str.ofString "" then List.replicate 256 102 else tornL ((wiped c2 n w p i).cells.getD (n * c2.pg + i) []) p)) = _
    rw [ih, e2]
    rfl
def placesL (n pg : Nat) : List Int := (List.range pg).map fun i : Nat => ((n * pg + i : Nat) : Int)
theorem mem_placesL (n pg k : Nat) : ((k : Int) ∈ placesL n pg) ↔ (n * pg ≤ k ∧ k < n * pg + pg) := by
  unfold placesL
  rw [List.mem_map]
  constructor
  · rintro ⟨i, hi, e⟩
    have := List.mem_range.mp hi
    omega
  · rintro ⟨h1, h2⟩
    exact ⟨k - n * pg, List.mem_range.mpr (by omega), by omega⟩
theorem lookup_filter (q : Nat → Bool) : ∀ (ws : List (Nat × List Nat)) (k : Nat), (ws.filter fun p => q p.1).lookup k = if q k = true then ws.lookup k else none
  | [], k => by split <;> rfl
  | (m, l) :: ws, k => by
    have ih := lookup_filter q ws k
    rw [List.filter_cons, List.lookup_cons]
    by_cases e : k = m
    · subst e
      rw [show (k == k) = true from beq_self_eq_true k]
      by_cases h : q k = true
      · rw [if_pos h, if_pos h, List.lookup_cons, show (k == k) = true from beq_self_eq_true k]
      · rw [if_neg h, if_neg h, ih, if_neg h]
    · rw [show (k == m) = false from beq_false_of_ne e]
      by_cases h : q m = true
      · rw [if_pos h, List.lookup_cons, show (k == m) = false from beq_false_of_ne e]
        exact ih
      · rw [if_neg h]
        exact ih
theorem WrOk.erase {c c2 : CS} {ws : List (Nat × List Nat)} {n : Nat} (h : WrOk c ws) (wf : Wf c) (hn : n < c.bl) (nb : c.bad.getD n false = false) (e : c2 = (erased c n).1) : WrOk c2 (ws.filter fun p => !decide (n * c.pg ≤ p.1 ∧ p.1 < n * c.pg + c.pg)) := by
  subst e
  obtain ⟨x1, x2⟩ := (erased_ex wf hn).2 nb
  have ris := (erased_is wf hn).2.2.2.2.1
  refine ⟨fun p hp => ?_, fun p hp => ?_⟩
  · rw [ris.1]
    obtain ⟨q, hq, rfl⟩ := List.mem_map.mp hp
    exact h.1 _ (List.mem_map_of_mem (List.mem_filter.mp hq).1)
  rw [ris.1] at hp
  rw [x1 p, lookup_filter (fun k => !decide (n * c.pg ≤ k ∧ k < n * c.pg + c.pg))]
  by_cases q : n * c.pg ≤ p ∧ p < n * c.pg + c.pg
  · rw [if_pos q, decide_eq_true q]
    exact ⟨fun _ => ⟨(fun z => nomatch z), (fun z => nomatch z)⟩, fun _ y hy => nomatch hy⟩
  · rw [if_neg q, decide_eq_false q]
    have hc := (x2 p hp).1 q
    rw [hc]
    exact h.2 p hp
theorem pair_snoc {α β : Type} {F : α → β → Prop} : ∀ {xs : List α} {ys : List β} {x : α} {y : β}, Paired F xs ys → F x y → Paired F (xs ++ [x]) (ys ++ [y])
  | _, _, _, _, .nil, h => .cons h .nil
  | _, _, _, _, .cons a r, h => .cons a (pair_snoc r h)
theorem pair_len {α β : Type} {F : α → β → Prop} : ∀ {xs : List α} {ys : List β}, Paired F xs ys → xs.length = ys.length
  | _, _, .nil => rfl
  | _, _, .cons _ r => congrArg Nat.succ (pair_len r)
theorem shown_int {z : Int} (h : z.natAbs < 10 ^ 9) : (PyData.int z).shown.length ≤ 10 ∧ PyData.showable (.int z) = true := by
  refine ⟨?_, ?_⟩
  · show (Str.ofString (toString z)).length ≤ 10
    rw [PySem.ofString_length]
    exact int_text_length_le10 (k := 9) (by decide) h
  · refine decide_eq_true ?_
    by_cases e : z.natAbs = 0
    · rw [e]; decide
    · exact (Nat.log2_lt e).mpr (Nat.lt_trans h (by decide +kernel))
theorem told_ints : ∀ fs : List Int, (∀ z ∈ fs, z.natAbs < 10 ^ 9) → PyData.showableAll (fs.map PyData.int) = true ∧ PyData.depthAll (fs.map PyData.int) = 0 ∧ ((PyData.shownAll (fs.map PyData.int)).map (·.length)).sum ≤ 10 * fs.length ∧ (PyData.shownAll (fs.map PyData.int)).length = fs.length
  | [], _ => ⟨rfl, rfl, Nat.le_refl _, rfl⟩
  | z :: r, h => by
    obtain ⟨h1, h2, h3, h4⟩ := told_ints r (fun y hy => h y (List.mem_cons_of_mem _ hy))
    obtain ⟨s1, s2⟩ := shown_int (h z (List.mem_cons_self ..))
    refine ⟨?_, ?_, ?_, ?_⟩
    · show (PyData.showable (.int z) && PyData.showableAll (r.map PyData.int)) = true
      rw [s2, h1]; rfl
    · show max 0 (PyData.depthAll (r.map PyData.int)) = 0
      rw [h2]; rfl
    · show (PyData.int z).shown.length + ((PyData.shownAll (r.map PyData.int)).map (·.length)).sum ≤ 10 * (r.length + 1)
      omega
    · show (PyData.shownAll (r.map PyData.int)).length + 1 = r.length + 1
      rw [h4]
theorem told_tup {fs : List Int} (h : ∀ z ∈ fs, z.natAbs < 10 ^ 9) (hl : fs.length ≤ 1000) : PyData.showable (.tuple (fs.map PyData.int)) = true ∧ PyData.depth (.tuple (fs.map PyData.int)) ≤ 40 ∧ (PyData.shown (.tuple (fs.map PyData.int))).length ≤ sizeLine := by
  obtain ⟨h1, h2, h3, h4⟩ := told_ints fs h
  refine ⟨h1, ?_, ?_⟩
  · show PyData.depthAll (fs.map PyData.int) + 1 ≤ 40
    rw [h2]; decide
  · have := tupleText_len_le (PyData.shownAll (fs.map PyData.int))
    show (tupleText (PyData.shownAll (fs.map PyData.int))).length ≤ _
    rw [sizeLine_eq]
    omega
theorem told_dpAll {K : PySem.W.Frag} {H : Hp} : ∀ ns : List Int, DpAll K H (ns.map V.int) (ns.map PyData.int)
  | [] => .nil
  | n :: r => .cons (.int n) (told_dpAll r)
theorem strs_dpAll {K : PySem.W.Frag} {H : Hp} : ∀ ls : List (List Nat), DpAll K H (ls.map fun l => V.str (S l)) (ls.map fun l => PyData.str (S l))
  | [] => .nil
  | n :: r => .cons (.str _) (strs_dpAll r)
theorem told_three {i j : Int} {b : Bool} (h1 : i.natAbs < 10 ^ 9) (h2 : j.natAbs < 10 ^ 9) : PyData.showable (.tuple [.int i, .int j, .bool b]) = true ∧ PyData.depth (.tuple [.int i, .int j, .bool b]) ≤ 40 ∧ (PyData.shown (.tuple [.int i, .int j, .bool b])).length ≤ sizeLine := by
  obtain ⟨a1, a2⟩ := shown_int h1
  obtain ⟨b1, b2⟩ := shown_int h2
  refine ⟨?_, by show 1 ≤ 40; decide, ?_⟩
  · show (PyData.showable (.int i) && (PyData.showable (.int j) && true)) = true
    rw [a2, b2]; rfl
  · have := tupleText_len_le [(PyData.int i).shown, (PyData.int j).shown, (PyData.bool b).shown]
    have e : (PyData.bool b).shown.length ≤ 5 := by cases b <;> decide +kernel
    show (tupleText [(PyData.int i).shown, (PyData.int j).shown, (PyData.bool b).shown]).length ≤ _
    simp only [List.map_cons, List.map_nil, List.sum_cons, List.sum_nil, List.length_cons, List.length_nil] at this
    rw [sizeLine_eq]
    omega
theorem strs_all : ∀ ls : List (List Nat), (∀ l ∈ ls, ∀ x ∈ l, x < 1114112) → PyData.canLayAll0 (ls.map fun l => PyData.str (S l)) = true ∧ PyData.depthAll (ls.map fun l => PyData.str (S l)) = 0
  | [], _ => ⟨rfl, rfl⟩
  | l :: r, h => by
    obtain ⟨h1, h2⟩ := strs_all r (fun y hy => h y (List.mem_cons_of_mem _ hy))
    refine ⟨?_, ?_⟩
    · show (PyData.strOk (S l) && PyData.canLayAll0 (r.map fun l => PyData.str (S l))) = true
      rw [strOk_S (h l (List.mem_cons_self ..)), h1]; rfl
    · show max 0 (PyData.depthAll (r.map fun l => PyData.str (S l))) = 0
      rw [h2]; rfl
theorem strs_shaped {ls : List (List Nat)} (h : ∀ l ∈ ls, ∀ x ∈ l, x < 1114112) : SeqAt.shaped (.tuple (ls.map fun l => PyData.str (S l))) = true ∧ PyData.eqv (.tuple (ls.map fun l => PyData.str (S l))) (.tuple (ls.map fun l => PyData.str (S l))) = true := by
  obtain ⟨h1, h2⟩ := strs_all ls h
  refine ⟨?_, SeqAt.eqv_refl _ h1⟩
  unfold SeqAt.shaped
  rw [show PyData.canLay0 (.tuple (ls.map fun l => PyData.str (S l))) = PyData.canLayAll0 (ls.map fun l => PyData.str (S l)) from rfl, h1, show PyData.depth (.tuple (ls.map fun l => PyData.str (S l))) = PyData.depthAll (ls.map fun l => PyData.str (S l)) + 1 from rfl, h2]
  rfl
theorem pat_list : (Str.ofString "000fff37bd" : Str) = S [48, 48, 48, 102, 102, 102, 51, 55, 98, 100] := by decide +kernel
theorem pat_cells : ∀ c ∈ [48, 48, 48, 102, 102, 102, 51, 55, 98, 100], WM.IsCell c := by decide
def hexp : List Nat := [48, 49, 50, 51, 52, 53, 54, 55, 56, 57, 97, 98, 99, 100, 101, 102]
theorem hexp_cells : ∀ c ∈ hexp, WM.IsCell c := by decide
theorem rep_len (l : List Nat) (n : Nat) : (List.replicate n l).flatten.length = n * l.length := by
  induction n with
  | zero => simp
  | succ n ih => rw [List.replicate_succ, List.flatten_cons, List.length_append, ih, Nat.succ_mul, Nat.add_comm]
theorem rep_all {p : Nat → Prop} {l : List Nat} (h : ∀ c ∈ l, p c) (n : Nat) : ∀ c ∈ (List.replicate n l).flatten, p c := fun c hc => by
  obtain ⟨x, hx, hcx⟩ := List.mem_flatten.mp hc
  rw [List.eq_of_mem_replicate hx] at hcx
  exact h c hcx
theorem ints_all : ∀ ns : List Int, PyData.canLayAll0 (ns.map PyData.int) = true ∧ PyData.depthAll (ns.map PyData.int) = 0
  | [] => ⟨rfl, rfl⟩
  | n :: r => by
    obtain ⟨h1, h2⟩ := ints_all r
    exact ⟨by show (true && PyData.canLayAll0 (r.map PyData.int)) = true; rw [h1]; rfl, by show max 0 (PyData.depthAll (r.map PyData.int)) = 0; rw [h2]; rfl⟩
theorem ints_shaped (ns : List Int) : SeqAt.shaped (.list (ns.map PyData.int)) = true := by
  obtain ⟨h1, h2⟩ := ints_all ns
  unfold SeqAt.shaped
  rw [show PyData.canLay0 (.list (ns.map PyData.int)) = PyData.canLayAll0 (ns.map PyData.int) from rfl, h1, show PyData.depth (.list (ns.map PyData.int)) = PyData.depthAll (ns.map PyData.int) + 1 from rfl, h2]
  rfl
theorem ints_dpAll {K : PySem.W.Frag} {H : Hp} : ∀ ns : List Int, DpAll K H (ns.map V.int) (ns.map PyData.int)
  | [] => .nil
  | n :: r => .cons (.int n) (ints_dpAll r)
theorem nats_dp {K : PySem.W.Frag} {H : Hp} {D : Addr} {ns : List Nat} (h : H D = some (.lst (ns.map fun j => V.int (j : Nat)))) : Dp K H (.ref D) (.list ((ns.map fun j : Nat => (j : Int)).map PyData.int)) := by
  have e : (ns.map fun j => V.int (j : Nat)) = (ns.map fun j : Nat => (j : Int)).map V.int := by rw [List.map_map]; rfl
  rw [e] at h
  exact .lst (SqL.of h) (ints_dpAll _)
theorem nats_ne (ns : List Nat) : (!PyData.eqv (.list ((ns.map fun j : Nat => (j : Int)).map PyData.int)) (.list [])) = decide (ns ≠ []) := by
  cases ns with
  | nil => rfl
  | cons n r => rfl
/-- a list of numbers is held against the empty list -/
theorem ne_nil {K : PySem.W.Frag} {i : Nat} {σ : L2.St} {H : Hp} {D : Addr} {ns : List Nat} {Q : Bool → Hp → Prop} (hi : σ[i]? = some (some (.ref D))) (h : H D = some (.lst (ns.map fun j => V.int (j : Nat)))) (q : ∀ G, Same H G → Q (decide (ns ≠ [])) G) : tTest (tOp (rNeD K) (tVar i) (tLst tNil)) σ H Q := by
  refine ⟨_, hi, by show 0 ≤ sizeLine; exact Nat.zero_le _, fun p hp => ⟨_, _, nats_dp ((Same.new hp) _ _ h), .lst (SqL.of upd_same) .nil, ints_shaped _, by decide +kernel, _, rfl, ?_⟩⟩
  rw [nats_ne]
  exact q _ (Same.new hp)
theorem keepz_but {Z : Addr → Prop} {H H2 : Hp} {a : Addr} {xs : List V} (b : But a H H2) (za : Z a) (e : H a = some (.lst xs)) : KeepZ Z H H2 := fun q u hu _ h => b q u (fun z => by
  rw [z] at hu h
  rw [e] at hu
  rcases h with h | ⟨h, _⟩
  · exact h za
  · exact h _ (Option.some.inj hu).symm) hu
theorem Own.but {K : PySem.W.Frag} {Z : Addr → Prop} {H H2 : Hp} {o a : Addr} {c : CS} {n m : Nat} (h : Own K Z H o c n) (b : But a H H2) (za : Z a) (p : PotAt H a m) : Own K Z H2 o c n := by
  obtain ⟨_, _, _, _, _, _, _, _, _, e⟩ := p
  exact h.keep (keepz_but b za e)
theorem fall_list : (Str.ofString "0123456789abcde" : Str) = S [48, 49, 50, 51, 52, 53, 54, 55, 56, 57, 97, 98, 99, 100, 101] := by decide +kernel -- ten_list
theorem fall_cells : ∀ c ∈ [48, 49, 50, 51, 52, 53, 54, 55, 56, 57, 97, 98, 99, 100, 101], WM.IsCell c := by decide
theorem Own.mono {K : PySem.W.Frag} {Z : Addr → Prop} {H : Hp} {o : Addr} {c : CS} {m n : Nat} (h : Own K Z H o c m) (l : m ≤ n) : Own K Z H o c n := by
  obtain ⟨A, ws, h1, h2, h3, h4⟩ := h.ex
  exact ⟨A, ws, h1, h2, Nat.le_trans h3 l, h4⟩
/-- all but the chip's own and the tables stays -/
def ButCN (a : Addr) (L : Lay) (H H' : Hp) : Prop := ∀ b o, b ≠ a → b ≠ L.pc → b ≠ L.ps → b ≠ L.pw → b ≠ L.pb → (∀ ps, o ≠ .tbl ps) → H b = some o → H' b = some o
theorem ButCN.ofE {a : Addr} {L : Lay} {H H' : Hp} (x : ExtN H H') : ButCN a L H H' := fun b o _ _ _ _ _ t e => x b o e t
theorem ButCN.of {a : Addr} {L : Lay} {H H' : Hp} (x : ButC a L H H') : ButCN a L H H' := fun b o n1 n2 n3 n4 n5 _ e => x b o n1 n2 n3 n4 n5 e
theorem ButCN.ofS {a : Addr} {L : Lay} {H H' : Hp} (x : Same H H') : ButCN a L H H' := fun b o _ _ _ _ _ _ e => x b o e
theorem ButCN.trans {a : Addr} {L : Lay} {H H1 H2 : Hp} (x : ButCN a L H H1) (y : ButCN a L H1 H2) : ButCN a L H H2 := fun b o n1 n2 n3 n4 n5 t e => y b o n1 n2 n3 n4 n5 t (x b o n1 n2 n3 n4 n5 t e)
/-- what a deed told or raised: caught u, told v -/
def CauT (K : PySem.W.Frag) (H : Hp) (d : Dd) (due : V) (u v : V) : Prop :=
  (due = .str (Str.ofString "cut") ∧ ∃ b p1, u = .ref b ∧ v = .non ∧ H b = some (ExA (.ref (He.ga K "Cut")) (some p1) b) ∧ H p1 = some (.xd (fldV .non))) ∨
  (due = .str (Str.ofString "fade") ∧ ∃ (n j g : Nat) (b p1 q : Addr), d = .fade n j g ∧ u = .ref b ∧ v = .non ∧ H b = some (ExA (.ref (He.ga K "BadFade")) (some p1) b) ∧ H p1 = some (.xd (fldV (.ref q))) ∧ H q = some (.tup [.int (j : Int), .str (S [g])])) ∨
  (u = .non ∧ v = due ∧ (due = .non ∨ ∃ b, due = .bl b))
theorem tabs_keep {H H1 : Hp} {T : List (Addr × Str)} (t : Tabs T H) (x : ∀ b o, (∀ C dx fs, o ≠ .ins C dx fs) → (∀ xs, o ≠ .lst xs) → H b = some o → H1 b = some o) : Tabs T H1 := fun q hq => by
  obtain ⟨ps, h1, h2, h3⟩ := t q hq
  refine ⟨ps, x _ _ (by intro _ _ _ z; cases z) (by intro _ z; cases z) h1, h2, fun pos cv hc => ?_⟩
  obtain ⟨c, e1, e2⟩ := h3 pos cv hc
  exact ⟨c, e1, x _ _ (by intro _ _ _ z; cases z) (by intro _ z; cases z) e2⟩
theorem ButC.keep {a : Addr} {L : Lay} {c : CS} {H H1 : Hp} (hc : ChipAt K H a L c) (x : ButC a L H H1) : ∀ b o, (∀ C dx fs, o ≠ .ins C dx fs) → (∀ xs, o ≠ .lst xs) → H b = some o → H1 b = some o := fun b o z1 z2 e =>
  x b o (fun q => by rw [q, hc.obj] at e; exact z1 _ _ _ (Option.some.inj e).symm) (fun q => by rw [q, hc.cells] at e; exact z2 _ (Option.some.inj e).symm) (fun q => by rw [q, hc.stands] at e; exact z2 _ (Option.some.inj e).symm) (fun q => by rw [q, hc.wear] at e; exact z2 _ (Option.some.inj e).symm) (fun q => by rw [q, hc.bad] at e; exact z2 _ (Option.some.inj e).symm) e
theorem ChipAt.extN {H H' : Hp} {a : Addr} {L : Lay} {c : CS} (h : ChipAt K H a L c) (s : ExtN H H') : ChipAt K H' a L c :=
  ⟨s _ _ h.obj (by intro _ z; cases z), s _ _ h.cells (by intro _ z; cases z), s _ _ h.stands (by intro _ z; cases z), s _ _ h.wear (by intro _ z; cases z), s _ _ h.bad (by intro _ z; cases z), h.fd.ext (fun b _ e => s b _ e (by intro _ z; cases z)) (fun b _ e => s b _ e (by intro _ z; cases z)), h.cs, h.cw, h.cb, h.sw, h.sb, h.wb, h.tx.keep fun _ e => s _ _ e (by intro _ z; cases z)⟩
theorem told_sign {g : Nat} (h : WM.IsCell g) : PyData.showable (.str (S [g])) = true ∧ (PyData.shown (.str (S [g]))).length ≤ 3 := by
  rcases cell_cases h with h | h | h | h | h | h | h | h | h | h | h | h | h | h | h | h <;> subst h <;> exact ⟨by decide +kernel, by decide +kernel⟩
theorem told_two {j g : Nat} (hj : j < 256) (hg : WM.IsCell g) : PyData.showable (.tuple [.int (j : Int), .str (S [g])]) = true ∧ PyData.depth (.tuple [.int (j : Int), .str (S [g])]) ≤ 40 ∧ (PyData.shown (.tuple [.int (j : Int), .str (S [g])])).length ≤ sizeLine := by
  obtain ⟨a1, a2⟩ := shown_int (z := (j : Int)) (by omega)
  obtain ⟨b1, b2⟩ := told_sign hg
  refine ⟨?_, by show 1 ≤ 40; decide, ?_⟩
  · show (PyData.showable (.int (j : Int)) && (PyData.showable (.str (S [g])) && true)) = true
    rw [a2, b1]; rfl
  · have := tupleText_len_le [(PyData.int (j : Int)).shown, (PyData.str (S [g])).shown]
    show (tupleText [(PyData.int (j : Int)).shown, (PyData.str (S [g])).shown]).length ≤ _
    simp only [List.map_cons, List.map_nil, List.sum_cons, List.sum_nil, List.length_cons, List.length_nil] at this
    rw [sizeLine_eq]
    omega
/-- what was bad then stays as it was -/
def Still (c c2 : CS) : Prop := ∀ b, b < c.bl → c.bad.getD b false = true → c2.wear.getD b 0 = c.wear.getD b 0 ∧ ∀ k, b * c.pg ≤ k → k < b * c.pg + c.pg → c2.cells.getD k [] = c.cells.getD k []
theorem Still.of {c c2 : CS} (h1 : c2.wear = c.wear) (h2 : c2.cells = c.cells) : Still c c2 := fun b _ _ => ⟨by rw [h1], fun k _ _ => by rw [h2]⟩
theorem told_nums (c : CS) (b : Nat) (w : Str) : (deedTold c b w).1.done = c.done ∧ (deedTold c b w).1.cuts ≤ c.cuts + 1 := by
  unfold deedTold
  split
  · exact ⟨rfl, Nat.le_refl _⟩
  · split
    · exact ⟨rfl, Nat.le_succ _⟩
    · exact ⟨rfl, Nat.le_succ _⟩
theorem written_nums (c : CS) (n : Nat) (l : List Nat) : (written c n l).1.wear = c.wear ∧ (written c n l).1.fa = c.fa ∧ (written c n l).1.done = c.done + 1 ∧ (written c n l).1.cuts ≤ c.cuts + 1 := by
  unfold written
  dsimp only
  split
  · exact ⟨(told_more _ _ _).1, (told_more _ _ _).2, (told_nums _ _ _).1, (told_nums _ _ _).2⟩
  · exact ⟨(told_more _ _ _).1, (told_more _ _ _).2, (told_nums _ _ _).1, (told_nums _ _ _).2⟩
theorem erased_nums (c : CS) (n : Nat) : (erased c n).1.fa = c.fa ∧ (erased c n).1.done = c.done + 1 ∧ (erased c n).1.cuts ≤ c.cuts + 1 ∧ ((c.bad.getD n false = true ∧ (erased c n).1.wear = c.wear ∧ (erased c n).1.cells = c.cells) ∨ (c.bad.getD n false = false ∧ (erased c n).1.wear = c.wear.set n (c.wear.getD n 0 + 1) ∧ (n * c.pg + c.pg ≤ c.cells.length → ∀ k, k < c.cells.length → ¬ (n * c.pg ≤ k ∧ k < n * c.pg + c.pg) → (erased c n).1.cells.getD k [] = c.cells.getD k []))) := by
  unfold erased
  dsimp only
  by_cases e : c.bad.getD n false = true
  · rw [if_pos e]
    exact ⟨(told_more _ _ _).2, (told_nums _ _ _).1, (told_nums _ _ _).2, .inl ⟨e, (told_more _ _ _).1, (told_same _ _ _).1⟩⟩
  · rw [if_neg e]
    obtain ⟨w1, w2, w3, w4, w5, w6, w7, w8⟩ := wiped_rest { c with done := c.done + 1, wear := c.wear.set n (c.wear.getD n 0 + 1) } n (deed c).1 (deed c).2 c.pg
    refine ⟨(told_more _ _ _).2.trans w3, (told_nums _ _ _).1.trans w6, Nat.le_trans (told_nums _ _ _).2 (Nat.le_of_eq (congrArg (· + 1) w7)), .inr ⟨by rw [Bool.not_eq_true] at e; exact e, (told_more _ _ _).1.trans w4, fun hl k hk hn => ?_⟩⟩
    rw [(told_same _ _ _).1, (wiped_cells (c := { c with done := c.done + 1, wear := c.wear.set n (c.wear.getD n 0 + 1) }) (n := n) (w := (deed c).1) (p := (deed c).2) c.pg hl).2 k hk, if_neg hn]
theorem behind_wf {c : CS} {d : Dd} (wf : Wf c) (hd : DdOk c d) : Wf (behindC c d).1 ∧ (behindC c d).1.bl = c.bl ∧ (behindC c d).1.pg = c.pg ∧ (behindC c d).1.fa = c.fa ∧ (behindC c d).1.done ≤ c.done + 1 ∧ (behindC c d).1.cuts ≤ c.cuts + 1 ∧ ((behindC c d).1.wear = c.wear ∨ ∃ n, (behindC c d).1.wear = c.wear.set n (c.wear.getD n 0 + 1)) := by
  cases d with
  | again => exact ⟨wf.on true, rfl, rfl, rfl, Nat.le_succ _, Nat.le_succ _, .inl rfl⟩
  | write n l =>
    unfold behindC
    dsimp only
    split
    · obtain ⟨h1, h2, h3, _⟩ := written_is (n := n) wf hd.2
      obtain ⟨n1, n2, n3, n4⟩ := written_nums c n l
      exact ⟨h1, h2, h3, n2, Nat.le_of_eq n3, n4, .inl n1⟩
    · exact ⟨wf, rfl, rfl, rfl, Nat.le_succ _, Nat.le_succ _, .inl rfl⟩
  | erase n =>
    unfold behindC
    dsimp only
    split
    · obtain ⟨h1, h2, h3, _⟩ := erased_is (n := n) wf hd
      obtain ⟨n2, n3, n4, n1⟩ := erased_nums c n
      refine ⟨h1, h2, h3, n2, Nat.le_of_eq n3, n4, ?_⟩
      rcases n1 with ⟨_, h, _⟩ | ⟨_, h, _⟩
      · exact .inl h
      · exact .inr ⟨n, h⟩
    · exact ⟨wf, rfl, rfl, rfl, Nat.le_succ _, Nat.le_succ _, .inl rfl⟩
  | fade n j g =>
    unfold behindC
    dsimp only
    split
    · refine ⟨⟨wf.b4, wf.b64, wf.p4, wf.p16, (List.length_set ..).trans wf.lc, (List.length_set ..).trans wf.ls, wf.lw, wf.lb, fun l hl => ?_, wf.fa⟩, rfl, rfl, rfl, Nat.le_succ _, Nat.le_succ _, .inl rfl⟩
      rcases List.mem_or_eq_of_mem_set hl with q | q
      · exact wf.page l q
      · have hc : c.cells.getD n [] ∈ c.cells := by
          rw [List.getD_eq_getElem?_getD, List.getElem?_eq_getElem hd.1]
          exact List.getElem_mem _
        obtain ⟨p1, p2⟩ := wf.page _ hc
        rw [q]
        have hj := hd.2.1
        refine ⟨by rw [List.length_append, List.length_append, List.length_take, List.length_drop, p1, List.length_singleton]; omega, fun x hx => ?_⟩
        rcases List.mem_append.mp hx with hx | hx
        · rcases List.mem_append.mp hx with hx | hx
          · exact p2 x (List.mem_of_mem_take hx)
          · rw [List.mem_singleton.mp hx]; exact hd.2.2
        · exact p2 x (List.mem_of_mem_drop hx)
    · exact ⟨wf, rfl, rfl, rfl, Nat.le_succ _, Nat.le_succ _, .inl rfl⟩
theorem behind_still {c : CS} {d : Dd} (wf : Wf c) (hd : DdOk c d) (nf : ∀ n j g, d ≠ .fade n j g) : Still c (behindC c d).1 := by
  cases d with
  | again => exact .of rfl rfl
  | fade n j g => exact absurd rfl (nf n j g)
  | write n l =>
    unfold behindC
    dsimp only
    split
    · obtain ⟨h1, h2, h3, _, k1, k2⟩ := written_is (n := n) wf hd.2
      have n1 := (written_nums c n l).1
      intro b hb e
      refine ⟨by rw [n1], fun k k3 k4 => ?_⟩
      by_cases z : c.bad.getD (n / c.pg) false = true
      · rw [k1 z]
      · rw [Bool.not_eq_true] at z
        obtain ⟨y, e1, _⟩ := k2 z
        rw [e1, getD_setN, if_neg]
        rintro ⟨rfl, _⟩
        have p4 := wf.p4
        have : n / c.pg = b := by
          refine Nat.div_eq_of_lt_le k3 ?_
          rw [Nat.succ_mul]; exact k4
        rw [this, e] at z
        cases z
    · exact .of rfl rfl
  | erase n =>
    unfold behindC
    dsimp only
    split
    · obtain ⟨n2, n3, n4, n1⟩ := erased_nums c n
      intro b hb e
      rcases n1 with ⟨_, h, h2⟩ | ⟨z, h, h2⟩
      · exact ⟨by rw [h], fun k _ _ => by rw [h2]⟩
      · have nb : n ≠ b := fun q => by rw [q, e] at z; cases z
        have l1 : (n + 1) * c.pg ≤ c.bl * c.pg := Nat.mul_le_mul_right _ (show n + 1 ≤ c.bl from hd)
        have l2 : (b + 1) * c.pg ≤ c.bl * c.pg := Nat.mul_le_mul_right _ hb
        rw [Nat.succ_mul] at l1 l2
        refine ⟨by rw [h, getD_setN, if_neg (fun q => nb q.1)], fun k k3 k4 => h2 (by rw [wf.lc]; exact l1) k (by rw [wf.lc]; omega) ?_⟩
        rintro ⟨q1, q2⟩
        have p4 := wf.p4
        have a1 : k / c.pg = n := Nat.div_eq_of_lt_le q1 (by rw [Nat.succ_mul]; exact q2)
        have a2 : k / c.pg = b := Nat.div_eq_of_lt_le k3 (by rw [Nat.succ_mul]; exact k4)
        exact nb (a1.symm.trans a2)
    · exact .of rfl rfl
theorem strsL_shaped {ls : List (List Nat)} (h : ∀ l ∈ ls, ∀ x ∈ l, x < 1114112) : SeqAt.shaped (.list (ls.map fun l => PyData.str (S l))) = true ∧ PyData.eqv (.list (ls.map fun l => PyData.str (S l))) (.list (ls.map fun l => PyData.str (S l))) = true := by
  obtain ⟨h1, h2⟩ := strs_all ls h
  refine ⟨?_, SeqAt.eqv_refl _ h1⟩
  unfold SeqAt.shaped
  rw [show PyData.canLay0 (.list (ls.map fun l => PyData.str (S l))) = PyData.canLayAll0 (ls.map fun l => PyData.str (S l)) from rfl, h1, show PyData.depth (.list (ls.map fun l => PyData.str (S l))) = PyData.depthAll (ls.map fun l => PyData.str (S l)) + 1 from rfl, h2]
  rfl
theorem cutV_map {xs : List (List Nat)} {i j : Nat} (hi : i ≤ j) (hj : j ≤ xs.length) : cutV (xs.map fun l => V.str (S l)) (some (i : Int)) (some (j : Int)) = (((xs.drop i).take (j - i)).map fun l => V.str (S l)) := by
  unfold cutV
  rw [HT.sIx_nat, HT.sIx_nat, List.length_map, Nat.min_eq_left hj, Nat.min_eq_left (by omega), ← List.map_drop, ← List.map_take]
theorem Still.cut {c c2 : CS} {b : Nat} (wf : Wf c) (wf2 : Wf c2) (e1 : c.bl = 5) (e2 : c.pg = 4) (e3 : c2.bl = 5) (e4 : c2.pg = 4) (hb : b < c.bl) (sc : ∀ k, b * c.pg ≤ k → k < b * c.pg + c.pg → c2.cells.getD k [] = c.cells.getD k []) : (c2.cells.drop (4 * b)).take 4 = (c.cells.drop (4 * b)).take 4 := by
  have l1 : c.cells.length = 20 := by rw [wf.lc, e1, e2]
  have l2 : c2.cells.length = 20 := by rw [wf2.lc, e3, e4]
  refine List.ext_getElem (by rw [List.length_take, List.length_take, List.length_drop, List.length_drop, l1, l2]) fun i h1 h2 => ?_
  rw [List.length_take, List.length_drop, l2] at h1
  rw [List.getElem_take, List.getElem_take, List.getElem_drop, List.getElem_drop]
  have q := sc (4 * b + i) (by rw [e2]; omega) (by rw [e2]; omega)
  rw [List.getD_eq_getElem?_getD, List.getD_eq_getElem?_getD, List.getElem?_eq_getElem (by omega), List.getElem?_eq_getElem (by omega)] at q
  exact q
/-- what is worn and counted so far -/
structure NumB (c : CS) (n : Nat) : Prop where
  wear : ∀ z ∈ c.wear, 0 ≤ z ∧ z ≤ (n : Int)
  done : c.done ≤ n
  cuts : c.cuts ≤ n
theorem NumB.step {c : CS} {d : Dd} {n : Nat} (h : NumB c n) (wf : Wf c) (hd : DdOk c d) : NumB (behindC c d).1 (n + 1) := by
  obtain ⟨_, _, _, _, h1, h2, h3⟩ := behind_wf wf hd
  have hw := h.wear
  have hx := h.done
  have hy := h.cuts
  refine ⟨fun z hz => ?_, by omega, by omega⟩
  rcases h3 with e | ⟨k, e⟩
  · rw [e] at hz
    have := hw z hz
    omega
  · rw [e] at hz
    rcases List.mem_or_eq_of_mem_set hz with q | q
    · have := hw z q
      omega
    · by_cases hk : k < c.wear.length
      · have := hw (c.wear.getD k 0) (by rw [List.getD_eq_getElem?_getD, List.getElem?_eq_getElem hk]; exact List.getElem_mem _)
        omega
      · have : c.wear.getD k 0 = 0 := by rw [List.getD_eq_getElem?_getD, List.getElem?_eq_none (by omega)]; rfl
        omega
theorem NumB.fresh (bl pg n : Nat) (fa : List (Nat × Str × List Nat)) : NumB (fresh bl pg fa) n :=
  ⟨fun z hz => by have := List.eq_of_mem_replicate hz; omega, Nat.zero_le _, Nat.zero_le _⟩
/-- the pot, the chip and its lists -/
def ZofC (a x : Addr) (L : Lay) (b : Addr) : Prop := b = a ∨ b = x ∨ b = L.pc ∨ b = L.ps ∨ b = L.pw ∨ b = L.pb
theorem keepz_chip {K : PySem.W.Frag} {H H2 : Hp} {a x : Addr} {L : Lay} {c : CS} (B : ButCN x L H H2) (hc : ChipAt K H x L c) : KeepZ (ZofC a x L) H H2 := fun b u hu nt h => by
  have go : ∀ (p : Addr) (o : HO), H p = some o → ((∃ xs, o = .lst xs) ∨ ∃ C dx fs, o = .ins C dx fs) → ZofC a x L p → b ≠ p := fun p o e q z y => by
    rw [y] at hu h
    rw [e] at hu
    have eo := (Option.some.inj hu).symm
    rcases h with h | ⟨h1, h2⟩
    · exact h z
    · rcases q with ⟨xs, q⟩ | ⟨C, dx, fs, q⟩
      · exact h1 xs (eo.trans q)
      · exact h2 C dx fs (eo.trans q)
  exact B b u (go _ _ hc.obj (.inr ⟨_, _, _, rfl⟩) (.inr (.inl rfl))) (go _ _ hc.cells (.inl ⟨_, rfl⟩) (.inr (.inr (.inl rfl)))) (go _ _ hc.stands (.inl ⟨_, rfl⟩) (.inr (.inr (.inr (.inl rfl))))) (go _ _ hc.wear (.inl ⟨_, rfl⟩) (.inr (.inr (.inr (.inr (.inl rfl)))))) (go _ _ hc.bad (.inl ⟨_, rfl⟩) (.inr (.inr (.inr (.inr (.inr rfl)))))) nt hu
theorem has_some {K : PySem.W.Frag} {H : Hp} {a b : Addr} {L : Lay} {c : CS} (h : ChipAt K H a L c) (hb : L.has a b) : H b ≠ none := by
  obtain ⟨xs, e, _⟩ := h.tx.tx
  rcases hb with q | q | q | q | q | q <;> subst q
  · rw [h.obj]; exact fun z => nomatch z
  · rw [h.cells]; exact fun z => nomatch z
  · rw [h.stands]; exact fun z => nomatch z
  · rw [h.wear]; exact fun z => nomatch z
  · rw [h.bad]; exact fun z => nomatch z
  · rw [e]; exact fun z => nomatch z
theorem zof_some {K : PySem.W.Frag} {H : Hp} {a x : Addr} {L : Lay} {c : CS} (ha : H a ≠ none) (hc : ChipAt K H x L c) (z : Addr) (hz : ZofC a x L z) : H z ≠ none := by
  rcases hz with rfl | q | q | q | q | q
  · exact ha
  · exact has_some hc (.inl q)
  · exact has_some hc (.inr (.inl q))
  · exact has_some hc (.inr (.inr (.inl q)))
  · exact has_some hc (.inr (.inr (.inr (.inl q))))
  · exact has_some hc (.inr (.inr (.inr (.inr (.inl q)))))
theorem ButCN.out {a b : Addr} {L : Lay} {H H1 : Hp} {o : HO} (x : ButCN a L H H1) (n : ¬ L.has a b) (nt : ∀ ps, o ≠ .tbl ps) (e : H b = some o) : H1 b = some o :=
  x b o (fun q => n (.inl q)) (fun q => n (.inr (.inl q))) (fun q => n (.inr (.inr (.inl q)))) (fun q => n (.inr (.inr (.inr (.inl q))))) (fun q => n (.inr (.inr (.inr (.inr (.inl q)))))) nt e
theorem wf_fresh {bl pg : Nat} {fa : List (Nat × Str × List Nat)} (h1 : 4 ≤ bl) (h2 : bl ≤ 64) (h3 : 4 ≤ pg) (h4 : pg ≤ 16) (hf : FaOk fa) : Wf (fresh bl pg fa) := by
  refine ⟨h1, h2, h3, h4, List.length_replicate, List.length_replicate, List.length_replicate, List.length_replicate, fun l hl => ?_, fun n w p e => ?_⟩
  · rw [List.eq_of_mem_replicate hl]
    exact ⟨List.length_replicate, fun c hc => by rw [List.eq_of_mem_replicate hc]; unfold WM.IsCell; omega⟩
  · have q : ∀ (fs : List (Nat × Str × List Nat)), fs.lookup n = some (w, p) → ∃ f ∈ fs, f.2 = (w, p) := by
      intro fs
      induction fs with
      | nil => intro z; cases z
      | cons f fs ih =>
        intro z
        obtain ⟨f1, f2⟩ := f
        rw [List.lookup_cons] at z
        split at z
        · exact ⟨_, List.mem_cons_self, Option.some.inj z⟩
        · obtain ⟨g, hg, e⟩ := ih z
          exact ⟨g, List.mem_cons_of_mem _ hg, e⟩
    obtain ⟨f, m, e2⟩ := q fa e
    have o := hf.ok f m
    rw [e2] at o
    exact o
/-- a lap of the law: what is known ahead of it -/
structure Lap2 (K : PySem.W.Frag) (H0 H1 : Hp) (a x : Addr) (L : Lay) (o : Addr) (c : CS) (m n : Nat) : Prop where
  bn : ButN a H0 H1
  tb : Tabs (tabsC K) H1
  pot : PotAt H1 a m
  chip : ChipAt K H1 x L c
  wf : Wf c
  own : Own K (ZofC a x L) H1 o c n
  nb : NumB c n
  fo : FaOk c.fa
  na : ¬ L.has x a
  h0 : ∀ b, L.has x b → H0 b = none
section
variable {K : PySem.W.Frag} {H0 H1 H2 : Hp} {a x o : Addr} {L : Lay} {c : CS} {m n : Nat}
theorem Lap2.same (I : Lap2 K H0 H1 a x L o c m n) (s : Same H1 H2) : Lap2 K H0 H2 a x L o c m n :=
  { I with bn := I.bn.trans (.ofS s), tb := I.tb.ext s, pot := I.pot.same s, chip := I.chip.same s, own := I.own.same s }
theorem Lap2.but {m' : Nat} (I : Lap2 K H0 H1 a x L o c m n) (s : But a H1 H2) (p : PotAt H2 a m') : Lap2 K H0 H2 a x L o c m' n := by
  have own := I.own.but s (.inl rfl) I.pot
  obtain ⟨_, _, _, _, _, _, _, _, _, e⟩ := I.pot
  exact { I with bn := I.bn.trans (.of s), tb := tabs_but I.tb e s, pot := p, chip := I.chip.but e I.na s, own := own }
theorem Lap2.dec {m' : Nat} (I : Lap2 K H0 H1 a x L o c m n) (h : m' ≤ m) : Lap2 K H0 H1 a x L o c m' n := { I with pot := I.pot.mono h }
/-- the chip did a deed, and the law's own is another one -/
theorem Lap2.deed {o2 : Addr} {d : Dd} (I : Lap2 K H0 H1 a x L o c m n) (hd : DdOk c d) (own : Own K (ZofC a x L) H1 o2 (behindC c d).1 (n + 1)) (s : ButCN x L H1 H2) (t : Tabs (tabsC K) H2) (hc : ChipAt K H2 x L (behindC c d).1) : Lap2 K H0 H2 a x L o2 (behindC c d).1 m (n + 1) := by
  obtain ⟨w1, w2, w3, w4, _⟩ := behind_wf I.wf hd
  obtain ⟨o1, t1, u, h1, h2, h3, h4, h5, h6, e⟩ := I.pot
  have bn : ButN a H0 H2 := fun b o nb nt e => by
    refine s.out (fun q => ?_) nt (I.bn b o nb nt e)
    rw [I.h0 b q] at e
    cases e
  exact ⟨bn, t, ⟨o1, t1, u, h1, h2, h3, h4, h5, h6, s.out I.na (by intro _ z; cases z) e⟩, hc, w1, own.keep (keepz_chip s I.chip), I.nb.step I.wf hd, by rw [w4]; exact I.fo, I.na, I.h0⟩
end
theorem tup_out {K : PySem.W.Frag} {H H2 : Hp} {x t : Addr} {L : Lay} {c : CS} {xs : List V} (hc : ChipAt K H x L c) (B : ButCN x L H H2) (h : H t = some (.tup xs)) : H2 t = some (.tup xs) :=
  B _ _ (fun z => by rw [z, hc.obj] at h; cases h) (fun z => by rw [z, hc.cells] at h; cases h) (fun z => by rw [z, hc.stands] at h; cases h) (fun z => by rw [z, hc.wear] at h; cases h) (fun z => by rw [z, hc.bad] at h; cases h) (by intro _ z; cases z) h
/-- all but the pot, the chip's own and the tables stays -/
def LedN (a x : Addr) (L : Lay) (H H' : Hp) : Prop := ∀ b o, b ≠ a → b ≠ x → b ≠ L.pc → b ≠ L.ps → b ≠ L.pw → b ≠ L.pb → (∀ ps, o ≠ .tbl ps) → H b = some o → H' b = some o
theorem LedN.refl {a x : Addr} {L : Lay} {H : Hp} : LedN a x L H H := fun _ _ _ _ _ _ _ _ _ e => e
theorem LedN.ofS {a x : Addr} {L : Lay} {H H' : Hp} (s : Same H H') : LedN a x L H H' := fun b o _ _ _ _ _ _ _ e => s b o e
theorem LedN.ofB {a x : Addr} {L : Lay} {H H' : Hp} (s : But a H H') : LedN a x L H H' := fun b o n _ _ _ _ _ _ e => s b o n e
theorem LedN.ofC {a x : Addr} {L : Lay} {H H' : Hp} (s : ButCN x L H H') : LedN a x L H H' := fun b o _ n1 n2 n3 n4 n5 t e => s b o n1 n2 n3 n4 n5 t e
theorem LedN.trans {a x : Addr} {L : Lay} {H H1 H2 : Hp} (s : LedN a x L H H1) (t : LedN a x L H1 H2) : LedN a x L H H2 := fun b o n0 n1 n2 n3 n4 n5 nt e => t b o n0 n1 n2 n3 n4 n5 nt (s b o n0 n1 n2 n3 n4 n5 nt e)
def ZOk (Z : Addr → Prop) (H : Hp) : Prop := ∀ z, Z z → ∃ u, H z = some u ∧ ∀ ps, u ≠ .tbl ps
theorem ZOk.ne {Z : Addr → Prop} {H : Hp} (h : ZOk Z H) : ∀ z, Z z → H z ≠ none := fun z hz q => by
  obtain ⟨u, e, _⟩ := h z hz
  rw [e] at q; cases q
theorem ZOk.same {Z : Addr → Prop} {H H2 : Hp} (h : ZOk Z H) (s : Same H H2) : ZOk Z H2 := fun z hz => by
  obtain ⟨u, e, nt⟩ := h z hz
  exact ⟨u, s _ _ e, nt⟩
theorem has_obj {K : PySem.W.Frag} {H : Hp} {a b : Addr} {L : Lay} {c : CS} (h : ChipAt K H a L c) (hb : L.has a b) : ∃ u, H b = some u ∧ (∀ ps, u ≠ .tbl ps) ∧ ((∃ xs, u = .lst xs) ∨ ∃ C dx fs, u = .ins C dx fs) := by
  obtain ⟨xs, e, _⟩ := h.tx.tx
  rcases hb with q | q | q | q | q | q <;> subst q
  · exact ⟨_, h.obj, (by intro _ z; cases z), .inr ⟨_, _, _, rfl⟩⟩
  · exact ⟨_, h.cells, (by intro _ z; cases z), .inl ⟨_, rfl⟩⟩
  · exact ⟨_, h.stands, (by intro _ z; cases z), .inl ⟨_, rfl⟩⟩
  · exact ⟨_, h.wear, (by intro _ z; cases z), .inl ⟨_, rfl⟩⟩
  · exact ⟨_, h.bad, (by intro _ z; cases z), .inl ⟨_, rfl⟩⟩
  · exact ⟨_, e, (by intro _ z; cases z), .inl ⟨_, rfl⟩⟩
theorem pot_obj {H : Hp} {a : Addr} {m : Nat} (h : PotAt H a m) : ∃ xs, H a = some (.lst xs) := by
  obtain ⟨_, _, _, _, _, _, _, _, _, e⟩ := h
  exact ⟨_, e⟩
theorem ZOk.led {K : PySem.W.Frag} {Z : Addr → Prop} {H H2 : Hp} {a x : Addr} {L : Lay} {c : CS} {m : Nat} (h : ZOk Z H) (s : LedN a x L H H2) (p : PotAt H2 a m) (hc : ChipAt K H2 x L c) : ZOk Z H2 := fun z hz => by
  obtain ⟨u, e, nt⟩ := h z hz
  by_cases q : z = a
  · obtain ⟨xs, e2⟩ := pot_obj p
    rw [q]
    exact ⟨_, e2, (by intro _ z; cases z)⟩
  · by_cases q2 : L.has x z
    · obtain ⟨v, e2, nt2, _⟩ := has_obj hc q2
      exact ⟨v, e2, nt2⟩
    · exact ⟨u, s z u q (fun y => q2 (.inl y)) (fun y => q2 (.inr (.inl y))) (fun y => q2 (.inr (.inr (.inl y)))) (fun y => q2 (.inr (.inr (.inr (.inl y))))) (fun y => q2 (.inr (.inr (.inr (.inr (.inl y)))))) nt e, nt⟩
theorem KeepZ.wider {Z Z2 : Addr → Prop} {H H2 : Hp} (k : KeepZ Z H H2) (h : ∀ z, Z z → Z2 z) : KeepZ Z2 H H2 := fun b u hu nt q => k b u hu nt (q.imp (fun n z => n (h b z)) id)
structure LedI (K : PySem.W.Frag) (Z : Addr → Prop) (H0 H1 : Hp) (a x : Addr) (L : Lay) (o : Addr) (c : CS) (m n : Nat) : Prop where
  ld : LedN a x L H0 H1
  tb : Tabs (tabsC K) H1
  pot : PotAt H1 a m
  chip : ChipAt K H1 x L c
  wf : Wf c
  own : Own K Z H1 o c n
  nb : NumB c n
  fo : FaOk c.fa
  zo : ZOk Z H1
  na : ¬ L.has x a
  hzz : ∀ z, ZofC a x L z → Z z
section
variable {K : PySem.W.Frag} {Z : Addr → Prop} {H0 H1 H2 : Hp} {a x o : Addr} {L : Lay} {c : CS} {m n : Nat}
theorem LedI.same (I : LedI K Z H0 H1 a x L o c m n) (s : Same H1 H2) : LedI K Z H0 H2 a x L o c m n :=
  { I with ld := I.ld.trans (.ofS s), tb := I.tb.ext s, pot := I.pot.same s, chip := I.chip.same s, own := I.own.same s, zo := I.zo.same s }
theorem LedI.but {m' : Nat} (I : LedI K Z H0 H1 a x L o c m n) (s : But a H1 H2) (p : PotAt H2 a m') : LedI K Z H0 H2 a x L o c m' n := by
  have own := I.own.but s (I.hzz _ (.inl rfl)) I.pot
  obtain ⟨_, e⟩ := pot_obj I.pot
  have hc := I.chip.but e I.na s
  exact { I with ld := I.ld.trans (.ofB s), tb := tabs_but I.tb e s, pot := p, chip := hc, own := own, zo := I.zo.led (.ofB s) p hc }
theorem LedI.dec {m' : Nat} (I : LedI K Z H0 H1 a x L o c m n) (h : m' ≤ m) : LedI K Z H0 H1 a x L o c m' n := { I with pot := I.pot.mono h }
theorem LedI.deed {o2 : Addr} {d : Dd} (I : LedI K Z H0 H1 a x L o c m n) (hd : DdOk c d) (own : Own K Z H1 o2 (behindC c d).1 (n + 1)) (s : ButCN x L H1 H2) (t : Tabs (tabsC K) H2) (hc : ChipAt K H2 x L (behindC c d).1) : LedI K Z H0 H2 a x L o2 (behindC c d).1 m (n + 1) := by
  obtain ⟨w1, w2, w3, w4, _⟩ := behind_wf I.wf hd
  obtain ⟨o1, t1, u, h1, h2, h3, h4, h5, h6, e⟩ := I.pot
  have pt : PotAt H2 a m := ⟨o1, t1, u, h1, h2, h3, h4, h5, h6, s.out I.na (by intro _ z; cases z) e⟩
  exact ⟨I.ld.trans (.ofC s), t, pt, hc, w1, own.keep ((keepz_chip s I.chip).wider I.hzz), I.nb.step I.wf hd, by rw [w4]; exact I.fo, I.zo.led (.ofC s) pt hc, I.na, I.hzz⟩
end
section
variable {K : PySem.W.Frag} {Z Z2 : Addr → Prop} {H0 H1 H2 : Hp} {a x o : Addr} {L : Lay} {c : CS} {m n : Nat}
/-- the chip changed nothing that is told -/
theorem LedI.held (I : LedI K Z H0 H1 a x L o c m n) (s : ButCN x L H1 H2) (t : Tabs (tabsC K) H2) (hc : ChipAt K H2 x L c) : LedI K Z H0 H2 a x L o c m n := by
  obtain ⟨o1, t1, u, h1, h2, h3, h4, h5, h6, e⟩ := I.pot
  have pt : PotAt H2 a m := ⟨o1, t1, u, h1, h2, h3, h4, h5, h6, s.out I.na (by intro _ z; cases z) e⟩
  exact ⟨I.ld.trans (.ofC s), t, pt, hc, I.wf, I.own.keep ((keepz_chip s I.chip).wider I.hzz), I.nb, I.fo, I.zo.led (.ofC s) pt hc, I.na, I.hzz⟩
theorem LedI.extN (I : LedI K Z H0 H1 a x L o c m n) (s : ExtN H1 H2) (t : Tabs (tabsC K) H2) : LedI K Z H0 H2 a x L o c m n := by
  have pt := pot_ext I.pot s
  have hc := I.chip.extN s
  have ld : LedN a x L H1 H2 := fun b o _ _ _ _ _ _ nt e => s b o e nt
  exact ⟨I.ld.trans ld, t, pt, hc, I.wf, I.own.keep (fun b u hu nt _ => s b u hu nt), I.nb, I.fo, I.zo.led ld pt hc, I.na, I.hzz⟩
theorem sqT_led {b : Addr} {xs : List V} (s : LedN a x L H1 H2) (p : PotAt H1 a m) (hc : ChipAt K H1 x L c) (h : SqT K H1 b xs) : SqT K H2 b xs := by
  obtain ⟨ys, ep⟩ := pot_obj p
  have go : ∀ u, H1 b = some u → (∀ xs, u ≠ .lst xs) → (∀ C dx fs, u ≠ .ins C dx fs) → (∀ ps, u ≠ .tbl ps) → H2 b = some u := fun u e n1 n2 n3 =>
    s b u (fun z => by rw [z, ep] at e; exact n1 _ (Option.some.inj e).symm) (fun z => by rw [z, hc.obj] at e; exact n2 _ _ _ (Option.some.inj e).symm) (fun z => by rw [z, hc.cells] at e; exact n1 _ (Option.some.inj e).symm) (fun z => by rw [z, hc.stands] at e; exact n1 _ (Option.some.inj e).symm) (fun z => by rw [z, hc.wear] at e; exact n1 _ (Option.some.inj e).symm) (fun z => by rw [z, hc.bad] at e; exact n1 _ (Option.some.inj e).symm) n3 e
  rcases h with (h | ⟨o, h⟩) | h
  · exact .inl (.inl (go _ h (by intro _ z; cases z) (by intro _ _ _ z; cases z) (by intro _ z; cases z)))
  · exact .inl (.inr ⟨o, go _ h (by intro _ z; cases z) (by intro _ _ _ z; cases z) (by intro _ z; cases z)⟩)
  · exact .inr h
theorem faT_led {t : Addr} {fa : List (Nat × Str × List Nat)} (s : LedN a x L H1 H2) (p : PotAt H1 a m) (hc : ChipAt K H1 x L c) (h : FaT K H1 t fa) : FaT K H2 t fa := by
  obtain ⟨rs, h1, h2, h3⟩ := h.ex
  exact ⟨rs, sqT_led s p hc h1, h2, fun i r f e1 e2 => sqT_led s p hc (h3 i r f e1 e2)⟩
theorem tup_led {t : Addr} {xs : List V} (s : LedN a x L H1 H2) (p : PotAt H1 a m) (hc : ChipAt K H1 x L c) (h : H1 t = some (.tup xs)) : H2 t = some (.tup xs) := by
  obtain ⟨ys, ep⟩ := pot_obj p
  exact s t _ (fun z => by rw [z, ep] at h; cases h) (fun z => by rw [z, hc.obj] at h; cases h) (fun z => by rw [z, hc.cells] at h; cases h) (fun z => by rw [z, hc.stands] at h; cases h) (fun z => by rw [z, hc.wear] at h; cases h) (fun z => by rw [z, hc.bad] at h; cases h) (by intro _ z; cases z) h
/-- addresses that are new join Z -/
theorem Own.join (h : Own K Z H1 o c n) (s : Same H1 H2) (f : ∀ z, Z2 z → H1 z = none) : Own K (fun z => Z z ∨ Z2 z) H2 o c n := by
  obtain ⟨A, ws, h1, h2, h3, z1, z2, z3, z4⟩ := h.ex
  obtain ⟨rs, f1, _, _⟩ := h1.fa.ex
  have go : ∀ b u, H1 b = some u → ¬ Z b → ¬ (Z b ∨ Z2 b) := fun b u e nz q => by
    rcases q with q | q
    · exact nz q
    · rw [f b q] at e; cases e
  exact ⟨A, ws, h1.same s, h2, h3, go _ _ h1.cl z1, go _ _ h1.wl z2, go _ _ h1.bd z3, go _ _ f1 z4⟩
/-- what a twin does leaves all that stood ahead of it -/
theorem twin_ext {p : Addr} {L2 : Lay} (f : ∀ b, L2.has p b → H0 b = none) (s0 : Same H0 H1) (s : ButCN p L2 H1 H2) : ExtN H0 H2 := fun b o e nt => by
  have n : ¬ L2.has p b := fun q => by rw [f b q] at e; cases e
  exact s.out n nt (s0 b o e)
theorem off_behind {d : Dd} (off : c.on = false) (hd : (∃ n l, d = .write n l) ∨ ∃ b, d = .erase b) : behindC c d = (c, .str (Str.ofString "cut")) := by
  rcases hd with ⟨n, l, rfl⟩ | ⟨b, rfl⟩
  · exact if_neg (by rw [off]; exact Bool.false_ne_true)
  · exact if_neg (by rw [off]; exact Bool.false_ne_true)
end
/-- deeds that an off chip cuts, as tuples -/
def DedsAt (c : CS) (H : Hp) (ts : List Addr) : Prop := ∀ r ∈ ts, ∃ d, H r = some (.tup (ddV d)) ∧ DdOk c d ∧ ((∃ n l, d = .write n l) ∨ ∃ b, d = .erase b)
theorem DedsAt.to {c : CS} {H H2 : Hp} {ts : List Addr} (h : DedsAt c H ts) (k : ∀ r xs, H r = some (.tup xs) → H2 r = some (.tup xs)) : DedsAt c H2 ts := fun r hr => by
  obtain ⟨d, h1, h2⟩ := h r hr
  exact ⟨d, k _ _ h1, h2⟩
theorem but_tup {a r : Addr} {H H2 : Hp} {m : Nat} {xs : List V} (p : PotAt H a m) (b : But a H H2) (e : H r = some (.tup xs)) : H2 r = some (.tup xs) := by
  obtain ⟨ys, ep⟩ := pot_obj p
  exact b r _ (fun z => by rw [z, ep] at e; cases e) e
theorem cut_two (ns : List Nat) : ∃ ms : List Nat, cutV (ns.map fun j => V.int (j : Nat)) none (some 2) = (ms.map fun j => V.int (j : Nat)) ∧ (∀ y ∈ ms, y ∈ ns) ∧ ms.length ≤ 2 := by
  refine ⟨ns.take (min 2 ns.length), ?_, fun y hy => List.mem_of_mem_take hy, by rw [List.length_take]; omega⟩
  unfold cutV
  rw [HT.sIx_none, show (some (2 : Int)) = some ((2 : Nat) : Int) from rfl, HT.sIx_nat, List.drop_zero, Nat.sub_zero, List.length_map, ← List.map_take]
section
variable {K : PySem.W.Frag} {Z : Addr → Prop} {H H1 H2 : Hp} {a x o : Addr} {L : Lay} {c : CS} {m n : Nat}
theorem keepz_led (s : LedN a x L H1 H2) (p : PotAt H1 a m) (hc : ChipAt K H1 x L c) (hzz : ∀ z, ZofC a x L z → Z z) : KeepZ Z H1 H2 := fun b u hu nt h => by
  obtain ⟨ys, ep⟩ := pot_obj p
  have go : ∀ (q : Addr) (v : HO), H1 q = some v → ((∃ xs, v = .lst xs) ∨ ∃ C dx fs, v = .ins C dx fs) → Z q → b ≠ q := fun q v e k zq y => by
    rw [y] at hu h
    rw [e] at hu
    have eo := (Option.some.inj hu).symm
    rcases h with h | ⟨h1, h2⟩
    · exact h zq
    · rcases k with ⟨xs, k⟩ | ⟨C, dx, fs, k⟩
      · exact h1 xs (eo.trans k)
      · exact h2 C dx fs (eo.trans k)
  exact s b u (go _ _ ep (.inl ⟨_, rfl⟩) (hzz _ (.inl rfl))) (go _ _ hc.obj (.inr ⟨_, _, _, rfl⟩) (hzz _ (.inr (.inl rfl)))) (go _ _ hc.cells (.inl ⟨_, rfl⟩) (hzz _ (.inr (.inr (.inl rfl))))) (go _ _ hc.stands (.inl ⟨_, rfl⟩) (hzz _ (.inr (.inr (.inr (.inl rfl)))))) (go _ _ hc.wear (.inl ⟨_, rfl⟩) (hzz _ (.inr (.inr (.inr (.inr (.inl rfl))))))) (go _ _ hc.bad (.inl ⟨_, rfl⟩) (hzz _ (.inr (.inr (.inr (.inr (.inr rfl))))))) nt hu
/-- another chip stays while this one is led -/
theorem chip_led {p : Addr} {L2 : Lay} {c2 : CS} (h : ChipAt K H1 p L2 c2) (s : LedN a x L H1 H2) (pt : PotAt H1 a m) (hc : ChipAt K H1 x L c) (d : ∀ b, L2.has p b → b ≠ a ∧ ¬ L.has x b) : ChipAt K H2 p L2 c2 := by
  have go : ∀ b u, L2.has p b → (∀ ps, u ≠ .tbl ps) → H1 b = some u → H2 b = some u := fun b u hb nt e => by
    obtain ⟨d1, d2⟩ := d b hb
    exact s b u d1 (fun q => d2 (.inl q)) (fun q => d2 (.inr (.inl q))) (fun q => d2 (.inr (.inr (.inl q)))) (fun q => d2 (.inr (.inr (.inr (.inl q))))) (fun q => d2 (.inr (.inr (.inr (.inr (.inl q)))))) nt e
  obtain ⟨ys, ep⟩ := pot_obj pt
  have dk : ∀ b kvs, H1 b = some (.dK kvs) → H2 b = some (.dK kvs) := fun b kvs e =>
    s b _ (fun z => by rw [z, ep] at e; cases e) (fun z => by rw [z, hc.obj] at e; cases e) (fun z => by rw [z, hc.cells] at e; cases e) (fun z => by rw [z, hc.stands] at e; cases e) (fun z => by rw [z, hc.wear] at e; cases e) (fun z => by rw [z, hc.bad] at e; cases e) (by intro _ z; cases z) e
  exact ⟨go _ _ (.inl rfl) (by intro _ z; cases z) h.obj, go _ _ (.inr (.inl rfl)) (by intro _ z; cases z) h.cells, go _ _ (.inr (.inr (.inl rfl))) (by intro _ z; cases z) h.stands, go _ _ (.inr (.inr (.inr (.inl rfl)))) (by intro _ z; cases z) h.wear, go _ _ (.inr (.inr (.inr (.inr (.inl rfl))))) (by intro _ z; cases z) h.bad,
    h.fd.ext dk (fun b vs e => tup_led s pt hc e), h.cs, h.cw, h.cb, h.sw, h.sb, h.wb, h.tx.keep fun xs e => go _ _ (.inr (.inr (.inr (.inr (.inr rfl))))) (by intro _ z; cases z) e⟩
theorem butN_led (b : ButN a H H1) (s : LedN a x L H1 H2) (h0 : ∀ b u, L.has x b → b ≠ a → (∀ ps, u ≠ .tbl ps) → H b = some u → False) : ButN a H H2 := fun q u nb nt e => by
  have n : ¬ L.has x q := fun z => h0 q u z nb nt e
  exact s q u nb (fun z => n (.inl z)) (fun z => n (.inr (.inl z))) (fun z => n (.inr (.inr (.inl z)))) (fun z => n (.inr (.inr (.inr (.inl z))))) (fun z => n (.inr (.inr (.inr (.inr (.inl z)))))) nt (b q u nb nt e)
theorem zok_of (p : PotAt H a m) (hc : ChipAt K H x L c) : ZOk (ZofC a x L) H := fun z hz => by
  rcases hz with rfl | q | q | q | q | q
  · obtain ⟨ys, e⟩ := pot_obj p
    exact ⟨_, e, by intro _ z; cases z⟩
  · obtain ⟨u, e, nt, _⟩ := has_obj hc (.inl q); exact ⟨u, e, nt⟩
  · obtain ⟨u, e, nt, _⟩ := has_obj hc (.inr (.inl q)); exact ⟨u, e, nt⟩
  · obtain ⟨u, e, nt, _⟩ := has_obj hc (.inr (.inr (.inl q))); exact ⟨u, e, nt⟩
  · obtain ⟨u, e, nt, _⟩ := has_obj hc (.inr (.inr (.inr (.inl q)))); exact ⟨u, e, nt⟩
  · obtain ⟨u, e, nt, _⟩ := has_obj hc (.inr (.inr (.inr (.inr (.inl q))))); exact ⟨u, e, nt⟩
theorem ints_of : ∀ ys : List V, (∀ y ∈ ys, ∃ z, y = V.int z) → ∃ zs : List Int, ys = zs.map V.int
  | [], _ => ⟨[], rfl⟩
  | y :: r, h => by
    obtain ⟨z, rfl⟩ := h y (List.mem_cons_self ..)
    obtain ⟨zs, rfl⟩ := ints_of r fun y hy => h y (List.mem_cons_of_mem _ hy)
    exact ⟨z :: zs, rfl⟩
end
theorem told_pair {i j : Int} (h1 : i.natAbs < 10 ^ 9) (h2 : j.natAbs < 10 ^ 9) : PyData.showable (.tuple [.int i, .int j]) = true ∧ PyData.depth (.tuple [.int i, .int j]) ≤ 40 ∧ (PyData.shown (.tuple [.int i, .int j])).length ≤ sizeLine := by
  obtain ⟨a1, a2⟩ := shown_int h1
  obtain ⟨b1, b2⟩ := shown_int h2
  refine ⟨?_, by show 1 ≤ 40; decide, ?_⟩
  · show (PyData.showable (.int i) && (PyData.showable (.int j) && true)) = true
    rw [a2, b2]; rfl
  · have := tupleText_len_le [(PyData.int i).shown, (PyData.int j).shown]
    show (tupleText [(PyData.int i).shown, (PyData.int j).shown]).length ≤ _
    simp only [List.map_cons, List.map_nil, List.sum_cons, List.sum_nil, List.length_cons, List.length_nil] at this
    rw [sizeLine_eq]
    omega
end
def sp_is_integer : Sp := fun vs H Q _ => ∃ i : Int, vs = [V.int i] ∧ Q (.bl true) H
def sp_is_between : Sp := fun vs H Q _ => ∃ i j k : Int, vs = [V.int i, V.int j, V.int k] ∧ Q (.bl (decide (j ≤ i ∧ i ≤ k))) H
def sp_has_only : Sp := fun vs H Q _ => ∃ l m : List Nat, vs = [V.str (S l), V.str (S m)] ∧ l.length ≤ 100000 ∧ Q (.bl (decide (∀ c ∈ l, c ∈ m))) H
def sp_are_cells : Sp := fun vs H Q _ => ∃ l : List Nat, vs = [V.str (S l)] ∧ l.length ≤ 100000 ∧ ∀ H2, Same H H2 → Q (.bl (decide (WM.Cells l))) H2
def sp_is_pattern : Sp := fun vs H Q _ => ∃ l : List Nat, vs = [V.str (S l)] ∧ l.length ≤ 100000 ∧ ∀ H2, Same H H2 → Q (.bl (decide (WM.Cells l ∧ 1 ≤ l.length ∧ l.length ≤ 256))) H2
def sp_is_cell : Sp := fun vs H Q _ => ∃ l : List Nat, vs = [V.str (S l)] ∧ l.length ≤ 100000 ∧ ∀ H2, Same H H2 → Q (.bl (decide (l.length = 1 ∧ WM.Cells l))) H2
def sp_is_page : Sp := fun vs H Q _ => ∃ l : List Nat, vs = [V.str (S l)] ∧ l.length ≤ 100000 ∧ ∀ H2, Same H H2 → Q (.bl (decide (l.length = 256 ∧ WM.Cells l))) H2
def sp_is_fault (K : PySem.W.Frag) : Sp := fun vs H Q _ => ∃ (t : Addr) (n : Nat) (w : Str) (p : List Nat), vs = [V.ref t] ∧ SqT K H t [.int (n : Int), .str w, .str (S p)] ∧ (w = Str.ofString "cut" ∨ w = Str.ofString "bad") ∧ WM.Cells p ∧ 1 ≤ p.length ∧ p.length ≤ 100 ∧ ∀ H2, Same H H2 → Q (.bl true) H2
def sp_are_faults (K : PySem.W.Frag) : Sp := fun vs H Q _ => ∃ (t : Addr) (fa : List (Nat × Str × List Nat)), vs = [V.ref t] ∧ FaT K H t fa ∧ FaOk fa ∧ ∀ H2, Same H H2 → Q (.bl true) H2
def sp_torn : Sp := fun vs H Q _ => ∃ l p : List Nat, vs = [V.str (S l), V.str (S p)] ∧ l.length = 256 ∧ 1 ≤ p.length ∧ p.length ≤ 100 ∧ ∀ H2, Same H H2 → Q (.str (S (tornL l p))) H2
def sp_Chip___init__ (K : PySem.W.Frag) : Sp := fun vs H Q _ => ∃ (a dx t : Addr) (bl pg : Nat) (fa : List (Nat × Str × List Nat)), vs = [V.ref a, V.int (bl : Int), V.int (pg : Int), V.ref t] ∧ H a = some (.ins (He.ga K "Chip") dx []) ∧ FaT K H t fa ∧ FaOk fa ∧ 4 ≤ bl ∧ bl ≤ 64 ∧ 4 ≤ pg ∧ pg ≤ 16 ∧
  ∀ (L : Lay) H2, (∀ b o, b ≠ a → H b = some o → H2 b = some o) → H L.pc = none → H L.ps = none → H L.pt = none → H L.pw = none → H L.pb = none → ChipAt K H2 a L (fresh bl pg fa) → Q .non H2
def sp_Chip_blocks (K : PySem.W.Frag) : Sp := fun vs H Q _ => ∃ (a : Addr) (L : Lay) (c : CS), vs = [V.ref a] ∧ ChipAt K H a L c ∧ Wf c ∧ Q (.int (c.bl : Int)) H
def sp_Chip_pages (K : PySem.W.Frag) : Sp := fun vs H Q _ => ∃ (a : Addr) (L : Lay) (c : CS), vs = [V.ref a] ∧ ChipAt K H a L c ∧ Wf c ∧ Q (.int (c.pg : Int)) H
def sp_Chip_wear (K : PySem.W.Frag) : Sp := fun vs H Q _ => ∃ (a : Addr) (L : Lay) (c : CS), vs = [V.ref a] ∧ ChipAt K H a L c ∧ Wf c ∧ ∀ p H2, Same H H2 → H p = none → H2 p = some (.tup (c.wear.map V.int)) → Q (.ref p) H2
def sp_Chip_bad (K : PySem.W.Frag) : Sp := fun vs H Q _ => ∃ (a : Addr) (L : Lay) (c : CS), vs = [V.ref a] ∧ ChipAt K H a L c ∧ Wf c ∧ ∀ p H2, Same H H2 → H p = none → H2 p = some (.tup ((badL c.bad c.bl).map V.int)) → Q (.ref p) H2
def sp_Chip_done (K : PySem.W.Frag) : Sp := fun vs H Q _ => ∃ (a : Addr) (L : Lay) (c : CS), vs = [V.ref a] ∧ ChipAt K H a L c ∧ Wf c ∧ Q (.int (c.done : Int)) H
def sp_Chip_cuts (K : PySem.W.Frag) : Sp := fun vs H Q _ => ∃ (a : Addr) (L : Lay) (c : CS), vs = [V.ref a] ∧ ChipAt K H a L c ∧ Wf c ∧ Q (.int (c.cuts : Int)) H
def sp_Chip_is_on (K : PySem.W.Frag) : Sp := fun vs H Q _ => ∃ (a : Addr) (L : Lay) (c : CS), vs = [V.ref a] ∧ ChipAt K H a L c ∧ Wf c ∧ Q (.bl c.on) H
def sp_Chip_read (K : PySem.W.Frag) : Sp := fun vs H Q _ => ∃ (a : Addr) (L : Lay) (c : CS) (n : Nat) (l : List Nat), vs = [V.ref a, V.int (n : Int)] ∧ ChipAt K H a L c ∧ Wf c ∧ c.cells[n]? = some l ∧ Q (.str (S l)) H
def sp_Chip_write (K : PySem.W.Frag) : Sp := fun vs H Q E => ∃ (a : Addr) (L : Lay) (c : CS) (n : Nat) (l : List Nat), vs = [V.ref a, V.int (n : Int), V.str (S l)] ∧ ChipAt K H a L c ∧ Wf c ∧ c.cells[n]? = some (List.replicate 256 102) ∧ l.length = 256 ∧ WM.Cells l ∧
  (c.on = false → ∀ p H2, Same H H2 → H2 p = some (.xd (fldV .non)) → E (.ref (He.ga K "Cut")) (some p) H2) ∧
  (c.on = true → (written c n l).2 = none → ∀ p H2, ButC a L H H2 → ChipAt K H2 a L (written c n l).1 → H2 p = some (.xd (fldV .non)) → E (.ref (He.ga K "Cut")) (some p) H2) ∧
  (c.on = true → ∀ b, (written c n l).2 = some b → ∀ H2, ButC a L H H2 → ChipAt K H2 a L (written c n l).1 → Q (.bl b) H2)
def sp_Chip_erase (K : PySem.W.Frag) : Sp := fun vs H Q E => ∃ (a : Addr) (L : Lay) (c : CS) (n : Nat), vs = [V.ref a, V.int (n : Int)] ∧ ChipAt K H a L c ∧ Wf c ∧ n < c.bl ∧
  (c.on = false → ∀ p H2, Same H H2 → H2 p = some (.xd (fldV .non)) → E (.ref (He.ga K "Cut")) (some p) H2) ∧
  (c.on = true → (erased c n).2 = none → ∀ p H2, ButC a L H H2 → ChipAt K H2 a L (erased c n).1 → H2 p = some (.xd (fldV .non)) → E (.ref (He.ga K "Cut")) (some p) H2) ∧
  (c.on = true → ∀ b, (erased c n).2 = some b → ∀ H2, ButC a L H H2 → ChipAt K H2 a L (erased c n).1 → Q (.bl b) H2)
def sp_Chip_again (K : PySem.W.Frag) : Sp := fun vs H Q _ => ∃ (a : Addr) (L : Lay) (c : CS), vs = [V.ref a] ∧ ChipAt K H a L c ∧ ∀ H2, ButC a L H H2 → ChipAt K H2 a L { c with on := true } → Q .non H2
def sp_Chip_fade (K : PySem.W.Frag) : Sp := fun vs H Q E => ∃ (a : Addr) (L : Lay) (c : CS) (n j : Nat) (l g : List Nat), vs = [V.ref a, V.int (n : Int), V.int (j : Int), V.str (S g)] ∧ ChipAt K H a L c ∧ Wf c ∧ c.cells[n]? = some l ∧ j < 256 ∧ g.length = 1 ∧ WM.Cells g ∧
  (mayFall c n j l g = false → ∀ p t H2, Same H H2 → H2 t = some (.tup [.int (j : Int), .str (S g)]) → H2 p = some (.xd (fldV (.ref t))) → E (.ref (He.ga K "BadFade")) (some p) H2) ∧
  (mayFall c n j l g = true → ∀ H2, ButC a L H H2 → ChipAt K H2 a L (put c n (l.take j ++ g ++ l.drop (j + 1)) false) → Q .non H2)
def sp_Chip_image (K : PySem.W.Frag) : Sp := fun vs H Q _ => ∃ (a : Addr) (L : Lay) (c : CS), vs = [V.ref a] ∧ ChipAt K H a L c ∧ Wf c ∧ ∀ p, H p = none → Q (.ref p) (upd H p (.tup (c.cells.map fun l => V.str (S l))))
def sp_Chip__check_place (K : PySem.W.Frag) : Sp := fun vs H Q _ => ∃ (a : Addr) (L : Lay) (c : CS) (n : Nat), vs = [V.ref a, V.int (n : Int)] ∧ ChipAt K H a L c ∧ Wf c ∧ n < c.bl * c.pg ∧ Q .non H
def sp_Chip__may_fall (K : PySem.W.Frag) : Sp := fun vs H Q _ => ∃ (a : Addr) (L : Lay) (c : CS) (n j : Nat) (l g : List Nat), vs = [V.ref a, V.int (n : Int), V.int (j : Int), V.str (S g)] ∧ ChipAt K H a L c ∧ Wf c ∧ c.cells[n]? = some l ∧ j < 256 ∧ g.length = 1 ∧ WM.Cells g ∧
  ∀ H2, Same H H2 → Q (.bl (mayFall c n j l g)) H2
def sp_Chip__next_deed (K : PySem.W.Frag) : Sp := fun vs H Q E => ∃ (a : Addr) (L : Lay) (c : CS), vs = [V.ref a] ∧ ChipAt K H a L c ∧ Wf c ∧
  (c.on = false → ∀ p H2, Same H H2 → H2 p = some (.xd (fldV .non)) → E (.ref (He.ga K "Cut")) (some p) H2) ∧
  (c.on = true → ∀ t H2, ButC a L H H2 → ChipAt K H2 a L { c with done := c.done + 1 } → H2 t = some (.tup [.str (deed c).1, .str (S (deed c).2)]) → Q (.ref t) H2)
def sp_Chip__deed_told (K : PySem.W.Frag) : Sp := fun vs H Q E => ∃ (a : Addr) (L : Lay) (c : CS) (n : Nat) (w : Str), vs = [V.ref a, V.int (n : Int), V.str w] ∧ ChipAt K H a L c ∧ Wf c ∧ n < c.bl ∧
  (w = Str.ofString "cut" → ∀ p H2, ButC a L H H2 → ChipAt K H2 a L { c with cuts := c.cuts + 1, on := false } → H2 p = some (.xd (fldV .non)) → E (.ref (He.ga K "Cut")) (some p) H2) ∧
  (w = Str.ofString "bad" → ∀ H2, ButC a L H H2 → ChipAt K H2 a L { c with bad := c.bad.set n true } → Q (.bl false) H2) ∧
  (w ≠ Str.ofString "cut" → w ≠ Str.ofString "bad" → Q (.bl (!(c.bad.getD n false))) H)
def sp_law_pot (K : PySem.W.Frag) : Sp := fun vs H Q _ => ∃ (a : Addr) (xs : List Int) (p : Nat), vs = [V.ref a, V.int p] ∧ SqL K H a (xs.map V.int) ∧ p < 100 ∧ ∀ (q : Addr) H2, Same H H2 → H q = none → PotAt H2 q 9000 → Q (.ref q) H2
def sp_law_take : Sp := fun vs H Q _ => ∃ (a : Addr) (u : Int) (m : Nat), vs = [V.ref a, V.int u] ∧ 1 ≤ u ∧ u < 1000000 ∧ PotAt H a (m + 1) ∧ ∀ (d : Int) H2, But a H H2 → PotAt H2 a m → 0 ≤ d → d < u → Q (.int d) H2
def sp_law_of : Sp := fun vs H Q _ => ∃ (a b : Addr) (xs : List V) (m : Nat), vs = [V.ref a, V.ref b] ∧ b ≠ a ∧ H b = some (.lst xs) ∧ 1 ≤ xs.length ∧ xs.length ≤ 1000 ∧ PotAt H a (m + 1) ∧ ∀ x H2, x ∈ xs → But a H H2 → PotAt H2 a m → Q x H2
def sp_law_some (K : PySem.W.Frag) : Sp := fun vs H Q _ => ∃ (a b : Addr) (xs : List Int) (n m : Nat), vs = [V.ref a, V.ref b, V.int (n : Int)] ∧ SqL K H b (xs.map V.int) ∧ n ≤ xs.length ∧ xs.length ≤ 1000 ∧ xs.Nodup ∧ PotAt H a (m + n) ∧
  ∀ (ys : List Int) q H2, But a H H2 → PotAt H2 a m → H q = none → H2 q = some (.lst (ys.map V.int)) → ys.length = n → ys.Nodup → (∀ y ∈ ys, y ∈ xs) → Q (.ref q) H2
def sp_law_cells (K : PySem.W.Frag) : Sp := fun vs H Q _ => ∃ (a : Addr) (xs : List Int) (m : Nat), vs = [V.ref a, V.int m] ∧ SqL K H a (xs.map V.int) ∧ 1 ≤ m ∧ m ≤ 10 ∧ ∀ (n : Nat) q H2, n ≤ 10 → Same H H2 → H q = none → H2 q = some (.lst ((List.range n).map fun i => V.int (i : Nat))) → Q (.ref q) H2
def sp_law_heard (K : PySem.W.Frag) : SpL := spHeard K
def sp_law_is_int : Sp := fun vs H Q _ => ∃ i j k : Int, vs = [V.int i, V.int j, V.int k] ∧ Q (.bl (decide (j ≤ i ∧ i ≤ k))) H
def sp_law_chip_begun (K : PySem.W.Frag) : Sp := fun vs H Q _ => ∃ (t : Addr) (bl pg : Nat) (fa : List (Nat × Str × List Nat)) (Z : Addr → Prop), vs = [V.int (bl : Int), V.int (pg : Int), V.ref t] ∧ FaT K H t fa ∧ fa.length ≤ 100 ∧ bl ≤ 64 ∧ pg ≤ 16 ∧ (∀ z, Z z → H z ≠ none) ∧ ∀ o H2, Same H H2 → H o = none → Own K Z H2 o (fresh bl pg fa) 0 → Q (.ref o) H2
def sp_law_chip_is_cells : Sp := fun vs H Q _ => ∃ g : Nat, vs = [V.str (S [g]), V.int 1, V.int 1] ∧ WM.IsCell g ∧ ∀ H2, Same H H2 → Q (.bl true) H2
def sp_law_chip_torn : Sp := fun vs H Q _ => ∃ l r : List Nat, vs = [V.str (S l), V.str (S r)] ∧ WM.Cells l ∧ l.length ≤ 1000 ∧ WM.Cells r ∧ 1 ≤ r.length ∧ r.length ≤ 1000 ∧ ∀ H2, Same H H2 → Q (.str (S (tornL l r))) H2
def sp_law_chip_fault (K : PySem.W.Frag) : Sp := fun vs H Q _ => ∃ (o : Addr) (A : OwnL) (c : CS) (ws : List (Nat × List Nat)), vs = [V.ref o] ∧ OwnAt K H o A c ws ∧ FaOk c.fa ∧ ∀ (p : Addr) (w : Str) (pt : List Nat) (H2 : Hp), Same H H2 → H2 p = some (.tup [.str w, .str (S pt)]) → w = (deed c).1 → (w ≠ Str.ofString "" → pt = (deed c).2) → Q (.ref p) H2
def sp_law_chip_deed (K : PySem.W.Frag) : Sp := fun vs H Q _ => ∃ (o : Addr) (A : OwnL) (c : CS) (ws : List (Nat × List Nat)) (b : Nat) (w : Str), vs = [V.ref o, V.int (b : Int), V.str w] ∧ OwnAt K H o A c ws ∧ b < c.bl ∧ c.bl ≤ 60 ∧ c.bad.length = c.bl ∧
  ∀ (p o2 bd : Addr) (tv : V) (H2 : Hp), Same H H2 → H o2 = none → (bd = A.bd ∨ H bd = none) → H2 p = some (.tup [.ref o2, tv]) → OwnAt K H2 o2 { A with bd := bd } (deedTold { c with done := c.done + 1 } b w).1 ws → ToldV tv (deedTold { c with done := c.done + 1 } b w).2 → Q (.ref p) H2
def sp_law_chip_written (K : PySem.W.Frag) : Sp := fun vs H Q _ => ∃ (o : Addr) (c : CS) (n m : Nat) (l : List Nat) (Z : Addr → Prop), vs = [V.ref o, V.int (n : Int), V.str (S l)] ∧ Own K Z H o c m ∧ m ≤ 900 ∧ Wf c ∧ FaOk c.fa ∧ c.bl ≤ 60 ∧ c.cells[n]? = some (List.replicate 256 102) ∧ l.length = 256 ∧ WM.Cells l ∧ (∀ z, Z z → H z ≠ none) ∧
  ∀ (p o2 : Addr) (H2 : Hp), Same H H2 → H2 p = some (.tup [.ref o2, ownTold (written c n l).2]) → Own K Z H2 o2 (written c n l).1 (m + 1) → Q (.ref p) H2
def sp_law_chip_erased (K : PySem.W.Frag) : Sp := fun vs H Q _ => ∃ (o : Addr) (c : CS) (n m : Nat) (Z : Addr → Prop), vs = [V.ref o, V.int (n : Int)] ∧ Own K Z H o c m ∧ m ≤ 900 ∧ Wf c ∧ FaOk c.fa ∧ c.bl ≤ 60 ∧ n < c.bl ∧ (∀ z, Z z → H z ≠ none) ∧
  ∀ (p o2 : Addr) (H2 : Hp), Same H H2 → H2 p = some (.tup [.ref o2, ownTold (erased c n).2]) → Own K Z H2 o2 (erased c n).1 m → Q (.ref p) H2
def sp_law_chip_can_fade (K : PySem.W.Frag) : Sp := fun vs H Q _ => ∃ (o : Addr) (c : CS) (n j g m : Nat) (Z : Addr → Prop), vs = [V.ref o, V.int (n : Int), V.int (j : Int), V.str (S [g])] ∧ Own K Z H o c m ∧ Wf c ∧ n < c.cells.length ∧ j < 256 ∧ WM.IsCell g ∧ ∀ H2, Same H H2 → Q (.bl (mayFall c n j (c.cells.getD n []) [g])) H2
def sp_law_chip_faded (K : PySem.W.Frag) : Sp := fun vs H Q _ => ∃ (o : Addr) (c : CS) (n j g m : Nat) (Z : Addr → Prop), vs = [V.ref o, V.int (n : Int), V.int (j : Int), V.str (S [g])] ∧ Own K Z H o c m ∧ Wf c ∧ n < c.cells.length ∧ j < 256 ∧ WM.IsCell g ∧ mayFall c n j (c.cells.getD n []) [g] = true ∧ (∀ z, Z z → H z ≠ none) ∧
  ∀ (o2 : Addr) (H2 : Hp), Same H H2 → Own K Z H2 o2 (put c n ((c.cells.getD n []).take j ++ [g] ++ (c.cells.getD n []).drop (j + 1)) false) m → Q (.ref o2) H2
def sp_law_chip_is_told (K : PySem.W.Frag) : Sp := fun vs H Q _ => ∃ (a o : Addr) (L : Lay) (c : CS) (m : Nat) (Z : Addr → Prop), vs = [V.ref a, V.ref o] ∧ ChipAt K H a L c ∧ Wf c ∧ Own K Z H o c m ∧ (∀ z ∈ c.wear, 0 ≤ z ∧ z < 10 ^ 9) ∧ c.done < 10 ^ 9 ∧ c.cuts < 10 ^ 9 ∧ ∀ H2, Same H H2 → Q (.bl true) H2
def sp_law_chip_pattern : Sp := fun vs H Q _ => ∃ (a : Addr) (m : Nat), vs = [V.ref a] ∧ PotAt H a (m + 21) ∧ ∀ (r : List Nat) H2, But a H H2 → PotAt H2 a m → WM.Cells r → 1 ≤ r.length → r.length ≤ 100 → Q (.str (S r)) H2
def sp_law_chip_page : Sp := fun vs H Q _ => ∃ (a : Addr) (m : Nat), vs = [V.ref a] ∧ PotAt H a (m + 13) ∧ ∀ (c : List Nat) H2, But a H H2 → PotAt H2 a m → WM.Cells c → c.length = 256 → Q (.str (S c)) H2
def sp_law_chip_faults (K : PySem.W.Frag) : Sp := fun vs H Q _ => ∃ (a : Addr) (n k m : Nat), vs = [V.ref a, V.int (n : Int), V.int (k : Int)] ∧ n ≤ k ∧ k ≤ 60 ∧ PotAt H a (m + 23 * n) ∧
  ∀ (t : Addr) (fa : List (Nat × Str × List Nat)) H2, But a H H2 → PotAt H2 a m → H t = none → FaT K H2 t fa → FaOk fa → fa.length = n → Q (.ref t) H2
def sp_law_deed_drawn (K : PySem.W.Frag) : Sp := fun vs H Q _ => ∃ (a o : Addr) (c : CS) (k m : Nat) (Z : Addr → Prop), vs = [V.ref a, V.ref o] ∧ Own K Z H o c k ∧ Wf c ∧ c.bl ≤ 60 ∧ Z a ∧ PotAt H a (m + 15) ∧
  ∀ (t : Addr) (d : Dd) (H2 : Hp), But a H H2 → PotAt H2 a m → H t = none → H2 t = some (.tup (ddV d)) → DdOk c d → Q (.ref t) H2
def sp_law_behind (K : PySem.W.Frag) : Sp := fun vs H Q _ => ∃ (o t : Addr) (c : CS) (d : Dd) (m : Nat) (Z : Addr → Prop), vs = [V.ref o, V.ref t] ∧ SqT K H t (ddV d) ∧ DdOk c d ∧ Own K Z H o c m ∧ m ≤ 900 ∧ Wf c ∧ FaOk c.fa ∧ c.bl ≤ 60 ∧ (∀ z, Z z → H z ≠ none) ∧
  ∀ (p o2 : Addr) (H2 : Hp), Same H H2 → H2 p = some (.tup [.ref o2, (behindC c d).2]) → Own K Z H2 o2 (behindC c d).1 (m + 1) → Q (.ref p) H2
def sp_law_call (K : PySem.W.Frag) : Sp := fun vs H Q _ => ∃ (x t : Addr) (L : Lay) (c : CS) (d : Dd), vs = [V.ref x, V.ref t] ∧ Tabs (tabsC K) H ∧ ChipAt K H x L c ∧ Wf c ∧ SqT K H t (ddV d) ∧ DdOk c d ∧
  ∀ (p : Addr) (H2 : Hp), ButCN x L H H2 → Tabs (tabsC K) H2 → ChipAt K H2 x L (behindC c d).1 → (∃ u v, H2 p = some (.tup [u, v]) ∧ CauT K H2 d (behindC c d).2 u v) → Q (.ref p) H2
def sp_law_is_done (K : PySem.W.Frag) : Sp := fun vs H Q _ => ∃ (x t : Addr) (L : Lay) (c : CS) (d : Dd), vs = [V.ref x, V.ref t, (behindC c d).2] ∧ Tabs (tabsC K) H ∧ ChipAt K H x L c ∧ Wf c ∧ SqT K H t (ddV d) ∧ DdOk c d ∧
  ∀ (H2 : Hp), ButCN x L H H2 → Tabs (tabsC K) H2 → ChipAt K H2 x L (behindC c d).1 → Q (.bl true) H2
def sp_law_right (K : PySem.W.Frag) : Sp := fun vs H Q _ => ∃ (a : Addr) (m : Nat), vs = [V.ref a] ∧ Tabs (tabsC K) H ∧ PotAt H a (m + 2000) ∧ ∀ H2, ButN a H H2 → Tabs (tabsC K) H2 → Q (.bl true) H2
def sp_law (K : PySem.W.Frag) : Sp := fun vs H Q _ => ∃ (a : Addr) (ns : List Int), vs = [V.ref a] ∧ Tabs (tabsC K) H ∧ SqL K H a (ns.map V.int) ∧ ∀ H2, Q (.bl true) H2
section
variable {P : Program} {w : World} {K : PySem.W.Frag} {mg : Str → Option Value} {base : Heap}
theorem bad_cut : (Str.ofString "bad" : Str) ≠ Str.ofString "cut" := by decide +kernel
theorem told_end {H : Hp} {a : Addr} {L : Lay} {c : CS} {b : Nat} {w : Str} {Q : VK} {E : XK} (hc : ChipAt K H a L c) (wf : Wf c) (hb : b < c.bl)
    (k1 : (deedTold c b w).2 = none → ∀ p H2, ButC a L H H2 → ChipAt K H2 a L (deedTold c b w).1 → H2 p = some (.xd (fldV .non)) → E (.ref (He.ga K "Cut")) (some p) H2)
    (k2 : ∀ x, (deedTold c b w).2 = some x → ∀ H2, ButC a L H H2 → ChipAt K H2 a L (deedTold c b w).1 → Q (.bl x) H2) : sp_Chip__deed_told K [.ref a, .int (b : Int), .str w] H Q E := by
  refine ⟨a, L, c, b, w, rfl, hc, wf, hb, fun e p H2 B C hp => ?_, fun e H2 B C => ?_, fun e1 e2 => ?_⟩
  · have z : deedTold c b w = ({ c with cuts := c.cuts + 1, on := false }, none) := by unfold deedTold; rw [if_pos e]
    rw [z] at k1
    exact k1 rfl p H2 B C hp
  · have z : deedTold c b w = ({ c with bad := c.bad.set b true }, some false) := by unfold deedTold; rw [if_neg (by rw [e]; exact bad_cut), if_pos e]
    rw [z] at k2
    exact k2 false rfl H2 B C
  · have z : deedTold c b w = (c, some (!(c.bad.getD b false))) := by unfold deedTold; rw [if_neg e1, if_neg e2]
    rw [z] at k2
    exact k2 _ rfl H (ButC.refl _) hc
end
section
variable {P : Program} {w : World} {K : PySem.W.Frag} {mg : Str → Option Value} {base : Heap}
theorem ok_is_integer {f : Addr} {fd : FuncData} (T : Txt K w mg) (F : FD K "is_integer" s_is_integer f fd) (hm : mg "is_integer" = some (.ref f)) : Cf CX0 P w K mg base 1 "is_integer" ["value"] sp_is_integer := by
  refine cf_of0 F hm sc_is_integer (fun vs H Q E h => ?_) (fun _ _ _ _ _ _ us hl => match us, hl with | [_], _ => rfl) (fun _ _ _ _ _ _ us hl => match us, hl with | [_], _ => rfl) (fun cdv A outer s H vs Q E hr h => ?_)
  · obtain ⟨i, rfl, _⟩ := h
    rfl
  · obtain ⟨i, rfl, k⟩ := h
    refine ⟨_, (pss_one (ps_ret (pe_and (pe_callB call_isi (by rfl) T.f_isinstance (by decide +kernel) (pa_cons (pv 0) (pa_cons (pe_bltn (v := .ty "int") rfl T.f_int (by decide +kernel) rfl) pa_nil))) (pe_one (pe_not (pe_callB call_isi (by rfl) T.f_isinstance (by decide +kernel) (pa_cons (pv 0) (pa_cons (pe_bltn (v := .ty "bool") rfl T.f_bool (by decide +kernel) rfl) pa_nil)))))))), ?_⟩
    refine ⟨_, rfl, _, _, _, _, true, rfl, .ty _, .base (.int _), kit_ty (by decide +kernel), _, rfl, iteT ?_⟩
    refine ⟨_, rfl, _, _, _, _, false, rfl, .ty _, .base (.int _), kit_ty (by decide +kernel), _, rfl, k⟩
theorem ok_is_between {f : Addr} {fd : FuncData} (T : Txt K w mg) (F : FD K "is_between" s_is_between f fd) (hm : mg "is_between" = some (.ref f)) (c_is_integer : Cf CX0 P w K mg base 1 "is_integer" ["value"] sp_is_integer) : Cf CX0 P w K mg base 2 "is_between" ["value", "low", "high"] sp_is_between := by
  refine cf_of0 F hm sc_is_between (fun vs H Q E h => ?_) (fun _ _ _ _ _ _ us hl => match us, hl with | [_, _, _], _ => rfl) (fun _ _ _ _ _ _ us hl => match us, hl with | [_, _, _], _ => rfl) (fun cdv A outer s H vs Q E hr h => ?_)
  · obtain ⟨i, j, k, rfl, _⟩ := h
    rfl
  · obtain ⟨i, j, k, rfl, q⟩ := h
    refine ⟨_, (pss_one (ps_ret (pe_and (pe_f c_is_integer hr (by decide) rfl (pa_cons (pv 0) pa_nil)) (pe_one (pe_chain op_le op_le (pv 1) (pv 0) (pv 2)))))), ?_⟩
    refine ⟨_, rfl, _, rfl, _, rfl, iteT ?_⟩
    refine ⟨_, rfl, _, rfl, _, _, rfl, rfl, _, rfl, ?_⟩
    by_cases h1 : j ≤ i
    · rw [decide_eq_true h1]
      refine iteT ⟨_, rfl, _, _, rfl, rfl, ?_⟩
      have e : decide (i ≤ k) = decide (j ≤ i ∧ i ≤ k) := by simp [h1]
      show Q (.bl (decide (i ≤ k))) H
      rw [e]
      exact q
    · rw [decide_eq_false h1]
      refine iteF ?_
      rw [decide_eq_false (fun z => h1 z.1)] at q
      exact q
theorem ok_has_only {f : Addr} {fd : FuncData} (T : Txt K w mg) (F : FD K "has_only" s_has_only f fd) (hm : mg "has_only" = some (.ref f)) : Cf CX0 P w K mg base 1 "has_only" ["text", "signs"] sp_has_only := by
  refine cf_of0 F hm sc_has_only (fun vs H Q E h => ?_) (fun _ _ _ _ _ _ us hl => match us, hl with | [_, _], _ => rfl) (fun _ _ _ _ _ _ us hl => match us, hl with | [_, _], _ => rfl) (fun cdv A outer s H vs Q E hr h => ?_)
  · obtain ⟨l, m, rfl, _⟩ := h
    rfl
  · obtain ⟨l, m, rfl, hl, k⟩ := h
    refine ⟨_, (pss_one (ps_ret (pe_cmpR op_eq (pe_bm PySem.F.plainAttrs_str PySem.F.slot_str_strip PySem.F.type_str_strip mt_stripChars (pv 0) (pa_cons (pv 1) pa_nil)) pe_str (nomark _)))), ?_⟩
    refine ⟨_, rfl, rfl, _, rfl, _, _, rfl, rfl, (by rw [S_len, sizeLine_eq]; omega), rfl, ?_⟩
    rw [strip_dec]
    exact k
theorem ok_are_cells {f : Addr} {fd : FuncData} (T : Txt K w mg) (F : FD K "are_cells" s_are_cells f fd) (hm : mg "are_cells" = some (.ref f)) (c_has_only : Cf CX0 P w K mg base 1 "has_only" ["text", "signs"] sp_has_only) : Cf CX0 P w K mg base 2 "are_cells" ["value"] sp_are_cells := by
  refine cf_of0 F hm sc_are_cells (fun vs H Q E h => ?_) (fun _ _ _ _ _ _ us hl => match us, hl with | [_], _ => rfl) (fun _ _ _ _ _ _ us hl => match us, hl with | [_], _ => rfl) (fun cdv A outer s H vs Q E hr h => ?_)
  · obtain ⟨l, rfl, _⟩ := h
    rfl
  · obtain ⟨l, rfl, hl, k⟩ := h
    refine ⟨_, (pss_one (ps_ret (pe_and (pe_callB call_isi (by rfl) T.f_isinstance (by decide +kernel) (pa_cons (pv 0) (pa_cons (pe_bltn (v := .ty "str") rfl T.f_str (by decide +kernel) rfl) pa_nil))) (pe_one (pe_f c_has_only hr (by decide) rfl (pa_cons (pv 0) (pa_cons (C8.pe_gc rfl T.g_CELLS) pa_nil))))))), ?_⟩
    refine ⟨_, rfl, _, _, _, _, true, rfl, .ty _, .base (.str _), kit_ty (by decide +kernel), _, rfl, iteT ?_⟩
    refine ⟨_, rfl, l, _, rfl, hl, ?_⟩
    have e : decide (∀ c ∈ l, c ∈ ([48, 49, 50, 51, 52, 53, 54, 55, 56, 57, 97, 98, 99, 100, 101, 102] : List Nat)) = decide (WM.Cells l) := by
      rw [Bool.eq_iff_iff, decide_eq_true_iff, decide_eq_true_iff]
      refine forall_congr' fun c => imp_congr_right fun _ => ?_
      unfold WM.IsCell
      simp only [List.mem_cons, List.not_mem_nil, or_false]
      omega
    rw [e]
    exact k _ (Same.refl _)
theorem ok_is_pattern {f : Addr} {fd : FuncData} (T : Txt K w mg) (F : FD K "is_pattern" s_is_pattern f fd) (hm : mg "is_pattern" = some (.ref f)) (c_are_cells : Cf CX0 P w K mg base 2 "are_cells" ["value"] sp_are_cells) : Cf CX0 P w K mg base 3 "is_pattern" ["value"] sp_is_pattern := by
  refine cf_of0 F hm sc_is_pattern (fun vs H Q E h => ?_) (fun _ _ _ _ _ _ us hl => match us, hl with | [_], _ => rfl) (fun _ _ _ _ _ _ us hl => match us, hl with | [_], _ => rfl) (fun cdv A outer s H vs Q E hr h => ?_)
  · obtain ⟨l, rfl, _⟩ := h
    rfl
  · obtain ⟨l, rfl, hl, k⟩ := h
    refine ⟨_, (pss_one (ps_ret (pe_and (pe_f c_are_cells hr (by decide) rfl (pa_cons (pv 0) pa_nil)) (pe_one (pe_chain op_le op_le pe_int (pe_callB call_len_str (by rfl) T.f_len PySem.boot_len (pa_cons (pv 0) pa_nil)) (C8.pe_gc rfl T.g_PAGE_CELLS)))))), ?_⟩
    refine ⟨_, rfl, l, rfl, hl, fun H2 S2 => ⟨_, rfl, ?_⟩⟩
    by_cases hp : WM.Cells l
    · rw [decide_eq_true hp]
      refine iteT ⟨_, rfl, _, rfl, by rw [S_len, sizeLine_eq]; omega, _, _, rfl, rfl, _, rfl, ?_⟩
      rw [S_len]
      by_cases h1 : 1 ≤ l.length
      · rw [decide_eq_true (show (1 : Int) ≤ (l.length : Int) by omega)]
        refine iteT ⟨_, _, rfl, rfl, ?_⟩
        have e : decide ((l.length : Int) ≤ (256 : Int)) = decide (WM.Cells l ∧ 1 ≤ l.length ∧ l.length ≤ 256) := by
          rw [Bool.eq_iff_iff, decide_eq_true_iff, decide_eq_true_iff]
          exact ⟨fun q => ⟨hp, h1, by omega⟩, fun q => by omega⟩
        show Q (.bl (decide ((l.length : Int) ≤ (256 : Int)))) H2
        rw [e]
        exact k H2 S2
      · rw [decide_eq_false (show ¬ (1 : Int) ≤ (l.length : Int) by omega)]
        refine iteF ?_
        rw [decide_eq_false (show ¬ (WM.Cells l ∧ 1 ≤ l.length ∧ l.length ≤ 256) from fun z => h1 z.2.1)] at k
        exact k H2 S2
    · rw [decide_eq_false hp]
      refine iteF ?_
      rw [decide_eq_false (show ¬ (WM.Cells l ∧ 1 ≤ l.length ∧ l.length ≤ 256) from fun z => hp z.1)] at k
      exact k H2 S2
theorem ok_is_cell {f : Addr} {fd : FuncData} (T : Txt K w mg) (F : FD K "is_cell" s_is_cell f fd) (hm : mg "is_cell" = some (.ref f)) (c_are_cells : Cf CX0 P w K mg base 2 "are_cells" ["value"] sp_are_cells) : Cf CX0 P w K mg base 3 "is_cell" ["value"] sp_is_cell := by
  refine cf_of0 F hm sc_is_cell (fun vs H Q E h => ?_) (fun _ _ _ _ _ _ us hl => match us, hl with | [_], _ => rfl) (fun _ _ _ _ _ _ us hl => match us, hl with | [_], _ => rfl) (fun cdv A outer s H vs Q E hr h => ?_)
  · obtain ⟨l, rfl, _⟩ := h
    rfl
  · obtain ⟨l, rfl, hl, k⟩ := h
    refine ⟨_, (pss_one (ps_ret (pe_and (pe_f c_are_cells hr (by decide) rfl (pa_cons (pv 0) pa_nil)) (pe_one (pe_cmpR op_eq (pe_callB call_len_str (by rfl) T.f_len PySem.boot_len (pa_cons (pv 0) pa_nil)) pe_int (nomark _)))))), ?_⟩
    refine ⟨_, rfl, l, rfl, hl, fun H2 S2 => ⟨_, rfl, ?_⟩⟩
    by_cases h : WM.Cells l
    · rw [decide_eq_true h]
      refine iteT ⟨_, rfl, _, rfl, by rw [S_len, sizeLine_eq]; omega, rfl, ?_⟩
      rw [S_len]
      have e : decide (V.int (l.length : Int) = V.int 1) = decide (l.length = 1 ∧ WM.Cells l) := by
        rw [Bool.eq_iff_iff, decide_eq_true_iff, decide_eq_true_iff]
        exact ⟨fun q => ⟨by have := V.int.inj q; omega, h⟩, fun q => by rw [q.1]; rfl⟩
      rw [e]
      exact k _ S2
    · rw [decide_eq_false h]
      refine iteF ?_
      have e : decide (l.length = 1 ∧ WM.Cells l) = false := decide_eq_false fun q => h q.2
      rw [← e]
      exact k _ S2
theorem ok_is_page {f : Addr} {fd : FuncData} (T : Txt K w mg) (F : FD K "is_page" s_is_page f fd) (hm : mg "is_page" = some (.ref f)) (c_are_cells : Cf CX0 P w K mg base 2 "are_cells" ["value"] sp_are_cells) : Cf CX0 P w K mg base 3 "is_page" ["value"] sp_is_page := by
  refine cf_of0 F hm sc_is_page (fun vs H Q E h => ?_) (fun _ _ _ _ _ _ us hl => match us, hl with | [_], _ => rfl) (fun _ _ _ _ _ _ us hl => match us, hl with | [_], _ => rfl) (fun cdv A outer s H vs Q E hr h => ?_)
  · obtain ⟨l, rfl, _⟩ := h
    rfl
  · obtain ⟨l, rfl, hl, k⟩ := h
    refine ⟨_, (pss_one (ps_ret (pe_and (pe_callB call_isi (by rfl) T.f_isinstance (by decide +kernel) (pa_cons (pv 0) (pa_cons (pe_bltn (v := .ty "str") rfl T.f_str (by decide +kernel) rfl) pa_nil))) (pe_and (pe_cmpR op_eq (pe_callB call_len_str (by rfl) T.f_len PySem.boot_len (pa_cons (pv 0) pa_nil)) (C8.pe_gc rfl T.g_PAGE_CELLS) (nomark _)) (pe_one (pe_f c_are_cells hr (by decide) rfl (pa_cons (pv 0) pa_nil))))))), ?_⟩
    refine ⟨_, rfl, _, _, _, _, true, rfl, .ty _, .base (.str _), kit_ty (by decide +kernel), _, rfl, iteT ?_⟩
    refine ⟨_, rfl, _, rfl, by rw [S_len, sizeLine_eq]; omega, rfl, _, rfl, ?_⟩
    rw [S_len]
    by_cases h : l.length = 256
    · have e : decide (V.int (l.length : Int) = V.int 256) = true := decide_eq_true (by rw [h]; rfl)
      rw [e]
      refine iteT ⟨_, rfl, l, rfl, hl, fun H2 hS => ?_⟩
      have e2 : decide (l.length = 256 ∧ WM.Cells l) = decide (WM.Cells l) := by simp [h]
      rw [← e2]
      exact k _ hS
    · have e : decide (V.int (l.length : Int) = V.int 256) = false := decide_eq_false (fun q => h (by have := V.int.inj q; omega))
      rw [e]
      refine iteF ?_
      have e2 : decide (l.length = 256 ∧ WM.Cells l) = false := by simp [h]
      rw [← e2]
      exact k _ (Same.refl _)
theorem ok_is_fault {f : Addr} {fd : FuncData} (T : Txt K w mg) (F : FD K "is_fault" s_is_fault f fd) (hm : mg "is_fault" = some (.ref f)) (c_is_integer : Cf CX0 P w K mg base 1 "is_integer" ["value"] sp_is_integer) (c_is_pattern : Cf CX0 P w K mg base 3 "is_pattern" ["value"] sp_is_pattern) : Cf CX0 P w K mg base 4 "is_fault" ["value"] (sp_is_fault K) := by
  refine cf_of0 F hm sc_is_fault (fun vs H Q E h => ?_) (fun _ _ _ _ _ _ us hl => match us, hl with | [_], _ => rfl) (fun _ _ _ _ _ _ us hl => match us, hl with | [_], _ => rfl) (fun cdv A outer s H vs Q E hr h => ?_)
  · obtain ⟨t, n, w, p, rfl, _⟩ := h
    rfl
  · obtain ⟨t, n, w, p, rfl, ht, hw, hp, h1, h2, k⟩ := h
    refine ⟨_, (pss_cons (ps_if (PW.pt (pw_or (pt_not (pt_val (pe_callB call_isi (by rfl) T.f_isinstance (by decide +kernel) (pa_cons (pv 0) (pa_cons (pe_bltn (v := .ty "tuple") rfl T.f_tuple (by decide +kernel) rfl) pa_nil))))) (pw_or1 (pt_cmpR op_ne (pe_callB call_len_seq (by rfl) T.f_len PySem.boot_len (pa_cons (pv 0) pa_nil)) pe_int (nomark _))))) (pss_one (ps_ret pe_bl)) pss_nil)
      (pss_cons (ps_asg (pv 0) (pg_tup rfl (pgs_cons (pg_name (i := 1) sc_is_fault.nd rfl (Or.inl rfl)) (pgs_cons (pg_name (i := 2) sc_is_fault.nd rfl (Or.inl rfl)) (pgs_cons (pg_name (i := 3) sc_is_fault.nd rfl (Or.inl rfl)) pgs_nil)))))
      (pss_one (ps_ret (pe_and (pe_f c_is_integer hr (by decide) rfl (pa_cons (pv 1) pa_nil)) (pe_and (pe_cmpR op_in_seq (pv 2) (pe_tup (pa_cons pe_str (pa_cons pe_str pa_nil))) (by rfl)) (pe_one (pe_f c_is_pattern hr (by decide) rfl (pa_cons (pv 3) pa_nil))))))))), ?_⟩
    refine ⟨_, rfl, _, _, _, _, true, rfl, .ty _, sqT_ty ht, kit_ty (by decide +kernel), _, rfl, iteF ?_⟩
    refine ⟨_, rfl, _, _, rfl, .inr ht, rfl, _, rfl, ?_⟩
    rw [decide_eq_true (show V.int (([V.int (n : Int), V.str w, V.str (S p)].length : Nat) : Int) = V.int 3 from rfl)]
    refine iteF ?_
    refine ⟨_, rfl, t, _, rfl, ht, rfl, _, _, rfl, _, _, rfl, _, _, rfl, rfl, ?_⟩
    refine ⟨_, rfl, (n : Int), rfl, _, rfl, iteT ?_⟩
    refine ⟨_, rfl, by show 2 ≤ sizeLine; decide, fun q hq => ⟨q, _, rfl, .inr (SqT.of upd_same), rfl, rfl, _, rfl, ?_⟩⟩
    rw [show (if false = true then !inV (V.str w) [V.str (Str.ofString "cut"), V.str (Str.ofString "bad")] else inV (V.str w) [V.str (Str.ofString "cut"), V.str (Str.ofString "bad")]) = true by rcases hw with rfl | rfl <;> decide +kernel]
    refine iteT ?_
    refine ⟨_, rfl, p, rfl, by omega, fun H2 S2 => ?_⟩
    rw [decide_eq_true (show WM.Cells p ∧ 1 ≤ p.length ∧ p.length ≤ 256 from ⟨hp, h1, by omega⟩)]
    exact k H2 ((Same.new hq).trans S2)
theorem ok_are_faults {f : Addr} {fd : FuncData} (T : Txt K w mg) (F : FD K "are_faults" s_are_faults f fd) (hm : mg "are_faults" = some (.ref f)) (c_is_fault : Cf CX0 P w K mg base 4 "is_fault" ["value"] (sp_is_fault K)) : Cf CX0 P w K mg base 5 "are_faults" ["value"] (sp_are_faults K) := by
  refine cf_of0 F hm sc_are_faults (fun vs H Q E h => ?_) (fun _ _ _ _ _ _ us hl => match us, hl with | [_], _ => rfl) (fun _ _ _ _ _ _ us hl => match us, hl with | [_], _ => rfl) (fun cdv A outer s H vs Q E hr h => ?_)
  · obtain ⟨t, fa, rfl, _⟩ := h
    rfl
  · obtain ⟨t, fa, rfl, ht, hf, k⟩ := h
    refine ⟨_, (pss_cons (ps_if (pt_not (pt_val (pe_callB call_isi (by rfl) T.f_isinstance (by decide +kernel) (pa_cons (pv 0) (pa_cons (pe_bltn (v := .ty "tuple") rfl T.f_tuple (by decide +kernel) rfl) pa_nil))))) (pss_one (ps_ret pe_bl)) pss_nil)
      (pss_cons (ps_set (i := 1) sc_are_faults.nd rfl (Or.inl rfl) pe_int)
      (pss_cons (ps_for PassesOwn.never rfl (pi_tup (pv 0)) (pg_name (i := 2) sc_are_faults.nd rfl (Or.inl rfl))
        (pss_cons (ps_if (PW.pt (pw_or (pt_not (pt_val (pe_f c_is_fault hr (by decide) rfl (pa_cons (pv 2) pa_nil)))) (pw_or1 (pt_cmpR op_le (pe_ix (show IxR _ (rIxT K) from ix_tup) (pv 2) pe_int (fun _ _ => rfl)) (pv 1) (nomark _))))) (pss_one (ps_ret pe_bl)) pss_nil)
      (pss_one (ps_set (i := 1) sc_are_faults.nd rfl (Or.inl rfl) (pe_ix (show IxR _ (rIxT K) from ix_tup) (pv 2) pe_int (fun _ _ => rfl))))))
      (pss_one (ps_ret pe_bl))))), ?_⟩
    obtain ⟨rs, t1, t2, t3⟩ := ht.ex
    refine ⟨_, rfl, _, _, _, _, true, rfl, .ty _, sqT_ty t1, kit_ty (by decide +kernel), _, rfl, iteF ?_⟩
    refine ⟨_, rfl, t, rfl, ⟨_, t1⟩, for_it (walk_tup (xs := rs.map V.ref)) (fun i σ H1 => Same H H1 ∧ ∃ x, σ = [some (.ref t), some (.int ((if i = 0 then 0 else (fa.getD (i - 1) (0, Str.ofString "", [])).1 : Nat) : Int)), x]) ⟨Same.refl _, _, rfl⟩ (fun i σ H1 _ h => sqT_same h.1 t1) (fun i x σ H1 H1' hi hq hy => ?_) fun σ H1 hq => ?_⟩
    · obtain ⟨s1, y, rfl⟩ := hq
      obtain ⟨rfl, hv⟩ := hy
      rw [List.length_map] at hi
      have hfi : i < fa.length := by rw [← t2]; exact hi
      have er : rs[i]? = some rs[i] := List.getElem?_eq_getElem hi
      have ef : fa[i]? = some fa[i] := List.getElem?_eq_getElem hfi
      rw [List.getElem?_map, er] at hv
      have hv2 := Option.some.inj hv
      subst hv2
      have hr := sqT_same s1 (t3 i _ _ er ef)
      obtain ⟨o1, o2, o3, o4⟩ := hf.ok _ (List.getElem_mem hfi)
      rw [gname_eq]
      refine ⟨_, rfl, rs[i], fa[i].1, fa[i].2.1, fa[i].2.2, rfl, hr, o4, o1, o2, o3, fun H2 S2 => ⟨_, rfl, iteF ?_⟩⟩
      have hr2 := sqT_same S2 hr
      have hx0 : atI [V.int (fa[i].1 : Int), .str fa[i].2.1, .str (S fa[i].2.2)] 0 = some (V.int (fa[i].1 : Int)) := rfl
      have hlt : (if i = 0 then 0 else (fa.getD (i - 1) (0, Str.ofString "", [])).1) < fa[i].1 := by
        by_cases h0 : i = 0
        · subst h0
          rw [if_pos rfl]
          exact hf.lo _ ef
        · rw [if_neg h0]
          obtain ⟨m, rfl⟩ : ∃ m, i = m + 1 := ⟨i - 1, by omega⟩
          have hm : m < fa.length := by omega
          show (fa.getD m _).1 < _
          rw [List.getD_eq_getElem?_getD, List.getElem?_eq_getElem hm]
          exact hf.up m _ _ (List.getElem?_eq_getElem hm) ef
      refine ⟨_, rfl, _, _, _, _, rfl, rfl, hr2, hx0, _, rfl, _, _, rfl, rfl, _, rfl, ?_⟩
      rw [decide_eq_false (by omega)]
      refine iteF ?_
      refine ⟨_, rfl, _, _, _, _, rfl, rfl, hr2, hx0, ?_⟩
      refine ⟨s1.trans S2, some (V.ref rs[i]), ?_⟩
      have e : (if i + 1 = 0 then 0 else (fa.getD (i + 1 - 1) (0, Str.ofString "", [])).1) = fa[i].1 := by
        rw [if_neg (by omega)]
        show (fa.getD i _).1 = _
        rw [List.getD_eq_getElem?_getD, ef]
        rfl
      rw [e]
      rfl
    · obtain ⟨s1, y, rfl⟩ := hq
      exact k H1 s1
theorem ok_torn {f : Addr} {fd : FuncData} (T : Txt K w mg) (F : FD K "torn" s_torn f fd) (hm : mg "torn" = some (.ref f)) : Cf CX0 P w K mg base 1 "torn" ["cells", "pattern"] sp_torn := by
  refine cf_of0 F hm sc_torn (fun vs H Q E h => ?_) (fun _ _ _ _ _ _ us hl => match us, hl with | [_, _], _ => rfl) (fun _ _ _ _ _ _ us hl => match us, hl with | [_, _], _ => rfl) (fun cdv A outer s H vs Q E hr h => ?_)
  · obtain ⟨l, p, rfl, _⟩ := h
    rfl
  · obtain ⟨l, p, rfl, hl, hp1, hp2, k⟩ := h
    refine ⟨_, (pss_cons (ps_set (i := 2) sc_torn.nd rfl (Or.inl rfl) (pe_op op_add (pe_op op_fdiv (C8.pe_gc rfl T.g_PAGE_CELLS) (pe_callB call_len_str (by rfl) T.f_len PySem.boot_len (pa_cons (pv 1) pa_nil))) pe_int))
      (pss_one (ps_ret (pe_join pe_str (pe_lc (own := [("cell", 3), ("over", 4)]) rfl sc_torn.nd (pi_zipS rfl T.f_zip (pa_cons (pv 0) (pa_cons (pe_op op_mulS (pv 1) (pv 2)) pa_nil))) (blkOk_by (N := ["cells", "pattern", "times", "cell", "over"]) (sc := defScope s_torn) (by decide +kernel)) (fun _ _ _ _ _ => show PG _ _ (gTup K 2 (gCons (gName 3) (gCons (gName 4) gNil))) from (pg_tup rfl (pgs_cons (pg_name (i := 3) sc_torn.nd rfl (Or.inl rfl)) (pgs_cons (pg_name (i := 4) sc_torn.nd rfl (Or.inl rfl)) pgs_nil)))) (fun _ _ _ _ _ => pts_nil) (fun _ _ _ _ _ => (pe_callB (call_maxS2 rfl) (by rfl) T.f_max (by decide +kernel) (pa_cons (pv 3) (pa_cons (pv 4) pa_nil))))))))), ?_⟩
    refine ⟨_, rfl, _, rfl, by rw [S_len, sizeLine_eq]; omega, _, _, rfl, rfl, ⟨by rw [S_len]; omega, by rw [S_len]; omega⟩, _, _, rfl, rfl, ?_⟩
    show gName 2 _ _ _ _
    rw [gname_eq]
    have e0 : (256 : Int) / ((S p).length : Int) + 1 = ((256 / p.length + 1 : Nat) : Int) := by
      rw [S_len]
      rfl
    dsimp only
    rw [e0]
    have q1 : 256 / p.length ≤ 256 := Nat.div_le_self _ _
    have q2 : 256 < (256 / p.length + 1) * p.length := by
      have := Nat.lt_mul_div_succ 256 (show 0 < p.length by omega)
      rw [Nat.mul_comm] at this
      exact this
    have q3 : 256 / p.length + 1 ≤ 257 := by omega
    revert q2 q3
    generalize 256 / p.length + 1 = m
    intro q2 q3
    refine ⟨⟨_, rfl⟩, _, rfl, _, rfl, _, rfl, _, _, rfl, rfl, by omega, by omega, by rw [S_len]; omega, ?_⟩
    rw [mulS, Int.toNat_natCast]
    have fl : (List.replicate m p).flatten.length = m * p.length := flat_len p _
    refine ⟨_, _, rfl, fun D hD => lc_map (walk_zipS2 (x := S l) (y := S (List.replicate m p).flatten) (by rw [S_size, S_size, fl]; omega)) (fun i => V.str (S [if l.getD i 0 < p.getD (i % p.length) 0 then p.getD (i % p.length) 0 else l.getD i 0])) hD (by rw [S_size]; omega) (fun _ _ => trivial) ?_ ?_ ?_⟩
    · rintro i x H1 H2 N hi hS ⟨T1, u, v, rfl, hT, rfl, hu, hv⟩ h1
      rw [S_size] at hi
      rw [S_get] at hu hv
      rw [flat_get p hp1 _ _ (by omega)] at hv
      have eu : l.getD i 0 = u := by rw [List.getD, hu]; rfl
      have ev : p.getD (i % p.length) 0 = v := by rw [List.getD, hv]; rfl
      rw [eu, ev] at h1
      refine ⟨T1, _, rfl, SqT.of upd_same, rfl, _, _, rfl, _, _, rfl, rfl, rfl, _, rfl, _, rfl, _, _, rfl, ?_⟩
      rw [sltB_one]
      by_cases q : u < v
      · rw [decide_eq_true q, if_pos rfl]
        rw [if_pos q] at h1
        exact h1 _ (Same.new hT)
      · rw [decide_eq_false q, if_neg (by intro z; cases z)]
        rw [if_neg q] at h1
        exact h1 _ (Same.new hT)
    · rintro x σ H A B h ⟨t, xs, e1, e2, e3, a1, r1, e4, a2, r2, e5, e6, q⟩
      exact ⟨t, xs, e1, e2, e3, a1, r1, e4, a2, r2, e5, e6, h _ _ q⟩
    · intro H4 hS4 hL
      rw [S_size] at hL
      have e1 : ((List.range l.length).map fun i => V.str (S [if l.getD i 0 < p.getD (i % p.length) 0 then p.getD (i % p.length) 0 else l.getD i 0])) = (((tornL l p).map fun c => S [c]).map V.str) := by
        unfold tornL
        rw [List.map_map, List.map_map]
        rfl
      rw [e1] at hL
      refine ⟨_, D, _, rfl, rfl, .inl (SqL.of hL), ?_, ?_⟩
      · rw [join_len1, torn_len, List.length_map, torn_len]
        show l.length + l.length * 0 ≤ 16777216
        omega
      · rw [ofs_nil, WR.join_one]
        exact k _ hS4
theorem ok_Chip___init__ {f : Addr} {dv : V} {fd : FuncData} (T : Txt K w mg) (F : FunD K "__init__" "Chip.__init__" (defArgs s_Chip___init__) (defBody s_Chip___init__) (defScope s_Chip___init__) [dv] [] f fd) (hm : Mk K (He.ga K "Chip") f) (c_is_between : Cf CX0 P w K mg base 2 "is_between" ["value", "low", "high"] sp_is_between) (c_are_faults : Cf CX0 P w K mg base 5 "are_faults" ["value"] (sp_are_faults K)) : Kf P w K mg base 6 "Chip" (He.ga K "Chip") ["self", "blocks", "pages", "faults"] (sp_Chip___init__ K) ∧ Kfk P w K mg base 6 "Chip" (He.ga K "Chip") ["self", "blocks", "pages", "faults"] ["faults", "pages", "blocks"] [0, 3, 2, 1] (sp_Chip___init__ K) := by
  refine kfk_of1 ["faults", "pages", "blocks"] [0, 3, 2, 1] F hm T.gx_Chip sc_Chip___init__ (fun vs H Q E h => ?_) (fun _ _ _ _ _ _ _ us its hl hi => match us, its, hl, hi with | [_, _, _, _], [_], _, _ => ⟨_, rfl, rfl⟩) (fun _ _ _ _ _ _ _ us its ws h1 h2 h3 => match us, its, ws, h1, h2, h3 with | [_], [_], [_, _, _], _, _, _ => ⟨_, rfl, rfl⟩) (fun cdv A outer s H vs Q E hr h => ?_)
  · obtain ⟨a, dx, t, bl, pg, fa, rfl, _⟩ := h
    rfl
  · obtain ⟨a, dx, t, bl, pg, fa, rfl, ha, ht, hf, b1, b2, p1, p2, k⟩ := h
    refine ⟨_, (pss_cons (ps_if (pt_not (pt_val (pe_f c_is_between hr (by decide) rfl (pa_cons (pv 1) (pa_cons pe_int (pa_cons pe_int pa_nil)))))) (pss_one ps_never) pss_nil)
      (pss_cons (ps_if (pt_not (pt_val (pe_f c_is_between hr (by decide) rfl (pa_cons (pv 2) (pa_cons pe_int (pa_cons pe_int pa_nil)))))) (pss_one ps_never) pss_nil)
      (pss_cons (ps_if (pt_not (pt_val (pe_f c_are_faults hr (by decide) rfl (pa_cons (pv 3) pa_nil)))) (pss_one ps_never) pss_nil)
      (pss_cons (ps_fld (pv 0) (pv 1) (by rfl))
      (pss_cons (ps_fld (pv 0) (pv 2) (by rfl))
      (pss_cons (ps_fld (pv 0) (pv 3) (by rfl))
      (pss_cons (ps_fld (pv 0) (pe_dc (own := [("at", 4), ("word", 5), ("pattern", 6)]) rfl sc_Chip___init__.nd (pi_tup (pv 3)) (blkOk_by (N := ["self", "blocks", "pages", "faults", "at", "word", "pattern"]) (sc := defScope s_Chip___init__) (by decide +kernel)) (fun _ _ _ _ _ => show PG _ _ (gTup K 3 (gCons (gName 4) (gCons (gName 5) (gCons (gName 6) gNil)))) from (pg_tup rfl (pgs_cons (pg_name (i := 4) sc_Chip___init__.nd rfl (Or.inl rfl)) (pgs_cons (pg_name (i := 5) sc_Chip___init__.nd rfl (Or.inl rfl)) (pgs_cons (pg_name (i := 6) sc_Chip___init__.nd rfl (Or.inl rfl)) pgs_nil))))) (fun _ _ _ _ _ => pts_nil) (fun _ _ _ _ _ => (pv 4)) (fun _ _ _ _ _ => (pe_tup (pa_cons (pv 5) (pa_cons (pv 6) pa_nil))))) (by rfl))
      (pss_cons (ps_fld (pv 0) (pe_op op_rep (pe_lst (pa_cons (C8.pe_gc rfl T.g_EMPTY_PAGE) pa_nil)) (pe_op op_mul (pv 1) (pv 2))) (by rfl))
      (pss_cons (ps_fld (pv 0) (pe_op op_rep (pe_lst (pa_cons pe_bl pa_nil)) (pe_op op_mul (pv 1) (pv 2))) (by rfl))
      (pss_cons (ps_fld (pv 0) (pe_op op_rep (pe_lst (pa_cons (pe_tup (pa_cons (C8.pe_gc rfl T.g_EMPTY_PAGE) (pa_cons pe_non pa_nil))) pa_nil)) (pe_op op_mul (pv 1) (pv 2))) (by rfl))
      (pss_cons (ps_fld (pv 0) (pe_op op_rep (pe_lst (pa_cons pe_int pa_nil)) (pv 1)) (by rfl))
      (pss_cons (ps_fld (pv 0) (pe_op op_rep (pe_lst (pa_cons pe_bl pa_nil)) (pv 1)) (by rfl))
      (pss_cons (ps_fld (pv 0) pe_int (by rfl))
      (pss_cons (ps_fld (pv 0) pe_int (by rfl))
      (pss_one (ps_fld (pv 0) pe_bl (by rfl))))))))))))))))), ?_⟩
    refine ⟨_, rfl, _, _, _, rfl, _, rfl, ?_⟩
    rw [decide_eq_true (show (4 : Int) ≤ (bl : Int) ∧ (bl : Int) ≤ 64 by omega)]
    refine iteF ?_
    refine ⟨_, rfl, _, _, _, rfl, _, rfl, ?_⟩
    rw [decide_eq_true (show (4 : Int) ≤ (pg : Int) ∧ (pg : Int) ≤ 16 by omega)]
    refine iteF ?_
    refine ⟨_, rfl, t, fa, rfl, ht, hf, fun H1 S1 => ⟨_, rfl, iteF ?_⟩⟩
    refine ⟨_, rfl, _, rfl, _, _, _, _, rfl, S1 _ _ ha, T.cl_Chip, T.na_blocks, by show 0 < 1000; decide, ?_⟩
    refine ⟨_, rfl, _, rfl, _, _, _, _, rfl, upd_same, T.cl_Chip, T.na_pages, by show 1 < 1000; decide, ?_⟩
    refine ⟨_, rfl, _, rfl, _, _, _, _, rfl, upd_same, T.cl_Chip, T.na_faults, by show 2 < 1000; decide, ?_⟩
    have Bb := (((Bl.of S1 ha).fld (fs2 := putF "_blocks" (.int (bl : Int)) [])).fld (fs2 := putF "_pages" (.int (pg : Int)) (putF "_blocks" (.int (bl : Int)) []))).fld (fs2 := putF "_faults" (.ref t) (putF "_pages" (.int (pg : Int)) (putF "_blocks" (.int (bl : Int)) [])))
    have F3 := ((((ht.same S1).put (S1 _ _ ha) (o := .ins (He.ga K "Chip") dx (putF "_blocks" (.int (bl : Int)) []))).put upd_same (o := .ins (He.ga K "Chip") dx (putF "_pages" (.int (pg : Int)) (putF "_blocks" (.int (bl : Int)) [])))).put upd_same (o := .ins (He.ga K "Chip") dx (putF "_faults" (.ref t) (putF "_pages" (.int (pg : Int)) (putF "_blocks" (.int (bl : Int)) [])))))
    dsimp only
    revert Bb F3
    generalize upd (upd (upd H1 a (.ins (He.ga K "Chip") dx (putF "_blocks" (.int (bl : Int)) []))) a (.ins (He.ga K "Chip") dx (putF "_pages" (.int (pg : Int)) (putF "_blocks" (.int (bl : Int)) [])))) a (.ins (He.ga K "Chip") dx (putF "_faults" (.ref t) (putF "_pages" (.int (pg : Int)) (putF "_blocks" (.int (bl : Int)) [])))) = H3
    intro Bb F3
    obtain ⟨rs, t1, t2, t3⟩ := F3.ex
    refine ⟨_, rfl, t, rfl, ⟨_, t1⟩, fun D hD => dc_tup (xs := rs.map V.ref) (fun i H4 => Same H3 H4 ∧ ∃ kvs, H4 D = some (.dK kvs) ∧ kvs.length ≤ i ∧ FaK H4 kvs (fa.take i)) ⟨Same.new hD, [], upd_same, Nat.le_refl _, fun n => .inl ⟨rfl, rfl⟩⟩ (fun i H4 _ hq => sqT_same hq.1 t1) (fun i x H4 hv hq => ?_) fun H4 hq => ?_⟩
    · obtain ⟨s4, kvs, d1, d2, d3⟩ := hq
      have hi : i < rs.length := by
        have := (List.getElem?_eq_some_iff.mp hv).1
        rw [List.length_map] at this
        exact this
      have hfi : i < fa.length := by rw [← t2]; exact hi
      have er : rs[i]? = some rs[i] := List.getElem?_eq_getElem hi
      have ef : fa[i]? = some fa[i] := List.getElem?_eq_getElem hfi
      rw [List.getElem?_map, er] at hv
      have hv2 := Option.some.inj hv
      subst hv2
      have hr := sqT_same s4 (t3 i _ _ er ef)
      refine ⟨rs[i], _, rfl, hr, rfl, _, _, rfl, _, _, rfl, _, _, rfl, rfl, rfl, yes_of ?_⟩
      refine ⟨_, rfl, _, rfl, _, rfl, by show 2 ≤ sizeLine; decide, fun q hq => ⟨kvs, .inl (fa[i].1 : Int), rfl, by rw [upd_ne (ne_of_none d1 hq)]; exact d1, by have := hf.len; rw [sizeLine_eq]; omega, ?_⟩⟩
      have tl := take_lookup hf hfi
      have vn : valV kvs (.inl (fa[i].1 : Int)) = none := by
        rcases d3 fa[i].1 with z | ⟨w, p, t, z, _⟩
        · exact z.2
        · rw [tl] at z; cases z
      have pk : putK kvs (.inl (fa[i].1 : Int)) (V.ref q) = kvs ++ [(.inl (fa[i].1 : Int), V.ref q)] := by
        unfold putK
        rw [valV_any, vn]
        rfl
      have qD : q ≠ D := fun z => by rw [z, d1] at hq; cases hq
      refine ⟨(s4.trans (Same.new hq)).put hD, _, upd_same, by rw [pk, List.length_append]; show kvs.length + 1 ≤ i + 1; omega, fun n => ?_⟩
      have tk : fa.take (i + 1) = fa.take i ++ [fa[i]] := by rw [List.take_add_one, ef]; rfl
      rw [pk, tk, List.lookup_append, valV_snoc _ _ _ _ vn]
      by_cases e : n = fa[i].1
      · subst e
        right
        refine ⟨fa[i].2.1, fa[i].2.2, q, ?_, if_pos rfl, by rw [upd_ne qD, upd_same]⟩
        rw [tl]
        show List.lookup fa[i].1 [fa[i]] = _
        rw [List.lookup_cons]
        simp
      · have e1 : List.lookup n [fa[i]] = none := by
          rw [List.lookup_cons, show (n == fa[i].1) = false from beq_false_of_ne e]
          rfl
        have e2 : ¬ (Sum.inl (n : Int) : Key) = .inl (fa[i].1 : Int) := fun z => e (by have := Sum.inl.inj z; omega)
        rw [e1, if_neg e2]
        rcases d3 n with z | ⟨w, p, t, z1, z2, z3⟩
        · left
          rw [z.1]
          exact ⟨rfl, z.2⟩
        · right
          refine ⟨w, p, t, by rw [z1]; rfl, z2, ?_⟩
          rw [upd_ne (fun y => by rw [y, d1] at z3; cases z3), upd_ne (ne_of_none z3 hq)]
          exact z3
    · obtain ⟨s4, kvs, d1, d2, d3⟩ := hq
      refine ⟨_, rfl, _, _, _, _, rfl, s4 _ _ Bb.obj, T.cl_Chip, T.na_fault_at, by show 3 < 1000; decide, ?_⟩
      have C4 : Bl K H (upd H4 a (.ins (He.ga K "Chip") dx (f4 bl pg t D))) a dx (f4 bl pg t D) := (Bb.same s4).fld
      have D4 : FaD (upd H4 a (.ins (He.ga K "Chip") dx (f4 bl pg t D))) D fa := by
        rw [List.length_map, t2, List.take_length] at d3
        rw [List.length_map, t2] at d2
        refine ⟨kvs, fld_keep (s4 _ _ Bb.obj) d1 (fun _ _ _ z => by cases z), by have := hf.len; omega, fun n => ?_⟩
        rcases d3 n with z | ⟨w, p, t, z1, z2, z3⟩
        · exact .inl z
        · exact .inr ⟨w, p, t, z1, z2, fld_keep (s4 _ _ Bb.obj) z3 (fun _ _ _ z => by cases z)⟩
      show tSeq _ _ _ _ (upd H4 a (.ins (He.ga K "Chip") dx (f4 bl pg t D)))
      revert C4 D4
      generalize upd H4 a (.ins (He.ga K "Chip") dx (f4 bl pg t D)) = H5
      intro C4 D4
      have mul := Nat.mul_le_mul b2 p2
      have mi : ((bl : Int) * (pg : Int)) = ((bl * pg : Nat) : Int) := (Int.natCast_mul _ _).symm
      refine ⟨by show 1 ≤ sizeLine; decide, fun r1 nr1 => ⟨_, rfl, _, rfl, _, _, rfl, rfl, .inl ⟨by omega, by omega⟩, r1, _, _, rfl, rfl, upd_same, by rw [mi]; omega, by rw [mi]; omega, by rw [mi, Int.toNat_natCast, sizeLine_eq]; show 1 * (bl * pg) ≤ _; omega, fun pc npc => ?_⟩⟩
      rw [mi, Int.toNat_natCast, rep_one]
      obtain ⟨C5, L5, K5, N5⟩ := C4.lst (xs := List.replicate (bl * pg) (V.str (SX.S (List.replicate 256 102)))) (fs2 := f5 bl pg t D pc) nr1 npc
      refine ⟨_, rfl, _, _, _, _, rfl, (C4.same ((Same.new nr1).trans (Same.new npc))).obj, T.cl_Chip, T.na_cells, by show 4 < 1000; decide, ?_⟩
      dsimp only
      show tSeq _ _ _ _ (upd (upd (upd H5 r1 (.lst [V.str (SX.S (List.replicate 256 102))])) pc (.lst (List.replicate (bl * pg) (V.str (SX.S (List.replicate 256 102)))))) a (.ins (He.ga K "Chip") dx (f5 bl pg t D pc)))
      revert C5 L5 K5
      generalize upd (upd (upd H5 r1 (.lst [V.str (SX.S (List.replicate 256 102))])) pc (.lst (List.replicate (bl * pg) (V.str (SX.S (List.replicate 256 102)))))) a (.ins (He.ga K "Chip") dx (f5 bl pg t D pc)) = H6
      intro C5 L5 K5
      have D5 : FaD H6 D fa := D4.ki K5
      refine ⟨by show 1 ≤ sizeLine; decide, fun r2 nr2 => ⟨_, rfl, _, rfl, _, _, rfl, rfl, .inl ⟨by omega, by omega⟩, r2, _, _, rfl, rfl, upd_same, by rw [mi]; omega, by rw [mi]; omega, by rw [mi, Int.toNat_natCast, sizeLine_eq]; show 1 * (bl * pg) ≤ _; omega, fun ps nps => ?_⟩⟩
      rw [mi, Int.toNat_natCast, rep_one]
      obtain ⟨C6, L6, K6, N6⟩ := C5.lst (xs := List.replicate (bl * pg) (V.bl false)) (fs2 := f6 bl pg t D pc ps) nr2 nps
      refine ⟨_, rfl, _, _, _, _, rfl, (C5.same ((Same.new nr2).trans (Same.new nps))).obj, T.cl_Chip, T.na_stands, by show 5 < 1000; decide, ?_⟩
      dsimp only
      show tSeq _ _ _ _ (upd (upd (upd H6 r2 (.lst [V.bl false])) ps (.lst (List.replicate (bl * pg) (V.bl false)))) a (.ins (He.ga K "Chip") dx (f6 bl pg t D pc ps)))
      revert C6 L6 K6
      generalize upd (upd (upd H6 r2 (.lst [V.bl false])) ps (.lst (List.replicate (bl * pg) (V.bl false)))) a (.ins (He.ga K "Chip") dx (f6 bl pg t D pc ps)) = H7
      intro C6 L6 K6
      have D6 : FaD H7 D fa := D5.ki K6
      have A6 := K6 _ _ L5 (fun _ _ _ z => by cases z)
      refine ⟨by show 2 ≤ sizeLine; decide, fun q0 nq0 => ?_⟩
      have S0 := Same.new (o := .tup [V.str (SX.S (List.replicate 256 102)), V.non]) nq0
      have C60 := C6.same S0
      have L60 := S0 _ _ L6
      have A60 := S0 _ _ A6
      have D60 : FaD _ D fa := D6.ext (fun b _ e => S0 b _ e) (fun b _ e => S0 b _ e)
      refine ⟨by show 1 ≤ sizeLine; decide, fun r5 nr5 => ⟨_, rfl, _, rfl, _, _, rfl, rfl, .inl ⟨by omega, by omega⟩, r5, _, _, rfl, rfl, upd_same, by rw [mi]; omega, by rw [mi]; omega, by rw [mi, Int.toNat_natCast, sizeLine_eq]; show 1 * (bl * pg) ≤ _; omega, fun pt npt => ?_⟩⟩
      rw [mi, Int.toNat_natCast, rep_one]
      revert S0 C60 L60 A60 D60 nr5 npt
      generalize upd H7 q0 (.tup [V.str (SX.S (List.replicate 256 102)), V.non]) = H70
      intro S0 C60 L60 A60 D60 nr5 npt
      obtain ⟨C6t, L6t, K6t, N6t⟩ := C60.lst (xs := List.replicate (bl * pg) (V.ref q0)) (fs2 := f6t bl pg t D pc ps pt) nr5 npt
      refine ⟨_, rfl, _, _, _, _, rfl, (C60.same ((Same.new nr5).trans (Same.new npt))).obj, T.cl_Chip, T.na_texts, by show 6 < 1000; decide, ?_⟩
      dsimp only
      show tSeq _ _ _ _ (upd (upd (upd H70 r5 (.lst [V.ref q0])) pt (.lst (List.replicate (bl * pg) (V.ref q0)))) a (.ins (He.ga K "Chip") dx (f6t bl pg t D pc ps pt)))
      revert C6t L6t K6t
      generalize upd (upd (upd H70 r5 (.lst [V.ref q0])) pt (.lst (List.replicate (bl * pg) (V.ref q0)))) a (.ins (He.ga K "Chip") dx (f6t bl pg t D pc ps pt)) = H7t
      intro C6t L6t K6t
      have D6t : FaD H7t D fa := D60.ki K6t
      have A6t := K6t _ _ A60 (fun _ _ _ z => by cases z)
      have S6t := K6t _ _ L60 (fun _ _ _ z => by cases z)
      refine ⟨by show 1 ≤ sizeLine; decide, fun r3 nr3 => ⟨_, rfl, r3, _, _, rfl, rfl, upd_same, by omega, by omega, by rw [Int.toNat_natCast, sizeLine_eq]; show 1 * bl ≤ _; omega, fun pw npw => ?_⟩⟩
      rw [Int.toNat_natCast, rep_one]
      obtain ⟨C7, L7, K7, N7⟩ := C6t.lst (xs := List.replicate bl (V.int 0)) (fs2 := f7 bl pg t D pc ps pt pw) nr3 npw
      refine ⟨_, rfl, _, _, _, _, rfl, (C6t.same ((Same.new nr3).trans (Same.new npw))).obj, T.cl_Chip, T.na_wear, by show 7 < 1000; decide, ?_⟩
      dsimp only
      show tSeq _ _ _ _ (upd (upd (upd H7t r3 (.lst [V.int 0])) pw (.lst (List.replicate bl (V.int 0)))) a (.ins (He.ga K "Chip") dx (f7 bl pg t D pc ps pt pw)))
      revert C7 L7 K7
      generalize upd (upd (upd H7t r3 (.lst [V.int 0])) pw (.lst (List.replicate bl (V.int 0)))) a (.ins (He.ga K "Chip") dx (f7 bl pg t D pc ps pt pw)) = H8
      intro C7 L7 K7
      have D7 : FaD H8 D fa := D6t.ki K7
      have A7 := K7 _ _ A6t (fun _ _ _ z => by cases z)
      have S7 := K7 _ _ S6t (fun _ _ _ z => by cases z)
      have X7 := K7 _ _ L6t (fun _ _ _ z => by cases z)
      refine ⟨by show 1 ≤ sizeLine; decide, fun r4 nr4 => ⟨_, rfl, r4, _, _, rfl, rfl, upd_same, by omega, by omega, by rw [Int.toNat_natCast, sizeLine_eq]; show 1 * bl ≤ _; omega, fun pb npb => ?_⟩⟩
      rw [Int.toNat_natCast, rep_one]
      obtain ⟨C8, L8, K8, N8⟩ := C7.lst (xs := List.replicate bl (V.bl false)) (fs2 := f8 bl pg t D pc ps pt pw pb) nr4 npb
      refine ⟨_, rfl, _, _, _, _, rfl, (C7.same ((Same.new nr4).trans (Same.new npb))).obj, T.cl_Chip, T.na_is_bad, by show 8 < 1000; decide, ?_⟩
      dsimp only
      show tSeq _ _ _ _ (upd (upd (upd H8 r4 (.lst [V.bl false])) pb (.lst (List.replicate bl (V.bl false)))) a (.ins (He.ga K "Chip") dx (f8 bl pg t D pc ps pt pw pb)))
      revert C8 L8 K8
      generalize upd (upd (upd H8 r4 (.lst [V.bl false])) pb (.lst (List.replicate bl (V.bl false)))) a (.ins (He.ga K "Chip") dx (f8 bl pg t D pc ps pt pw pb)) = H9
      intro C8 L8 K8
      have D8 : FaD H9 D fa := D7.ki K8
      have A8 := K8 _ _ A7 (fun _ _ _ z => by cases z)
      have S8 := K8 _ _ S7 (fun _ _ _ z => by cases z)
      have X8 := K8 _ _ X7 (fun _ _ _ z => by cases z)
      have W8 := K8 _ _ L7 (fun _ _ _ z => by cases z)
      refine ⟨_, rfl, _, _, _, _, rfl, C8.obj, T.cl_Chip, T.na_done, by show 9 < 1000; decide, ?_⟩
      refine ⟨_, rfl, _, _, _, _, rfl, upd_same, T.cl_Chip, T.na_cuts, by show 10 < 1000; decide, ?_⟩
      refine ⟨_, rfl, _, _, _, _, rfl, upd_same, T.cl_Chip, T.na_has_current, by show 11 < 1000; decide, ?_⟩
      have npc := (C4.nw N5).2
      have nps := (C5.nw N6).2
      have npt := (C60.nw N6t).2
      have npw := (C6t.nw N7).2
      have npb := (C7.nw N8).2
      refine k ⟨dx, t, D, pc, ps, pt, pw, pb⟩ _ (fun b o n e => by rw [upd_ne n, upd_ne n, upd_ne n]; exact C8.kp b o n e) (C4.nw N5).1 (C5.nw N6).1 (C60.nw N6t).1 (C6t.nw N7).1 (C7.nw N8).1 ?_
      have kk : ∀ b u, H9 b = some u → (∀ C dx fs, u ≠ .ins C dx fs) → ∀ o1 o2 o3, upd (upd (upd H9 a o1) a o2) a o3 b = some u := fun b u e z o1 o2 o3 => by
        have n : b ≠ a := fun y => by rw [y, C8.obj] at e; exact z _ _ _ (Option.some.inj e).symm
        rw [upd_ne n, upd_ne n, upd_ne n]
        exact e
      refine ⟨upd_same, ?_, ?_, ?_, ?_, D8.ext (fun b _ e => kk b _ e (fun _ _ _ z => by cases z) _ _ _) (fun b _ e => kk b _ e (fun _ _ _ z => by cases z) _ _ _), ne_of_none L5 N6, ne_of_none A6t N7, ne_of_none A7 N8, ne_of_none S6t N7, ne_of_none S7 N8, ne_of_none L7 N8, ⟨⟨_, by show upd _ a _ pt = _; rw [upd_ne npt, upd_ne npt, upd_ne npt]; exact X8, by rw [List.length_replicate]; omega⟩, (ne_of_none A60 N6t).symm, (ne_of_none L60 N6t).symm, ne_of_none L6t N7, ne_of_none X7 N8⟩⟩
      · show upd _ a _ pc = some (.lst ((List.replicate (bl * pg) (List.replicate 256 102)).map fun l => V.str (S l)))
        rw [upd_ne npc, upd_ne npc, upd_ne npc, List.map_replicate]
        exact A8
      · show upd _ a _ ps = some (.lst ((List.replicate (bl * pg) false).map V.bl))
        rw [upd_ne nps, upd_ne nps, upd_ne nps, List.map_replicate]
        exact S8
      · show upd _ a _ pw = some (.lst ((List.replicate bl 0).map V.int))
        rw [upd_ne npw, upd_ne npw, upd_ne npw, List.map_replicate]
        exact W8
      · show upd _ a _ pb = some (.lst ((List.replicate bl false).map V.bl))
        rw [upd_ne npb, upd_ne npb, upd_ne npb, List.map_replicate]
        exact L8
theorem ok_Chip_blocks {p0 f : Addr} {fd : FuncData} (T : Txt K w mg) (F : FDm K "blocks" "Chip.blocks" s_Chip_blocks f fd) (hm : PropOf K (He.ga K "Chip") "blocks" p0 f) : Pf P w K mg base 1 (He.ga K "Chip") "blocks" (sp_Chip_blocks K) := by
  refine pf_of F hm sc_Chip_blocks (fun vs H Q E h => ?_) (fun _ _ _ _ _ _ us hl => match us, hl with | [_], _ => rfl) (fun cdv A outer s H vs Q E hr h => ?_)
  · obtain ⟨a, L, c, rfl, _⟩ := h
    rfl
  · obtain ⟨a, L, c, rfl, hc, wf, k⟩ := h
    refine ⟨_, (pss_one (ps_ret (pe_fld (pv 0) (by rfl)))), ?_⟩
    exact ⟨_, rfl, _, _, _, _, _, rfl, hc.obj, T.cl_Chip, T.na_blocks, rfl, k⟩
theorem ok_Chip_pages {p0 f : Addr} {fd : FuncData} (T : Txt K w mg) (F : FDm K "pages" "Chip.pages" s_Chip_pages f fd) (hm : PropOf K (He.ga K "Chip") "pages" p0 f) : Pf P w K mg base 1 (He.ga K "Chip") "pages" (sp_Chip_pages K) := by
  refine pf_of F hm sc_Chip_pages (fun vs H Q E h => ?_) (fun _ _ _ _ _ _ us hl => match us, hl with | [_], _ => rfl) (fun cdv A outer s H vs Q E hr h => ?_)
  · obtain ⟨a, L, c, rfl, _⟩ := h
    rfl
  · obtain ⟨a, L, c, rfl, hc, wf, k⟩ := h
    refine ⟨_, (pss_one (ps_ret (pe_fld (pv 0) (by rfl)))), ?_⟩
    exact ⟨_, rfl, _, _, _, _, _, rfl, hc.obj, T.cl_Chip, T.na_pages, rfl, k⟩
theorem ok_Chip_wear {p0 f : Addr} {fd : FuncData} (T : Txt K w mg) (F : FDm K "wear" "Chip.wear" s_Chip_wear f fd) (hm : PropOf K (He.ga K "Chip") "wear" p0 f) : Pf P w K mg base 1 (He.ga K "Chip") "wear" (sp_Chip_wear K) := by
  refine pf_of F hm sc_Chip_wear (fun vs H Q E h => ?_) (fun _ _ _ _ _ _ us hl => match us, hl with | [_], _ => rfl) (fun cdv A outer s H vs Q E hr h => ?_)
  · obtain ⟨a, L, c, rfl, _⟩ := h
    rfl
  · obtain ⟨a, L, c, rfl, hc, wf, k⟩ := h
    refine ⟨_, (pss_one (ps_ret (pe_callTy call_tuple_of (by rfl) T.f_tuple (by decide +kernel) (pa_cons (pe_fld (pv 0) (by rfl)) pa_nil)))), ?_⟩
    refine ⟨_, rfl, _, _, _, _, _, rfl, hc.obj, T.cl_Chip, T.na_wear, rfl, _, _, rfl, .inl ⟨SqL.of hc.wear, fun p np => k p _ (Same.new np) np upd_same⟩⟩
theorem ok_Chip_bad {p0 f : Addr} {fd : FuncData} (T : Txt K w mg) (F : FDm K "bad" "Chip.bad" s_Chip_bad f fd) (hm : PropOf K (He.ga K "Chip") "bad" p0 f) : Pf P w K mg base 1 (He.ga K "Chip") "bad" (sp_Chip_bad K) := by
  refine pf_of F hm sc_Chip_bad (fun vs H Q E h => ?_) (fun _ _ _ _ _ _ us hl => match us, hl with | [_], _ => rfl) (fun cdv A outer s H vs Q E hr h => ?_)
  · obtain ⟨a, L, c, rfl, _⟩ := h
    rfl
  · obtain ⟨a, L, c, rfl, hc, wf, k⟩ := h
    refine ⟨_, (pss_one (ps_ret (pe_callTy call_tuple_of (by rfl) T.f_tuple (by decide +kernel) (pa_cons (pe_lc (own := [("block", 1)]) rfl sc_Chip_bad.nd (pi_range1 rfl T.f_range (pa_cons (pe_fld (pv 0) (by rfl)) pa_nil)) (blkOk_by (N := ["self", "block"]) (sc := defScope s_Chip_bad) (by decide +kernel)) (fun _ _ _ _ _ => (pg_name (i := 1) sc_Chip_bad.nd rfl (Or.inl rfl))) (fun _ _ _ _ _ => pts_one (pt_val (pe_ix (show IxR _ (rIxL K) from ix_list) (show PE _ _ (tFld K (tVar 0) "_is_bad") from pe_fld (pv 0) (by rfl)) (pv 1) (fun _ _ => rfl)))) (fun _ _ _ _ _ => (pv 1))) pa_nil)))), ?_⟩
    have b64 := wf.b64
    refine ⟨_, rfl, _, _, _, _, _, rfl, hc.obj, T.cl_Chip, T.na_blocks, rfl, ?_⟩
    refine ⟨_, rfl, by omega, by omega, fun D hD => lc_it walk_range (fun i H1 => Same H H1 ∧ H1 D = some (.lst ((badL c.bad i).map V.int))) ⟨Same.new hD, upd_same⟩ (fun _ _ _ _ => trivial) ?_ ?_⟩
    · rintro i x H1 H2 hi ⟨s1, s2⟩ ⟨rfl, rfl⟩
      have hb : i < c.bad.length := by rw [wf.lb]; omega
      have e : c.bad[i]? = some (c.bad.getD i false) := by rw [List.getD_eq_getElem?_getD, List.getElem?_eq_getElem hb]; rfl
      refine ⟨rfl, _, rfl, _, _, _, _, _, rfl, s1 _ _ hc.obj, T.cl_Chip, T.na_is_bad, rfl, _, rfl, _, _, (i : Int), .bl (c.bad.getD i false), rfl, by show V.int (0 + (i : Int)) = _; rw [Int.zero_add], SqL.of (s1 _ _ hc.bad), atI_nat (by rw [List.getElem?_map, e]; rfl), ?_⟩
      have z := badL_succ c.bad i
      cases hv : c.bad.getD i false with
      | true =>
        rw [hv] at z
        refine ⟨_, rfl, ?_⟩
        refine iteT ⟨_, rfl, _, s2, ?_, s1.put hD, ?_⟩
        · rw [List.length_map, badL, List.length_map]
          have := List.length_filter_le (fun k => c.bad.getD k false) (List.range i)
          rw [List.length_range] at this
          rw [sizeLine_eq]
          omega
        · rw [upd_same, z, if_pos rfl, List.map_append]
          show some (HO.lst (_ ++ [V.int (0 + (i : Int))])) = _
          rw [Int.zero_add]
          rfl
      | false =>
        rw [hv] at z
        refine ⟨_, rfl, ?_⟩
        refine iteF ⟨s1, ?_⟩
        rw [z, if_neg (by intro h; cases h)]
        exact s2
    · rintro H1 ⟨s1, s2⟩
      exact ⟨D, _, rfl, .inl ⟨SqL.of s2, fun p hp => k p _ (s1.put (s1.free hp)) (s1.free hp) upd_same⟩⟩
theorem ok_Chip_done {p0 f : Addr} {fd : FuncData} (T : Txt K w mg) (F : FDm K "done" "Chip.done" s_Chip_done f fd) (hm : PropOf K (He.ga K "Chip") "done" p0 f) : Pf P w K mg base 1 (He.ga K "Chip") "done" (sp_Chip_done K) := by
  refine pf_of F hm sc_Chip_done (fun vs H Q E h => ?_) (fun _ _ _ _ _ _ us hl => match us, hl with | [_], _ => rfl) (fun cdv A outer s H vs Q E hr h => ?_)
  · obtain ⟨a, L, c, rfl, _⟩ := h
    rfl
  · obtain ⟨a, L, c, rfl, hc, wf, k⟩ := h
    refine ⟨_, (pss_one (ps_ret (pe_fld (pv 0) (by rfl)))), ?_⟩
    exact ⟨_, rfl, _, _, _, _, _, rfl, hc.obj, T.cl_Chip, T.na_done, rfl, k⟩
theorem ok_Chip_cuts {p0 f : Addr} {fd : FuncData} (T : Txt K w mg) (F : FDm K "cuts" "Chip.cuts" s_Chip_cuts f fd) (hm : PropOf K (He.ga K "Chip") "cuts" p0 f) : Pf P w K mg base 1 (He.ga K "Chip") "cuts" (sp_Chip_cuts K) := by
  refine pf_of F hm sc_Chip_cuts (fun vs H Q E h => ?_) (fun _ _ _ _ _ _ us hl => match us, hl with | [_], _ => rfl) (fun cdv A outer s H vs Q E hr h => ?_)
  · obtain ⟨a, L, c, rfl, _⟩ := h
    rfl
  · obtain ⟨a, L, c, rfl, hc, wf, k⟩ := h
    refine ⟨_, (pss_one (ps_ret (pe_fld (pv 0) (by rfl)))), ?_⟩
    exact ⟨_, rfl, _, _, _, _, _, rfl, hc.obj, T.cl_Chip, T.na_cuts, rfl, k⟩
theorem ok_Chip_is_on {p0 f : Addr} {fd : FuncData} (T : Txt K w mg) (F : FDm K "is_on" "Chip.is_on" s_Chip_is_on f fd) (hm : PropOf K (He.ga K "Chip") "is_on" p0 f) : Pf P w K mg base 1 (He.ga K "Chip") "is_on" (sp_Chip_is_on K) := by
  refine pf_of F hm sc_Chip_is_on (fun vs H Q E h => ?_) (fun _ _ _ _ _ _ us hl => match us, hl with | [_], _ => rfl) (fun cdv A outer s H vs Q E hr h => ?_)
  · obtain ⟨a, L, c, rfl, _⟩ := h
    rfl
  · obtain ⟨a, L, c, rfl, hc, wf, k⟩ := h
    refine ⟨_, (pss_one (ps_ret (pe_fld (pv 0) (by rfl)))), ?_⟩
    exact ⟨_, rfl, _, _, _, _, _, rfl, hc.obj, T.cl_Chip, T.na_has_current, rfl, k⟩
theorem ok_Chip_read {f : Addr} {fd : FuncData} (T : Txt K w mg) (F : FDm K "read" "Chip.read" s_Chip_read f fd) (hm : Meth K (He.ga K "Chip") "read" f) (c_Chip__check_place : Mf CX0 P w K mg base 3 (He.ga K "Chip") "_check_place" ["self", "place"] (sp_Chip__check_place K)) : Mf CX0 P w K mg base 4 (He.ga K "Chip") "read" ["self", "place"] (sp_Chip_read K) ∧ Mfk CX0 P w K mg base 4 (He.ga K "Chip") "read" ["self", "place"] ["place"] [0, 1] (sp_Chip_read K) := by
  refine mfk_of0 ["place"] [0, 1] F hm sc_Chip_read (fun vs H Q E h => ?_) (fun _ _ _ _ _ _ us hl => match us, hl with | [_, _], _ => rfl) (fun _ _ _ _ _ _ us ws h1 h2 => match us, ws, h1, h2 with | [_], [_], _, _ => rfl) (fun cdv A outer s H vs Q E hr h => ?_)
  · obtain ⟨a, L, c, n, l, rfl, _⟩ := h
    rfl
  · obtain ⟨a, L, c, n, l, rfl, hc, wf, hl, k⟩ := h
    refine ⟨_, (pss_cons (ps_expr (pe_m c_Chip__check_place (pv 0) T.cl_Chip hr (by decide) (pa_cons (pv 1) pa_nil)))
      (pss_one (ps_ret (pe_ix (show IxR _ (rIxL K) from ix_list) (pe_fld (pv 0) (by rfl)) (pv 1) (fun _ _ => rfl))))), ?_⟩
    refine ⟨_, rfl, a, _, _, rfl, hc.obj, rfl, _, rfl, a, L, c, n, rfl, hc, wf, cell_lt wf hl, ?_⟩
    refine ⟨_, rfl, _, _, _, _, _, rfl, hc.obj, T.cl_Chip, T.na_cells, rfl, _, rfl, ?_⟩
    exact ⟨_, _, _, _, rfl, rfl, SqL.of hc.cells, cell_at hl, k⟩
theorem ok_Chip_write {f : Addr} {fd : FuncData} (T : Txt K w mg) (F : FDm K "write" "Chip.write" s_Chip_write f fd) (hm : Meth K (He.ga K "Chip") "write" f) (c_Chip__check_place : Mf CX0 P w K mg base 3 (He.ga K "Chip") "_check_place" ["self", "place"] (sp_Chip__check_place K)) (c_Chip__next_deed : Mf (CXr P w) P w K mg base 3 (He.ga K "Chip") "_next_deed" ["self"] (sp_Chip__next_deed K)) (c_Chip__deed_told : Mf (CXr P w) P w K mg base 3 (He.ga K "Chip") "_deed_told" ["self", "block", "word"] (sp_Chip__deed_told K)) (c_is_page : Cf CX0 P w K mg base 3 "is_page" ["value"] sp_is_page) (c_torn : Cf CX0 P w K mg base 1 "torn" ["cells", "pattern"] sp_torn) : Mf (CXr P w) P w K mg base 4 (He.ga K "Chip") "write" ["self", "place", "cells"] (sp_Chip_write K) := by
  refine mf_of F hm sc_Chip_write (fun vs H Q E h => ?_) (fun _ _ _ _ _ _ us hl => match us, hl with | [_, _, _], _ => rfl) (fun cdv A outer s H vs Q E hr h => ?_)
  · obtain ⟨a, L, c, n, l, rfl, _⟩ := h
    rfl
  · obtain ⟨a, L, c, n, l, rfl, hc, wf, hn, hl, hlc, k0, k1, k2⟩ := h
    refine ⟨_, (pss_cons (ps_expr (pe_m c_Chip__check_place (pv 0) T.cl_Chip hr (by decide) (pa_cons (pv 1) pa_nil)))
      (pss_cons (ps_if (pt_not (pt_val (pe_f c_is_page hr (by decide) rfl (pa_cons (pv 2) pa_nil)))) (pss_one ps_never) pss_nil)
      (pss_cons (ps_if (pt_cmpR op_ne (pe_ix (show IxR _ (rIxL K) from ix_list) (pe_fld (pv 0) (by rfl)) (pv 1) (fun _ _ => rfl)) (C8.pe_gc rfl T.g_EMPTY_PAGE) (nomark _)) (pss_one ps_never) pss_nil)
      (pss_cons (ps_asg (pe_mR0 c_Chip__next_deed (pv 0) T.cl_Chip hr (by decide) (takes_of rfl rfl rfl rfl)) (pg_tup rfl (pgs_cons (pg_name (i := 3) sc_Chip_write.nd rfl (Or.inl rfl)) (pgs_cons (pg_name (i := 4) sc_Chip_write.nd rfl (Or.inl rfl)) pgs_nil))))
      (pss_cons (ps_set (i := 5) sc_Chip_write.nd rfl (Or.inl rfl) (pe_op op_fdiv (pv 1) (pe_fld (pv 0) (by rfl))))
      (pss_cons (ps_if (pt_not (pt_val (pe_ix (show IxR _ (rIxL K) from ix_list) (pe_fld (pv 0) (by rfl)) (pv 5) (fun _ _ => rfl)))) (pss_cons (ps_asg (pe_cmpR op_eq (pv 3) (C8.pe_gc rfl T.g_NO_FAULT) (nomark _)) (pg_sub (pe_fld (pv 0) (by rfl)) (pv 1) set_list))
      (pss_one (ps_asg (pe_ifExp (pt_cmpR op_eq (pv 3) (C8.pe_gc rfl T.g_NO_FAULT) (nomark _)) (pv 2) (pe_f c_torn hr (by decide) rfl (pa_cons (pv 2) (pa_cons (pv 4) pa_nil)))) (pg_sub (pe_fld (pv 0) (by rfl)) (pv 1) set_list)))) pss_nil)
      (pss_one (ps_ret (pe_mR c_Chip__deed_told (pv 0) T.cl_Chip hr (by decide) (takes_of rfl rfl rfl rfl) (pa_cons (pv 5) (pa_cons (pv 3) pa_nil))))))))))), ?_⟩
    refine ⟨_, rfl, a, _, _, rfl, hc.obj, rfl, _, rfl, a, L, c, n, rfl, hc, wf, cell_lt wf hn, ?_⟩
    refine ⟨_, rfl, l, rfl, by omega, fun H1 S1 => ⟨_, rfl, ?_⟩⟩
    rw [decide_eq_true (show l.length = 256 ∧ WM.Cells l from ⟨hl, hlc⟩)]
    refine iteF ?_
    have hc1 := hc.same S1
    refine ⟨_, rfl, _, _, _, _, _, rfl, hc1.obj, T.cl_Chip, T.na_cells, rfl, _, rfl, _, _, _, _, rfl, rfl, SqL.of hc1.cells, cell_at hn, rfl, _, rfl, ?_⟩
    rw [decide_eq_true (show V.str (S (List.replicate 256 102)) = V.str (SX.S (List.replicate 256 102)) from rfl)]
    refine iteF ?_
    refine ⟨_, rfl, a, _, _, rfl, hc1.obj, rfl, a, L, c, rfl, hc1, wf, fun off p H2 S2 hp => k0 off p H2 (S1.trans S2) hp, fun on t H2 B2 hc2 ht => ⟨t, _, rfl, SqT.of ht, rfl, _, _, rfl, _, _, rfl, rfl, ?_⟩⟩
    have wf2 : Wf { c with done := c.done + 1 } := ⟨wf.b4, wf.b64, wf.p4, wf.p16, wf.lc, wf.ls, wf.lw, wf.lb, wf.page, wf.fa⟩
    have hnb : n < c.bl * c.pg := cell_lt wf hn
    have hb : n / c.pg < c.bl := Nat.div_lt_of_lt_mul (by rw [Nat.mul_comm]; exact hnb)
    have p4 := wf.p4
    have p16 := wf.p16
    refine ⟨_, rfl, _, rfl, _, _, _, _, _, rfl, hc2.obj, T.cl_Chip, T.na_pages, rfl, _, _, rfl, rfl, ⟨by show (0 : Int) < (c.pg : Int); omega, by show (c.pg : Int) < 1073741824; omega⟩, ?_⟩
    have hbb : n / c.pg < c.bad.length := by rw [wf.lb]; exact hb
    have eb : c.bad[n / c.pg]? = some (c.bad.getD (n / c.pg) false) := by rw [List.getD_eq_getElem?_getD, List.getElem?_eq_getElem hbb]; rfl
    refine ⟨_, rfl, _, _, _, _, _, rfl, hc2.obj, T.cl_Chip, T.na_is_bad, rfl, _, rfl, _, _, ((n / c.pg : Nat) : Int), .bl (c.bad.getD (n / c.pg) false), rfl, rfl, SqL.of hc2.bad, atI_nat (by show (c.bad.map V.bl)[n / c.pg]? = _; rw [List.getElem?_map, eb]; rfl), _, rfl, ?_⟩
    have B2' : ButC a L H H2 := (ButC.of S1).trans B2
    cases hv : c.bad.getD (n / c.pg) false with
    | true =>
      refine iteF ?_
      have z : written c n l = deedTold { c with done := c.done + 1 } (n / c.pg) (deed c).1 := by unfold written; dsimp only; rw [if_pos hv]
      rw [z] at k1 k2
      refine ⟨_, rfl, a, _, _, rfl, hc2.obj, rfl, _, rfl, _, rfl, told_end hc2 wf2 hb (fun e p H3 B3 C3 hp => k1 on e p H3 (B2'.trans B3) C3 hp) (fun x e H3 B3 C3 => k2 on x e H3 (B2'.trans B3) C3)⟩
    | false =>
      refine iteT ?_
      have hns : n < c.stands.length := by rw [wf.ls]; exact hnb
      have hnc : n < c.cells.length := by rw [wf.lc]; exact hnb
      refine ⟨_, rfl, rfl, _, rfl, _, _, _, _, _, rfl, hc2.obj, T.cl_Chip, T.na_stands, rfl, _, rfl, _, _, _, n, rfl, rfl, hc2.stands, ixN_to (by rw [List.length_map]; exact hns), ?_⟩
      have q3 := hc2.putStands (n := n) (b := decide ((deed c).1 = Str.ofString "")) (xs := (c.stands.map V.bl).set n (.bl (decide (V.str (deed c).1 = V.str (SX.S []))))) (by rw [List.map_set, word_dec])
      have B3 : ButC a L H2 (upd H2 L.ps (.lst ((c.stands.map V.bl).set n (.bl (decide (V.str (deed c).1 = V.str (SX.S []))))))) := ButC.stands
      dsimp only
      revert q3 B3
      generalize upd H2 L.ps (.lst ((c.stands.map V.bl).set n (.bl (decide (V.str (deed c).1 = V.str (SX.S [])))))) = H3
      intro q3 B3
      refine ⟨_, rfl, rfl, _, rfl, ?_⟩
      by_cases e : (deed c).1 = Str.ofString ""
      · rw [e, decide_eq_true (show V.str (Str.ofString "") = V.str (SX.S []) by rw [ofs_nil])]
        rw [decide_eq_true e] at q3
        refine iteT ⟨_, rfl, _, rfl, _, _, _, _, _, rfl, q3.obj, T.cl_Chip, T.na_cells, rfl, _, rfl, _, _, _, n, rfl, rfl, q3.cells, ixN_to (by rw [List.length_map]; exact hnc), ?_⟩
        have q4 := q3.putCells (n := n) (b := l) List.map_set
        have B4 : ButC a L H3 (upd H3 L.pc (.lst ((c.cells.map fun l => V.str (S l)).set n (.str (S l))))) := ButC.cells
        have wf4 := wf2.put (n := n) (b := true) ⟨hl, hlc⟩
        have z : written c n l = deedTold (put { c with done := c.done + 1 } n l true) (n / c.pg) (deed c).1 := by unfold written; dsimp only; rw [if_neg (by rw [hv]; intro q; cases q), if_pos e, decide_eq_true e]
        rw [z] at k1 k2
        dsimp only
        revert q4 B4
        generalize upd H3 L.pc (.lst ((c.cells.map fun l => V.str (S l)).set n (.str (S l)))) = H4
        intro q4 B4
        rw [e] at k1 k2
        have BB := (B2'.trans B3).trans B4
        exact ⟨_, rfl, a, _, _, rfl, q4.obj, rfl, _, rfl, _, rfl, told_end q4 wf4 hb (fun e p H5 B5 C5 hp => k1 on e p H5 (BB.trans B5) C5 hp) (fun x e H5 B5 C5 => k2 on x e H5 (BB.trans B5) C5)⟩
      · rw [decide_eq_false (show ¬ V.str (deed c).1 = V.str (SX.S []) from fun q => e (by rw [ofs_nil]; exact V.str.inj q))]
        rw [decide_eq_false e] at q3
        obtain ⟨d1, d2, d3, _⟩ := deed_pat wf e
        refine iteF ⟨_, rfl, _, rfl, l, (deed c).2, rfl, hl, d2, d3, fun H4 S4 => ?_⟩
        have q4 := q3.same S4
        refine ⟨_, rfl, _, _, _, _, _, rfl, q4.obj, T.cl_Chip, T.na_cells, rfl, _, rfl, _, _, _, n, rfl, rfl, q4.cells, ixN_to (by rw [List.length_map]; exact hnc), ?_⟩
        have q5 := q4.putCells (n := n) (b := tornL l (deed c).2) List.map_set
        have B5 : ButC a L H4 (upd H4 L.pc (.lst ((c.cells.map fun l => V.str (S l)).set n (.str (S (tornL l (deed c).2)))))) := ButC.cells
        have wf5 := wf2.put (n := n) (b := false) (torn_page hl hlc d1 d2)
        have z : written c n l = deedTold (put { c with done := c.done + 1 } n (tornL l (deed c).2) false) (n / c.pg) (deed c).1 := by unfold written; dsimp only; rw [if_neg (by rw [hv]; intro q; cases q), if_neg e, decide_eq_false e]
        rw [z] at k1 k2
        dsimp only
        revert q5 B5
        generalize upd H4 L.pc (.lst ((c.cells.map fun l => V.str (S l)).set n (.str (S (tornL l (deed c).2))))) = H5
        intro q5 B5
        have BB := (((B2'.trans B3).trans (ButC.of S4))).trans B5
        exact ⟨_, rfl, a, _, _, rfl, q5.obj, rfl, _, rfl, _, rfl, told_end q5 wf5 hb (fun e p H6 B6 C6 hp => k1 on e p H6 (BB.trans B6) C6 hp) (fun x e H6 B6 C6 => k2 on x e H6 (BB.trans B6) C6)⟩
theorem ok_Chip_erase {f : Addr} {fd : FuncData} (T : Txt K w mg) (F : FDm K "erase" "Chip.erase" s_Chip_erase f fd) (hm : Meth K (He.ga K "Chip") "erase" f) (c_Chip__next_deed : Mf (CXr P w) P w K mg base 3 (He.ga K "Chip") "_next_deed" ["self"] (sp_Chip__next_deed K)) (c_Chip__deed_told : Mf (CXr P w) P w K mg base 3 (He.ga K "Chip") "_deed_told" ["self", "block", "word"] (sp_Chip__deed_told K)) (c_is_between : Cf CX0 P w K mg base 2 "is_between" ["value", "low", "high"] sp_is_between) (c_torn : Cf CX0 P w K mg base 1 "torn" ["cells", "pattern"] sp_torn) : Mf (CXr P w) P w K mg base 4 (He.ga K "Chip") "erase" ["self", "block"] (sp_Chip_erase K) := by
  refine mf_of F hm sc_Chip_erase (fun vs H Q E h => ?_) (fun _ _ _ _ _ _ us hl => match us, hl with | [_, _], _ => rfl) (fun cdv A outer s H vs Q E hr h => ?_)
  · obtain ⟨a, L, c, n, rfl, _⟩ := h
    rfl
  · obtain ⟨a, L, c, n, rfl, hc, wf, hn, k0, k1, k2⟩ := h
    refine ⟨_, (pss_cons (ps_if (pt_not (pt_val (pe_f c_is_between hr (by decide) rfl (pa_cons (pv 1) (pa_cons pe_int (pa_cons (pe_op op_sub (pe_fld (pv 0) (by rfl)) pe_int) pa_nil)))))) (pss_one ps_never) pss_nil)
      (pss_cons (ps_asg (pe_mR0 c_Chip__next_deed (pv 0) T.cl_Chip hr (by decide) (takes_of rfl rfl rfl rfl)) (pg_tup rfl (pgs_cons (pg_name (i := 2) sc_Chip_erase.nd rfl (Or.inl rfl)) (pgs_cons (pg_name (i := 3) sc_Chip_erase.nd rfl (Or.inl rfl)) pgs_nil))))
      (pss_cons (ps_if (pt_not (pt_val (pe_ix (show IxR _ (rIxL K) from ix_list) (pe_fld (pv 0) (by rfl)) (pv 1) (fun _ _ => rfl)))) (pss_cons (ps_augS (pe_fld (pv 0) (by rfl)) (pv 1) get_list pe_int ip_add set_list)
      (pss_one (ps_for (passes_of rfl) rfl (pi_range2 rfl T.f_range (pa_cons (pe_op op_mul (pv 1) (pe_fld (pv 0) (by rfl))) (pa_cons (pe_op op_mul (pe_op op_add (pv 1) pe_int) (pe_fld (pv 0) (by rfl))) pa_nil))) (pg_name (i := 4) sc_Chip_erase.nd rfl (Or.inl rfl))
        (pss_cons (ps_asg pe_bl (pg_sub (pe_fld (pv 0) (by rfl)) (pv 4) set_list))
      (pss_one (ps_asg (pe_ifExp (pt_cmpR op_eq (pv 2) (C8.pe_gc rfl T.g_NO_FAULT) (nomark _)) (C8.pe_gc rfl T.g_EMPTY_PAGE) (pe_f c_torn hr (by decide) rfl (pa_cons (pe_ix (show IxR _ (rIxL K) from ix_list) (pe_fld (pv 0) (by rfl)) (pv 4) (fun _ _ => rfl)) (pa_cons (pv 3) pa_nil)))) (pg_sub (pe_fld (pv 0) (by rfl)) (pv 4) set_list))))))) pss_nil)
      (pss_one (ps_ret (pe_mR c_Chip__deed_told (pv 0) T.cl_Chip hr (by decide) (takes_of rfl rfl rfl rfl) (pa_cons (pv 1) (pa_cons (pv 2) pa_nil)))))))), ?_⟩
    have b64 := wf.b64
    refine ⟨_, rfl, _, rfl, _, _, _, _, _, rfl, hc.obj, T.cl_Chip, T.na_blocks, rfl, _, _, rfl, rfl, _, _, _, rfl, _, rfl, ?_⟩
    rw [decide_eq_true (show (0 : Int) ≤ (n : Int) ∧ (n : Int) ≤ (c.bl : Int) - 1 by omega)]
    refine iteF ?_
    refine ⟨_, rfl, a, _, _, rfl, hc.obj, rfl, a, L, c, rfl, hc, wf, fun off p H2 S2 hp => k0 off p H2 S2 hp, fun on t H2 B2 hc2 ht => ⟨t, _, rfl, SqT.of ht, rfl, _, _, rfl, _, _, rfl, rfl, ?_⟩⟩
    have wf2 : Wf { c with done := c.done + 1 } := ⟨wf.b4, wf.b64, wf.p4, wf.p16, wf.lc, wf.ls, wf.lw, wf.lb, wf.page, wf.fa⟩
    have hbb : n < c.bad.length := by rw [wf.lb]; exact hn
    have eb : c.bad[n]? = some (c.bad.getD n false) := by rw [List.getD_eq_getElem?_getD, List.getElem?_eq_getElem hbb]; rfl
    refine ⟨_, rfl, _, _, _, _, _, rfl, hc2.obj, T.cl_Chip, T.na_is_bad, rfl, _, rfl, _, _, (n : Int), .bl (c.bad.getD n false), rfl, rfl, SqL.of hc2.bad, atI_nat (by show (c.bad.map V.bl)[n]? = _; rw [List.getElem?_map, eb]; rfl), _, rfl, ?_⟩
    cases hv : c.bad.getD n false with
    | true =>
      refine iteF ?_
      have z : erased c n = deedTold { c with done := c.done + 1 } n (deed c).1 := by unfold erased; dsimp only; rw [if_pos hv]
      rw [z] at k1 k2
      refine ⟨_, rfl, a, _, _, rfl, hc2.obj, rfl, _, rfl, _, rfl, told_end hc2 wf2 hn (fun e p H3 B3 C3 hp => k1 on e p H3 (B2.trans B3) C3 hp) (fun x e H3 B3 C3 => k2 on x e H3 (B2.trans B3) C3)⟩
    | false =>
      refine iteT ?_
      have hnw : n < c.wear.length := by rw [wf.lw]; exact hn
      have ew : c.wear[n]? = some (c.wear.getD n 0) := by rw [List.getD_eq_getElem?_getD, List.getElem?_eq_getElem hnw]; rfl
      refine ⟨_, rfl, _, _, _, _, _, rfl, hc2.obj, T.cl_Chip, T.na_wear, rfl, _, rfl, _, _, (n : Int), .int (c.wear.getD n 0), rfl, rfl, by omega, SqL.of hc2.wear, atI_nat (by show (c.wear.map V.int)[n]? = _; rw [List.getElem?_map, ew]; rfl), _, _, rfl, rfl, _, _, _, n, rfl, rfl, hc2.wear, ixN_to (by rw [List.length_map]; exact hnw), ?_⟩
      have q3 := hc2.putWear (n := n) (b := c.wear.getD n 0 + 1) List.map_set
      have B3 : ButC a L H2 (upd H2 L.pw (.lst ((c.wear.map V.int).set n (.int (c.wear.getD n 0 + 1))))) := ButC.wear
      have wf3 : Wf { c with done := c.done + 1, wear := c.wear.set n (c.wear.getD n 0 + 1) } := ⟨wf.b4, wf.b64, wf.p4, wf.p16, wf.lc, wf.ls, by show (c.wear.set n _).length = _; rw [List.length_set]; exact wf.lw, wf.lb, wf.page, wf.fa⟩
      dsimp only
      revert q3 B3
      generalize upd H2 L.pw (.lst ((c.wear.map V.int).set n (.int (c.wear.getD n 0 + 1)))) = H3
      intro q3 B3
      have z : erased c n = deedTold (wiped { c with done := c.done + 1, wear := c.wear.set n (c.wear.getD n 0 + 1) } n (deed c).1 (deed c).2 c.pg) n (deed c).1 := by unfold erased; dsimp only; rw [if_neg (by rw [hv]; intro q; cases q)]
      rw [z] at k1 k2
      revert q3 wf3 k1 k2
      have hpg : ({ c with done := c.done + 1, wear := c.wear.set n (c.wear.getD n 0 + 1) } : CS).pg = c.pg := rfl
      have hbl : ({ c with done := c.done + 1, wear := c.wear.set n (c.wear.getD n 0 + 1) } : CS).bl = c.bl := rfl
      generalize ({ c with done := c.done + 1, wear := c.wear.set n (c.wear.getD n 0 + 1) } : CS) = c3 at hpg hbl ⊢
      intro k1 k2 wf3 q3
      rw [← hpg] at k1 k2
      have hn3 : n < c3.bl := by rw [hbl]; exact hn
      have dp : (deed c).1 ≠ Str.ofString "" → WM.Cells (deed c).2 ∧ 1 ≤ (deed c).2.length := fun e => ⟨(deed_pat wf e).1, (deed_pat wf e).2.1⟩
      have ww := fun i hi => wiped_wf (w := (deed c).1) (p := (deed c).2) wf3 hn3 dp i hi
      have p4 := wf3.p4
      have p16 := wf3.p16
      have et : (((n : Int) + 1) * (c3.pg : Int) - (n : Int) * (c3.pg : Int)).toNat = c3.pg := by
        rw [Int.add_mul, Int.one_mul]
        omega
      have m1 : (n : Int) * (c3.pg : Int) = ((n * c3.pg : Nat) : Int) := (Int.natCast_mul _ _).symm
      have m2 : ((n : Int) + 1) * (c3.pg : Int) = (((n + 1) * c3.pg : Nat) : Int) := (Int.natCast_mul (n + 1) _).symm
      have l1 : n * c3.pg ≤ 64 * 16 := Nat.mul_le_mul (by omega) p16
      have l2 : (n + 1) * c3.pg ≤ 65 * 16 := Nat.mul_le_mul (by omega) p16
      have l3 : (n + 1) * c3.pg ≤ c3.bl * c3.pg := Nat.mul_le_mul_right _ hn3
      have l4 : (n + 1) * c3.pg = n * c3.pg + c3.pg := Nat.succ_mul _ _
      refine ⟨_, rfl, _, rfl, _, _, _, _, _, rfl, q3.obj, T.cl_Chip, T.na_pages, rfl, _, _, rfl, rfl, .inl ⟨by omega, by omega⟩, _, rfl, _, _, rfl, rfl, _, rfl, _, _, _, _, _, rfl, q3.obj, T.cl_Chip, T.na_pages, rfl, _, _, rfl, rfl, .inl ⟨by omega, by omega⟩, _, _, rfl, ⟨by rw [m1]; omega, by rw [m1]; omega, by rw [m2]; omega, by rw [m2]; omega⟩, ?_⟩
      refine for_it walk_range (fun i σ H' => ButC a L H3 H' ∧ ChipAt K H' a L (wiped c3 n (deed c).1 (deed c).2 i) ∧ ∃ x, σ = [some (.ref a), some (.int (n : Int)), some (.str (deed c).1), some (.str (S (deed c).2)), x]) ⟨ButC.refl _, q3, _, rfl⟩ (fun _ _ _ _ _ => trivial) (fun i x σ H4 H4' hi hq hy => ?_) (fun σ H4 hq => ?_)
      · obtain ⟨B4, q4, y, rfl⟩ := hq
        obtain ⟨rfl, rfl⟩ := hy
        rw [et] at hi
        obtain ⟨wf4, g1, g2⟩ := ww i (by omega)
        have ep : (n : Int) * (c3.pg : Int) + (i : Int) = ((n * c3.pg + i : Nat) : Int) := by rw [m1]; rfl
        have hpl : n * c3.pg + i < (wiped c3 n (deed c).1 (deed c).2 i).bl * (wiped c3 n (deed c).1 (deed c).2 i).pg := by rw [g1, g2]; omega
        have eW : wiped c3 n (deed c).1 (deed c).2 (i + 1) = put (wiped c3 n (deed c).1 (deed c).2 i) (n * c3.pg + i) (if (deed c).1 = Str.ofString "" then List.replicate 256 102 else tornL ((wiped c3 n (deed c).1 (deed c).2 i).cells.getD (n * c3.pg + i) []) (deed c).2) false := rfl
        rw [eW]
        revert wf4 q4 hpl g1 g2
        clear eW
        generalize wiped c3 n (deed c).1 (deed c).2 i = c4
        intro q4 wf4 g1 g2 hpl
        rw [gname_eq]
        have hns : n * c3.pg + i < c4.stands.length := by rw [wf4.ls]; exact hpl
        have hnc : n * c3.pg + i < c4.cells.length := by rw [wf4.lc]; exact hpl
        refine ⟨_, rfl, _, _, _, _, _, rfl, q4.obj, T.cl_Chip, T.na_stands, rfl, _, rfl, _, _, _, n * c3.pg + i, rfl, rfl, q4.stands, by rw [ep]; exact ixN_to (by rw [List.length_map]; exact hns), ?_⟩
        have q5 := q4.putStands (n := n * c3.pg + i) (b := false) List.map_set
        have B5 : ButC a L H4' (upd H4' L.ps (.lst ((c4.stands.map V.bl).set (n * c3.pg + i) (.bl false)))) := ButC.stands
        dsimp only
        revert q5 B5
        generalize upd H4' L.ps (.lst ((c4.stands.map V.bl).set (n * c3.pg + i) (.bl false))) = H5
        intro q5 B5
        refine ⟨_, rfl, rfl, _, rfl, ?_⟩
        by_cases e : (deed c).1 = Str.ofString ""
        · rw [if_pos e]
          rw [decide_eq_true (show V.str (deed c).1 = V.str (SX.S []) by rw [e, ofs_nil])]
          refine iteT ⟨_, rfl, _, _, _, _, _, rfl, q5.obj, T.cl_Chip, T.na_cells, rfl, _, rfl, _, _, _, n * c3.pg + i, rfl, rfl, q5.cells, by rw [ep]; exact ixN_to (by rw [List.length_map]; exact hnc), ?_⟩
          exact ⟨(B4.trans B5).trans ButC.cells, q5.putCells (n := n * c3.pg + i) (b := List.replicate 256 102) List.map_set, _, rfl⟩
        · rw [if_neg e]
          rw [decide_eq_false (show ¬ V.str (deed c).1 = V.str (SX.S []) from fun q => e (by rw [ofs_nil]; exact V.str.inj q))]
          obtain ⟨d1, d2, d3, _⟩ := deed_pat wf e
          have hx : c4.cells[n * c3.pg + i]? = some (c4.cells.getD (n * c3.pg + i) []) := by rw [List.getD_eq_getElem?_getD, List.getElem?_eq_getElem hnc]; rfl
          have hxl := (wf4.page _ (List.mem_of_getElem? hx)).1
          refine iteF ⟨_, rfl, _, _, _, _, _, rfl, q5.obj, T.cl_Chip, T.na_cells, rfl, _, rfl, _, _, _, .str (S (c4.cells.getD (n * c3.pg + i) [])), rfl, rfl, SqL.of q5.cells, by rw [ep]; exact cell_at (c := c4) hx, _, rfl, _, (deed c).2, rfl, hxl, d2, d3, fun H6 S6 => ?_⟩
          have q6 := q5.same S6
          refine ⟨_, rfl, _, _, _, _, _, rfl, q6.obj, T.cl_Chip, T.na_cells, rfl, _, rfl, _, _, _, n * c3.pg + i, rfl, rfl, q6.cells, by rw [ep]; exact ixN_to (by rw [List.length_map]; exact hnc), ?_⟩
          exact ⟨((B4.trans B5).trans (ButC.of S6)).trans ButC.cells, q6.putCells (n := n * c3.pg + i) (b := tornL (c4.cells.getD (n * c3.pg + i) []) (deed c).2) List.map_set, _, rfl⟩
      · obtain ⟨B4, q4, y, rfl⟩ := hq
        rw [et] at q4
        obtain ⟨wf4, g1, g2⟩ := ww c3.pg (Nat.le_refl _)
        have BB := (B2.trans B3).trans B4
        exact ⟨_, rfl, a, _, _, rfl, q4.obj, rfl, _, rfl, _, rfl, told_end q4 wf4 (by rw [g2]; exact hn3) (fun e p H5 B5 C5 hp => k1 on e p H5 (BB.trans B5) C5 hp) (fun x e H5 B5 C5 => k2 on x e H5 (BB.trans B5) C5)⟩
theorem ok_Chip_again {f : Addr} {fd : FuncData} (T : Txt K w mg) (F : FDm K "again" "Chip.again" s_Chip_again f fd) (hm : Meth K (He.ga K "Chip") "again" f) : Mf CX0 P w K mg base 1 (He.ga K "Chip") "again" ["self"] (sp_Chip_again K) := by
  refine mf_of0 F hm sc_Chip_again (fun vs H Q E h => ?_) (fun _ _ _ _ _ _ us hl => match us, hl with | [_], _ => rfl) (fun cdv A outer s H vs Q E hr h => ?_)
  · obtain ⟨a, L, c, rfl, _⟩ := h
    rfl
  · obtain ⟨a, L, c, rfl, hc, k⟩ := h
    refine ⟨_, (pss_one (ps_fld (pv 0) pe_bl (by rfl))), ?_⟩
    refine ⟨_, rfl, _, _, _, _, rfl, hc.obj, T.cl_Chip, T.na_has_current, by show 12 < 1000; decide, ?_⟩
    exact k _ ButC.obj (hc.fld rfl rfl rfl rfl rfl rfl)
theorem ok_Chip_fade {f : Addr} {fd : FuncData} (T : Txt K w mg) (F : FDm K "fade" "Chip.fade" s_Chip_fade f fd) (hm : Meth K (He.ga K "Chip") "fade" f) (c_Chip__check_place : Mf CX0 P w K mg base 3 (He.ga K "Chip") "_check_place" ["self", "place"] (sp_Chip__check_place K)) (c_Chip__may_fall : Mf CX0 P w K mg base 4 (He.ga K "Chip") "_may_fall" ["self", "place", "cell", "sign"] (sp_Chip__may_fall K)) (x_BadFade : ExT P w K mg base "BadFade" (He.ga K "BadFade")) : Mf (CXr P w) P w K mg base 5 (He.ga K "Chip") "fade" ["self", "place", "cell", "sign"] (sp_Chip_fade K) := by
  refine mf_of F hm sc_Chip_fade (fun vs H Q E h => ?_) (fun _ _ _ _ _ _ us hl => match us, hl with | [_, _, _, _], _ => rfl) (fun cdv A outer s H vs Q E hr h => ?_)
  · obtain ⟨a, L, c, n, j, l, g, rfl, _⟩ := h
    rfl
  · obtain ⟨a, L, c, n, j, l, g, rfl, hc, wf, hl, hj, hg, hgc, k0, k1⟩ := h
    refine ⟨_, (pss_cons (ps_expr (pe_m c_Chip__check_place (pv 0) T.cl_Chip hr (by decide) (pa_cons (pv 1) pa_nil)))
      (pss_cons (ps_if (pt_not (pt_val (pe_m c_Chip__may_fall (pv 0) T.cl_Chip hr (by decide) (pa_cons (pv 1) (pa_cons (pv 2) (pa_cons (pv 3) pa_nil)))))) (pss_one (ps_rz x_BadFade (hr.mono (by decide)) rfl (takes_of rfl rfl rfl rfl) rfl (pa_cons (pe_tup (pa_cons (pv 2) (pa_cons (pv 3) pa_nil))) pa_nil))) pss_nil)
      (pss_cons (ps_set (i := 4) sc_Chip_fade.nd rfl (Or.inl rfl) (pe_ix (show IxR _ (rIxL K) from ix_list) (pe_fld (pv 0) (by rfl)) (pv 1) (fun _ _ => rfl)))
      (pss_cons (ps_asg (pe_op op_add_str (pe_op op_add_str (pe_slice sl_str (pv 4) po_none (po_some (pv 2))) (pv 3)) (pe_slice sl_str (pv 4) (po_some (pe_op op_add (pv 2) pe_int)) po_none)) (pg_sub (pe_fld (pv 0) (by rfl)) (pv 1) set_list))
      (pss_one (ps_asg pe_bl (pg_sub (pe_fld (pv 0) (by rfl)) (pv 1) set_list))))))), ?_⟩
    refine ⟨_, rfl, a, _, _, rfl, hc.obj, rfl, _, rfl, a, L, c, n, rfl, hc, wf, cell_lt wf hl, ?_⟩
    refine ⟨_, rfl, a, _, _, rfl, hc.obj, rfl, _, rfl, _, rfl, _, rfl, a, L, c, n, j, l, g, rfl, hc, wf, hl, hj, hg, hgc, fun H1 S1 => ⟨_, rfl, ?_⟩⟩
    cases hm : mayFall c n j l g with
    | false =>
      refine iteT ?_
      refine ⟨_, rfl, _, rfl, by show 2 ≤ sizeLine; decide, fun t ht => ?_⟩
      refine rz_ok x_BadFade fun p hp => k0 hm p t _ (S1.trans ((Same.new ht).trans (Same.new hp))) ?_ upd_same
      rw [upd_ne (fun z => by rw [← z, upd_same] at hp; cases hp), upd_same]
    | true =>
      refine iteF ?_
      have hc1 := hc.same S1
      have hlen : l.length = 256 := (wf.page l (List.mem_of_getElem? hl)).1
      have hnn : n < c.bl * c.pg := cell_lt wf hl
      refine ⟨_, rfl, _, _, _, _, _, rfl, hc1.obj, T.cl_Chip, T.na_cells, rfl, _, rfl, _, _, _, _, rfl, rfl, SqL.of hc1.cells, cell_at hl, ?_⟩
      show gName 4 _ _ _ _
      rw [gname_eq]
      have hz : (S l).length ≤ sizeLine := by rw [S_len, sizeLine_eq]; omega
      have cut1 : cutS (S l) none (some (j : Int)) = S (l.take j) := cutS_lo l j
      have cut2 : cutS (S l) (some ((j : Int) + 1)) none = S (l.drop (j + 1)) := cutS_hi l (j + 1)
      dsimp only
      rw [seq_asg]
      refine ⟨_, rfl, _, rfl, _, rfl, _, rfl, hz, ?_⟩
      rw [cut1]
      refine ⟨_, rfl, _, _, rfl, rfl, by rw [S_len, S_len, List.length_take, sizeLine_eq]; omega, ?_⟩
      rw [S_app]
      refine ⟨_, rfl, _, rfl, _, _, rfl, rfl, _, rfl, _, rfl, hz, ?_⟩
      rw [cut2]
      refine ⟨_, _, rfl, rfl, by rw [S_len, S_len, List.length_append, List.length_take, List.length_drop, sizeLine_eq]; omega, ?_⟩
      rw [S_app]
      refine ⟨_, rfl, _, _, _, _, _, rfl, hc1.obj, T.cl_Chip, T.na_cells, rfl, _, rfl, _, _, _, n, rfl, rfl, hc1.cells, ixN_to (by rw [List.length_map, wf.lc]; exact hnn), ?_⟩
      have q4 := hc1.putCells (n := n) (b := l.take j ++ g ++ l.drop (j + 1)) List.map_set
      have B4 : ButC a L H1 (upd H1 L.pc (.lst ((c.cells.map fun l => V.str (S l)).set n (.str (S (l.take j ++ g ++ l.drop (j + 1))))))) := ButC.cells
      revert q4 B4
      generalize upd H1 L.pc (.lst ((c.cells.map fun l => V.str (S l)).set n (.str (S (l.take j ++ g ++ l.drop (j + 1)))))) = H4
      intro q4 B4
      refine ⟨_, rfl, _, _, _, _, _, rfl, q4.obj, T.cl_Chip, T.na_stands, rfl, _, rfl, _, _, _, n, rfl, rfl, q4.stands, ixN_to (by rw [List.length_map]; show n < c.stands.length; rw [wf.ls]; exact hnn), ?_⟩
      have q5 := q4.putStands (n := n) (b := false) List.map_set
      exact k1 hm _ (((ButC.of S1).trans B4).trans ButC.stands) q5
theorem ok_Chip_image {f : Addr} {fd : FuncData} (T : Txt K w mg) (F : FDm K "image" "Chip.image" s_Chip_image f fd) (hm : Meth K (He.ga K "Chip") "image" f) : Mf CX0 P w K mg base 1 (He.ga K "Chip") "image" ["self"] (sp_Chip_image K) := by
  refine mf_of0 F hm sc_Chip_image (fun vs H Q E h => ?_) (fun _ _ _ _ _ _ us hl => match us, hl with | [_], _ => rfl) (fun cdv A outer s H vs Q E hr h => ?_)
  · obtain ⟨a, L, c, rfl, _⟩ := h
    rfl
  · obtain ⟨a, L, c, rfl, hc, wf, k⟩ := h
    refine ⟨_, (pss_one (ps_ret (pe_callTy call_tuple_of (by rfl) T.f_tuple (by decide +kernel) (pa_cons (pe_fld (pv 0) (by rfl)) pa_nil)))), ?_⟩
    refine ⟨_, rfl, _, _, _, _, _, rfl, hc.obj, T.cl_Chip, T.na_cells, rfl, ?_⟩
    exact ⟨_, _, rfl, .inl ⟨SqL.of hc.cells, fun p hp => k p hp⟩⟩
theorem ok_Chip__check_place {f : Addr} {fd : FuncData} (T : Txt K w mg) (F : FDm K "_check_place" "Chip._check_place" s_Chip__check_place f fd) (hm : Meth K (He.ga K "Chip") "_check_place" f) (c_is_between : Cf CX0 P w K mg base 2 "is_between" ["value", "low", "high"] sp_is_between) : Mf CX0 P w K mg base 3 (He.ga K "Chip") "_check_place" ["self", "place"] (sp_Chip__check_place K) := by
  refine mf_of0 F hm sc_Chip__check_place (fun vs H Q E h => ?_) (fun _ _ _ _ _ _ us hl => match us, hl with | [_, _], _ => rfl) (fun cdv A outer s H vs Q E hr h => ?_)
  · obtain ⟨a, L, c, n, rfl, _⟩ := h
    rfl
  · obtain ⟨a, L, c, n, rfl, hc, wf, hn, k⟩ := h
    refine ⟨_, (pss_one (ps_if (pt_not (pt_val (pe_f c_is_between hr (by decide) rfl (pa_cons (pv 1) (pa_cons pe_int (pa_cons (pe_op op_sub (pe_op op_mul (pe_fld (pv 0) (by rfl)) (pe_fld (pv 0) (by rfl))) pe_int) pa_nil)))))) (pss_one ps_never) pss_nil)), ?_⟩
    refine ⟨_, rfl, _, rfl, _, _, _, _, _, rfl, hc.obj, T.cl_Chip, T.na_blocks, rfl, _, rfl, _, _, _, _, _, rfl, hc.obj, T.cl_Chip, T.na_pages, rfl, ?_⟩
    have := size_lo wf
    have m1 : ((c.bl : Int) * (c.pg : Int)) = ((c.bl * c.pg : Nat) : Int) := (Int.natCast_mul _ _).symm
    refine ⟨_, _, rfl, rfl, .inl ⟨?_, ?_⟩, _, _, rfl, rfl, _, _, _, rfl, ?_⟩
    · have := wf.b4; omega
    · have := wf.b64; omega
    rw [m1]
    rw [decide_eq_true (show (0 : Int) ≤ (n : Int) ∧ (n : Int) ≤ ((c.bl * c.pg : Nat) : Int) - 1 by omega)]
    exact ⟨_, rfl, iteF k⟩
theorem ok_Chip__may_fall {f : Addr} {fd : FuncData} (T : Txt K w mg) (F : FDm K "_may_fall" "Chip._may_fall" s_Chip__may_fall f fd) (hm : Meth K (He.ga K "Chip") "_may_fall" f) (c_is_between : Cf CX0 P w K mg base 2 "is_between" ["value", "low", "high"] sp_is_between) (c_is_cell : Cf CX0 P w K mg base 3 "is_cell" ["value"] sp_is_cell) : Mf CX0 P w K mg base 4 (He.ga K "Chip") "_may_fall" ["self", "place", "cell", "sign"] (sp_Chip__may_fall K) := by
  refine mf_of0 F hm sc_Chip__may_fall (fun vs H Q E h => ?_) (fun _ _ _ _ _ _ us hl => match us, hl with | [_, _, _, _], _ => rfl) (fun cdv A outer s H vs Q E hr h => ?_)
  · obtain ⟨a, L, c, n, j, l, g, rfl, _⟩ := h
    rfl
  · obtain ⟨a, L, c, n, j, l, g, rfl, hc, wf, hl, hj, hg, hgc, k⟩ := h
    refine ⟨_, (pss_cons (ps_if (PW.pt (pw_or (pt_not (pt_val (pe_f c_is_between hr (by decide) rfl (pa_cons (pv 2) (pa_cons pe_int (pa_cons (pe_op op_sub (C8.pe_gc rfl T.g_PAGE_CELLS) pe_int) pa_nil)))))) (pw_or1 (pt_not (pt_val (pe_f c_is_cell hr (by decide) rfl (pa_cons (pv 3) pa_nil))))))) (pss_one (ps_ret pe_bl)) pss_nil)
      (pss_cons (ps_set (i := 4) sc_Chip__may_fall.nd rfl (Or.inl rfl) (pe_ix (show IxR _ (rIxL K) from ix_list) (pe_fld (pv 0) (by rfl)) (pv 1) (fun _ _ => rfl)))
      (pss_one (ps_ret (pe_and (pe_cmpR op_ne (pv 4) (C8.pe_gc rfl T.g_EMPTY_PAGE) (nomark _)) (pe_and (pe_ix (show IxR _ (rIxL K) from ix_list) (pe_fld (pv 0) (by rfl)) (pv 1) (fun _ _ => rfl)) (pe_one (pe_cmpR op_lt_str (pv 3) (pe_ix ix_str (pv 4) (pv 2) (fun _ _ => rfl)) (nomark _))))))))), ?_⟩
    refine ⟨_, rfl, _, _, rfl, rfl, _, _, _, rfl, _, rfl, ?_⟩
    rw [decide_eq_true (show (0 : Int) ≤ (j : Int) ∧ (j : Int) ≤ 256 - 1 by omega)]
    refine iteF ?_
    refine ⟨_, rfl, g, rfl, by omega, fun H1 S1 => ⟨_, rfl, ?_⟩⟩
    rw [decide_eq_true (show g.length = 1 ∧ WM.Cells g from ⟨hg, hgc⟩)]
    refine iteF ?_
    have hc1 := hc.same S1
    refine ⟨_, rfl, _, _, _, _, _, rfl, hc1.obj, T.cl_Chip, T.na_cells, rfl, _, rfl, _, _, _, _, rfl, rfl, SqL.of hc1.cells, cell_at hl, ?_⟩
    show gName 4 _ _ _ _
    rw [gname_eq]
    refine ⟨_, rfl, rfl, _, rfl, ?_⟩
    have hlen : l.length = 256 := (wf.page l (List.mem_of_getElem? hl)).1
    have hns : n < c.stands.length := by rw [wf.ls]; exact cell_lt wf hl
    have es : c.stands[n]? = some (c.stands.getD n false) := by rw [List.getD_eq_getElem?_getD, List.getElem?_eq_getElem hns]; rfl
    by_cases e : l = List.replicate 256 102
    · rw [decide_eq_true (show V.str (S l) = V.str (SX.S (List.replicate 256 102)) by rw [e])]
      have z : mayFall c n j l g = false := by unfold mayFall; rw [decide_eq_false (fun q => q e)]; rfl
      rw [z] at k
      exact iteF (k H1 S1)
    · rw [decide_eq_false (fun q => e (S_inj (V.str.inj q)))]
      have z : mayFall c n j l g = (c.stands.getD n false && decide (g.getD 0 0 < l.getD j 0)) := by unfold mayFall; rw [decide_eq_true e]; rfl
      rw [z] at k
      refine iteT ⟨_, rfl, _, _, _, _, _, rfl, hc1.obj, T.cl_Chip, T.na_stands, rfl, _, rfl, _, _, _, .bl (c.stands.getD n false), rfl, rfl, SqL.of hc1.stands, atI_nat (by rw [List.getElem?_map, es]; rfl), _, rfl, ?_⟩
      cases hs : c.stands.getD n false with
      | false =>
        rw [hs] at k
        exact iteF (k H1 S1)
      | true =>
        rw [hs] at k
        obtain ⟨x, rfl⟩ := List.length_eq_one_iff.mp hg
        have hj2 : j < l.length := by omega
        have ej : l[j]? = some (l.getD j 0) := by rw [List.getD_eq_getElem?_getD, List.getElem?_eq_getElem hj2]; rfl
        refine iteT ⟨_, rfl, _, rfl, _, rfl, _, _, l.getD j 0, rfl, rfl, by rw [S_len, sizeLine_eq]; omega, atI_nat (by rw [Array.getElem?_toList, S_get, ej]), _, _, rfl, rfl, ?_⟩
        have y : decide ((S [x]).cps.toList < (⟨#[l.getD j 0]⟩ : Str).cps.toList) = decide (x < l.getD j 0) := sltB_one x (l.getD j 0)
        rw [y]
        exact k H1 S1
theorem ok_Chip__next_deed {f : Addr} {fd : FuncData} (T : Txt K w mg) (F : FDm K "_next_deed" "Chip._next_deed" s_Chip__next_deed f fd) (hm : Meth K (He.ga K "Chip") "_next_deed" f) (x_Cut : ExT P w K mg base "Cut" (He.ga K "Cut")) : Mf (CXr P w) P w K mg base 3 (He.ga K "Chip") "_next_deed" ["self"] (sp_Chip__next_deed K) := by
  refine mf_of F hm sc_Chip__next_deed (fun vs H Q E h => ?_) (fun _ _ _ _ _ _ us hl => match us, hl with | [_], _ => rfl) (fun cdv A outer s H vs Q E hr h => ?_)
  · obtain ⟨a, L, c, rfl, _⟩ := h
    rfl
  · obtain ⟨a, L, c, rfl, hc, wf, k0, k⟩ := h
    refine ⟨_, (pss_cons (ps_if (pt_not (pt_val (pe_fld (pv 0) (by rfl)))) (pss_one (ps_rz x_Cut (hr.mono (by decide)) rfl (takes_of rfl rfl rfl rfl) rfl (pa_cons pe_non pa_nil))) pss_nil)
      (pss_cons (ps_fldaug (pv 0) pe_int in_add)
      (pss_one (ps_ret (pe_dget2 (Nat.lt_of_le_of_lt (Nat.add_le_add_left (by decide) _) hr.units) (pe_fld (pv 0) (by rfl)) (pe_fld (pv 0) (by rfl)) (pe_tup (pa_cons (C8.pe_gc rfl T.g_NO_FAULT) (pa_cons pe_str pa_nil))) ⟨rfl, rfl, rfl, rfl⟩))))), ?_⟩
    refine ⟨_, rfl, _, _, _, _, _, rfl, hc.obj, T.cl_Chip, T.na_has_current, rfl, ?_⟩
    cases hon : c.on with
    | false =>
      refine ⟨_, rfl, iteT ?_⟩
      exact rz_ok x_Cut fun p hp => k0 hon p _ (Same.new hp) upd_same
    | true =>
      refine ⟨_, rfl, iteF ?_⟩
      have q := hc.fld (c' := { c with done := c.done + 1 }) (fs := putF "_done" (.int ((c.done : Int) + 1)) (flds L c)) rfl rfl rfl rfl rfl rfl
      refine ⟨_, rfl, _, _, _, _, _, rfl, hc.obj, T.cl_Chip, T.na_done, rfl, _, _, rfl, rfl, _, _, hc.obj, by show 12 < 1000; decide, ?_⟩
      have B : ButC a L H (upd H a (.ins (He.ga K "Chip") L.dx (putF "_done" (.int ((c.done : Int) + 1)) (flds L c)))) := ButC.obj
      dsimp only
      revert q B
      generalize upd H a (.ins (He.ga K "Chip") L.dx (putF "_done" (.int ((c.done : Int) + 1)) (flds L c))) = H1
      intro q B
      refine ⟨_, rfl, _, _, _, _, _, rfl, q.obj, T.cl_Chip, T.na_fault_at, rfl, ?_⟩
      obtain ⟨kvs, d1, d2, d3⟩ := q.fd
      refine ⟨_, rfl, .inl ⟨_, .inl d1⟩, _, rfl, _, _, _, _, _, rfl, q.obj, T.cl_Chip, T.na_done, rfl, by show 2 ≤ sizeLine; decide, fun t ht => ?_⟩
      refine ⟨valV kvs (.inl ((c.done + 1 : Nat) : Int)), DGet.k (k := .inl _) (Same.new ht _ _ d1), ?_⟩
      have S2 : Same H1 _ := Same.new (o := .tup [.str (SX.S []), .str (Str.ofString "f")]) ht
      rcases d3 (c.done + 1) with ⟨f1, f2⟩ | ⟨w, p, u, f1, f2, f3⟩
      · rw [f2]
        refine k hon t _ (B.trans (ButC.of S2)) (q.same S2) ?_
        unfold deed
        rw [f1]
        show upd H1 t (.tup [.str (SX.S []), .str (Str.ofString "f")]) t = _
        rw [upd_same, show (Str.ofString "f" : Str) = S [102] by decide +kernel]
        rfl
      · rw [f2]
        refine k hon u _ (B.trans (ButC.of S2)) (q.same S2) ?_
        unfold deed
        rw [f1]
        exact S2 _ _ f3
theorem ok_Chip__deed_told {f : Addr} {fd : FuncData} (T : Txt K w mg) (F : FDm K "_deed_told" "Chip._deed_told" s_Chip__deed_told f fd) (hm : Meth K (He.ga K "Chip") "_deed_told" f) (x_Cut : ExT P w K mg base "Cut" (He.ga K "Cut")) : Mf (CXr P w) P w K mg base 3 (He.ga K "Chip") "_deed_told" ["self", "block", "word"] (sp_Chip__deed_told K) := by
  refine mf_of F hm sc_Chip__deed_told (fun vs H Q E h => ?_) (fun _ _ _ _ _ _ us hl => match us, hl with | [_, _, _], _ => rfl) (fun cdv A outer s H vs Q E hr h => ?_)
  · obtain ⟨a, L, c, n, w, rfl, _⟩ := h
    rfl
  · obtain ⟨a, L, c, n, w, rfl, hc, wf, hn, k1, k2, k3⟩ := h
    refine ⟨_, (pss_cons (ps_if (pt_cmpR op_eq (pv 2) pe_str (nomark _)) (pss_cons (ps_fldaug (pv 0) pe_int in_add)
      (pss_cons (ps_fld (pv 0) pe_bl (by rfl))
      (pss_one (ps_rz x_Cut (hr.mono (by decide)) rfl (takes_of rfl rfl rfl rfl) rfl (pa_cons pe_non pa_nil))))) pss_nil)
      (pss_cons (ps_if (pt_cmpR op_eq (pv 2) pe_str (nomark _)) (pss_one (ps_asg pe_bl (pg_sub (pe_fld (pv 0) (by rfl)) (pv 1) set_list))) pss_nil)
      (pss_one (ps_ret (pe_not (pe_ix (show IxR _ (rIxL K) from ix_list) (pe_fld (pv 0) (by rfl)) (pv 1) (fun _ _ => rfl))))))), ?_⟩
    refine ⟨_, rfl, rfl, _, rfl, ?_⟩
    by_cases e1 : w = Str.ofString "cut"
    · rw [e1, decide_eq_true rfl]
      refine iteT ?_
      refine ⟨_, rfl, _, _, _, _, _, rfl, hc.obj, T.cl_Chip, T.na_cuts, rfl, _, _, rfl, rfl, _, _, hc.obj, by show 12 < 1000; decide, ?_⟩
      dsimp only
      refine ⟨_, rfl, _, _, _, _, rfl, upd_same, T.cl_Chip, T.na_has_current, by show 12 < 1000; decide, ?_⟩
      have q := (hc.fld (c' := { c with cuts := c.cuts + 1 }) (fs := putF "_cuts" (.int ((c.cuts : Int) + 1)) (flds L c)) rfl rfl rfl rfl rfl rfl).fld (c' := { c with cuts := c.cuts + 1, on := false }) (fs := putF "_has_current" (.bl false) (putF "_cuts" (.int ((c.cuts : Int) + 1)) (flds L c))) rfl rfl rfl rfl rfl rfl
      refine rz_ok x_Cut fun p hp => k1 e1 p _ ((ButC.obj.trans ButC.obj).trans (ButC.of (Same.new hp))) (q.same (Same.new hp)) upd_same
    · rw [decide_eq_false (fun z => e1 (V.str.inj z))]
      refine iteF ?_
      refine ⟨_, rfl, rfl, _, rfl, ?_⟩
      by_cases e2 : w = Str.ofString "bad"
      · rw [e2, decide_eq_true rfl]
        refine iteT ?_
        refine ⟨_, rfl, _, _, _, _, _, rfl, hc.obj, T.cl_Chip, T.na_is_bad, rfl, _, rfl, _, _, _, n, rfl, rfl, hc.bad, ixN_to (by rw [List.length_map, wf.lb]; exact hn), ?_⟩
        have q := hc.putBad (n := n) (b := true) List.map_set
        have B : ButC a L H (upd H L.pb (.lst ((c.bad.map V.bl).set n (.bl true)))) := ButC.bad
        dsimp only
        revert q B
        generalize upd H L.pb (.lst ((c.bad.map V.bl).set n (.bl true))) = H1
        intro q B
        refine ⟨_, rfl, _, _, _, _, _, rfl, q.obj, T.cl_Chip, T.na_is_bad, rfl, _, rfl, _, _, _, .bl true, rfl, rfl, SqL.of q.bad, atI_nat ?_, _, rfl, k2 e2 _ B q⟩
        show ((c.bad.set n true).map V.bl)[n]? = _
        rw [List.getElem?_map, List.getElem?_set_self (by rw [wf.lb]; exact hn)]
        rfl
      · rw [decide_eq_false (fun z => e2 (V.str.inj z))]
        refine iteF ?_
        have hb : n < c.bad.length := by rw [wf.lb]; exact hn
        have e : c.bad[n]? = some (c.bad.getD n false) := by rw [List.getD_eq_getElem?_getD, List.getElem?_eq_getElem hb]; rfl
        exact ⟨_, rfl, _, _, _, _, _, rfl, hc.obj, T.cl_Chip, T.na_is_bad, rfl, _, rfl, _, _, _, .bl (c.bad.getD n false), rfl, rfl, SqL.of hc.bad, atI_nat (by rw [List.getElem?_map, e]; rfl), _, rfl, k3 e1 e2⟩
theorem ok_law_pot {f : Addr} {fd : FuncData} (T : Txt K w mg) (F : FD K "_law_pot" s_law_pot f fd) (hm : mg "_law_pot" = some (.ref f)) : Cg P w K mg base 1 "_law_pot" ["script", "place"] (sp_law_pot K) := by
  refine cg_of F hm sc_law_pot (fun vs H Q E h => ?_) (fun _ _ _ _ _ _ us hl => match us, hl with | [_, _], _ => rfl) (fun _ _ _ _ _ _ us hl => match us, hl with | [_, _], _ => rfl) (fun cdv A outer s H vs Q E hG hr h => ?_)
  · obtain ⟨a, xs, p, rfl, _⟩ := h
    rfl
  · obtain ⟨a, xs, p, rfl, hx, hp, k⟩ := h
    refine ⟨_, (pss_cons (ps_set (i := 2) sc_law_pot.nd rfl (Or.inl rfl) (pe_ifExp (pt_cmpR op_lt (pv 1) (pe_callB call_len_seq (by rfl) T.f_len PySem.boot_len (pa_cons (pv 0) pa_nil)) (nomark _)) (pe_ix (show IxR _ (rIxL K) from ix_list) (pv 0) (pv 1) (fun _ _ => rfl)) (pe_op op_add (pe_op op_add (pe_op op_mod (pe_callB (cr_sum rfl) (by rfl) T.f_sum (by decide +kernel) (pa_cons (pe_slice sl_list (pv 0) po_none (po_some pe_int)) pa_nil)) pe_int) (pe_op op_mul pe_int (pv 1))) pe_int)))
      (pss_cons (ps_set (i := 3) sc_law_pot.nd rfl (Or.inl rfl) (pe_op op_mul (pe_op op_mod (pe_callTy call_int1 (by rfl) T.f_int (by decide +kernel) (pa_cons (pe_callB call_abs (by rfl) T.f_abs (by decide +kernel) (pa_cons (pv 2) pa_nil)) pa_nil)) (pe_op op_powW (pe_op op_powW pe_int pe_int) pe_int)) (pe_callTy call_int1 (by rfl) T.f_int (by decide +kernel) (pa_cons (pe_cmpR op_ge (pe_callB call_abs (by rfl) T.f_abs (by decide +kernel) (pa_cons (pv 2) pa_nil)) (pe_op op_powW pe_int pe_int) (nomark _)) pa_nil))))
      (pss_cons (ps_set (i := 4) sc_law_pot.nd rfl (Or.inl rfl) (pe_op op_mod (pe_callTy call_int1 (by rfl) T.f_int (by decide +kernel) (pa_cons (pv 2) pa_nil)) pe_int))
      (pss_one (ps_ret (pe_lst (pa_cons (pv 3) (pa_cons (pe_op op_mod (pe_callTy call_int1 (by rfl) T.f_int (by decide +kernel) (pa_cons (pe_op op_add (pe_op op_add (pe_op op_mul (pv 4) pe_int) (pe_op op_mul (pe_op op_mul pe_int (pv 1)) (pv 1))) pe_int) pa_nil)) pe_int) (pa_cons pe_int pa_nil))))))))), ?_⟩
    have L : SqL K H a (xs.map V.int) := hx
    show tIf _ _ _ _ _ _
    refine kint_go (fun N kN => ?_) fun c H1 S1 => ?_
    · refine ⟨_, rfl, _, rfl, a, _, rfl, .inl L, _, _, rfl, rfl, _, rfl, ?_⟩
      rw [List.length_map]
      by_cases q : (p : Int) < (xs.length : Int)
      · rw [decide_eq_true q]
        refine iteT ⟨_, rfl, _, rfl, a, _, _, .int (xs.getD p 0), rfl, rfl, L, ?_, kN _ _ (Same.refl _)⟩
        have hq : p < xs.length := by omega
        refine atI_nat ?_
        rw [List.getElem?_map, List.getD, List.getElem?_eq_getElem hq]
        rfl
      · rw [decide_eq_false q]
        obtain ⟨ns, hns⟩ := cutV_ints xs none (some 1)
        refine iteF ⟨_, rfl, 1, rfl, a, _, rfl, L, fun D hD => ⟨D, ns, rfl, ?_, _, _, rfl, rfl, (show (0 : Int) < 1000003 by decide), _, rfl, _, _, rfl, rfl, mulOkL (by decide) (by decide), _, _, rfl, rfl, _, _, rfl, rfl, kN _ _ (Same.new hD)⟩⟩
        rw [← hns]
        exact SqL.of upd_same
    · have ab : 0 ≤ (if c < 0 then -c else c) := by split <;> omega
      have hB : (0 : Int) < (10 ^ Int.toNat 60) ^ Int.toNat 5 := by decide +kernel
      have hBv : ((10 : Int) ^ Int.toNat 60) ^ Int.toNat 5 = 10 ^ 300 := by decide +kernel
      have k01 : ∀ b : Bool, (if b = true then (1 : Int) else 0) = 0 ∨ (if b = true then (1 : Int) else 0) = 1 := fun b => by cases b; exact .inl rfl; exact .inr rfl
      refine ⟨_, rfl, _, rfl, .inl ⟨_, rfl, _, _, rfl, rfl, (by unfold CPowW; decide +kernel), _, _, rfl, rfl, (by unfold CPowW; decide +kernel), _, _, rfl, rfl, hB, ?_⟩⟩
      refine ⟨_, rfl, _, rfl, _, _, rfl, rfl, (by unfold CPowW; decide +kernel), _, _, rfl, rfl, .inr ⟨_, rfl, _, _, rfl, rfl, (by rcases k01 (decide (10 ^ Int.toNat 18 ≤ if c < 0 then -c else c)) with h | h <;> rw [h] <;> exact mulOkR (by decide) (by decide)), ?_⟩⟩
      refine ⟨_, rfl, .inl ⟨_, rfl, _, _, rfl, rfl, (show (0 : Int) < 2305843009213693951 by decide), ?_⟩⟩
      have s0 : 0 ≤ c % 2305843009213693951 := Int.emod_nonneg _ (by decide)
      have s1 : c % 2305843009213693951 < 2305843009213693951 := Int.emod_lt_of_pos _ (by decide)
      refine ⟨_, rfl, _, rfl, _, _, rfl, rfl, mulOkR (by decide) (by decide), _, rfl, _, _, rfl, rfl, mulOkL (by decide) (by decide), _, rfl, _, _, rfl, rfl, mulOkR (by omega) (by omega), _, _, rfl, rfl, _, _, rfl, rfl, .inl ⟨_, rfl, _, _, rfl, rfl, (show (0 : Int) < 2305843009213693921 by decide), (by show 3 ≤ sizeLine; decide), fun D hD => ?_⟩⟩
      have t0 : 0 ≤ (c % 2305843009213693951 * 70481 + 7177 * (p : Int) * p + 379) % 2305843009213693921 := Int.emod_nonneg _ (by decide)
      have t1 : (c % 2305843009213693951 * 70481 + 7177 * (p : Int) * p + 379) % 2305843009213693921 < 2305843009213693921 := Int.emod_lt_of_pos _ (by decide)
      have o0 : 0 ≤ (if c < 0 then -c else c) % (10 ^ Int.toNat 60) ^ Int.toNat 5 := Int.emod_nonneg _ (by omega)
      have o1 : (if c < 0 then -c else c) % (10 ^ Int.toNat 60) ^ Int.toNat 5 < 10 ^ 300 := by rw [← hBv]; exact Int.emod_lt_of_pos _ hB
      refine k D _ (S1.put (S1.free hD)) (S1.free hD) ⟨_, _, 0, ?_, ?_, t0, by omega, by decide, by decide, upd_same⟩
      · rcases k01 (decide (10 ^ Int.toNat 18 ≤ if c < 0 then -c else c)) with h | h
        · rw [h, Int.mul_zero]; exact Int.le_refl _
        · rw [h, Int.mul_one]; exact o0
      · rcases k01 (decide (10 ^ Int.toNat 18 ≤ if c < 0 then -c else c)) with h | h
        · rw [h, Int.mul_zero]; decide +kernel
        · rw [h, Int.mul_one]; exact o1
theorem ok_law_take {f : Addr} {fd : FuncData} (T : Txt K w mg) (F : FD K "_law_take" s_law_take f fd) (hm : mg "_law_take" = some (.ref f)) : Cg P w K mg base 1 "_law_take" ["pot", "upto"] sp_law_take := by
  refine cg_of F hm sc_law_take (fun vs H Q E h => ?_) (fun _ _ _ _ _ _ us hl => match us, hl with | [_, _], _ => rfl) (fun _ _ _ _ _ _ us hl => match us, hl with | [_, _], _ => rfl) (fun cdv A outer s H vs Q E hG hr h => ?_)
  · obtain ⟨a, u, m, rfl, _⟩ := h
    rfl
  · obtain ⟨a, u, m, rfl, hu1, hu2, hp, k⟩ := h
    refine ⟨_, (pss_cons (ps_if (pt_cmpR op_gt (pe_ix (show IxR _ (rIxL K) from ix_list) (pv 0) pe_int (fun _ _ => rfl)) pe_int (nomark _)) (pss_cons (ps_set (i := 2) sc_law_take.nd rfl (Or.inl rfl) (pe_op op_mod (pe_callTy call_int1 (by rfl) T.f_int (by decide +kernel) (pa_cons (pe_ix (show IxR _ (rIxL K) from ix_list) (pv 0) pe_int (fun _ _ => rfl)) pa_nil)) (pv 1)))
      (pss_cons (ps_asg (pe_op op_fdiv (pe_ix (show IxR _ (rIxL K) from ix_list) (pv 0) pe_int (fun _ _ => rfl)) (pv 1)) (pg_sub (pv 0) pe_int set_list))
      (pss_one (ps_ret (pv 2))))) pss_nil)
      (pss_cons (ps_asg (pe_op op_add (pe_ix (show IxR _ (rIxL K) from ix_list) (pv 0) pe_int (fun _ _ => rfl)) pe_int) (pg_sub (pv 0) pe_int set_list))
      (pss_cons (ps_set (i := 3) sc_law_take.nd rfl (Or.inl rfl) (pe_ix (show IxR _ (rIxL K) from ix_list) (pe_lst (pa_cons pe_int (pa_cons pe_int (pa_cons pe_int (pa_cons pe_int (pa_cons pe_int pa_nil)))))) (pe_op op_mod (pe_callTy call_int1 (by rfl) T.f_int (by decide +kernel) (pa_cons (pe_ix (show IxR _ (rIxL K) from ix_list) (pv 0) pe_int (fun _ _ => rfl)) pa_nil)) pe_int) (fun _ _ => rfl)))
      (pss_cons (ps_set (i := 4) sc_law_take.nd rfl (Or.inl rfl) (pe_op op_mod (pe_callTy call_int1 (by rfl) T.f_int (by decide +kernel) (pa_cons (pe_op op_powW (pe_callTy call_int1 (by rfl) T.f_int (by decide +kernel) (pa_cons (pe_op op_add (pe_op op_add (pe_ix (show IxR _ (rIxL K) from ix_list) (pv 0) pe_int (fun _ _ => rfl)) (pe_op op_mul (pe_op op_mul pe_int (pe_ix (show IxR _ (rIxL K) from ix_list) (pv 0) pe_int (fun _ _ => rfl))) (pe_ix (show IxR _ (rIxL K) from ix_list) (pv 0) pe_int (fun _ _ => rfl)))) pe_int) pa_nil)) pe_int) pa_nil)) (pv 3)))
      (pss_cons (ps_set (i := 4) sc_law_take.nd rfl (Or.inl rfl) (pe_op op_mod (pe_callTy call_int1 (by rfl) T.f_int (by decide +kernel) (pa_cons (pe_op op_mul (pv 4) (pe_op op_add (pe_op op_mod (pe_callTy call_int1 (by rfl) T.f_int (by decide +kernel) (pa_cons (pv 4) pa_nil)) pe_int) (pe_op op_mul pe_int (pe_ix (show IxR _ (rIxL K) from ix_list) (pv 0) pe_int (fun _ _ => rfl))))) pa_nil)) pe_int))
      (pss_one (ps_ret (pe_op op_mod (pe_callTy call_int1 (by rfl) T.f_int (by decide +kernel) (pa_cons (pe_op op_fdiv (pv 4) pe_int) pa_nil)) (pv 1))))))))), ?_⟩
    obtain ⟨o, t, c, h1, h2, h3, h4, h5, h6, h7⟩ := hp
    have L : SqL K H a [.int o, .int t, .int c] := SqL.of h7
    refine ⟨_, rfl, a, _, 0, .int o, rfl, rfl, L, rfl, _, _, rfl, rfl, _, rfl, ?_⟩
    by_cases q : 0 < o
    · rw [decide_eq_true q]
      refine iteT ⟨_, rfl, a, _, 0, .int o, rfl, rfl, L, rfl, .inl ⟨_, rfl, _, rfl, _, _, rfl, rfl, (by show 0 < u; omega), ?_⟩⟩
      refine ⟨_, rfl, a, _, 0, .int o, rfl, rfl, L, rfl, _, rfl, _, _, rfl, rfl, ⟨by omega, by omega⟩, _, rfl, a, _, 0, 0, rfl, rfl, h7, rfl, ?_⟩
      refine ⟨_, rfl, ?_⟩
      refine k _ _ But.put ⟨o / u, t, c, Int.ediv_nonneg h1 (by omega), ?_, h3, h4, h5, by omega, upd_same⟩ (Int.emod_nonneg _ (by omega)) (Int.emod_lt_of_pos _ (by omega))
      have := Int.ediv_le_self u h1
      omega
    · rw [decide_eq_false q]
      refine iteF ?_
      refine ⟨_, rfl, a, _, 2, .int c, rfl, rfl, L, rfl, _, _, rfl, rfl, _, rfl, a, _, 2, 2, rfl, rfl, h7, rfl, ?_⟩
      have e1 : (upd H a (.lst [.int o, .int t, .int (c + 1)])) a = some (.lst [.int o, .int t, .int (c + 1)]) := upd_same
      have L1 : SqL K (upd H a (.lst [.int o, .int t, .int (c + 1)])) a [.int o, .int t, .int (c + 1)] := SqL.of e1
      have B1 : But a H (upd H a (.lst [.int o, .int t, .int (c + 1)])) := But.put
      show tSeq _ _ _ _ (upd H a (.lst [.int o, .int t, .int (c + 1)]))
      revert e1 L1 B1
      generalize upd H a (.lst [.int o, .int t, .int (c + 1)]) = H1
      intro e1 L1 B1
      obtain ⟨p, hp, p1, p2⟩ := prime_at (c + 1)
      refine ⟨by show 5 ≤ sizeLine; decide, fun D hD => ⟨_, rfl, a, _, 2, .int (c + 1), rfl, rfl, SqL.of (Same.new hD _ _ e1), rfl, .inl ⟨_, rfl, _, _, rfl, rfl, (show (0 : Int) < 5 by decide), D, _, _, _, rfl, rfl, SqL.of upd_same, hp, ?_⟩⟩⟩
      have e2 := Same.new (o := .lst [V.int 2147483647, V.int 2147483629, V.int 2147483587, V.int 2147483579, V.int 2147483563]) hD _ _ e1
      have B2 := B1.trans (But.new (a := a) (o := .lst [V.int 2147483647, V.int 2147483629, V.int 2147483587, V.int 2147483579, V.int 2147483563]) hD)
      show tSeq _ _ _ _ (upd H1 D (.lst [V.int 2147483647, V.int 2147483629, V.int 2147483587, V.int 2147483579, V.int 2147483563]))
      revert e2 B2
      generalize upd H1 D (.lst [V.int 2147483647, V.int 2147483629, V.int 2147483587, V.int 2147483579, V.int 2147483563]) = H2
      intro e2 B2
      have L2 : SqL K H2 a [.int o, .int t, .int (c + 1)] := SqL.of e2
      refine ⟨_, rfl, a, _, 1, .int t, rfl, rfl, L2, rfl, _, rfl, a, _, 2, .int (c + 1), rfl, rfl, L2, rfl, _, _, rfl, rfl, mulOkL (by decide) (by decide), _, rfl, a, _, 2, .int (c + 1), rfl, rfl, L2, rfl, _, _, rfl, rfl, mulOkR (by omega) (by omega), _, _, rfl, rfl, _, _, rfl, rfl, .inl ⟨_, rfl, _, _, rfl, rfl, pow3Ok ?_ ?_, .inl ⟨_, rfl, _, rfl, _, _, rfl, rfl, (show 0 < p by omega), ?_⟩⟩⟩
      · have : 0 ≤ (c + 1) * (c + 1) := Int.mul_nonneg (by omega) (by omega)
        rw [Int.mul_assoc]
        omega
      · have : (c + 1) * (c + 1) ≤ 10001 * 10001 := Int.mul_le_mul (by omega) (by omega) (by omega) (by decide)
        rw [Int.mul_assoc]
        omega
      have b0 : 0 ≤ (t + 97423 * (c + 1) * (c + 1) + 577) ^ Int.toNat 3 % p := Int.emod_nonneg _ (by omega)
      have b1 : (t + 97423 * (c + 1) * (c + 1) + 577) ^ Int.toNat 3 % p < p := Int.emod_lt_of_pos _ (by omega)
      refine ⟨_, rfl, _, rfl, .inl ⟨_, rfl, _, _, rfl, rfl, (show (0 : Int) < 10141 by decide), _, rfl, a, _, 2, .int (c + 1), rfl, rfl, L2, rfl, _, _, rfl, rfl, mulOkL (by decide) (by decide), _, _, rfl, rfl, _, _, rfl, rfl, mulOkL b0 (by omega), .inl ⟨_, rfl, _, _, rfl, rfl, (show (0 : Int) < 2305843009213693907 by decide), ?_⟩⟩⟩
      refine ⟨_, rfl, _, _, rfl, rfl, (by constructor <;> omega), .inl ⟨_, rfl, _, rfl, _, _, rfl, rfl, (show 0 < u by omega), ?_⟩⟩
      exact k _ _ B2 ⟨o, t, c + 1, h1, h2, h3, h4, by omega, by omega, e2⟩ (Int.emod_nonneg _ (by omega)) (Int.emod_lt_of_pos _ (by omega))
theorem ok_law_of {f : Addr} {fd : FuncData} (T : Txt K w mg) (F : FD K "_law_of" s_law_of f fd) (hm : mg "_law_of" = some (.ref f)) (c_law_take : Cg P w K mg base 1 "_law_take" ["pot", "upto"] sp_law_take) : Cg P w K mg base 2 "_law_of" ["pot", "some"] sp_law_of := by
  refine cg_of F hm sc_law_of (fun vs H Q E h => ?_) (fun _ _ _ _ _ _ us hl => match us, hl with | [_, _], _ => rfl) (fun _ _ _ _ _ _ us hl => match us, hl with | [_, _], _ => rfl) (fun cdv A outer s H vs Q E hG hr h => ?_)
  · obtain ⟨a, b, xs, m, rfl, _⟩ := h
    rfl
  · obtain ⟨a, b, xs, m, rfl, ne, hb, l1, l2, hp, k⟩ := h
    refine ⟨_, (pss_one (ps_ret (pe_ix (show IxR _ (rIxL K) from ix_list) (pv 1) (pe_g c_law_take hG hr (by decide) rfl (pa_cons (pv 0) (pa_cons (pe_callB call_len_seq (by rfl) T.f_len PySem.boot_len (pa_cons (pv 1) pa_nil)) pa_nil))) (fun _ _ => rfl)))), ?_⟩
    refine ⟨_, rfl, _, rfl, _, rfl, b, xs, rfl, .inl (SqL.of hb), a, _, m, rfl, by omega, by omega, hp, fun d H2 B P2 d0 d1 => ?_⟩
    obtain ⟨n, rfl⟩ : ∃ n : Nat, d = n := ⟨d.toNat, by omega⟩
    have hd : n < xs.length := by omega
    exact ⟨b, xs, n, xs[n], rfl, rfl, SqL.of (B _ _ ne hb), atI_nat (List.getElem?_eq_getElem hd), k _ _ (List.getElem_mem hd) B P2⟩
theorem ok_law_some {f : Addr} {fd : FuncData} (T : Txt K w mg) (F : FD K "_law_some" s_law_some f fd) (hm : mg "_law_some" = some (.ref f)) (c_law_take : Cg P w K mg base 1 "_law_take" ["pot", "upto"] sp_law_take) : Cg P w K mg base 2 "_law_some" ["pot", "pool", "many"] (sp_law_some K) := by
  refine cg_of F hm sc_law_some (fun vs H Q E h => ?_) (fun _ _ _ _ _ _ us hl => match us, hl with | [_, _, _], _ => rfl) (fun _ _ _ _ _ _ us hl => match us, hl with | [_, _, _], _ => rfl) (fun cdv A outer s H vs Q E hG hr h => ?_)
  · obtain ⟨a, b, xs, n, m, rfl, _⟩ := h
    rfl
  · obtain ⟨a, b, xs, n, m, rfl, hb, l1, l2, nd, hp, k⟩ := h
    refine ⟨_, (pss_cons (ps_par (i := 3) (j := 4) rfl sc_law_some.nd rfl rfl (by decide) rfl rfl (pa_cons (pe_callTy call_list_of (by rfl) T.f_list (by decide +kernel) (pa_cons (pv 1) pa_nil)) (pa_cons (pe_lst pa_nil) pa_nil)) (by rfl))
      (pss_cons (ps_for PassesOwn.never rfl (pi_range1 rfl T.f_range (pa_cons (pv 2) pa_nil)) (pg_name (i := 5) sc_law_some.nd rfl (Or.inl rfl))
        (pss_one (ps_expr (pe_bm PySem.F.plainAttrs_list PySem.F.slot_list_append PySem.F.type_list_append mt_append (pv 4) (pa_cons (pe_bm PySem.F.plainAttrs_list PySem.F.slot_list_pop PySem.F.type_list_pop mt_popAt (pv 3) (pa_cons (pe_g c_law_take hG hr (by decide) rfl (pa_cons (pv 0) (pa_cons (pe_callB call_len_seq (by rfl) T.f_len PySem.boot_len (pa_cons (pv 3) pa_nil)) pa_nil))) pa_nil)) pa_nil)))))
      (pss_one (ps_ret (pv 4))))), ?_⟩
    refine ⟨_, rfl, b, _, rfl, .inl hb, fun r nr => ⟨by show 0 ≤ sizeLine; decide, fun f nf => ⟨_, _, rfl, ?_⟩⟩⟩
    have ra : r ≠ a := hp.ne nr
    have rf : r ≠ f := fun z => by rw [← z, upd_same] at nf; cases nf
    have Lr : (upd (upd H r (.lst (xs.map V.int))) f (.lst [])) r = some (.lst (xs.map V.int)) := by rw [upd_ne rf, upd_same]
    have Lf : (upd (upd H r (.lst (xs.map V.int))) f (.lst [])) f = some (.lst (([] : List Int).map V.int)) := upd_same
    have S0 : Same H (upd (upd H r (.lst (xs.map V.int))) f (.lst [])) := (Same.new nr).trans (Same.new nf)
    have fa : f ≠ a := (hp.same (Same.new nr)).ne nf
    dsimp only
    revert Lr Lf S0
    generalize upd (upd H r (.lst (xs.map V.int))) f (.lst []) = H1
    intro Lr Lf S0
    have hfn : H f = none := (Same.new nr).free nf
    refine ⟨_, rfl, _, rfl, by omega, by omega, for_it walk_range (fun i σ H' => But a H H' ∧ PotAt H' a (m + (n - i)) ∧ ∃ rs ys : List Int, H' r = some (.lst (rs.map V.int)) ∧ H' f = some (.lst (ys.map V.int)) ∧ rs.length = xs.length - i ∧ ys.length = i ∧ (rs ++ ys).Perm xs ∧ ∃ x, σ = [some (.ref a), some (.ref b), some (.int (n : Int)), some (.ref r), some (.ref f), x]) ⟨But.of S0, hp.same S0, xs, [], Lr, Lf, rfl, rfl, by rw [List.append_nil], _, rfl⟩ (fun _ _ _ _ _ => trivial) (fun i x σ H2 H2' hi hq hy => ?_) fun σ H2 hq => ?_⟩
    · obtain ⟨B2, P2, rs, ys, R2, F2, e1, e2, pm, y0, rfl⟩ := hq
      obtain ⟨rfl, rfl⟩ := hy
      rw [Int.toNat_natCast] at hi
      rw [gname_eq]
      have ep : m + (n - i) = (m + (n - (i + 1))) + 1 := by omega
      rw [ep] at P2
      refine ⟨_, rfl, .inl ⟨rfl, _, SqL.of F2⟩, _, rfl, .inl ⟨rfl, _, SqL.of R2⟩, _, rfl, _, rfl, r, _, rfl, .inl (SqL.of R2), a, _, _, rfl, by rw [List.length_map]; omega, by rw [List.length_map]; omega, P2, fun d H3 B3 P3 d0 d1 => ?_⟩
      rw [List.length_map] at d1
      obtain ⟨k0, rfl⟩ : ∃ k : Nat, d = (k : Int) := ⟨d.toNat, by omega⟩
      have hk : k0 < rs.length := by omega
      refine ⟨r, _, _, k0, .int rs[k0], rfl, rfl, B3 _ _ ra R2, by omega, by omega, ?_, ?_, ?_⟩
      · rw [List.length_map]
        exact seqIndex_of (by omega) (by omega)
      · rw [List.getElem?_map, List.getElem?_eq_getElem hk]; rfl
      have F3 : (upd H3 r (.lst ((rs.map V.int).eraseIdx k0))) f = some (.lst (ys.map V.int)) := by rw [upd_ne (fun z => rf z.symm)]; exact B3 _ _ fa F2
      refine ⟨f, _, _, rfl, rfl, F3, by rw [List.length_map, e2, sizeLine_eq]; omega, ?_⟩
      refine ⟨fun b o nb eb => ?_, (P3.put ra).put fa, rs.eraseIdx k0, ys ++ [rs[k0]], ?_, ?_, ?_, ?_, ?_, _, rfl⟩
      · rw [upd_ne (ne_of_none eb hfn), upd_ne (ne_of_none eb nr)]
        exact B3 b o nb (B2 b o nb eb)
      · rw [upd_ne rf, upd_same, map_erase]
      · rw [upd_same, List.map_append]
        rfl
      · rw [List.length_eraseIdx_of_lt hk]
        omega
      · rw [List.length_append, e2]
        rfl
      · have p1 := perm_erase rs k0 hk
        refine List.Perm.trans ?_ pm
        rw [← List.append_assoc]
        refine List.Perm.trans List.perm_append_comm ?_
        show (rs[k0] :: (rs.eraseIdx k0 ++ ys)).Perm (rs ++ ys)
        rw [← List.cons_append]
        exact List.Perm.append_right ys p1
    · obtain ⟨B2, P2, rs, ys, R2, F2, e1, e2, pm, y0, rfl⟩ := hq
      rw [Int.toNat_natCast] at e1 e2 P2
      rw [Nat.sub_self, Nat.add_zero] at P2
      have nd2 := pm.nodup_iff.mpr nd
      exact ⟨_, rfl, k ys f H2 B2 P2 hfn F2 e2 (List.nodup_append.mp nd2).2.1 fun y hy => pm.subset (List.mem_append_right _ hy)⟩
theorem ok_law_cells {f : Addr} {fd : FuncData} (T : Txt K w mg) (F : FD K "_law_cells" s_law_cells f fd) (hm : mg "_law_cells" = some (.ref f)) : Cg P w K mg base 1 "_law_cells" ["script", "most"] (sp_law_cells K) := by
  refine cg_of F hm sc_law_cells (fun vs H Q E h => ?_) (fun _ _ _ _ _ _ us hl => match us, hl with | [_, _], _ => rfl) (fun _ _ _ _ _ _ us hl => match us, hl with | [_, _], _ => rfl) (fun cdv A outer s H vs Q E hG hr h => ?_)
  · obtain ⟨a, xs, m, rfl, _⟩ := h
    rfl
  · obtain ⟨a, xs, m, rfl, hx, hm1, hm2, k⟩ := h
    refine ⟨_, (pss_one (ps_ret (pe_listRg rfl rfl T.f_list (prg_1 rfl T.f_range (pe_callB (call_max2 rfl) (by rfl) T.f_max (by decide +kernel) (pa_cons pe_int (pa_cons (pe_callB (call_min2 rfl) (by rfl) T.f_min (by decide +kernel) (pa_cons (pv 1) (pa_cons (pe_callB call_len_seq (by rfl) T.f_len PySem.boot_len (pa_cons (pv 0) pa_nil)) pa_nil))) pa_nil))))))), ?_⟩
    have L : SqL K H a (xs.map V.int) := hx
    refine ⟨_, rfl, _, rfl, a, _, rfl, .inl L, _, _, rfl, _, _, rfl, _, rfl, ?_, fun q hq => ?_⟩
    · rw [List.length_map]
      refine RgOk.of_le (by decide) ?_ (by decide) ?_ <;> (split <;> (try split) <;> omega)
    · obtain ⟨n, hn, h10⟩ : ∃ n : Nat, (if (if ((xs.map V.int).length : Int) < (m : Int) then ((xs.map V.int).length : Int) else (m : Int)) > 1 then (if ((xs.map V.int).length : Int) < (m : Int) then ((xs.map V.int).length : Int) else (m : Int)) else 1) = (n : Int) ∧ n ≤ 10 := by
        rw [List.length_map]
        by_cases h : (xs.length : Int) < (m : Int)
        · rw [if_pos h]
          by_cases h2 : (xs.length : Int) > 1
          · rw [if_pos h2]; exact ⟨_, rfl, by omega⟩
          · rw [if_neg h2]; exact ⟨1, rfl, by omega⟩
        · rw [if_neg h]
          by_cases h2 : (m : Int) > 1
          · rw [if_pos h2]; exact ⟨_, rfl, by omega⟩
          · rw [if_neg h2]; exact ⟨1, rfl, by omega⟩
      rw [hn]
      refine k n q _ h10 (Same.new hq) hq ?_
      rw [upd_same]
      unfold rgV
      have e : ((n : Int) - 0).toNat = n := by omega
      rw [e]
      congr 2
      apply List.map_congr_left
      intro i _
      rw [Int.zero_add]
theorem ok_law_heard {f : Addr} {fd : FuncData} (T : Txt K w mg) (F : FD K "_law_heard" s_law_heard f fd) (hm : mg "_law_heard" = some (.ref f)) : Cl P w K mg base 1 "_law_heard" ["call"] (sp_law_heard K) := by
  refine cl_of F hm sc_law_heard (fun tl vs1 vs2 H Q h => ?_) (fun _ _ _ _ _ _ us hl => match us, hl with | [_], _ => rfl) (fun cdv A outer s H vs1 vs2 Q j g c q fr H0 h0 tl hG hr la u0 ho hco h => ?_)
  · obtain ⟨rfl, rfl, _⟩ := h
    rfl
  · obtain ⟨rfl, rfl, h⟩ := h
    refine ⟨_, pss_cons (ps_asg (pe_tup (pa_cons pe_non (pa_cons pe_non pa_nil))) (pg_tup rfl (pgs_cons (pg_name (i := 1) sc_law_heard.nd rfl (Or.inl rfl)) (pgs_cons (pg_name (i := 2) sc_law_heard.nd rfl (Or.inl rfl)) pgs_nil))))
      (pss_cons (ps_try_keep (i := 3) rfl rfl rfl sc_law_heard.nd rfl rfl ⟨rfl, by decide, Or.inl T.gx_FlashError⟩ LamX.takes0
        (fun W pn xe tk _ => pss_one (ps_set (i := 2) sc_law_heard.nd rfl (Or.inl rfl) (pe_actL (i := 0) la hG (hr.mono (by omega)) rfl rfl rfl u0 ho tk rfl (.inl rfl))))
        (fun a pn => pss_one (ps_set (i := 1) sc_law_heard.nd rfl (Or.inl rfl) (pv 3))))
      (pss_one (ps_ret (pe_tup (pa_cons (pv 1) (pa_cons (pv 2) pa_nil)))))), ?_⟩
    refine ⟨by show 2 ≤ sizeLine; decide, fun p0 hp0 => ⟨p0, _, rfl, SqT.of upd_same, rfl, _, _, rfl, _, _, rfl, rfl, ?_⟩⟩
    have hc1 : upd H p0 (.tup [.non, .non]) c = some (CodeO c q) := by rw [upd_ne (ne_of_none hco hp0)]; exact hco
    refine ⟨rfl, hc1, la.mn _ _ _ _ _ (h p0 hp0) (fun cls d G x => ⟨true, x.1, fun _ a ha => ?_, fun z => nomatch z⟩) fun v G x => ?_⟩
    · exact ⟨_, rfl, _, rfl, _, rfl, by show 2 ≤ sizeLine; decide, fun p hp => x.2 a ha p hp⟩
    · exact ⟨_, rfl, _, rfl, by show 2 ≤ sizeLine; decide, fun p hp => x p hp⟩
theorem ok_law_is_int {f : Addr} {fd : FuncData} (T : Txt K w mg) (F : FD K "_law_is_int" s_law_is_int f fd) (hm : mg "_law_is_int" = some (.ref f)) : Cg P w K mg base 1 "_law_is_int" ["value", "low", "high"] sp_law_is_int := by
  refine cg_of F hm sc_law_is_int (fun vs H Q E h => ?_) (fun _ _ _ _ _ _ us hl => match us, hl with | [_, _, _], _ => rfl) (fun _ _ _ _ _ _ us hl => match us, hl with | [_, _, _], _ => rfl) (fun cdv A outer s H vs Q E hG hr h => ?_)
  · obtain ⟨i, j, k, rfl, _⟩ := h
    rfl
  · obtain ⟨i, j, k, rfl, q⟩ := h
    refine ⟨_, (pss_one (ps_ret (pe_and (pe_callB call_isi (by rfl) T.f_isinstance (by decide +kernel) (pa_cons (pv 0) (pa_cons (pe_bltn (v := .ty "int") rfl T.f_int (by decide +kernel) rfl) pa_nil))) (pe_and (pe_not (pe_callB call_isi (by rfl) T.f_isinstance (by decide +kernel) (pa_cons (pv 0) (pa_cons (pe_bltn (v := .ty "bool") rfl T.f_bool (by decide +kernel) rfl) pa_nil)))) (pe_one (pe_chain op_le op_le (pv 1) (pv 0) (pv 2))))))), ?_⟩
    refine ⟨_, rfl, _, _, _, _, true, rfl, .ty _, .base (.int _), kit_ty (by decide +kernel), _, rfl, iteT ?_⟩
    refine ⟨_, rfl, _, _, _, _, false, rfl, .ty _, .base (.int _), kit_ty (by decide +kernel), _, rfl, _, rfl, iteT ?_⟩
    refine ⟨_, rfl, _, rfl, _, _, rfl, rfl, _, rfl, ?_⟩
    by_cases h1 : j ≤ i
    · rw [decide_eq_true h1]
      refine iteT ⟨_, rfl, _, _, rfl, rfl, ?_⟩
      rw [show decide (j ≤ i ∧ i ≤ k) = decide (i ≤ k) by simp [h1]] at q
      exact q
    · rw [decide_eq_false h1]
      refine iteF ?_
      rw [show decide (j ≤ i ∧ i ≤ k) = false by simp [h1]] at q
      exact q
theorem ok_law_chip_begun {f : Addr} {fd : FuncData} (T : Txt K w mg) (F : FD K "_law_chip_begun" s_law_chip_begun f fd) (hm : mg "_law_chip_begun" = some (.ref f)) : Cg P w K mg base 1 "_law_chip_begun" ["blocks", "pages", "faults"] (sp_law_chip_begun K) := by
  refine cg_of F hm sc_law_chip_begun (fun vs H Q E h => ?_) (fun _ _ _ _ _ _ us hl => match us, hl with | [_, _, _], _ => rfl) (fun _ _ _ _ _ _ us hl => match us, hl with | [_, _, _], _ => rfl) (fun cdv A outer s H vs Q E hG hr h => ?_)
  · obtain ⟨t, bl, pg, fa, Z, rfl, _⟩ := h
    rfl
  · obtain ⟨t, bl, pg, fa, Z, rfl, ht, hf, hb, hp, hz, k⟩ := h
    refine ⟨_, (pss_cons (ps_set (i := 3) sc_law_chip_begun.nd rfl (Or.inl rfl) (pe_disp (pps_cons pe_str (pv 0) (pps_cons pe_str (pv 1) (pps_cons pe_str (pe_op op_rep (pe_lst (pa_cons (pe_op op_mulS pe_str pe_int) pa_nil)) (pe_op op_mul (pv 0) (pv 1))) (pps_cons pe_str (pe_op op_rep (pe_lst (pa_cons pe_int pa_nil)) (pv 0)) pps_nil)))) rfl rfl (by intro h; cases h) (by show 4 ≤ 15; decide)))
      (pss_cons (ps_expr (pe_dupd (pv 3) (pe_disp (pps_cons pe_str (pe_lst pa_nil) (pps_cons pe_str pe_dnewK (pps_cons pe_str (pe_callTy call_list_of (by rfl) T.f_list (by decide +kernel) (pa_cons (pv 2) pa_nil)) (pps_cons pe_str pe_int (pps_cons pe_str pe_int (pps_cons pe_str pe_bl pps_nil)))))) rfl rfl (by intro h; cases h) (by show 6 ≤ 15; decide)) ⟨rfl, rfl, rfl, rfl⟩))
      (pss_one (ps_ret (pv 3))))), ?_⟩
    intro p np
    have mi : ((bl : Int) * (pg : Int)) = ((bl * pg : Nat) : Int) := (Int.natCast_mul _ _).symm
    have mul := Nat.mul_le_mul hb hp
    have ef : (Str.ofString "f" : Str) = S [102] := by decide +kernel
    have S9 : sizeLine = 16777216 := sizeLine_eq
    refine ⟨_, rfl, _, rfl, _, _, rfl, rfl, by decide, by decide, by decide, ?_⟩
    rw [ef, mulS, rep_one, show Int.toNat 256 = 256 from rfl]
    refine ⟨by show 1 ≤ sizeLine; omega, fun r1 nr1 => ⟨_, rfl, _, rfl, _, _, rfl, rfl, .inl ⟨by omega, by omega⟩, r1, _, _, rfl, rfl, upd_same, by rw [mi]; omega, by rw [mi]; omega, by rw [mi, Int.toNat_natCast]; show 1 * (bl * pg) ≤ _; omega, fun pc npc => ?_⟩⟩
    rw [mi, Int.toNat_natCast, rep_one]
    refine ⟨by show 1 ≤ sizeLine; omega, fun r2 nr2 => ⟨_, rfl, r2, _, _, rfl, rfl, upd_same, by omega, by omega, by rw [Int.toNat_natCast]; show 1 * bl ≤ _; omega, fun pw npw => ?_⟩⟩
    rw [Int.toNat_natCast, rep_one]
    have Sx := (((Same.new nr1).trans (Same.new npc)).trans (Same.new nr2)).trans (Same.new (o := .lst (List.replicate bl (V.int 0))) npw)
    have SHp := Same.new (o := .dK []) np
    have epw := upd_same (H := upd (upd (upd (upd H p (.dK [])) r1 (.lst [V.str (SX.S (List.replicate 256 102))])) pc (.lst (List.replicate (bl * pg) (V.str (SX.S (List.replicate 256 102)))))) r2 (.lst [V.int 0])) (a := pw) (o := .lst (List.replicate bl (V.int 0)))
    have epc := ((Same.new nr2).trans (Same.new (o := .lst (List.replicate bl (V.int 0))) npw)) _ _ (upd_same (H := upd (upd H p (.dK [])) r1 (.lst [V.str (SX.S (List.replicate 256 102))])) (a := pc) (o := .lst (List.replicate (bl * pg) (V.str (SX.S (List.replicate 256 102))))))
    have hpc0 : H pc = none := SHp.free ((Same.new nr1).free npc)
    have hpw0 : H pw = none := SHp.free ((Same.new nr1).free ((Same.new npc).free ((Same.new nr2).free npw)))
    have ep := Sx _ _ (upd_same (H := H) (a := p) (o := .dK []))
    have SH1 : Same H (upd (upd (upd (upd (upd H p (.dK [])) r1 (.lst [V.str (SX.S (List.replicate 256 102))])) pc (.lst (List.replicate (bl * pg) (V.str (SX.S (List.replicate 256 102)))))) r2 (.lst [V.int 0])) pw (.lst (List.replicate bl (V.int 0)))) := SHp.trans Sx
    revert epw epc ep SH1
    clear Sx
    generalize upd (upd (upd (upd (upd H p (.dK [])) r1 (.lst [V.str (SX.S (List.replicate 256 102))])) pc (.lst (List.replicate (bl * pg) (V.str (SX.S (List.replicate 256 102)))))) r2 (.lst [V.int 0])) pw (.lst (List.replicate bl (V.int 0))) = H1
    intro epw epc ep SH1
    refine ⟨ep, [(.inr ("blocks" : Str), .int (bl : Int)), (.inr ("pages" : Str), .int (pg : Int)), (.inr ("cells" : Str), .ref pc), (.inr ("wear" : Str), .ref pw)], rfl, by show 4 ≤ 15; decide, ?_⟩
    refine ⟨_, rfl, p, rfl, .inl ⟨_, .inl upd_same⟩, fun p2 np2 => ?_⟩
    have m0 : mergeK [] [(.inr ("blocks" : Str), .int (bl : Int)), (.inr ("pages" : Str), .int (pg : Int)), (.inr ("cells" : Str), .ref pc), (.inr ("wear" : Str), .ref pw)] = [(.inr ("blocks" : Str), .int (bl : Int)), (.inr ("pages" : Str), .int (pg : Int)), (.inr ("cells" : Str), V.ref pc), (.inr ("wear" : Str), V.ref pw)] := rfl
    rw [m0] at np2
    rw [m0]
    have pp2 : p ≠ p2 := fun z => by rw [← z, upd_same] at np2; cases np2
    have hp0 : H p = none := np
    obtain ⟨rs, f1, f2, f3⟩ := ht.ex
    have SG : Same H (upd H1 p (.dK [(.inr ("blocks" : Str), .int (bl : Int)), (.inr ("pages" : Str), .int (pg : Int)), (.inr ("cells" : Str), V.ref pc), (.inr ("wear" : Str), V.ref pw)])) := SH1.put hp0
    have ppc : pc ≠ p := fun z => by rw [z, ep] at epc; cases epc
    have ppw : pw ≠ p := fun z => by rw [z, ep] at epw; cases epw
    have epw1 : (upd H1 p (.dK [(.inr ("blocks" : Str), .int (bl : Int)), (.inr ("pages" : Str), .int (pg : Int)), (.inr ("cells" : Str), V.ref pc), (.inr ("wear" : Str), V.ref pw)])) pw = _ := (upd_ne ppw).trans epw
    have epc1 : (upd H1 p (.dK [(.inr ("blocks" : Str), .int (bl : Int)), (.inr ("pages" : Str), .int (pg : Int)), (.inr ("cells" : Str), V.ref pc), (.inr ("wear" : Str), V.ref pw)])) pc = _ := (upd_ne ppc).trans epc
    have ep1 : (upd H1 p (.dK [(.inr ("blocks" : Str), .int (bl : Int)), (.inr ("pages" : Str), .int (pg : Int)), (.inr ("cells" : Str), V.ref pc), (.inr ("wear" : Str), V.ref pw)])) p = _ := upd_same
    revert np2 epw1 epc1 ep1 SG
    generalize upd H1 p (.dK [(.inr ("blocks" : Str), .int (bl : Int)), (.inr ("pages" : Str), .int (pg : Int)), (.inr ("cells" : Str), V.ref pc), (.inr ("wear" : Str), V.ref pw)]) = G1
    intro np2 SG epw1 epc1 ep1
    refine ⟨Nat.zero_le _, fun bd nbd => ?_⟩
    refine fun wr nwr => ⟨_, rfl, t, rs.map V.ref, rfl, .inr (sqT_same (((SG.trans (Same.new np2)).trans (Same.new nbd)).trans (Same.new nwr)) f1), fun fl nfl => ?_⟩
    have Sx := ((Same.new (o := .lst []) nbd).trans (Same.new (o := .dK []) nwr)).trans (Same.new (o := .lst (rs.map V.ref)) nfl)
    have S2x := (SG.trans (Same.new (o := .dK []) np2)).trans Sx
    have ep2 := Sx _ _ (upd_same (H := G1) (a := p2) (o := .dK []))
    have epx := ((Same.new (o := .dK []) np2).trans Sx) _ _ ep1
    have epwx := ((Same.new (o := .dK []) np2).trans Sx) _ _ epw1
    have epcx := ((Same.new (o := .dK []) np2).trans Sx) _ _ epc1
    have efl : (upd (upd (upd (upd G1 p2 (.dK [])) bd (.lst [])) wr (.dK [])) fl (.lst (rs.map V.ref))) fl = some (.lst (rs.map V.ref)) := upd_same
    have ewr := (Same.new (o := .lst (rs.map V.ref)) nfl) _ _ (upd_same (H := upd (upd G1 p2 (.dK [])) bd (.lst [])) (a := wr) (o := .dK []))
    have ebd := ((Same.new (o := .dK []) nwr).trans (Same.new (o := .lst (rs.map V.ref)) nfl)) _ _ (upd_same (H := upd G1 p2 (.dK [])) (a := bd) (o := .lst []))
    have hfl0 : H fl = none := ((SG.trans (Same.new (o := .dK []) np2)).trans ((Same.new (o := .lst []) nbd).trans (Same.new (o := .dK []) nwr))).free nfl
    have hwr0 : H wr = none := ((SG.trans (Same.new (o := .dK []) np2)).trans (Same.new (o := .lst []) nbd)).free nwr
    have hbd0 : H bd = none := (SG.trans (Same.new (o := .dK []) np2)).free nbd
    have hp20 : H p2 = none := SG.free np2
    have wp2 : wr ≠ p2 := fun z => by have h := (Same.new (o := .lst []) nbd) _ _ (upd_same (H := G1) (a := p2) (o := .dK [])); have h2 := nwr; rw [z, h] at h2; cases h2
    revert ep2 epx epwx epcx efl ewr ebd S2x
    clear Sx nfl nwr nbd
    generalize upd (upd (upd (upd G1 p2 (.dK [])) bd (.lst [])) wr (.dK [])) fl (.lst (rs.map V.ref)) = G2
    intro S2x ep2 epx epwx epcx efl ewr ebd
    refine ⟨ep2, [(.inr ("bad" : Str), .ref bd), (.inr ("written" : Str), .ref wr), (.inr ("faults" : Str), .ref fl), (.inr ("done" : Str), .int 0), (.inr ("cuts" : Str), .int 0), (.inr ("is_on" : Str), .bl true)], rfl, by show 6 ≤ 15; decide, ?_⟩
    refine ⟨p2, [(.inr ("blocks" : Str), .int (bl : Int)), (.inr ("pages" : Str), .int (pg : Int)), (.inr ("cells" : Str), V.ref pc), (.inr ("wear" : Str), V.ref pw)], [(.inr ("bad" : Str), .ref bd), (.inr ("written" : Str), .ref wr), (.inr ("faults" : Str), .ref fl), (.inr ("done" : Str), .int 0), (.inr ("cuts" : Str), .int 0), (.inr ("is_on" : Str), .bl true)], rfl, pp2, (upd_ne pp2).trans epx, upd_same, by show 10 ≤ sizeLine; omega, ?_⟩
    have ne : ∀ q : Addr, ∀ u, G2 q = some u → u ≠ .dK [] → u ≠ .dK [(.inr ("blocks" : Str), .int (bl : Int)), (.inr ("pages" : Str), .int (pg : Int)), (.inr ("cells" : Str), V.ref pc), (.inr ("wear" : Str), V.ref pw)] → q ≠ p ∧ q ≠ p2 := fun q u e n1 n2 => ⟨fun z => by rw [z, epx] at e; exact n2 (Option.some.inj e).symm, fun z => by rw [z, ep2] at e; exact n1 (Option.some.inj e).symm⟩
    refine ⟨_, rfl, ?_⟩
    refine k p _ ((S2x.put hp20).put hp0) hp0 ⟨⟨⟨pc, pw, bd, wr, fl⟩, [], ⟨?_, ?_, ?_, ?_, ?_, ⟨rs, ?_, f2, fun i r f e1 e2 => ?_⟩, List.nodup_nil⟩, ?_, Nat.le_refl _, fun z => hz _ z hpc0, fun z => hz _ z hpw0, fun z => hz _ z hbd0, fun z => hz _ z hfl0⟩⟩
    · exact upd_same
    · obtain ⟨a1, a2⟩ := ne pc _ epcx (by intro z; cases z) (by intro z; cases z)
      rw [upd_ne a1, upd_ne a2, epcx]
      unfold fresh
      rw [List.map_replicate]
    · obtain ⟨a1, a2⟩ := ne pw _ epwx (by intro z; cases z) (by intro z; cases z)
      rw [upd_ne a1, upd_ne a2, epwx]
      unfold fresh
      rw [List.map_replicate]
    · obtain ⟨a1, a2⟩ := ne bd _ ebd (by intro z; cases z) (by intro z; cases z)
      rw [upd_ne a1, upd_ne a2, ebd]
      have : badL (List.replicate bl false) bl = [] := by
        unfold badL
        rw [List.filter_eq_nil_iff.mpr (fun x hx => by rw [List.getD, List.getElem?_replicate]; split <;> simp)]
        rfl
      show _ = some (HO.lst ((badL (List.replicate bl false) bl).map V.int))
      rw [this]
      rfl
    · have a1 : wr ≠ p := fun z => by rw [z, epx] at ewr; cases ewr
      rw [upd_ne a1, upd_ne wp2, ewr]
      rfl
    · obtain ⟨a1, a2⟩ := ne fl _ efl (by intro z; cases z) (by intro z; cases z)
      rw [upd_ne a1, upd_ne a2, efl]
    · exact sqT_same ((S2x.put hp20).put hp0) (f3 i r f e1 e2)
    · refine ⟨(fun _ z => nomatch z), fun q hq => ?_⟩
      refine ⟨fun z => absurd ?_ z, fun _ y e => (by cases e)⟩
      have hq2 : q < bl * pg := by
        have : (fresh bl pg fa).cells.length = bl * pg := List.length_replicate
        omega
      show (List.replicate (bl * pg) (List.replicate 256 102)).getD q [] = _
      rw [List.getD, List.getElem?_replicate, if_pos hq2]
      rfl
theorem ok_law_chip_is_cells {f : Addr} {fd : FuncData} (T : Txt K w mg) (F : FD K "_law_chip_is_cells" s_law_chip_is_cells f fd) (hm : mg "_law_chip_is_cells" = some (.ref f)) : Cg P w K mg base 1 "_law_chip_is_cells" ["value", "low", "high"] sp_law_chip_is_cells := by
  refine cg_of F hm sc_law_chip_is_cells (fun vs H Q E h => ?_) (fun _ _ _ _ _ _ us hl => match us, hl with | [_, _, _], _ => rfl) (fun _ _ _ _ _ _ us hl => match us, hl with | [_, _, _], _ => rfl) (fun cdv A outer s H vs Q E hG hr h => ?_)
  · obtain ⟨g, rfl, _⟩ := h
    rfl
  · obtain ⟨g, rfl, hg, k⟩ := h
    refine ⟨_, (pss_cons (ps_if (PW.pt (pw_or (pt_not (pt_val (pe_callB call_isi (by rfl) T.f_isinstance (by decide +kernel) (pa_cons (pv 0) (pa_cons (pe_bltn (v := .ty "str") rfl T.f_str (by decide +kernel) rfl) pa_nil))))) (pw_or1 (pt_not (pt_chain op_le op_le (pv 1) (pe_callB call_len_str (by rfl) T.f_len PySem.boot_len (pa_cons (pv 0) pa_nil)) (pv 2)))))) (pss_one (ps_ret pe_bl)) pss_nil)
      (pss_one (ps_ret (pe_callB (cr_all rfl) (by rfl) T.f_all (by decide +kernel) (pa_cons (pe_lc (own := [("sign", 3)]) rfl sc_law_chip_is_cells.nd (pi_str (pv 0)) (blkOk_by (N := ["value", "low", "high", "sign"]) (sc := defScope s_law_chip_is_cells) (by decide +kernel)) (fun _ _ _ _ _ => (pg_name (i := 3) sc_law_chip_is_cells.nd rfl (Or.inl rfl))) (fun _ _ _ _ _ => pts_nil) (fun _ _ _ _ _ => (pe_cmpR op_in_sign (pv 3) pe_str (by rfl)))) pa_nil))))), ?_⟩
    refine ⟨_, rfl, _, _, _, _, true, rfl, .ty _, .base (.str _), kit_ty (by decide +kernel), _, rfl, iteF ?_⟩
    have e1 : (S [g]).length = 1 := S_len [g]
    refine ⟨_, rfl, _, rfl, _, rfl, by rw [e1, sizeLine_eq]; decide, _, _, rfl, rfl, _, rfl, ?_⟩
    rw [e1]
    refine iteT ⟨_, rfl, _, _, rfl, rfl, _, rfl, ?_⟩
    refine iteF ?_
    dsimp only [tNext]
    refine ⟨_, rfl, _, rfl, fun D hD => lc_map walk_str (fun _ => V.bl true) hD (by rw [S_size]; show 1 ≤ 1000000; decide) (fun _ _ => trivial) ?_ mono_name ?_⟩
    · rintro i x H1 H2 N hi hS ⟨rfl, c, hx, rfl⟩ h1
      rw [S_get] at hx
      have hcg : c = g := List.mem_singleton.mp (List.mem_of_getElem? hx)
      subst hcg
      refine ⟨rfl, _, rfl, c, _, rfl, rfl, ?_⟩
      have e : decide (c ∈ (Str.ofString "0123456789abcdef" : Str).cps.toList) = true := by
        refine decide_eq_true ?_
        rcases cell_cases hg with rfl | rfl | rfl | rfl | rfl | rfl | rfl | rfl | rfl | rfl | rfl | rfl | rfl | rfl | rfl | rfl <;> decide +kernel
      rw [e]
      exact h1 _ (Same.refl _)
    · intro H1 hS hL
      have e : ((List.range (S [g]).cps.size).map fun _ => V.bl true) = ([true].map V.bl) := by rw [S_size]; rfl
      rw [e] at hL
      exact ⟨D, _, rfl, SqL.of hL, k _ hS⟩
theorem ok_law_chip_torn {f : Addr} {fd : FuncData} (T : Txt K w mg) (F : FD K "_law_chip_torn" s_law_chip_torn f fd) (hm : mg "_law_chip_torn" = some (.ref f)) : Cg P w K mg base 1 "_law_chip_torn" ["cells", "pattern"] sp_law_chip_torn := by
  refine cg_of F hm sc_law_chip_torn (fun vs H Q E h => ?_) (fun _ _ _ _ _ _ us hl => match us, hl with | [_, _], _ => rfl) (fun _ _ _ _ _ _ us hl => match us, hl with | [_, _], _ => rfl) (fun cdv A outer s H vs Q E hG hr h => ?_)
  · obtain ⟨l, r, rfl, _⟩ := h
    rfl
  · obtain ⟨l, r, rfl, hc, hl, hcr, hr1, hr2, k⟩ := h
    refine ⟨_, (pss_cons (ps_set (i := 2) sc_law_chip_torn.nd rfl (Or.inl rfl) (pe_lst pa_nil))
      (pss_cons (ps_for PassesOwn.never rfl (pi_enumS rfl T.f_enumerate (pa_cons (pv 0) pa_nil)) (pg_tup rfl (pgs_cons (pg_name (i := 3) sc_law_chip_torn.nd rfl (Or.inl rfl)) (pgs_cons (pg_name (i := 4) sc_law_chip_torn.nd rfl (Or.inl rfl)) pgs_nil)))
        (pss_cons (ps_set (i := 5) sc_law_chip_torn.nd rfl (Or.inl rfl) (pe_ix ix_str (pv 1) (pe_op op_mod (pv 3) (pe_callB call_len_str (by rfl) T.f_len PySem.boot_len (pa_cons (pv 1) pa_nil))) (fun _ _ => rfl)))
      (pss_one (ps_expr (pe_bm PySem.F.plainAttrs_list PySem.F.slot_list_append PySem.F.type_list_append mt_append (pv 2) (pa_cons (pe_ifExp (pt_cmpR op_ge (pe_bm PySem.F.plainAttrs_str PySem.F.slot_str_index PySem.F.type_str_index mt_sindex pe_str (pa_cons (pv 4) pa_nil)) (pe_bm PySem.F.plainAttrs_str PySem.F.slot_str_index PySem.F.type_str_index mt_sindex pe_str (pa_cons (pv 5) pa_nil)) (nomark _)) (pv 4) (pv 5)) pa_nil))))))
      (pss_one (ps_ret (pe_join pe_str (pv 2)))))), ?_⟩
    refine ⟨by show 0 ≤ sizeLine; decide, fun D hD => ?_⟩
    refine ⟨_, rfl, _, rfl, for_it walk_enumS (fun i σ H1 => ∃ x y z ts, σ = [some (.str (S l)), some (.str (S r)), some (.ref D), x, y, z] ∧ Same H H1 ∧ H1 D = some (.lst (ts.map fun c => V.str (S [c]))) ∧ ts.length = i ∧ WM.Cells ts ∧ ∀ j, j < i → ts.getD j 0 = tvl l r j) ⟨none, none, none, [], rfl, Same.new hD, upd_same, rfl, (fun c h => nomatch h), fun j h => nomatch h⟩ (fun _ _ _ _ _ => trivial) ?_ ?_⟩
    · rintro i x σ H1 H2 hi ⟨x1, x2, x3, ts, rfl, hS, hT, hlen, hcs, hge⟩ ⟨p, c, rfl, hp, rfl, hx⟩
      rw [S_get] at hx
      rw [S_size] at hi
      have hcc : WM.IsCell c := hc c (List.mem_of_getElem? hx)
      have hcl : l.getD i 0 = c := by rw [List.getD, hx]; rfl
      have hT2 := Same.new (o := .tup [V.int (0 + (i : Nat)), V.str ⟨#[c]⟩]) hp _ _ hT
      have hzr : (S r).length ≤ sizeLine := by rw [S_len, sizeLine_eq]; omega
      obtain ⟨j, hj, hjr, hji⟩ : ∃ j : Nat, ((0 : Int) + (i : Nat)) % ((S r).length : Nat) = (j : Int) ∧ j < r.length ∧ j = i % r.length := ⟨i % r.length, by rw [Int.zero_add, S_len]; exact (Int.natCast_emod i r.length).symm, Nat.mod_lt _ (by omega), rfl⟩
      obtain ⟨u, hu⟩ : ∃ u, r[j]? = some u := ⟨r[j], List.getElem?_eq_getElem hjr⟩
      have eu : r.getD (i % r.length) 0 = u := by rw [← hji, List.getD, hu]; rfl
      have hcu : WM.IsCell u := hcr u (List.mem_of_getElem? hu)
      obtain ⟨r1, w1⟩ := worth_at hcc
      obtain ⟨r2, w2⟩ := worth_at hcu
      have hS2 := hS.put (o := .tup [V.int (0 + (i : Nat)), V.str ⟨#[c]⟩]) (hS.free hp)
      have fin : ∀ c', WM.IsCell c' → c' = tvl l r i → ∃ x y z t2, [some (.str (S l)), some (.str (S r)), some (.ref D), some (V.int (0 + (i : Nat))), some (V.str ⟨#[c]⟩), some (V.str ⟨#[u]⟩)] = [some (V.str (S l)), some (.str (S r)), some (.ref D), x, y, z] ∧ Same H (upd (upd H1 p (.tup [V.int (0 + (i : Nat)), V.str ⟨#[c]⟩])) D (.lst (ts.map (fun c => V.str (S [c])) ++ [V.str ⟨#[c']⟩]))) ∧ (upd (upd H1 p (.tup [V.int (0 + (i : Nat)), V.str ⟨#[c]⟩])) D (.lst (ts.map (fun c => V.str (S [c])) ++ [V.str ⟨#[c']⟩]))) D = some (.lst (t2.map fun c => V.str (S [c]))) ∧ t2.length = i + 1 ∧ WM.Cells t2 ∧ ∀ j, j < i + 1 → t2.getD j 0 = tvl l r j := by
        intro c' h1 h2
        refine ⟨_, _, _, ts ++ [c'], rfl, hS2.put hD, ?_, by simp [hlen], ?_, fun j hj => ?_⟩
        · rw [upd_same, List.map_append]
          rfl
        · intro d hd
          rcases List.mem_append.mp hd with z | z
          · exact hcs d z
          · rw [List.mem_singleton.mp z]; exact h1
        · by_cases h : j < i
          · rw [List.getD, List.getElem?_append_left (by omega)]
            exact hge j h
          · have : j = i := by omega
            subst this
            rw [List.getD, List.getElem?_append_right (by omega), hlen, Nat.sub_self]
            exact h2
      refine ⟨p, _, rfl, SqT.of upd_same, rfl, _, _, rfl, _, _, rfl, rfl, ?_⟩
      refine ⟨_, rfl, _, rfl, _, rfl, _, rfl, hzr, _, _, rfl, rfl, (show (0 : Int) < ((S r).length : Nat) by rw [S_len]; omega), _, _, _, rfl, rfl, hzr, (by rw [hj]; exact at_S hu), ?_⟩
      refine ⟨_, rfl, .inl ⟨rfl, _, SqL.of hT2⟩, rfl, _, rfl, _, _, _, r1, rfl, rfl, w1, rfl, _, rfl, _, _, _, r2, rfl, rfl, w2, _, _, rfl, rfl, _, rfl, ?_⟩
      by_cases q : WM.wo u ≤ WM.wo c
      · rw [decide_eq_true (show ((WM.wo u : Nat) : Int) ≤ (WM.wo c : Nat) by omega)]
        exact iteT ⟨_, rfl, D, _, _, rfl, rfl, hT2, by rw [List.length_map, sizeLine_eq]; omega, fin c hcc (by unfold tvl; rw [eu, hcl, if_neg (fun z => by have := (WM.wo_mono hcc hcu).mpr z; omega)])⟩
      · rw [decide_eq_false (show ¬ ((WM.wo u : Nat) : Int) ≤ (WM.wo c : Nat) by omega)]
        exact iteF ⟨_, rfl, D, _, _, rfl, rfl, hT2, by rw [List.length_map, sizeLine_eq]; omega, fin u hcu (by unfold tvl; rw [eu, hcl, if_pos ((WM.wo_mono hcc hcu).mp (by omega))])⟩
    · rintro σ H1 ⟨x1, x2, x3, ts, rfl, hS, hT, hlen, hcs, hge⟩
      rw [S_size] at hlen hge
      refine ⟨⟨_, rfl⟩, _, rfl, _, D, ts.map fun c => S [c], rfl, rfl, .inl (SqL.of (by rw [hT, List.map_map]; rfl)), ?_, ?_⟩
      · rw [join_len1, List.length_map]
        show ts.length + ts.length * 0 ≤ 16777216
        omega
      · rw [ofs_nil, WR.join_one]
        have e : ts = (List.range l.length).map fun i => tvl l r i := by
          refine List.ext_getElem (by rw [List.length_map, List.length_range]; exact hlen) fun j h1 h2 => ?_
          have q := hge j (by omega)
          rw [List.getD_eq_getElem?_getD, List.getElem?_eq_getElem h1] at q
          rw [List.getElem_map, List.getElem_range]
          exact q
        rw [e]
        exact k _ hS
theorem ok_law_chip_fault {f : Addr} {fd : FuncData} (T : Txt K w mg) (F : FD K "_law_chip_fault" s_law_chip_fault f fd) (hm : mg "_law_chip_fault" = some (.ref f)) : Cg P w K mg base 1 "_law_chip_fault" ["own"] (sp_law_chip_fault K) := by
  refine cg_of F hm sc_law_chip_fault (fun vs H Q E h => ?_) (fun _ _ _ _ _ _ us hl => match us, hl with | [_], _ => rfl) (fun _ _ _ _ _ _ us hl => match us, hl with | [_], _ => rfl) (fun cdv A outer s H vs Q E hG hr h => ?_)
  · obtain ⟨o, A, c, ws, rfl, _⟩ := h
    rfl
  · obtain ⟨o, A, c, ws, rfl, ho, hf, k⟩ := h
    refine ⟨_, (pss_cons (ps_setLc (own := [("at", 2), ("word", 3), ("pattern", 4)]) (i := 1) rfl sc_law_chip_fault.nd rfl rfl (sw_true rfl rfl rfl (by decide +kernel)) (pi_list (pe_dget (Nat.lt_of_le_of_lt (Nat.add_le_add_left (by decide) _) hr.units) (pv 0) pe_str (fun _ _ => rfl))) (blkOk_by (N := ["own", "some", "at", "word", "pattern"]) (sc := defScope s_law_chip_fault) (by decide +kernel)) (fun _ _ _ _ _ => show PG _ _ (gTup K 3 (gCons (gName 2) (gCons (gName 3) (gCons (gName 4) gNil)))) from (pg_tup rfl (pgs_cons (pg_name (i := 2) sc_law_chip_fault.nd rfl (Or.inl rfl)) (pgs_cons (pg_name (i := 3) sc_law_chip_fault.nd rfl (Or.inl rfl)) (pgs_cons (pg_name (i := 4) sc_law_chip_fault.nd rfl (Or.inl rfl)) pgs_nil))))) (fun _ _ _ _ _ => pts_one (pt_cmpR op_eq (pv 2) (pe_op op_add (pe_dget (Nat.lt_of_le_of_lt (Nat.add_le_add_left (by decide) _) hr.units) (pv 0) pe_str (fun _ _ => rfl)) pe_int) (nomark _))) (fun _ _ _ _ _ => (pe_tup (pa_cons (pv 3) (pa_cons (pv 4) pa_nil)))))
      (pss_one (ps_ret (pe_ifExp (pt_cmpR (op_neD hr.units) (pv 1) (pe_lst pa_nil) (nomark _)) (pe_ix (show IxR _ (rIxL K) from ix_list) (pv 1) pe_int (fun _ _ => rfl)) (pe_tup (pa_cons pe_str (pa_cons pe_str pa_nil))))))), ?_⟩
    obtain ⟨rs, r1, r2, r3⟩ := ho.fa.ex
    refine ⟨_, rfl, o, _, rfl, og_faults ho, A.fa, rfl, ⟨_, SqL.of r1⟩, fun D hD => lc_it (walk_list (xs := rs.map V.ref)) (fun i H' => Same H H' ∧ ∃ ts : List Addr, H' D = some (.lst (ts.map V.ref)) ∧ ts.length = ((c.fa.take i).filter fun f => decide (f.1 = c.done + 1)).length ∧ ∀ (j : Nat) (t : Addr) (f : Nat × Str × List Nat), ts[j]? = some t → ((c.fa.take i).filter fun f => decide (f.1 = c.done + 1))[j]? = some f → H' t = some (.tup [.str f.2.1, .str (S f.2.2)])) ⟨Same.new hD, [], upd_same, rfl, fun j t f h => nomatch h⟩ (fun i H' _ h => SqL.of (h.1 _ _ r1)) (fun i y H4 H4' hi hp4 hy => ?_) fun H4 hp4 => ?_⟩
    · obtain ⟨s4, ts, q1, q2, q3⟩ := hp4
      obtain ⟨rfl, hv⟩ := hy
      rw [List.length_map] at hi
      have hfi : i < c.fa.length := by rw [← r2]; exact hi
      have er : rs[i]? = some rs[i] := List.getElem?_eq_getElem hi
      have ef : c.fa[i]? = some c.fa[i] := List.getElem?_eq_getElem hfi
      rw [List.getElem?_map, er] at hv
      cases hv
      have hr := sqT_same s4 (r3 i _ _ er ef)
      have tk : c.fa.take (i + 1) = c.fa.take i ++ [c.fa[i]] := by rw [List.take_add_one, ef]; rfl
      have tl : ((c.fa.take i).filter fun f => decide (f.1 = c.done + 1)).length ≤ 100 := Nat.le_trans (List.length_filter_le _ _) (by rw [List.length_take]; have := hf.len; omega)
      have S9 : sizeLine = 16777216 := sizeLine_eq
      refine ⟨rs[i], _, rfl, hr, rfl, _, _, rfl, _, _, rfl, _, _, rfl, rfl, rfl, ?_⟩
      refine ⟨_, rfl, _, rfl, o, _, rfl, og_done (ho.same s4), _, _, rfl, rfl, rfl, _, rfl, ?_⟩
      by_cases g : c.fa[i].1 = c.done + 1
      · rw [decide_eq_true (show V.int (c.fa[i].1 : Int) = V.int ((c.done : Int) + 1) by rw [g]; rfl)]
        refine iteT ⟨_, rfl, _, rfl, by show 2 ≤ sizeLine; omega, fun t nt => ?_⟩
        have tD : t ≠ D := fun z => by rw [z, q1] at nt; cases nt
        have fl : ((c.fa.take (i + 1)).filter fun f => decide (f.1 = c.done + 1)) = ((c.fa.take i).filter fun f => decide (f.1 = c.done + 1)) ++ [c.fa[i]] := by
          rw [tk, List.filter_append]
          congr 1
          rw [List.filter_cons, if_pos (decide_eq_true g)]
          rfl
        refine ⟨_, by rw [upd_ne tD.symm]; exact q1, by rw [List.length_map, q2]; omega, (s4.trans (Same.new nt)).put hD, ts ++ [t], by rw [upd_same, List.map_append]; rfl, by rw [fl, List.length_append, List.length_append, q2]; rfl, fun j t' f' e1 e2 => ?_⟩
        rw [fl] at e2
        by_cases hj : j < ts.length
        · rw [List.getElem?_append_left hj] at e1
          rw [List.getElem?_append_left (by omega)] at e2
          have q := q3 j t' f' e1 e2
          rw [upd_ne (fun z => by rw [z, q1] at q; cases q), upd_ne (ne_of_none q nt)]
          exact q
        · rw [List.getElem?_append_right (by omega)] at e1 e2
          have z1 : j - ts.length = 0 := by
            have := (List.getElem?_eq_some_iff.mp e1).1
            simpa using this
          rw [z1] at e1
          rw [show j - ((c.fa.take i).filter fun f => decide (f.1 = c.done + 1)).length = 0 by omega] at e2
          cases e1
          cases e2
          rw [upd_ne tD, upd_same]
      · rw [decide_eq_false (show ¬ V.int (c.fa[i].1 : Int) = V.int ((c.done : Int) + 1) from fun z => g (by have := V.int.inj z; omega))]
        have fl : ((c.fa.take (i + 1)).filter fun f => decide (f.1 = c.done + 1)) = ((c.fa.take i).filter fun f => decide (f.1 = c.done + 1)) := by
          rw [tk, List.filter_append, List.filter_cons, if_neg (fun z => g (of_decide_eq_true z))]
          exact List.append_nil _
        refine iteF ⟨s4, ts, q1, by rw [fl]; exact q2, ?_⟩
        rw [fl]
        exact q3
    · obtain ⟨s4, ts, q1, q2, q3⟩ := hp4
      rw [List.length_map, r2, List.take_length, filt_lookup (fa_pw hf)] at q2 q3
      have S9 : sizeLine = 16777216 := sizeLine_eq
      cases e : c.fa.lookup (c.done + 1) with
      | none =>
        rw [e] at q2 q3
        have ets : ts = [] := List.length_eq_zero_iff.mp q2
        subst ets
        have ed : deed c = (Str.ofString "", [102]) := by unfold deed; rw [e]
        refine ⟨_, rfl, by show 0 ≤ sizeLine; omega, fun p1 np1 => ⟨_, _, .lst (SqL.of ((Same.new np1) _ _ q1)) .nil, .lst (SqL.of upd_same) .nil, by decide +kernel, by decide +kernel, _, rfl, iteF ⟨by show 2 ≤ sizeLine; omega, fun p2 np2 => ?_⟩⟩⟩
        rw [ed] at k
        exact k p2 _ [] _ ((s4.trans (Same.new np1)).trans (Same.new np2)) upd_same rfl (fun z => absurd rfl z)
      | some wp =>
        obtain ⟨w1, p1⟩ := wp
        rw [e] at q2 q3
        have ed : deed c = (w1, p1) := by unfold deed; rw [e]
        obtain ⟨t, rfl⟩ : ∃ t, ts = [t] := List.length_eq_one_iff.mp q2
        have ht := q3 0 t (c.done + 1, w1, p1) rfl rfl
        obtain ⟨pc, p1l, p100, hw⟩ : WM.Cells p1 ∧ 1 ≤ p1.length ∧ p1.length ≤ 100 ∧ (w1 = Str.ofString "cut" ∨ w1 = Str.ofString "bad") := by
          have m : (c.done + 1, w1, p1) ∈ c.fa.filter fun f => decide (f.1 = c.done + 1) := by
            rw [filt_lookup (fa_pw hf), e]
            exact List.mem_cons_self
          exact hf.ok _ (List.mem_filter.mp m).1
        have sh : SeqAt.shaped (.list [.tuple [.str w1, .str (S p1)]]) = true := by
          have e1 : PyData.strOk (S p1) = true := strOk_S fun c hc => by have := pc c hc; unfold WM.IsCell at this; omega
          have e2 : PyData.strOk w1 = true := by rcases hw with rfl | rfl <;> decide +kernel
          unfold SeqAt.shaped
          rw [show PyData.canLay0 (.list [.tuple [.str w1, .str (S p1)]]) = ((PyData.strOk w1 && (PyData.strOk (S p1) && true)) && true) from rfl, e1, e2]
          rfl
        refine ⟨_, rfl, by show 0 ≤ sizeLine; omega, fun p2 np2 => ⟨_, _, .lst (SqL.of ((Same.new np2) _ _ q1)) (.cons (.tup (SqT.of ((Same.new np2) _ _ ht)) (.cons (.str _) (.cons (.str _) .nil))) .nil), .lst (SqL.of upd_same) .nil, sh, by decide +kernel, _, rfl, iteT ⟨_, rfl, D, _, 0, _, rfl, rfl, SqL.of ((Same.new np2) _ _ q1), rfl, ?_⟩⟩⟩
        rw [ed] at k
        exact k t w1 p1 _ (s4.trans (Same.new np2)) ((Same.new np2) _ _ ht) rfl (fun _ => rfl)
theorem ok_law_chip_deed {f : Addr} {fd : FuncData} (T : Txt K w mg) (F : FD K "_law_chip_deed" s_law_chip_deed f fd) (hm : mg "_law_chip_deed" = some (.ref f)) : Cg P w K mg base 1 "_law_chip_deed" ["own", "block", "word"] (sp_law_chip_deed K) := by
  refine cg_of F hm sc_law_chip_deed (fun vs H Q E h => ?_) (fun _ _ _ _ _ _ us hl => match us, hl with | [_, _, _], _ => rfl) (fun _ _ _ _ _ _ us hl => match us, hl with | [_, _, _], _ => rfl) (fun cdv A outer s H vs Q E hG hr h => ?_)
  · obtain ⟨o, A, c, ws, b, w, rfl, _⟩ := h
    rfl
  · obtain ⟨o, A, c, ws, b, w, rfl, ho, hb, h60, hbl, k⟩ := h
    refine ⟨_, (pss_cons (ps_set (i := 3) sc_law_chip_deed.nd rfl (Or.inl rfl) (pe_callTy (call_dictP rfl) (by rfl) T.f_dict (by decide +kernel) (pa_cons (LiI.pe_listItems rfl (pv 0) rfl T.f_list (by decide +kernel)) pa_nil)))
      (pss_cons (ps_asg (pe_op op_add (pe_dget (Nat.lt_of_le_of_lt (Nat.add_le_add_left (by decide) _) hr.units) (pv 0) pe_str (fun _ _ => rfl)) pe_int) (pg_sub (pv 3) pe_str (set_dict (Nat.lt_of_le_of_lt (Nat.add_le_add_left (by decide) _) hr.units))))
      (pss_cons (ps_if (pt_cmpR op_eq (pv 2) pe_str (nomark _)) (pss_cons (ps_asg (pe_tup (pa_cons (pe_op op_add (pe_dget (Nat.lt_of_le_of_lt (Nat.add_le_add_left (by decide) _) hr.units) (pv 0) pe_str (fun _ _ => rfl)) pe_int) (pa_cons pe_bl pa_nil))) (pg_tup rfl (pgs_cons (pg_sub (pv 3) pe_str (set_dict (Nat.lt_of_le_of_lt (Nat.add_le_add_left (by decide) _) hr.units))) (pgs_cons (pg_sub (pv 3) pe_str (set_dict (Nat.lt_of_le_of_lt (Nat.add_le_add_left (by decide) _) hr.units))) pgs_nil))))
      (pss_one (ps_ret (pe_tup (pa_cons (pv 3) (pa_cons pe_str pa_nil)))))) pss_nil)
      (pss_cons (ps_if (PW.pt (pw_and (pt_cmpR op_eq (pv 2) pe_str (nomark _)) (pw_and1 (pt_cmpR op_notIn_seq (pv 1) (pe_dget (Nat.lt_of_le_of_lt (Nat.add_le_add_left (by decide) _) hr.units) (pv 0) pe_str (fun _ _ => rfl)) (by rfl))))) (pss_one (ps_asg (pe_callB cr_sorted (by rfl) T.f_sorted (by decide +kernel) (pa_cons (pe_op op_cat (pe_dget (Nat.lt_of_le_of_lt (Nat.add_le_add_left (by decide) _) hr.units) (pv 0) pe_str (fun _ _ => rfl)) (pe_lst (pa_cons (pv 1) pa_nil))) pa_nil)) (pg_sub (pv 3) pe_str (set_dict (Nat.lt_of_le_of_lt (Nat.add_le_add_left (by decide) _) hr.units))))) pss_nil)
      (pss_one (ps_ret (pe_tup (pa_cons (pv 3) (pa_cons (pe_cmpR op_notIn_seq (pv 1) (pe_dget (Nat.lt_of_le_of_lt (Nat.add_le_add_left (by decide) _) hr.units) (pv 3) pe_str (fun _ _ => rfl)) (by rfl)) pa_nil))))))))), ?_⟩
    refine ⟨_, rfl, o, _, rfl, ho.obj, fun H1 p ts k1 np nts npt hp1 pr => ⟨p, ts, ownK A c, rfl, SqL.of hp1, Paired.mono (fun _ _ h => SqT.of h) pr, fun o2 no2 => ?_⟩⟩
    rw [own_copy]
    have S1 : Same H H1 := fun b o e => k1 b o e
    have ho1 := ho.same S1
    have B2 : Same H1 (upd H1 o2 (.dK (ownK A c))) := Same.new no2
    have nH : H o2 = none := S1.free no2
    dsimp only
    show tSeq (tAsg _ _) _ _ [some (.ref o), some (.int (b : Int)), some (.str w), some (.ref o2)] _
    refine ⟨_, rfl, o, _, rfl, og_done (ho1.same B2), _, _, rfl, rfl, _, rfl, o2, _, rfl, DPut.k (k := .inr ("done" : Str)) upd_same (by show 10 < sizeLine; decide), ?_⟩
    rw [op_done]
    have B3 : Same H1 (upd (upd H1 o2 (.dK (ownK A c))) o2 (.dK (ownK A { c with done := c.done + 1 }))) := B2.put no2
    have e3 : (upd (upd H1 o2 (.dK (ownK A c))) o2 (.dK (ownK A { c with done := c.done + 1 }))) o2 = some (.dK (ownK A { c with done := c.done + 1 })) := upd_same
    dsimp only
    revert B3 e3
    generalize upd (upd H1 o2 (.dK (ownK A c))) o2 (.dK (ownK A { c with done := c.done + 1 })) = H3
    intro B3 e3
    show tSeq (tIfS _ _ _) _ _ [some (.ref o), some (.int (b : Int)), some (.str w), some (.ref o2)] _
    refine ⟨_, rfl, rfl, _, rfl, ?_⟩
    by_cases hc : w = Str.ofString "cut"
    · subst hc
      refine iteT ?_
      refine ⟨_, rfl, o, _, rfl, og_cuts (ho1.same B3), _, _, rfl, rfl, ?_⟩
      refine ⟨by show 2 ≤ sizeLine; decide, fun tp ntp => ⟨tp, _, rfl, SqT.of upd_same, rfl, _, _, rfl, _, rfl, o2, _, rfl, DPut.k (k := .inr ("cuts" : Str)) ((Same.new ntp) _ _ e3) (by show 10 < sizeLine; decide), _, _, rfl, _, rfl, o2, _, rfl, DPut.k (k := .inr ("is_on" : Str)) upd_same (by show 10 < sizeLine; decide), rfl, ?_⟩⟩
      have ec := op_cuts A { c with done := c.done + 1 }
      dsimp only at ec ⊢
      rw [ec, op_on]
      refine ⟨_, rfl, by show 2 ≤ sizeLine; decide, fun p2 np2 => ?_⟩
      have ed : deedTold { c with done := c.done + 1 } b (Str.ofString "cut") = ({ c with done := c.done + 1, cuts := c.cuts + 1, on := false }, none) := if_pos rfl
      have B5 := (((B3.trans (Same.new ntp)).put (o := .dK (ownK A { c with done := c.done + 1, cuts := c.cuts + 1 })) no2).put (o := .dK (ownK A { c with done := c.done + 1, cuts := c.cuts + 1, on := false })) no2).trans (Same.new (o := .tup [.ref o2, .str (Str.ofString "cut")]) np2)
      have hx := ho1.same B5
      rw [ed] at k
      refine k p2 o2 A.bd _ _ (S1.trans B5) nH (.inl rfl) upd_same ⟨?_, hx.cl, hx.wl, hx.bd, hx.wr, hx.fa, hx.nd⟩ (.inl ⟨rfl, rfl⟩)
      exact (Same.new np2) _ _ upd_same
    · rw [decide_eq_false (fun z => hc (V.str.inj z))]
      refine iteF ?_
      dsimp only [tNext]
      have h1b := ho1.same B3
      have hd : deedTold { c with done := c.done + 1 } b w = if w = Str.ofString "bad" then ({ c with done := c.done + 1, bad := c.bad.set b true }, some false) else ({ c with done := c.done + 1 }, some (!(c.bad.getD b false))) := by
        unfold deedTold
        rw [if_neg hc]
      have hl60 : (badL c.bad c.bl).length ≤ 60 := by
        unfold badL
        rw [List.length_map]
        exact Nat.le_trans (List.length_filter_le _ _) (by rw [List.length_range]; exact h60)
      have S9 : sizeLine = 16777216 := sizeLine_eq
      show tSeq (tIfS _ _ _) _ _ [some (.ref o), some (.int (b : Int)), some (.str w), some (.ref o2)] _
      refine seq_via (fun σ G => σ = [some (.ref o), some (.int (b : Int)), some (.str w), some (.ref o2)] ∧ Same H1 G ∧ ∃ bd, (bd = A.bd ∨ H bd = none) ∧ G o2 = some (.dK (ownK { A with bd := bd } (deedTold { c with done := c.done + 1 } b w).1)) ∧ G bd = some (.lst ((badL (deedTold { c with done := c.done + 1 } b w).1.bad c.bl).map V.int))) (fun σ G hq => ?_) fun E2 hE => ?_
      · obtain ⟨rfl, B, bd, hbd, g1, g2⟩ := hq
        refine ⟨_, rfl, _, rfl, _, rfl, o2, _, rfl, DGet.k (k := .inr ("bad" : Str)) g1, bd, _, rfl, .inl (SqL.of g2), rfl, flats _, by show 2 ≤ sizeLine; omega, fun p np => ?_⟩
        rw [inV_ints]
        have B4 := B.trans (Same.new (o := .tup [.ref o2, .bl (if true = true then !decide ((b : Int) ∈ badL (deedTold { c with done := c.done + 1 } b w).1.bad c.bl) else decide ((b : Int) ∈ badL (deedTold { c with done := c.done + 1 } b w).1.bad c.bl))]) np)
        have hx := ho1.same B4
        have g1' := (Same.new (o := .tup [.ref o2, .bl (if true = true then !decide ((b : Int) ∈ badL (deedTold { c with done := c.done + 1 } b w).1.bad c.bl) else decide ((b : Int) ∈ badL (deedTold { c with done := c.done + 1 } b w).1.bad c.bl))]) np) _ _ g1
        have g2' := (Same.new (o := .tup [.ref o2, .bl (if true = true then !decide ((b : Int) ∈ badL (deedTold { c with done := c.done + 1 } b w).1.bad c.bl) else decide ((b : Int) ∈ badL (deedTold { c with done := c.done + 1 } b w).1.bad c.bl))]) np) _ _ g2
        by_cases hb2 : w = Str.ofString "bad"
        · rw [hd, if_pos hb2] at k g1' g2' B4 hx ⊢
          refine k p o2 bd _ _ (S1.trans B4) nH hbd upd_same ⟨g1', hx.cl, hx.wl, g2', hx.wr, hx.fa, hx.nd⟩ (.inr ⟨false, rfl, ?_⟩)
          have e : decide ((b : Int) ∈ badL (c.bad.set b true) c.bl) = true := decide_eq_true ((bad_in _ hb).mpr (by rw [getD_setB _ _ _ (by omega), if_pos rfl]))
          show V.bl (if true = true then !decide ((b : Int) ∈ badL (c.bad.set b true) c.bl) else decide ((b : Int) ∈ badL (c.bad.set b true) c.bl)) = V.bl false
          rw [e]
          rfl
        · rw [hd, if_neg hb2] at k g1' g2' B4 hx ⊢
          refine k p o2 bd _ _ (S1.trans B4) nH hbd upd_same ⟨g1', hx.cl, hx.wl, g2', hx.wr, hx.fa, hx.nd⟩ (.inr ⟨_, rfl, ?_⟩)
          have e : decide ((b : Int) ∈ badL c.bad c.bl) = c.bad.getD b false := by rw [Bool.eq_iff_iff, decide_eq_true_iff]; exact bad_in c.bad hb
          show V.bl (if true = true then !decide ((b : Int) ∈ badL c.bad c.bl) else decide ((b : Int) ∈ badL c.bad c.bl)) = _
          rw [e]
          rfl
      · have dg : DGet H3 o2 (.str ("bad" : Str)) (some (.ref A.bd)) := DGet.k (k := .inr ("bad" : Str)) e3
        refine ifs_via (fun G => Same H3 G ∧ w = Str.ofString "bad" ∧ c.bad.getD b false = false) (fun G => Same H3 G ∧ (w = Str.ofString "bad" → c.bad.getD b false = true)) (fun Q' q1 q2 => ?_) (fun G hG => ?_) fun G hG => ?_
        · refine ⟨_, rfl, rfl, _, rfl, ?_⟩
          by_cases hb2 : w = Str.ofString "bad"
          · subst hb2
            refine iteT ?_
            refine ⟨_, rfl, _, rfl, o, _, rfl, og_bad h1b, A.bd, _, rfl, .inl (SqL.of h1b.bd), rfl, flats _, _, rfl, ?_⟩
            rw [inV_ints, show decide ((b : Int) ∈ badL c.bad c.bl) = c.bad.getD b false by rw [Bool.eq_iff_iff, decide_eq_true_iff]; exact bad_in c.bad hb]
            cases e : c.bad.getD b false with
            | true => exact q2 _ ⟨Same.refl _, fun _ => e⟩
            | false => exact q1 _ ⟨Same.refl _, rfl, e⟩
          · rw [decide_eq_false (fun z => hb2 (V.str.inj z))]
            exact iteF (q2 _ ⟨Same.refl _, fun z => absurd z hb2⟩)
        · obtain ⟨sG, rfl, nb⟩ := hG
          have h2b := h1b.same sG
          refine ⟨_, rfl, o, _, rfl, og_bad h2b, _, rfl, by show 1 ≤ sizeLine; omega, fun p1 np1 => ⟨A.bd, p1, _, _, rfl, rfl, (Same.new np1) _ _ h2b.bd, upd_same, by rw [List.length_map]; show _ + 1 ≤ _; omega, fun p2 np2 => ⟨p2, badL c.bad c.bl ++ [(b : Int)], rfl, SqL.of (by rw [upd_same, List.map_append]; rfl), by rw [List.length_append]; show _ + 1 < 64; omega, fun ns p3 pm up np3 => ?_⟩⟩⟩
          have s4 : Same G (upd (upd (upd G p1 (.lst [.int (b : Int)])) p2 (.lst ((badL c.bad c.bl).map V.int ++ [.int (b : Int)]))) p3 (.lst (ns.map V.int))) := ((Same.new np1).trans (Same.new np2)).trans (Same.new np3)
          have e4 := s4 _ _ (sG _ _ e3)
          have n23 : p3 ≠ o2 := fun z => by
            have q := ((Same.new (o := HO.lst [.int (b : Int)]) np1).trans (Same.new (o := HO.lst ((badL c.bad c.bl).map V.int ++ [.int (b : Int)])) np2)) _ _ (sG _ _ e3)
            rw [← z, np3] at q
            cases q
          refine ⟨_, rfl, o2, _, rfl, DPut.k (k := .inr ("bad" : Str)) e4 (by show 10 < sizeLine; omega), ?_⟩
          have eb := op_bad A { c with done := c.done + 1 } p3
          rw [eb]
          refine hE _ _ ⟨rfl, ((B3.trans sG).trans s4).put no2, p3, .inr ((((S1.trans B3).trans sG).trans ((Same.new np1).trans (Same.new np2))).free np3), ?_, ?_⟩
          · rw [upd_same, hd, if_pos rfl]
            rfl
          · rw [upd_ne n23, upd_same, hd, if_pos rfl, badL_put hb hbl pm nb up]
        · obtain ⟨sG, hn⟩ := hG
          refine hE _ _ ⟨rfl, B3.trans sG, A.bd, .inl rfl, ?_, ?_⟩
          · rw [sG _ _ e3, hd]
            split <;> rfl
          · rw [sG _ _ h1b.bd, hd]
            by_cases hb2 : w = Str.ofString "bad"
            · rw [if_pos hb2]
              show _ = some (HO.lst ((badL (c.bad.set b true) c.bl).map V.int))
              rw [badL_same hb hbl (hn hb2)]
            · rw [if_neg hb2]
theorem ok_law_chip_written {f : Addr} {fd : FuncData} (T : Txt K w mg) (F : FD K "_law_chip_written" s_law_chip_written f fd) (hm : mg "_law_chip_written" = some (.ref f)) (c_law_chip_fault : Cg P w K mg base 1 "_law_chip_fault" ["own"] (sp_law_chip_fault K)) (c_law_chip_deed : Cg P w K mg base 1 "_law_chip_deed" ["own", "block", "word"] (sp_law_chip_deed K)) (c_law_chip_torn : Cg P w K mg base 1 "_law_chip_torn" ["cells", "pattern"] sp_law_chip_torn) : Cg P w K mg base 2 "_law_chip_written" ["own", "place", "cells"] (sp_law_chip_written K) := by
  refine cg_of F hm sc_law_chip_written (fun vs H Q E h => ?_) (fun _ _ _ _ _ _ us hl => match us, hl with | [_, _, _], _ => rfl) (fun _ _ _ _ _ _ us hl => match us, hl with | [_, _, _], _ => rfl) (fun cdv A outer s H vs Q E hG hr h => ?_)
  · obtain ⟨o, c, n, m, l, Z, rfl, _⟩ := h
    rfl
  · obtain ⟨o, c, n, m, l, Z, rfl, ho, hm, wf, hf, h60, hn, hl, hlc, hz, k⟩ := h
    refine ⟨_, (pss_cons (ps_asg (pe_g c_law_chip_fault hG hr (by decide) rfl (pa_cons (pv 0) pa_nil)) (pg_tup rfl (pgs_cons (pg_name (i := 3) sc_law_chip_written.nd rfl (Or.inl rfl)) (pgs_cons (pg_name (i := 4) sc_law_chip_written.nd rfl (Or.inl rfl)) pgs_nil))))
      (pss_cons (ps_set (i := 5) sc_law_chip_written.nd rfl (Or.inl rfl) (pe_op op_fdiv (pv 1) (pe_dget (Nat.lt_of_le_of_lt (Nat.add_le_add_left (by decide) _) hr.units) (pv 0) pe_str (fun _ _ => rfl))))
      (pss_cons (ps_asg (pe_g c_law_chip_deed hG hr (by decide) rfl (pa_cons (pv 0) (pa_cons (pv 5) (pa_cons (pv 3) pa_nil)))) (pg_tup rfl (pgs_cons (pg_name (i := 6) sc_law_chip_written.nd rfl (Or.inl rfl)) (pgs_cons (pg_name (i := 7) sc_law_chip_written.nd rfl (Or.inl rfl)) pgs_nil))))
      (pss_cons (ps_if (pt_cmpR op_notIn_seq (pv 5) (pe_dget (Nat.lt_of_le_of_lt (Nat.add_le_add_left (by decide) _) hr.units) (pv 0) pe_str (fun _ _ => rfl)) (by rfl)) (pss_cons (ps_set (i := 8) sc_law_chip_written.nd rfl (Or.inl rfl) (pe_callTy call_list_of (by rfl) T.f_list (by decide +kernel) (pa_cons (pe_dget (Nat.lt_of_le_of_lt (Nat.add_le_add_left (by decide) _) hr.units) (pv 0) pe_str (fun _ _ => rfl)) pa_nil)))
      (pss_cons (ps_asg (pe_ifExp (pt_cmpR op_eq (pv 3) pe_str (nomark _)) (pv 2) (pe_g c_law_chip_torn hG hr (by decide) rfl (pa_cons (pv 2) (pa_cons (pv 4) pa_nil)))) (pg_sub (pv 8) (pv 1) set_list))
      (pss_cons (ps_asg (pe_tup (pa_cons (pv 8) (pa_cons (pe_callTy (call_dictP rfl) (by rfl) T.f_dict (by decide +kernel) (pa_cons (LiI.pe_listItems rfl (pe_dget (Nat.lt_of_le_of_lt (Nat.add_le_add_left (by decide) _) hr.units) (pv 0) pe_str (fun _ _ => rfl)) rfl T.f_list (by decide +kernel)) pa_nil)) pa_nil))) (pg_tup rfl (pgs_cons (pg_sub (pv 6) pe_str (set_dict (Nat.lt_of_le_of_lt (Nat.add_le_add_left (by decide) _) hr.units))) (pgs_cons (pg_sub (pv 6) pe_str (set_dict (Nat.lt_of_le_of_lt (Nat.add_le_add_left (by decide) _) hr.units))) pgs_nil))))
      (pss_one (ps_if (pt_cmpR op_eq (pv 3) pe_str (nomark _)) (pss_one (ps_asg (pv 2) (pg_sub (pe_dget (Nat.lt_of_le_of_lt (Nat.add_le_add_left (by decide) _) hr.units) (pv 6) pe_str (fun _ _ => rfl)) (pv 1) (set_dict (Nat.lt_of_le_of_lt (Nat.add_le_add_left (by decide) _) hr.units))))) pss_nil))))) pss_nil)
      (pss_one (ps_ret (pe_tup (pa_cons (pv 6) (pa_cons (pv 7) pa_nil))))))))), ?_⟩
    obtain ⟨A, ws, hoA, wr, wlen, z1, z2, z3, z4⟩ := ho.ex
    refine ⟨_, rfl, o, A, c, ws, rfl, hoA, hf, fun p1 w pt H1 S1 hp1 ew ept => ⟨p1, _, rfl, SqT.of hp1, rfl, _, _, rfl, _, _, rfl, rfl, ?_⟩⟩
    have hnl : n < c.cells.length := (List.getElem?_eq_some_iff.mp hn).1
    have hb : n / c.pg < c.bl := Nat.div_lt_of_lt_mul (by rw [Nat.mul_comm, ← wf.lc]; exact hnl)
    have hp0 := wf.p4
    have hp16 := wf.p16
    have hoA1 := hoA.same S1
    refine ⟨_, rfl, _, rfl, o, _, rfl, og_pages hoA1, _, _, rfl, rfl, ⟨by omega, by omega⟩, ?_⟩
    dsimp only
    rw [show ((n : Int) / (c.pg : Int)) = ((n / c.pg : Nat) : Int) from rfl]
    refine ⟨_, rfl, _, rfl, _, rfl, o, A, c, ws, n / c.pg, w, rfl, hoA1, hb, h60, wf.lb, fun p2 o2 bd tv H2 S2 no2 hbd hp2 h2 told => ⟨p2, _, rfl, SqT.of hp2, rfl, _, _, rfl, _, _, rfl, rfl, ?_⟩⟩
    have S12 := S1.trans S2
    have hoA2 := hoA.same S12
    have nH : H o2 = none := S1.free no2
    have zo2 : ∀ z, Z z → z ≠ o2 := fun z hz' e => hz z hz' (by rw [e]; exact nH)
    have zbd : ¬ Z bd := by
      rcases hbd with rfl | e
      · exact z3
      · exact fun q => hz _ q (S1.free e)
    rw [told.eq]
    dsimp only
    have eo2 := h2.obj
    have tm := told_more { c with done := c.done + 1 } (n / c.pg) w
    have ts := told_same { c with done := c.done + 1 } (n / c.pg) w
    have tst := told_stands { c with done := c.done + 1 } (n / c.pg) w
    refine seq_via (fun σ G => (∃ v8, σ = [some (.ref o), some (.int (n : Int)), some (.str (S l)), some (.str w), some (.str (S pt)), some (.int ((n / c.pg : Nat) : Int)), some (.ref o2), some (ownTold (deedTold { c with done := c.done + 1 } (n / c.pg) w).2), v8]) ∧ Same H G ∧ ownTold (deedTold { c with done := c.done + 1 } (n / c.pg) w).2 = ownTold (written c n l).2 ∧ Own K Z G o2 (written c n l).1 (m + 1)) (fun σ G hq => ?_) fun E2 hE => ?_
    · obtain ⟨⟨v8, rfl⟩, SG, et, own⟩ := hq
      rw [et]
      exact ⟨_, rfl, _, rfl, by show 2 ≤ sizeLine; decide, fun p np => k p o2 _ (SG.trans (Same.new np)) upd_same (own.same (Same.new np))⟩
    show tIfS _ _ _ _ [some (.ref o), some (.int (n : Int)), some (.str (S l)), some (.str w), some (.str (S pt)), some (.int ((n / c.pg : Nat) : Int)), some (.ref o2), some (ownTold (deedTold { c with done := c.done + 1 } (n / c.pg) w).2), none] _
    refine ifs_via (fun G => G = H2 ∧ c.bad.getD (n / c.pg) false = false) (fun G => G = H2 ∧ c.bad.getD (n / c.pg) false = true) (fun Q' q1 q2 => ?_) (fun G hG => ?_) fun G hG => ?_
    · refine ⟨_, rfl, _, rfl, o, _, rfl, og_bad hoA2, A.bd, _, rfl, .inl (SqL.of hoA2.bd), rfl, flats _, _, rfl, ?_⟩
      rw [inV_ints, show decide (((n / c.pg : Nat) : Int) ∈ badL c.bad c.bl) = c.bad.getD (n / c.pg) false by rw [Bool.eq_iff_iff, decide_eq_true_iff]; exact bad_in c.bad hb]
      cases e : c.bad.getD (n / c.pg) false with
      | true => exact q2 _ ⟨rfl, e⟩
      | false => exact q1 _ ⟨rfl, e⟩
    · obtain ⟨rfl, nb⟩ := hG
      have eww : written c n l = (put (deedTold { c with done := c.done + 1 } (n / c.pg) w).1 n (if w = Str.ofString "" then l else tornL l (deed c).2) (decide (w = Str.ofString "")), (deedTold { c with done := c.done + 1 } (n / c.pg) w).2) := by
        unfold written
        dsimp only
        rw [if_neg (by rw [nb]; exact Bool.false_ne_true), told_put, ew]
      refine ⟨_, rfl, o, _, rfl, og_cells hoA2, A.cl, _, rfl, .inl (SqL.of hoA2.cl), fun rw_ nrw => ?_⟩
      dsimp only
      have nrw0 : H rw_ = none := S12.free nrw
      have o2rw : o2 ≠ rw_ := fun z => by rw [← z, eo2] at nrw; cases nrw
      have S9 : sizeLine = 16777216 := sizeLine_eq
      have lcells : c.cells.length ≤ 1024 := by rw [wf.lc]; exact size_lo wf
      show tSeq (tAsg _ _) _ _ [some (.ref o), some (.int (n : Int)), some (.str (S l)), some (.str w), some (.str (S pt)), some (.int ((n / c.pg : Nat) : Int)), some (.ref o2), some (ownTold (deedTold { c with done := c.done + 1 } (n / c.pg) w).2), some (.ref rw_)] _
      refine seq_via (fun σ G' => σ = [some (.ref o), some (.int (n : Int)), some (.str (S l)), some (.str w), some (.str (S pt)), some (.int ((n / c.pg : Nat) : Int)), some (.ref o2), some (ownTold (deedTold { c with done := c.done + 1 } (n / c.pg) w).2), some (.ref rw_)] ∧ But o2 G G' ∧ Same H G' ∧ G' rw_ = some (.lst ((c.cells.set n (if w = Str.ofString "" then l else tornL l (deed c).2)).map fun l => V.str (S l))) ∧ G' o2 = some (.dK (ownK { A with bd := bd } (deedTold { c with done := c.done + 1 } (n / c.pg) w).1))) (fun σ G' hq => ?_) fun E3 hE3 => ?_
      rotate_left
      · refine ⟨_, rfl, rfl, _, rfl, ?_⟩
        by_cases w0 : w = Str.ofString ""
        · rw [decide_eq_true (by rw [w0])]
          refine iteT ⟨_, rfl, _, rfl, _, rfl, rw_, _, _, n, rfl, rfl, upd_same, ixN_to (by rw [List.length_map]; exact hnl), ?_⟩
          exact hE3 _ _ ⟨rfl, But.putn (But.new nrw) nrw, (S12.trans (Same.new nrw)).put nrw0, by rw [upd_same, if_pos w0, List.map_set], by rw [upd_ne o2rw, upd_ne o2rw]; exact eo2⟩
        · rw [decide_eq_false (fun z => w0 (V.str.inj z))]
          have dp := deed_pat wf (by rw [← ew]; exact w0)
          have ept2 := ept w0
          subst ept2
          refine iteF ⟨_, rfl, _, rfl, l, _, rfl, hlc, by omega, dp.1, dp.2.1, by omega, fun H5 S5 => ⟨_, rfl, _, rfl, rw_, _, _, n, rfl, rfl, S5 _ _ upd_same, ixN_to (by rw [List.length_map]; exact hnl), ?_⟩⟩
          exact hE3 _ _ ⟨rfl, But.putn ((But.new nrw).trans (But.of S5)) nrw, (S12.trans ((Same.new nrw).trans S5)).put nrw0, by rw [upd_same, if_neg w0, List.map_set], by rw [upd_ne o2rw]; exact S5 _ _ (by rw [upd_ne o2rw]; exact eo2)⟩
      obtain ⟨rfl, BO, SH, erw, eo⟩ := hq
      have hx := hoA.same SH
      refine ⟨_, rfl, _, rfl, o, _, rfl, og_written hx, A.wr, wsK ws, rfl, hx.wr, fun H6 p6 ts6 k6 np6 nts6 npt6 hp6 pr6 => ⟨p6, ts6, wsK ws, rfl, SqL.of hp6, Paired.mono (fun _ _ h => SqT.of h) pr6, fun wd nwd => ?_⟩⟩
      rw [wsK_merge hoA.nd]
      have S6 : Same G' H6 := fun b u e => k6 b u e
      have S7 := S6.trans (Same.new (o := .dK (wsK ws)) nwd)
      have e7 := upd_same (H := H6) (a := wd) (o := .dK (wsK ws))
      have nwd' : G' wd = none := S6.free nwd
      have nwdH : H wd = none := SH.free nwd'
      have wdo2 : wd ≠ o2 := fun z => by rw [z, eo] at nwd'; cases nwd'
      have wdG : G wd = none := BO.none wdo2 nwd'
      have wdrw : wd ≠ rw_ := fun z => by rw [z, erw] at nwd'; cases nwd'
      refine ⟨by show 2 ≤ sizeLine; omega, fun tp ntp => ⟨tp, _, rfl, SqT.of upd_same, rfl, _, _, rfl, _, rfl, o2, _, rfl, DPut.k (k := .inr ("cells" : Str)) ((Same.new ntp) _ _ (S7 _ _ eo)) (by show 10 < sizeLine; omega), _, _, rfl, _, rfl, o2, _, rfl, DPut.k (k := .inr ("written" : Str)) upd_same (by show 10 < sizeLine; omega), rfl, ?_⟩⟩
      have S8 := S7.trans (Same.new (o := .tup [.ref rw_, .ref wd]) ntp)
      have e8 := (Same.new (o := .tup [.ref rw_, .ref wd]) ntp) _ _ e7
      have BO8 : But o2 G (upd (upd H6 wd (.dK (wsK ws))) tp (.tup [.ref rw_, .ref wd])) := BO.trans (But.of S8)
      have SH8 := SH.trans S8
      have erw8 := S8 _ _ erw
      clear S8 S7 S6
      revert e8 BO8 SH8 erw8
      generalize upd (upd H6 wd (.dK (wsK ws))) tp (.tup [.ref rw_, .ref wd]) = H8
      intro e8 BO8 SH8 erw8
      have op1 := op_cells { A with bd := bd } (deedTold { c with done := c.done + 1 } (n / c.pg) w).1 rw_
      have op2 := op_written { A with bd := bd, cl := rw_ } (deedTold { c with done := c.done + 1 } (n / c.pg) w).1 wd
      dsimp only at op1 op2 ⊢
      rw [op1, op2]
      have fin : ∀ (H11 : Hp) (ws4 : List (Nat × List Nat)), But o2 G H11 → Same H H11 → H11 o2 = some (.dK (ownK { A with bd := bd, cl := rw_, wr := wd } (deedTold { c with done := c.done + 1 } (n / c.pg) w).1)) → H11 rw_ = some (.lst ((c.cells.set n (if w = Str.ofString "" then l else tornL l (deed c).2)).map fun l => V.str (S l))) → H11 wd = some (.dK (wsK ws4)) → (ws4.map (·.1)).Nodup → ws4.length ≤ m + 1 → ws4 = (if decide (w = Str.ofString "") = true then putW ws n l else ws) → E2.nx [some (.ref o), some (.int (n : Int)), some (.str (S l)), some (.str w), some (.str (S pt)), some (.int ((n / c.pg : Nat) : Int)), some (.ref o2), some (ownTold (deedTold { c with done := c.done + 1 } (n / c.pg) w).2), some (.ref rw_)] H11 := by
        intro H11 ws4 b1 s1 o1 r1 w1 nd1 l1 ew4
        have gl : ∀ (b : Addr) (xs : List V), G b = some (.lst xs) → H11 b = some (.lst xs) := fun b xs e => b1 b _ (fun z => by rw [z, eo2] at e; cases e) e
        obtain ⟨rs, f1, f2, f3⟩ := h2.fa.ex
        have oat : OwnAt K H11 o2 { A with bd := bd, cl := rw_, wr := wd } (put (deedTold { c with done := c.done + 1 } (n / c.pg) w).1 n (if w = Str.ofString "" then l else tornL l (deed c).2) (decide (w = Str.ofString ""))) ws4 := by
          refine ⟨o1, ?_, ?_, ?_, w1, ⟨rs, gl _ _ f1, f2, fun i r f e1 e2 => ?_⟩, nd1⟩
          · show H11 rw_ = some (.lst (((deedTold { c with done := c.done + 1 } (n / c.pg) w).1.cells.set n _).map fun l => V.str (S l)))
            rw [ts.1]
            exact r1
          · exact gl _ _ h2.wl
          · exact gl _ _ h2.bd
          · rcases f3 i r f e1 e2 with (h | ⟨o', h⟩) | h
            · exact .inl (.inl (b1 _ _ (fun z => by rw [z, eo2] at h; cases h) h))
            · exact .inl (.inr ⟨o', b1 _ _ (fun z => by rw [z, eo2] at h; cases h) h⟩)
            · exact .inr h
        refine hE _ _ ⟨⟨_, rfl⟩, s1, by rw [eww], ⟨{ A with bd := bd, cl := rw_, wr := wd }, ws4, by rw [eww]; exact oat, ?_, l1, fun q => hz _ q nrw0, z2, zbd, z4⟩⟩
        · rw [eww, ew4]
          refine WrOk.write (wr.cong ts.1 tst) ?_ ?_ ?_
          · rw [tst, ts.1]
            show c.stands.length = c.cells.length
            rw [wf.ls, wf.lc]
          · rw [ts.1]
            exact hn
          · by_cases w0 : w = Str.ofString ""
            · exact .inl ⟨decide_eq_true w0, if_pos w0⟩
            · exact .inr (decide_eq_false w0)
      have lk : (wsK ws).length < sizeLine := by unfold wsK; rw [List.length_map]; omega
      refine ⟨_, rfl, rfl, _, rfl, ?_⟩
      by_cases w0 : w = Str.ofString ""
      · rw [decide_eq_true (by rw [w0])]
        refine iteT ⟨_, rfl, _, rfl, o2, _, rfl, DGet.k (k := .inr ("written" : Str)) upd_same, _, rfl, wd, _, rfl, DPut.k (k := .inl (n : Int)) (by rw [upd_ne wdo2, upd_ne wdo2]; exact e8) lk, ?_⟩
        rw [wsK_put]
        have B11 := But.putn (o := .dK (wsK (putW ws n l))) ((BO8.trans (But.put (o := .dK (ownK { A with bd := bd, cl := rw_ } (deedTold { c with done := c.done + 1 } (n / c.pg) w).1)))).trans (But.put (o := .dK (ownK { A with bd := bd, cl := rw_, wr := wd } (deedTold { c with done := c.done + 1 } (n / c.pg) w).1)))) wdG
        refine fin _ (putW ws n l) B11 ?_ (by rw [upd_ne wdo2.symm, upd_same]) (by rw [upd_ne wdrw.symm, upd_ne o2rw.symm, upd_ne o2rw.symm]; exact erw8) upd_same (putW_nd hoA.nd) (Nat.le_trans (putW_len ws n l) (by omega)) (by rw [if_pos (decide_eq_true w0)])
        exact ((SH8.put nH).put nH).put nwdH
      · rw [decide_eq_false (fun z => w0 (V.str.inj z))]
        refine iteF (fin _ ws ((BO8.trans But.put).trans But.put) ((SH8.put nH).put nH) upd_same (by rw [upd_ne o2rw.symm, upd_ne o2rw.symm]; exact erw8) (by rw [upd_ne wdo2, upd_ne wdo2]; exact e8) hoA.nd (by omega) ?_)
        rw [if_neg (by rw [decide_eq_false w0]; exact Bool.false_ne_true)]
    · obtain ⟨rfl, hbad⟩ := hG
      have ew2 : written c n l = deedTold { c with done := c.done + 1 } (n / c.pg) w := by
        unfold written
        dsimp only
        rw [if_pos hbad, ew]
      refine hE _ _ ⟨⟨_, rfl⟩, S12, by rw [ew2], ⟨{ A with bd := bd }, ws, by rw [ew2]; exact h2, ?_, Nat.le_succ_of_le wlen, z1, z2, zbd, z4⟩⟩
      rw [ew2]
      exact wr.cong ts.1 tst
theorem ok_law_chip_erased {f : Addr} {fd : FuncData} (T : Txt K w mg) (F : FD K "_law_chip_erased" s_law_chip_erased f fd) (hm : mg "_law_chip_erased" = some (.ref f)) (c_law_chip_fault : Cg P w K mg base 1 "_law_chip_fault" ["own"] (sp_law_chip_fault K)) (c_law_chip_deed : Cg P w K mg base 1 "_law_chip_deed" ["own", "block", "word"] (sp_law_chip_deed K)) (c_law_chip_torn : Cg P w K mg base 1 "_law_chip_torn" ["cells", "pattern"] sp_law_chip_torn) : Cg P w K mg base 2 "_law_chip_erased" ["own", "block"] (sp_law_chip_erased K) := by
  refine cg_of F hm sc_law_chip_erased (fun vs H Q E h => ?_) (fun _ _ _ _ _ _ us hl => match us, hl with | [_, _], _ => rfl) (fun _ _ _ _ _ _ us hl => match us, hl with | [_, _], _ => rfl) (fun cdv A outer s H vs Q E hG hr h => ?_)
  · obtain ⟨o, c, n, m, Z, rfl, _⟩ := h
    rfl
  · obtain ⟨o, c, n, m, Z, rfl, ho, hm, wf, hf, h60, hn, hz, k⟩ := h
    refine ⟨_, (pss_cons (ps_asg (pe_g c_law_chip_fault hG hr (by decide) rfl (pa_cons (pv 0) pa_nil)) (pg_tup rfl (pgs_cons (pg_name (i := 2) sc_law_chip_erased.nd rfl (Or.inl rfl)) (pgs_cons (pg_name (i := 3) sc_law_chip_erased.nd rfl (Or.inl rfl)) pgs_nil))))
      (pss_cons (ps_asg (pe_g c_law_chip_deed hG hr (by decide) rfl (pa_cons (pv 0) (pa_cons (pv 1) (pa_cons (pv 2) pa_nil)))) (pg_tup rfl (pgs_cons (pg_name (i := 4) sc_law_chip_erased.nd rfl (Or.inl rfl)) (pgs_cons (pg_name (i := 5) sc_law_chip_erased.nd rfl (Or.inl rfl)) pgs_nil))))
      (pss_cons (ps_if (pt_cmpR op_notIn_seq (pv 1) (pe_dget (Nat.lt_of_le_of_lt (Nat.add_le_add_left (by decide) _) hr.units) (pv 0) pe_str (fun _ _ => rfl)) (by rfl)) (pss_cons (ps_par (i := 6) (j := 7) rfl sc_law_chip_erased.nd rfl rfl (by decide) rfl rfl (pa_cons (pe_callTy call_list_of (by rfl) T.f_list (by decide +kernel) (pa_cons (pe_dget (Nat.lt_of_le_of_lt (Nat.add_le_add_left (by decide) _) hr.units) (pv 0) pe_str (fun _ _ => rfl)) pa_nil)) (pa_cons (pe_callTy call_list_of (by rfl) T.f_list (by decide +kernel) (pa_cons (pe_dget (Nat.lt_of_le_of_lt (Nat.add_le_add_left (by decide) _) hr.units) (pv 0) pe_str (fun _ _ => rfl)) pa_nil)) pa_nil)) (by rfl))
      (pss_cons (ps_set (i := 8) sc_law_chip_erased.nd rfl (Or.inr rfl) (pe_listRg rfl rfl T.f_list (prg_2 rfl T.f_range (pe_op op_mul (pv 1) (pe_dget (Nat.lt_of_le_of_lt (Nat.add_le_add_left (by decide) _) hr.units) (pv 0) pe_str (fun _ _ => rfl))) (pe_op op_mul (pe_op op_add (pv 1) pe_int) (pe_dget (Nat.lt_of_le_of_lt (Nat.add_le_add_left (by decide) _) hr.units) (pv 0) pe_str (fun _ _ => rfl))))))
      (pss_cons (ps_for PassesOwn.never rfl (pi_list (pv 8)) (pg_name (i := 9) sc_law_chip_erased.nd rfl (Or.inl rfl))
        (pss_one (ps_asg (pe_ifExp (pt_cmpR op_eq (pv 2) pe_str (nomark _)) (pe_op op_mulS pe_str pe_int) (pe_g c_law_chip_torn hG hr (by decide) rfl (pa_cons (pe_ix (show IxR _ (rIxL K) from ix_list) (pv 6) (pv 9) (fun _ _ => rfl)) (pa_cons (pv 3) pa_nil)))) (pg_sub (pv 6) (pv 9) set_list))))
      (pss_cons (ps_asg (pe_op op_add (pe_ix (show IxR _ (rIxL K) from ix_list) (pv 7) (pv 1) (fun _ _ => rfl)) pe_int) (pg_sub (pv 7) (pv 1) set_list))
      (pss_cons (ps_asg (pe_tup (pa_cons (pv 6) (pa_cons (pv 7) pa_nil))) (pg_tup rfl (pgs_cons (pg_sub (pv 4) pe_str (set_dict (Nat.lt_of_le_of_lt (Nat.add_le_add_left (by decide) _) hr.units))) (pgs_cons (pg_sub (pv 4) pe_str (set_dict (Nat.lt_of_le_of_lt (Nat.add_le_add_left (by decide) _) hr.units))) pgs_nil))))
      (pss_one (ps_asg (pe_callTy (call_dictP rfl) (by rfl) T.f_dict (by decide +kernel) (pa_cons (pe_lock (pe_lc (own := [("place", 9), ("cells", 10)]) rfl sc_law_chip_erased.nd (pi_items (pe_dget (Nat.lt_of_le_of_lt (Nat.add_le_add_left (by decide) _) hr.units) (pv 0) pe_str (fun _ _ => rfl))) (blkOk_by (N := ["own", "block", "word", "pattern", "later", "told", "rows", "wear", "places", "place", "cells"]) (sc := defScope s_law_chip_erased) (by decide +kernel)) (fun _ _ _ _ _ => show PG _ _ (gTup K 2 (gCons (gName 9) (gCons (gName 10) gNil))) from (pg_tup rfl (pgs_cons (pg_name (i := 9) sc_law_chip_erased.nd rfl (Or.inl rfl)) (pgs_cons (pg_name (i := 10) sc_law_chip_erased.nd rfl (Or.inl rfl)) pgs_nil)))) (fun _ _ _ _ _ => pts_one (pt_cmpR (show OpR _ _ (rIn K true) from op_notIn_seq) (pv 9) (pv 8) (by rfl))) (fun _ _ _ _ _ => (pe_tup (pa_cons (pv 9) (pa_cons (pv 10) pa_nil)))))) pa_nil)) (pg_sub (pv 4) pe_str (set_dict (Nat.lt_of_le_of_lt (Nat.add_le_add_left (by decide) _) hr.units)))))))))) pss_nil)
      (pss_one (ps_ret (pe_tup (pa_cons (pv 4) (pa_cons (pv 5) pa_nil)))))))), ?_⟩
    obtain ⟨A, ws, hoA, wr, wlen, z1, z2, z3, z4⟩ := ho.ex
    refine ⟨_, rfl, o, A, c, ws, rfl, hoA, hf, fun p1 w pt H1 S1 hp1 ew ept => ⟨p1, _, rfl, SqT.of hp1, rfl, _, _, rfl, _, _, rfl, rfl, ?_⟩⟩
    have hp0 := wf.p4
    have hp16 := wf.p16
    have hb60 := h60
    have hoA1 := hoA.same S1
    refine ⟨_, rfl, _, rfl, _, rfl, o, A, c, ws, n, w, rfl, hoA1, hn, h60, wf.lb, fun p2 o2 bd tv H2 S2 no2 hbd hp2 h2 told => ⟨p2, _, rfl, SqT.of hp2, rfl, _, _, rfl, _, _, rfl, rfl, ?_⟩⟩
    have S12 := S1.trans S2
    have hoA2 := hoA.same S12
    have nH : H o2 = none := S1.free no2
    have zbd : ¬ Z bd := by
      rcases hbd with rfl | e
      · exact z3
      · exact fun q => hz _ q (S1.free e)
    rw [told.eq]
    dsimp only
    have eo2 := h2.obj
    have tm := told_more { c with done := c.done + 1 } n w
    have ts := told_same { c with done := c.done + 1 } n w
    have tst := told_stands { c with done := c.done + 1 } n w
    refine seq_via (fun σ G => (∃ v6 v7 v8 v9 v10, σ = [some (.ref o), some (.int (n : Int)), some (.str w), some (.str (S pt)), some (.ref o2), some (ownTold (deedTold { c with done := c.done + 1 } n w).2), v6, v7, v8, v9, v10]) ∧ Same H G ∧ ownTold (deedTold { c with done := c.done + 1 } n w).2 = ownTold (erased c n).2 ∧ Own K Z G o2 (erased c n).1 m) (fun σ G hq => ?_) fun E2 hE => ?_
    · obtain ⟨⟨v6, v7, v8, v9, v10, rfl⟩, SG, et, own⟩ := hq
      rw [et]
      exact ⟨_, rfl, _, rfl, by show 2 ≤ sizeLine; decide, fun p np => k p o2 _ (SG.trans (Same.new np)) upd_same (own.same (Same.new np))⟩
    show tIfS _ _ _ _ [some (.ref o), some (.int (n : Int)), some (.str w), some (.str (S pt)), some (.ref o2), some (ownTold (deedTold { c with done := c.done + 1 } n w).2), none, none, none, none, none] _
    refine ifs_via (fun G => G = H2 ∧ c.bad.getD n false = false) (fun G => G = H2 ∧ c.bad.getD n false = true) (fun Q' q1 q2 => ?_) (fun G hG => ?_) fun G hG => ?_
    · refine ⟨_, rfl, _, rfl, o, _, rfl, og_bad hoA2, A.bd, _, rfl, .inl (SqL.of hoA2.bd), rfl, flats _, _, rfl, ?_⟩
      rw [inV_ints, show decide ((n : Int) ∈ badL c.bad c.bl) = c.bad.getD n false by rw [Bool.eq_iff_iff, decide_eq_true_iff]; exact bad_in c.bad hn]
      cases e : c.bad.getD n false with
      | true => exact q2 _ ⟨rfl, e⟩
      | false => exact q1 _ ⟨rfl, e⟩
    · obtain ⟨rfl, nb⟩ := hG
      have eww : erased c n = (wiped { (deedTold { c with done := c.done + 1 } n w).1 with wear := c.wear.set n (c.wear.getD n 0 + 1) } n w (deed c).2 c.pg, (deedTold { c with done := c.done + 1 } n w).2) := by
        have q := told_wear { c with done := c.done + 1 } (c.wear.set n (c.wear.getD n 0 + 1)) n w
        unfold erased
        dsimp only
        rw [if_neg (by rw [nb]; exact Bool.false_ne_true), told_wiped, ← ew]
        dsimp only at q
        rw [q]
      have S9 : sizeLine = 16777216 := sizeLine_eq
      have lcells : c.cells.length ≤ 1024 := by rw [wf.lc]; exact size_lo wf
      have l3 : (n + 1) * c.pg ≤ c.bl * c.pg := Nat.mul_le_mul_right _ hn
      have l4 : (n + 1) * c.pg = n * c.pg + c.pg := Nat.succ_mul _ _
      have lbk : n * c.pg + c.pg ≤ c.cells.length := by rw [wf.lc]; omega
      have pg64 : c.pg ≤ 64 := by omega
      refine ⟨_, rfl, o, _, rfl, og_cells hoA2, A.cl, _, rfl, .inl (SqL.of hoA2.cl), fun rw_ nrw => ⟨_, rfl, o, _, rfl, og_wear (hoA2.same (Same.new nrw)), A.wl, _, rfl, .inl (SqL.of ((Same.new nrw) _ _ hoA2.wl)), fun we nwe => ⟨_, _, rfl, ?_⟩⟩⟩
      have nrw0 : H rw_ = none := S12.free nrw
      have nweG : G we = none := (Same.new nrw).free nwe
      have nwe0 : H we = none := S12.free nweG
      have SG2 : Same G (upd (upd G rw_ (.lst (c.cells.map fun l => V.str (S l)))) we (.lst (c.wear.map V.int))) := (Same.new nrw).trans (Same.new nwe)
      have werw : we ≠ rw_ := fun z => by rw [z, upd_same] at nwe; cases nwe
      have erw := (Same.new (o := .lst (c.wear.map V.int)) nwe) _ _ (upd_same (H := G) (a := rw_) (o := .lst (c.cells.map fun l => V.str (S l))))
      have ewe := upd_same (H := upd G rw_ (.lst (c.cells.map fun l => V.str (S l)))) (a := we) (o := .lst (c.wear.map V.int))
      dsimp only
      revert SG2 erw ewe
      generalize upd (upd G rw_ (.lst (c.cells.map fun l => V.str (S l)))) we (.lst (c.wear.map V.int)) = G2
      intro SG2 erw ewe
      have hx2 := hoA2.same SG2
      show tSeq (tAsg _ _) _ _ [some (.ref o), some (.int (n : Int)), some (.str w), some (.str (S pt)), some (.ref o2), some (ownTold (deedTold { c with done := c.done + 1 } n w).2), some (.ref rw_), some (.ref we), none, none, none] _
      have m1 : (n : Int) * (c.pg : Int) = ((n * c.pg : Nat) : Int) := (Int.natCast_mul _ _).symm
      have m2 : ((n : Int) + 1) * (c.pg : Int) = ((n * c.pg + c.pg : Nat) : Int) := by rw [← l4, Int.natCast_mul]; rfl
      refine ⟨_, rfl, _, rfl, o, _, rfl, og_pages hx2, _, _, rfl, rfl, .inl ⟨by omega, by omega⟩, _, rfl, _, _, rfl, rfl, _, rfl, o, _, rfl, og_pages hx2, _, _, rfl, rfl, .inl ⟨by omega, by omega⟩, ?_⟩
      have erg : rgV ((n : Int) * (c.pg : Int)) (((n : Int) + 1) * (c.pg : Int)) = (placesL n c.pg).map V.int := by
        rw [m1, m2]
        unfold rgV placesL
        rw [List.map_map, show (((n * c.pg + c.pg : Nat) : Int) - ((n * c.pg : Nat) : Int)).toNat = c.pg by omega]
        refine List.map_congr_left fun i _ => ?_
        show V.int (((n * c.pg : Nat) : Int) + (i : Nat)) = V.int ((n * c.pg + i : Nat) : Int)
        rw [Int.natCast_add]
      have lpl : (placesL n c.pg).length = c.pg := by unfold placesL; rw [List.length_map, List.length_range]
      refine ⟨_, _, rfl, rfl, ⟨by rw [m1]; omega, by rw [m2]; omega⟩, fun pl npl => ?_⟩
      rw [erg]
      have nplG : G pl = none := SG2.free npl
      have npl0 : H pl = none := S12.free nplG
      have plrw : pl ≠ rw_ := fun z => by rw [z, erw] at npl; cases npl
      have plwe : pl ≠ we := fun z => by rw [z, ewe] at npl; cases npl
      have SG3 := SG2.trans (Same.new (o := .lst ((placesL n c.pg).map V.int)) npl)
      have erw3 := (Same.new (o := .lst ((placesL n c.pg).map V.int)) npl) _ _ erw
      have ewe3 := (Same.new (o := .lst ((placesL n c.pg).map V.int)) npl) _ _ ewe
      have epl3 := upd_same (H := G2) (a := pl) (o := .lst ((placesL n c.pg).map V.int))
      have o2rw : o2 ≠ rw_ := fun z => by rw [← z, eo2] at nrw; cases nrw
      have o2we : o2 ≠ we := fun z => by rw [← z, eo2] at nweG; cases nweG
      dsimp only
      revert SG3 erw3 ewe3 epl3
      generalize upd G2 pl (.lst ((placesL n c.pg).map V.int)) = G3
      intro SG3 erw3 ewe3 epl3
      clear hx2 SG2 erw ewe npl nwe
      show tSeq (tFor _ _ _) _ _ [some (.ref o), some (.int (n : Int)), some (.str w), some (.str (S pt)), some (.ref o2), some (ownTold (deedTold { c with done := c.done + 1 } n w).2), some (.ref rw_), some (.ref we), some (.ref pl), none, none] _
      have dp : w ≠ Str.ofString "" → WM.Cells pt ∧ 1 ≤ pt.length ∧ pt.length ≤ 100 ∧ pt = (deed c).2 := fun w0 => by
        have q := deed_pat wf (by rw [← ew]; exact w0)
        rw [ept w0]
        exact ⟨q.1, q.2.1, q.2.2.1, rfl⟩
      refine seq_via (fun σ G' => (∃ y, σ = [some (.ref o), some (.int (n : Int)), some (.str w), some (.str (S pt)), some (.ref o2), some (ownTold (deedTold { c with done := c.done + 1 } n w).2), some (.ref rw_), some (.ref we), some (.ref pl), y, none]) ∧ Same G G' ∧ G' rw_ = some (.lst ((wiped c n w (deed c).2 c.pg).cells.map fun l => V.str (S l))) ∧ G' we = some (.lst (c.wear.map V.int)) ∧ G' pl = some (.lst ((placesL n c.pg).map V.int))) (fun σ G' hq => ?_) fun E3 hE3 => ?_
      rotate_left
      · refine ⟨_, rfl, pl, rfl, ⟨_, SqL.of epl3⟩, for_it (walk_list (xs := (placesL n c.pg).map V.int)) (fun i σ G' => (∃ y, σ = [some (.ref o), some (.int (n : Int)), some (.str w), some (.str (S pt)), some (.ref o2), some (ownTold (deedTold { c with done := c.done + 1 } n w).2), some (.ref rw_), some (.ref we), some (.ref pl), y, none]) ∧ Same G G' ∧ G' rw_ = some (.lst ((wiped c n w (deed c).2 i).cells.map fun l => V.str (S l))) ∧ G' we = some (.lst (c.wear.map V.int)) ∧ G' pl = some (.lst ((placesL n c.pg).map V.int))) ⟨⟨_, rfl⟩, SG3, erw3, ewe3, epl3⟩ (fun i σ G' _ h => SqL.of h.2.2.2.2) (fun i x σ G' G'' hi hq hy => ?_) fun σ G' hq => ?_⟩
        · obtain ⟨⟨y, rfl⟩, b1, r1, w1, p1'⟩ := hq
          obtain ⟨rfl, hv⟩ := hy
          rw [List.length_map, lpl] at hi
          have hvi : x = V.int ((n * c.pg + i : Nat) : Int) := by
            unfold placesL at hv
            rw [List.map_map, List.getElem?_map, List.getElem?_range hi] at hv
            exact (Option.some.inj hv).symm
          subst hvi
          obtain ⟨wl, wg⟩ := wiped_cells (c := c) (n := n) (w := w) (p := (deed c).2) i (by omega)
          have hlt : n * c.pg + i < (wiped c n w (deed c).2 i).cells.length := by omega
          have wfi := (wiped_wf wf hn (fun w0 => by rw [ew] at w0; exact ⟨(deed_pat wf w0).1, (deed_pat wf w0).2.1⟩) i (by omega) : Wf (wiped c n w (deed c).2 i) ∧ _).1
          obtain ⟨pgl, pgc⟩ := wfi.page _ (List.getElem_mem hlt)
          have eg : (wiped c n w (deed c).2 i).cells.getD (n * c.pg + i) [] = (wiped c n w (deed c).2 i).cells[n * c.pg + i] := by rw [List.getD_eq_getElem?_getD, List.getElem?_eq_getElem hlt]; rfl
          have step : ∀ (G5 : Hp) (z : List Nat), Same G'' G5 → z = (if w = Str.ofString "" then List.replicate 256 102 else tornL ((wiped c n w (deed c).2 i).cells.getD (n * c.pg + i) []) (deed c).2) → (∃ y, [some (.ref o), some (.int (n : Int)), some (.str w), some (.str (S pt)), some (.ref o2), some (ownTold (deedTold { c with done := c.done + 1 } n w).2), some (.ref rw_), some (.ref we), some (.ref pl), some (V.int ((n * c.pg + i : Nat) : Int)), none] = [some (.ref o), some (.int (n : Int)), some (.str w), some (.str (S pt)), some (.ref o2), some (ownTold (deedTold { c with done := c.done + 1 } n w).2), some (.ref rw_), some (.ref we), some (.ref pl), y, none]) ∧ Same G (upd G5 rw_ (.lst (((wiped c n w (deed c).2 i).cells.map fun l => V.str (S l)).set (n * c.pg + i) (.str (S z))))) ∧ (upd G5 rw_ (.lst (((wiped c n w (deed c).2 i).cells.map fun l => V.str (S l)).set (n * c.pg + i) (.str (S z))))) rw_ = some (.lst ((wiped c n w (deed c).2 (i + 1)).cells.map fun l => V.str (S l))) ∧ (upd G5 rw_ (.lst (((wiped c n w (deed c).2 i).cells.map fun l => V.str (S l)).set (n * c.pg + i) (.str (S z))))) we = some (.lst (c.wear.map V.int)) ∧ (upd G5 rw_ (.lst (((wiped c n w (deed c).2 i).cells.map fun l => V.str (S l)).set (n * c.pg + i) (.str (S z))))) pl = some (.lst ((placesL n c.pg).map V.int)) := by
            intro G5 z s5 ez
            refine ⟨⟨_, rfl⟩, (b1.trans s5).put nrw, ?_, by rw [upd_ne werw]; exact s5 _ _ w1, by rw [upd_ne plrw]; exact s5 _ _ p1'⟩
            rw [upd_same, ez]
            show _ = some (HO.lst (((wiped c n w (deed c).2 i).cells.set (n * c.pg + i) _).map fun l => V.str (S l)))
            rw [List.map_set]
          refine ⟨_, rfl, rfl, _, rfl, ?_⟩
          by_cases w0 : w = Str.ofString ""
          · rw [decide_eq_true (by rw [w0])]
            have ef : (Str.ofString "f" : Str) = S [102] := by decide +kernel
            refine iteT ⟨_, _, rfl, rfl, by decide, by decide, by decide, ?_⟩
            rw [ef, mulS, rep_one, show Int.toNat 256 = 256 from rfl]
            exact ⟨_, rfl, _, rfl, rw_, _, _, n * c.pg + i, rfl, rfl, r1, ixN_to (by rw [List.length_map]; exact hlt), step G'' _ (Same.refl _) (by rw [if_pos w0])⟩
          · rw [decide_eq_false (fun z => w0 (V.str.inj z))]
            obtain ⟨d1, d2, d3, d4⟩ := dp w0
            refine iteF ⟨_, rfl, _, rfl, rw_, _, _, _, rfl, rfl, SqL.of r1, atI_nat (by rw [List.getElem?_map, List.getElem?_eq_getElem hlt]; rfl), _, rfl, _, pt, rfl, pgc, by omega, d1, d2, by omega, fun H5 S5 => ?_⟩
            exact ⟨_, rfl, _, rfl, rw_, _, _, n * c.pg + i, rfl, rfl, S5 _ _ r1, ixN_to (by rw [List.length_map]; exact hlt), step H5 _ S5 (by rw [if_neg w0, eg, d4])⟩
        · obtain ⟨⟨y, rfl⟩, b1, r1, w1, p1'⟩ := hq
          rw [List.length_map, lpl] at r1
          exact hE3 _ _ ⟨⟨y, rfl⟩, b1, r1, w1, p1'⟩
      obtain ⟨⟨y, rfl⟩, SG4, erw4, ewe4, epl4⟩ := hq
      obtain ⟨wv, hwv⟩ : ∃ wv, c.wear[n]? = some wv := ⟨_, List.getElem?_eq_getElem (by rw [wf.lw]; exact hn)⟩
      have ewv : c.wear.getD n 0 = wv := by rw [List.getD_eq_getElem?_getD, hwv]; rfl
      refine ⟨_, rfl, _, rfl, we, _, _, _, rfl, rfl, SqL.of ewe4, atI_nat (by rw [List.getElem?_map, hwv]; rfl), _, _, rfl, rfl, _, rfl, _, rfl, we, _, _, n, rfl, rfl, ewe4, ixN_to (by rw [List.length_map, wf.lw]; exact hn), ?_⟩
      rw [show (c.wear.map V.int).set n (V.int (wv + 1)) = (c.wear.set n (c.wear.getD n 0 + 1)).map V.int by rw [List.map_set, ewv]]
      have SG5 := SG4.put (o := .lst ((c.wear.set n (c.wear.getD n 0 + 1)).map V.int)) nweG
      have ewe5 := upd_same (H := G') (a := we) (o := .lst ((c.wear.set n (c.wear.getD n 0 + 1)).map V.int))
      have erw5 : (upd G' we (.lst ((c.wear.set n (c.wear.getD n 0 + 1)).map V.int))) rw_ = some (.lst ((wiped c n w (deed c).2 c.pg).cells.map fun l => V.str (S l))) := by rw [upd_ne werw.symm]; exact erw4
      have epl5 : (upd G' we (.lst ((c.wear.set n (c.wear.getD n 0 + 1)).map V.int))) pl = some (.lst ((placesL n c.pg).map V.int)) := by rw [upd_ne plwe]; exact epl4
      revert SG5 ewe5 erw5 epl5
      generalize upd G' we (.lst ((c.wear.set n (c.wear.getD n 0 + 1)).map V.int)) = G5
      intro SG5 ewe5 erw5 epl5
      clear SG4 erw4 ewe4 epl4
      refine ⟨_, rfl, _, rfl, by show 2 ≤ sizeLine; omega, fun tp ntp => ⟨tp, _, rfl, SqT.of upd_same, rfl, _, _, rfl, _, rfl, o2, _, rfl, DPut.k (k := .inr ("cells" : Str)) ((Same.new ntp) _ _ (SG5 _ _ eo2)) (by show 10 < sizeLine; omega), _, _, rfl, _, rfl, o2, _, rfl, DPut.k (k := .inr ("wear" : Str)) upd_same (by show 10 < sizeLine; omega), rfl, ?_⟩⟩
      have op1 := op_cells { A with bd := bd } (deedTold { c with done := c.done + 1 } n w).1 rw_
      have op2 := op_wear { A with bd := bd, cl := rw_ } (deedTold { c with done := c.done + 1 } n w).1 we
      dsimp only at op1 op2 ⊢
      rw [op1, op2]
      have SG6 := SG5.trans (Same.new (o := .tup [.ref rw_, .ref we]) ntp)
      have e6 : ∀ b u, b ≠ o2 → G5 b = some u → (upd (upd (upd G5 tp (.tup [.ref rw_, .ref we])) o2 (.dK (ownK { A with bd := bd, cl := rw_ } (deedTold { c with done := c.done + 1 } n w).1))) o2 (.dK (ownK { A with bd := bd, cl := rw_, wl := we } (deedTold { c with done := c.done + 1 } n w).1))) b = some u := fun b u nb e => by rw [upd_ne nb, upd_ne nb]; exact (Same.new ntp) _ _ e
      have eo6 := upd_same (H := upd (upd G5 tp (.tup [.ref rw_, .ref we])) o2 (.dK (ownK { A with bd := bd, cl := rw_ } (deedTold { c with done := c.done + 1 } n w).1))) (a := o2) (o := .dK (ownK { A with bd := bd, cl := rw_, wl := we } (deedTold { c with done := c.done + 1 } n w).1))
      have SH6 : Same H (upd (upd (upd G5 tp (.tup [.ref rw_, .ref we])) o2 (.dK (ownK { A with bd := bd, cl := rw_ } (deedTold { c with done := c.done + 1 } n w).1))) o2 (.dK (ownK { A with bd := bd, cl := rw_, wl := we } (deedTold { c with done := c.done + 1 } n w).1))) := ((S12.trans SG6).put nH).put nH
      have o2pl : o2 ≠ pl := fun z => by rw [← z, eo2] at nplG; cases nplG
      have BO6 : But o2 G (upd (upd (upd G5 tp (.tup [.ref rw_, .ref we])) o2 (.dK (ownK { A with bd := bd, cl := rw_ } (deedTold { c with done := c.done + 1 } n w).1))) o2 (.dK (ownK { A with bd := bd, cl := rw_, wl := we } (deedTold { c with done := c.done + 1 } n w).1))) := fun b u nb e => e6 b u nb (SG5 b u e)
      have erw6 := e6 rw_ _ o2rw.symm erw5
      have ewe6 := e6 we _ o2we.symm ewe5
      have epl6 := e6 pl _ o2pl.symm epl5
      clear SG6 e6 SG5 erw5 ewe5 epl5
      revert eo6 SH6 BO6 erw6 ewe6 epl6
      generalize upd (upd (upd G5 tp (.tup [.ref rw_, .ref we])) o2 (.dK (ownK { A with bd := bd, cl := rw_ } (deedTold { c with done := c.done + 1 } n w).1))) o2 (.dK (ownK { A with bd := bd, cl := rw_, wl := we } (deedTold { c with done := c.done + 1 } n w).1)) = G6
      intro eo6 SH6 BO6 erw6 ewe6 epl6
      have hx6 := hoA.same SH6
      have owr : o ≠ A.wr := fun z => by
        have q1 := hoA.obj
        have q2 := hoA.wr
        rw [z, q2] at q1
        have q3 := HO.dK.inj (Option.some.inj q1)
        cases ws with
        | nil => cases q3
        | cons p ws => cases (List.cons.inj q3).1
      refine ⟨A.wr, _, hx6.wr, trivial, fun od => ?_⟩
      have el0 : upd G6 A.wr (.frz od (.dK (wsK ws))) A.wr = some (.frz od (.dK (wsK ws))) := upd_same
      have dg0 : DGet (upd G6 A.wr (.frz od (.dK (wsK ws)))) o (.str ("written" : Str)) (some (.ref A.wr)) := by
        have eo7 : upd G6 A.wr (.frz od (.dK (wsK ws))) o = some (.dK (ownK A c)) := by rw [upd_ne owr]; exact hx6.obj
        exact DGet.k (k := .inr ("written" : Str)) eo7
      have plwr : pl ≠ A.wr := fun z => by rw [z, hx6.wr] at epl6; cases epl6
      have epl7 : upd G6 A.wr (.frz od (.dK (wsK ws))) pl = some (.lst ((placesL n c.pg).map V.int)) := by rw [upd_ne plwr]; exact epl6
      refine ⟨_, rfl, o, _, rfl, dg0, A.wr, od, wsK ws, rfl, el0, fun D hD => lc_it walk_items (fun i H' => Same (upd G6 A.wr (.frz od (.dK (wsK ws)))) H' ∧ ∃ tts : List Addr, H' D = some (.lst (tts.map V.ref)) ∧ D ∉ tts ∧ Paired (fun t kv => H' t = some (.tup [kV kv.1, kv.2])) tts (wsK ((ws.take i).filter fun p => !decide (n * c.pg ≤ p.1 ∧ p.1 < n * c.pg + c.pg)))) ⟨Same.new hD, [], upd_same, List.not_mem_nil, .nil⟩ (fun i H' _ h => h.1 _ _ el0) (fun i y H4 H4' hi hp4 hy => ?_) fun H4 hp4 => ?_⟩
      · obtain ⟨s4, tts, q1, q2, q3⟩ := hp4
        obtain ⟨T4, x1, x2, rfl, nT, rfl, hx1, hx2⟩ := hy
        have hi2 : i < ws.length := by unfold wsK at hi; rw [List.length_map] at hi; exact hi
        have ei : (wsK ws)[i]? = some (.inl (ws[i].1 : Int), .str (S ws[i].2)) := by
          unfold wsK
          rw [List.getElem?_map, List.getElem?_eq_getElem hi2]
          rfl
        dsimp only at hx1 hx2
        rw [ei] at hx1 hx2
        cases hx1
        cases hx2
        have tk : ws.take (i + 1) = ws.take i ++ [ws[i]] := by rw [List.take_add_one, List.getElem?_eq_getElem hi2]; rfl
        have s5 := s4.trans (Same.new (o := .tup [kV (.inl (ws[i].1 : Int)), .str (S ws[i].2)]) nT)
        refine ⟨T4, _, rfl, SqT.of upd_same, rfl, _, _, rfl, _, _, rfl, rfl, rfl, ?_⟩
        refine ⟨_, rfl, _, rfl, pl, _, rfl, .inl (SqL.of (s5 _ _ epl7)), rfl, flats _, _, rfl, ?_⟩
        rw [show inV (kV (.inl (ws[i].1 : Int))) ((placesL n c.pg).map V.int) = decide ((ws[i].1 : Int) ∈ placesL n c.pg) from inV_ints _ _]
        have em : decide ((ws[i].1 : Int) ∈ placesL n c.pg) = decide (n * c.pg ≤ ws[i].1 ∧ ws[i].1 < n * c.pg + c.pg) := by
          rw [Bool.eq_iff_iff, decide_eq_true_iff, decide_eq_true_iff]
          exact mem_placesL n c.pg ws[i].1
        rw [em]
        have q3' : Paired (fun t kv => (upd H4 T4 (.tup [kV (.inl (ws[i].1 : Int)), .str (S ws[i].2)])) t = some (.tup [kV kv.1, kv.2])) tts (wsK ((ws.take i).filter fun p => !decide (n * c.pg ≤ p.1 ∧ p.1 < n * c.pg + c.pg))) := Paired.mono (fun t kv h => (Same.new nT) _ _ h) q3
        have flen : (wsK ((ws.take i).filter fun p => !decide (n * c.pg ≤ p.1 ∧ p.1 < n * c.pg + c.pg))).length ≤ 900 := by
          unfold wsK
          rw [List.length_map]
          exact Nat.le_trans (List.length_filter_le _ _) (by rw [List.length_take]; omega)
        by_cases g : n * c.pg ≤ ws[i].1 ∧ ws[i].1 < n * c.pg + c.pg
        · rw [decide_eq_true g]
          have fl : ((ws.take (i + 1)).filter fun p => !decide (n * c.pg ≤ p.1 ∧ p.1 < n * c.pg + c.pg)) = ((ws.take i).filter fun p => !decide (n * c.pg ≤ p.1 ∧ p.1 < n * c.pg + c.pg)) := by
            rw [tk, List.filter_append, List.filter_cons, if_neg (by rw [decide_eq_true g]; exact Bool.false_ne_true)]
            exact List.append_nil _
          refine iteF ⟨s5, tts, (Same.new nT) _ _ q1, q2, ?_⟩
          rw [fl]
          exact q3'
        · rw [decide_eq_false g]
          have fl : ((ws.take (i + 1)).filter fun p => !decide (n * c.pg ≤ p.1 ∧ p.1 < n * c.pg + c.pg)) = ((ws.take i).filter fun p => !decide (n * c.pg ≤ p.1 ∧ p.1 < n * c.pg + c.pg)) ++ [ws[i]] := by
            rw [tk, List.filter_append]
            congr 1
            rw [List.filter_cons, if_pos (by rw [decide_eq_false g]; rfl)]
            rfl
          refine iteT ⟨_, rfl, _, rfl, by show 2 ≤ sizeLine; omega, fun t nt => ?_⟩
          have q1' := (Same.new (o := .tup [kV (.inl (ws[i].1 : Int)), .str (S ws[i].2)]) nT) _ _ q1
          have tD : t ≠ D := fun z => by rw [z, q1'] at nt; cases nt
          refine ⟨_, by rw [upd_ne tD.symm]; exact q1', by rw [List.length_map, pair_len q3]; omega, (s5.trans (Same.new nt)).put hD, tts ++ [t], by rw [upd_same, List.map_append]; rfl, fun z => ?_, ?_⟩
          · rcases List.mem_append.mp z with z | z
            · exact q2 z
            · exact tD (List.mem_singleton.mp z).symm
          · rw [fl]
            unfold wsK
            rw [List.map_append]
            refine pair_snoc (Paired.mono (fun t' kv h => ?_) q3') (by rw [upd_ne tD, upd_same])
            have tn : t' ≠ D := fun z => by rw [z, q1'] at h; cases h
            rw [upd_ne tn]
            exact (Same.new nt) _ _ h
      obtain ⟨s4, tts, q1, q2, q3⟩ := hp4
      rw [show (wsK ws).length = ws.length by unfold wsK; rw [List.length_map], List.take_length] at q3
      refine ⟨s4 _ _ el0, ?_⟩
      have DwA : D ≠ A.wr := fun z => by rw [z, el0] at hD; cases hD
      have S67 : Same G6 (upd H4 A.wr (.dK (wsK ws))) := fun b u e => by
        by_cases hb : b = A.wr
        · rw [hb, hx6.wr] at e
          cases e
          rw [hb, upd_same]
        · rw [upd_ne hb]
          exact s4 _ _ (by rw [upd_ne hb]; exact e)
      have eD : (upd H4 A.wr (.dK (wsK ws))) D = some (.lst (tts.map V.ref)) := by rw [upd_ne DwA]; exact q1
      have q3' : Paired (fun t kv => (upd H4 A.wr (.dK (wsK ws))) t = some (.tup [kV kv.1, kv.2])) tts (wsK (ws.filter fun p => !decide (n * c.pg ≤ p.1 ∧ p.1 < n * c.pg + c.pg))) := Paired.mono (fun t kv h => by
        rw [upd_ne (fun z => by rw [z, s4 _ _ el0] at h; cases h)]
        exact h) q3
      revert S67 eD q3'
      generalize upd H4 A.wr (.dK (wsK ws)) = G7
      intro S67 eD q3'
      have ndf : ((ws.filter fun p => !decide (n * c.pg ≤ p.1 ∧ p.1 < n * c.pg + c.pg)).map (·.1)).Nodup := (List.filter_sublist.map _).nodup hoA.nd
      refine ⟨D, tts, _, rfl, SqL.of eD, Paired.mono (fun _ _ h => SqT.of h) q3', fun wd nwd => ?_⟩
      rw [wsK_merge ndf]
      have eo7 := S67 _ _ eo6
      have wdo2 : wd ≠ o2 := fun z => by rw [z, eo7] at nwd; cases nwd
      have nwdH : H wd = none := (SH6.trans S67).free nwd
      have op3 := op_written { A with bd := bd, cl := rw_, wl := we } (deedTold { c with done := c.done + 1 } n w).1 wd
      dsimp only at op3
      refine ⟨_, rfl, o2, _, rfl, DPut.k (k := .inr ("written" : Str)) ((Same.new nwd) _ _ eo7) (by show 10 < sizeLine; omega), ?_⟩
      rw [op3]
      have SH9 := ((SH6.trans S67).trans (Same.new (o := .dK (wsK (ws.filter fun p => !decide (n * c.pg ≤ p.1 ∧ p.1 < n * c.pg + c.pg)))) nwd)).put (o := .dK (ownK { A with bd := bd, cl := rw_, wl := we, wr := wd } (deedTold { c with done := c.done + 1 } n w).1)) nH
      have e9 : ∀ b u, b ≠ o2 → G6 b = some u → (upd (upd G7 wd (.dK (wsK (ws.filter fun p => !decide (n * c.pg ≤ p.1 ∧ p.1 < n * c.pg + c.pg))))) o2 (.dK (ownK { A with bd := bd, cl := rw_, wl := we, wr := wd } (deedTold { c with done := c.done + 1 } n w).1))) b = some u := fun b u nb e => by
        rw [upd_ne nb]
        exact (Same.new nwd) _ _ (S67 _ _ e)
      have ewd : (upd (upd G7 wd (.dK (wsK (ws.filter fun p => !decide (n * c.pg ≤ p.1 ∧ p.1 < n * c.pg + c.pg))))) o2 (.dK (ownK { A with bd := bd, cl := rw_, wl := we, wr := wd } (deedTold { c with done := c.done + 1 } n w).1))) wd = some (.dK (wsK (ws.filter fun p => !decide (n * c.pg ≤ p.1 ∧ p.1 < n * c.pg + c.pg)))) := by rw [upd_ne wdo2, upd_same]
      obtain ⟨r1, r2, r3, r4, r5, r6, r7, r8⟩ := wiped_rest { (deedTold { c with done := c.done + 1 } n w).1 with wear := c.wear.set n (c.wear.getD n 0 + 1) } n w (deed c).2 c.pg
      have rc := wiped_cong (c := c) (c2 := { (deedTold { c with done := c.done + 1 } n w).1 with wear := c.wear.set n (c.wear.getD n 0 + 1) }) n w (deed c).2 ts.1 ts.2.2.1 c.pg
      have gl : ∀ (b : Addr) (xs : List V), G b = some (.lst xs) → (upd (upd G7 wd (.dK (wsK (ws.filter fun p => !decide (n * c.pg ≤ p.1 ∧ p.1 < n * c.pg + c.pg))))) o2 (.dK (ownK { A with bd := bd, cl := rw_, wl := we, wr := wd } (deedTold { c with done := c.done + 1 } n w).1))) b = some (.lst xs) := fun b xs e => by
        have nb : b ≠ o2 := fun z => by rw [z, eo2] at e; cases e
        exact e9 b _ nb (BO6 b _ nb e)
      obtain ⟨rs, f1, f2, f3⟩ := h2.fa.ex
      have oat : OwnAt K (upd (upd G7 wd (.dK (wsK (ws.filter fun p => !decide (n * c.pg ≤ p.1 ∧ p.1 < n * c.pg + c.pg))))) o2 (.dK (ownK { A with bd := bd, cl := rw_, wl := we, wr := wd } (deedTold { c with done := c.done + 1 } n w).1))) o2 { A with bd := bd, cl := rw_, wl := we, wr := wd } (wiped { (deedTold { c with done := c.done + 1 } n w).1 with wear := c.wear.set n (c.wear.getD n 0 + 1) } n w (deed c).2 c.pg) (ws.filter fun p => !decide (n * c.pg ≤ p.1 ∧ p.1 < n * c.pg + c.pg)) := by
        refine ⟨?_, ?_, ?_, ?_, ewd, ⟨rs, ?_, ?_, fun i r f e1 e2 => ?_⟩, ndf⟩
        · rw [upd_same]
          unfold ownK
          rw [r1, r2, r6, r7, r8]
        · rw [rc]
          exact e9 _ _ o2rw.symm erw6
        · rw [r4]
          exact e9 _ _ o2we.symm ewe6
        · rw [r5, r1]
          exact gl _ _ h2.bd
        · exact gl _ _ f1
        · rw [r3]
          exact f2
        · rw [r3] at e2
          rcases f3 i r f e1 e2 with (h | ⟨o', h⟩) | h
          · have nb : r ≠ o2 := fun z => by rw [z, eo2] at h; cases h
            exact .inl (.inl (e9 _ _ nb (BO6 _ _ nb h)))
          · have nb : r ≠ o2 := fun z => by rw [z, eo2] at h; cases h
            exact .inl (.inr ⟨o', e9 _ _ nb (BO6 _ _ nb h)⟩)
          · exact .inr h
      refine hE _ _ ⟨⟨_, _, _, _, _, rfl⟩, SH9, by rw [eww], ⟨{ A with bd := bd, cl := rw_, wl := we, wr := wd }, (ws.filter fun p => !decide (n * c.pg ≤ p.1 ∧ p.1 < n * c.pg + c.pg)), by rw [eww]; exact oat, wr.erase wf hn nb rfl, Nat.le_trans (List.length_filter_le _ _) wlen, fun q => hz _ q nrw0, fun q => hz _ q nwe0, zbd, z4⟩⟩
    · obtain ⟨rfl, hbad⟩ := hG
      have ew2 : erased c n = deedTold { c with done := c.done + 1 } n w := by
        unfold erased
        dsimp only
        rw [if_pos hbad, ew]
      refine hE _ _ ⟨⟨_, _, _, _, _, rfl⟩, S12, by rw [ew2], ⟨{ A with bd := bd }, ws, by rw [ew2]; exact h2, ?_, wlen, z1, z2, zbd, z4⟩⟩
      rw [ew2]
      exact wr.cong ts.1 tst
theorem ok_law_chip_can_fade {f : Addr} {fd : FuncData} (T : Txt K w mg) (F : FD K "_law_chip_can_fade" s_law_chip_can_fade f fd) (hm : mg "_law_chip_can_fade" = some (.ref f)) (c_law_is_int : Cg P w K mg base 1 "_law_is_int" ["value", "low", "high"] sp_law_is_int) (c_law_chip_is_cells : Cg P w K mg base 1 "_law_chip_is_cells" ["value", "low", "high"] sp_law_chip_is_cells) : Cg P w K mg base 2 "_law_chip_can_fade" ["own", "place", "cell", "sign"] (sp_law_chip_can_fade K) := by
  refine cg_of F hm sc_law_chip_can_fade (fun vs H Q E h => ?_) (fun _ _ _ _ _ _ us hl => match us, hl with | [_, _, _, _], _ => rfl) (fun _ _ _ _ _ _ us hl => match us, hl with | [_, _, _, _], _ => rfl) (fun cdv A outer s H vs Q E hG hr h => ?_)
  · obtain ⟨o, c, n, j, g, m, Z, rfl, _⟩ := h
    rfl
  · obtain ⟨o, c, n, j, g, m, Z, rfl, ho, wf, hn, hj, hg, k⟩ := h
    refine ⟨_, (pss_cons (ps_if (PW.pt (pw_or (pt_not (pt_val (pe_g c_law_is_int hG hr (by decide) rfl (pa_cons (pv 2) (pa_cons pe_int (pa_cons pe_int pa_nil)))))) (pw_or1 (pt_not (pt_val (pe_g c_law_chip_is_cells hG hr (by decide) rfl (pa_cons (pv 3) (pa_cons pe_int (pa_cons pe_int pa_nil))))))))) (pss_one (ps_ret pe_bl)) pss_nil)
      (pss_cons (ps_set (i := 4) sc_law_chip_can_fade.nd rfl (Or.inl rfl) (pe_ix (show IxR _ (rIxL K) from ix_list) (pe_dget (Nat.lt_of_le_of_lt (Nat.add_le_add_left (by decide) _) hr.units) (pv 0) pe_str (fun _ _ => rfl)) (pv 1) (fun _ _ => rfl)))
      (pss_cons (ps_if (PW.pt (pw_or (pt_cmpR op_eq (pv 4) (pe_op op_mulS pe_str pe_int) (nomark _)) (pw_or1 (pt_cmpR op_ne (pe_dget2 (Nat.lt_of_le_of_lt (Nat.add_le_add_left (by decide) _) hr.units) (pe_dget (Nat.lt_of_le_of_lt (Nat.add_le_add_left (by decide) _) hr.units) (pv 0) pe_str (fun _ _ => rfl)) (pv 1) pe_str ⟨rfl, rfl, rfl, rfl⟩) (pv 4) (nomark _))))) (pss_one (ps_ret pe_bl)) pss_nil)
      (pss_one (ps_ret (pe_cmpR op_lt (pe_bm PySem.F.plainAttrs_str PySem.F.slot_str_index PySem.F.type_str_index mt_sindex pe_str (pa_cons (pv 3) pa_nil)) (pe_bm PySem.F.plainAttrs_str PySem.F.slot_str_index PySem.F.type_str_index mt_sindex pe_str (pa_cons (pe_ix ix_str (pv 4) (pv 2) (fun _ _ => rfl)) pa_nil)) (nomark _))))))), ?_⟩
    obtain ⟨A, ws, hoA, wr, wlen, z1, z2, z3, z4⟩ := ho.ex
    have hit : c.cells[n]? = some (c.cells.getD n []) := by rw [List.getD_eq_getElem?_getD, List.getElem?_eq_getElem hn]; rfl
    have pg := wf.page _ (List.mem_of_getElem? hit)
    revert hit pg k
    have hw := wr.2 n hn
    revert hw
    generalize c.cells.getD n [] = l
    intro hw k hit pg
    refine ⟨_, rfl, (j : Int), 0, 255, rfl, _, rfl, ?_⟩
    rw [decide_eq_true (show (0 : Int) ≤ (j : Int) ∧ (j : Int) ≤ 255 by omega)]
    refine iteF ⟨_, rfl, g, rfl, hg, fun H2 S2 => ⟨_, rfl, iteF ?_⟩⟩
    dsimp only [tNext]
    have hx := hoA.same S2
    refine ⟨_, rfl, o, _, rfl, og_cells hx, _, rfl, A.cl, _, _, _, rfl, rfl, SqL.of hx.cl, atI_nat (by rw [List.getElem?_map, hit]; rfl), ?_⟩
    have ef : (Str.ofString "f" : Str) = S [102] := by decide +kernel
    refine ⟨_, rfl, _, _, rfl, rfl, by decide, by decide, by decide, ?_⟩
    rw [ef, mulS, rep_one, show Int.toNat 256 = 256 from rfl]
    refine ⟨rfl, _, rfl, ?_⟩
    rw [S_dec]
    have mf : mayFall c n j l [g] = (decide (l ≠ List.replicate 256 102) && (c.stands.getD n false && decide (g < l.getD j 0))) := rfl
    by_cases lf : l = List.replicate 256 102
    · rw [decide_eq_true lf]
      rw [mf, decide_eq_false (fun z => z lf)] at k
      exact iteT (k _ S2)
    rw [decide_eq_false lf]
    rw [mf, decide_eq_true lf] at k
    have hst := hw.1 lf
    refine iteF ⟨_, rfl, o, _, rfl, og_written hx, A.wr, rfl, .inl ⟨_, .inl hx.wr⟩, _, rfl, _, DGet.k (k := .inl (n : Int)) hx.wr, _, rfl, ?_⟩
    rw [wsK_get]
    have fin : ∀ G : Hp, Same H G → ws.lookup n = some l → tRet
                              (tOp (rI0 fun i j => V.bl (decide (i < j)))
                                (tBM
                                  K
                                  "str"
                                  (fun x xs H Q =>
                                    ∃ a b i rest,
                                      x = V.str a ∧
                                        xs = [V.str b] ∧
                                          Builtin.Str.occurrences a b 0 a.length 1 = i :: rest ∧ Q (V.int (i : Int)) H)
                                  (tC (V.str (Str.ofString "0123456789abcdef"))) (tCons (tVar 3) tNil))
                                (tBM
                                  K
                                  "str"
                                  (fun x xs H Q =>
                                    ∃ a b i rest,
                                      x = V.str a ∧
                                        xs = [V.str b] ∧
                                          Builtin.Str.occurrences a b 0 a.length 1 = i :: rest ∧ Q (V.int (i : Int)) H)
                                  (tC (V.str (Str.ofString "0123456789abcdef"))) (tCons (tOp rIxS (tVar 4) (tVar 2)) tNil)))
                              { nx := fun x H' => Q V.non H', rt := Q } [some (V.ref o), some (V.int (n : Int)), some (V.int (j : Int)), some (V.str (S [g])), some (V.str (S l))] G := by
      intro G hG hl
      have hgw := worth_at hg
      obtain ⟨r1, e1⟩ := hgw
      have hlc := pg.2
      have hjl : j < l.length := by rw [pg.1]; exact hj
      obtain ⟨u, hu⟩ : ∃ u, l[j]? = some u := ⟨l[j], List.getElem?_eq_getElem hjl⟩
      have hcu := hlc u (List.mem_of_getElem? hu)
      obtain ⟨r2, e2⟩ := worth_at hcu
      have eu : l.getD j 0 = u := by rw [List.getD, hu]; rfl
      have q := k G hG
      rw [hst.mpr hl, Bool.true_and, Bool.true_and, eu] at q
      refine ⟨rfl, _, rfl, _, _, _, r1, rfl, rfl, e1, rfl, _, rfl, _, rfl, ?_⟩
      have hz : (S l).length ≤ sizeLine := by rw [S_len, pg.1, sizeLine_eq]; decide
      refine ⟨_, _, u, rfl, rfl, hz, at_S hu, _, _, _, r2, rfl, rfl, e2, _, _, rfl, rfl, ?_⟩
      show Q (V.bl (decide (((WM.wo g : Nat) : Int) < (WM.wo u : Nat)))) G
      rw [show decide (((WM.wo g : Nat) : Int) < (WM.wo u : Nat)) = decide (g < u) from decide_eq_decide.mpr ⟨fun z => (WM.wo_mono hg hcu).mp (by omega), fun z => by have := (WM.wo_mono hg hcu).mpr z; omega⟩]
      exact q
    rcases el : ws.lookup n with _ | y
    · refine ⟨rfl, _, rfl, ?_⟩
      rw [decide_eq_false (show ¬ (Option.map (fun l => V.str (S l)) (none : Option (List Nat))).getD (V.str (Str.ofString "")) = V.str (S l) from fun z => by
        have h : (Str.ofString "").length = (S l).length := congrArg Str.length (V.str.inj z)
        rw [S_len l, pg.1, show (Str.ofString "").length = 0 from by decide +kernel] at h
        cases h)]
      refine iteT ?_
      have ns : c.stands.getD n false = false := by
        rcases e : c.stands.getD n false with _ | _
        · rfl
        · exact absurd (hst.mp e) (by rw [el]; exact fun z => nomatch z)
      rw [ns] at k
      exact k _ S2
    · by_cases ey : y = l
      · subst ey
        refine ⟨rfl, _, rfl, ?_⟩
        rw [decide_eq_true (show (Option.map (fun l => V.str (S l)) (some y)).getD (V.str (Str.ofString "")) = V.str (S y) from rfl)]
        exact iteF (fin _ S2 el)
      · refine ⟨rfl, _, rfl, ?_⟩
        rw [decide_eq_false (show ¬ (Option.map (fun l => V.str (S l)) (some y)).getD (V.str (Str.ofString "")) = V.str (S l) from fun z => ey (S_inj (V.str.inj z)))]
        refine iteT ?_
        have ns : c.stands.getD n false = false := by
          rcases e : c.stands.getD n false with _ | _
          · rfl
          · exact absurd (hst.mp e) (by rw [el]; exact fun z => ey (Option.some.inj z))
        rw [ns] at k
        exact k _ S2
theorem ok_law_chip_faded {f : Addr} {fd : FuncData} (T : Txt K w mg) (F : FD K "_law_chip_faded" s_law_chip_faded f fd) (hm : mg "_law_chip_faded" = some (.ref f)) : Cg P w K mg base 1 "_law_chip_faded" ["own", "place", "cell", "sign"] (sp_law_chip_faded K) := by
  refine cg_of F hm sc_law_chip_faded (fun vs H Q E h => ?_) (fun _ _ _ _ _ _ us hl => match us, hl with | [_, _, _, _], _ => rfl) (fun _ _ _ _ _ _ us hl => match us, hl with | [_, _, _, _], _ => rfl) (fun cdv A outer s H vs Q E hG hr h => ?_)
  · obtain ⟨o, c, n, j, g, m, Z, rfl, _⟩ := h
    rfl
  · obtain ⟨o, c, n, j, g, m, Z, rfl, ho, wf, hn, hj, hg, mf, hz, k⟩ := h
    refine ⟨_, (pss_cons (ps_par (i := 4) (j := 5) rfl sc_law_chip_faded.nd rfl rfl (by decide) rfl rfl (pa_cons (pe_callTy (call_dictP rfl) (by rfl) T.f_dict (by decide +kernel) (pa_cons (LiI.pe_listItems rfl (pv 0) rfl T.f_list (by decide +kernel)) pa_nil)) (pa_cons (pe_callTy call_list_of (by rfl) T.f_list (by decide +kernel) (pa_cons (pe_dget (Nat.lt_of_le_of_lt (Nat.add_le_add_left (by decide) _) hr.units) (pv 0) pe_str (fun _ _ => rfl)) pa_nil)) pa_nil)) (by rfl))
      (pss_cons (ps_asg (pe_op op_add_str (pe_op op_add_str (pe_slice sl_str (pe_ix (show IxR _ (rIxL K) from ix_list) (pv 5) (pv 1) (fun _ _ => rfl)) po_none (po_some (pv 2))) (pv 3)) (pe_slice sl_str (pe_ix (show IxR _ (rIxL K) from ix_list) (pv 5) (pv 1) (fun _ _ => rfl)) (po_some (pe_op op_add (pv 2) pe_int)) po_none)) (pg_sub (pv 5) (pv 1) set_list))
      (pss_cons (ps_asg (pv 5) (pg_sub (pv 4) pe_str (set_dict (Nat.lt_of_le_of_lt (Nat.add_le_add_left (by decide) _) hr.units))))
      (pss_one (ps_ret (pv 4)))))), ?_⟩
    obtain ⟨A, ws, hoA, wr, wlen, z1, z2, z3, z4⟩ := ho.ex
    have hit : c.cells[n]? = some (c.cells.getD n []) := by rw [List.getD_eq_getElem?_getD, List.getElem?_eq_getElem hn]; rfl
    have pg := wf.page _ (List.mem_of_getElem? hit)
    have hw := wr.2 n hn
    have S9 : sizeLine = 16777216 := sizeLine_eq
    have lcells : c.cells.length ≤ 1024 := by rw [wf.lc]; exact size_lo wf
    refine ⟨_, rfl, o, _, rfl, hoA.obj, fun H1 p ts k1 np nts npt hp1 pr => ⟨p, ts, ownK A c, rfl, SqL.of hp1, Paired.mono (fun _ _ h => SqT.of h) pr, fun o2 no2 => ?_⟩⟩
    rw [own_copy]
    have S1 : Same H H1 := fun b o e => k1 b o e
    have ho1 := hoA.same (S1.trans (Same.new (o := .dK (ownK A c)) no2))
    have nH : H o2 = none := S1.free no2
    refine ⟨_, rfl, o, _, rfl, og_cells ho1, A.cl, _, rfl, .inl (SqL.of ho1.cl), fun rw_ nrw => ?_⟩
    have S3 := (S1.trans (Same.new (o := .dK (ownK A c)) no2)).trans (Same.new (o := .lst (c.cells.map fun l => V.str (S l))) nrw)
    have nrw0 : H rw_ = none := (S1.trans (Same.new (o := .dK (ownK A c)) no2)).free nrw
    have eo2 := (Same.new (o := .lst (c.cells.map fun l => V.str (S l))) nrw) _ _ (upd_same (H := H1) (a := o2) (o := .dK (ownK A c)))
    have erw : (upd (upd H1 o2 (.dK (ownK A c))) rw_ (.lst (c.cells.map fun l => V.str (S l)))) rw_ = _ := upd_same
    have o2rw : o2 ≠ rw_ := fun z => by have h := nrw; rw [← z, upd_same] at h; cases h
    dsimp only
    revert S3 eo2 erw
    generalize upd (upd H1 o2 (.dK (ownK A c))) rw_ (.lst (c.cells.map fun l => V.str (S l))) = H3
    intro S3 eo2 erw
    refine ⟨_, _, rfl, ?_⟩
    show tSeq (tAsg _ _) _ _ [some (.ref o), some (.int (n : Int)), some (.int (j : Int)), some (.str (S [g])), some (.ref o2), some (.ref rw_)] _
    generalize hl : c.cells.getD n [] = l at hit pg hw mf k
    have hat : atI (c.cells.map fun l => V.str (S l)) (n : Int) = some (V.str (S l)) := atI_nat (by rw [List.getElem?_map, hit]; rfl)
    have hzl : (S l).length ≤ sizeLine := by rw [S_len, pg.1]; omega
    have cut1 : cutS (S l) none (some (j : Int)) = S (l.take j) := cutS_lo l j
    have cut2 : cutS (S l) (some ((j : Int) + 1)) none = S (l.drop (j + 1)) := cutS_hi l (j + 1)
    refine ⟨_, rfl, _, rfl, rw_, _, _, _, rfl, rfl, SqL.of erw, hat, ?_⟩
    refine ⟨_, rfl, _, rfl, _, rfl, hzl, ?_⟩
    rw [cut1]
    refine ⟨_, rfl, _, _, rfl, rfl, ?_, ?_⟩
    · rw [S_len, S_len, sizeLine_eq]; simp; omega
    rw [S_app]
    refine ⟨_, rfl, _, rfl, rw_, _, _, _, rfl, rfl, SqL.of erw, hat, ?_⟩
    refine ⟨_, rfl, _, _, rfl, rfl, _, rfl, _, rfl, hzl, ?_⟩
    rw [cut2]
    refine ⟨_, _, rfl, rfl, ?_, ?_⟩
    · rw [S_len, S_len, sizeLine_eq]; simp; omega
    rw [S_app]
    refine ⟨_, rfl, _, rfl, rw_, _, _, n, rfl, rfl, erw, ixN_to (by rw [List.length_map]; exact hn), ?_⟩
    have S4 := S3.put (o := .lst ((c.cells.map fun l => V.str (S l)).set n (V.str (S (l.take j ++ [g] ++ l.drop (j + 1)))))) nrw0
    have erw4 : (upd H3 rw_ (.lst ((c.cells.map fun l => V.str (S l)).set n (V.str (S (l.take j ++ [g] ++ l.drop (j + 1))))))) rw_ = _ := upd_same
    have eo4 := (upd_ne (H := H3) (o := .lst ((c.cells.map fun l => V.str (S l)).set n (V.str (S (l.take j ++ [g] ++ l.drop (j + 1)))))) o2rw).trans eo2
    revert S4 erw4 eo4
    generalize upd H3 rw_ (.lst ((c.cells.map fun l => V.str (S l)).set n (V.str (S (l.take j ++ [g] ++ l.drop (j + 1)))))) = H4
    intro S4 erw4 eo4
    refine ⟨_, rfl, _, rfl, o2, _, rfl, DPut.k (k := .inr ("cells" : Str)) eo4 (by show 10 < sizeLine; omega), ?_⟩
    rw [op_cells]
    refine ⟨_, rfl, k o2 _ (S4.put nH) ⟨{ A with cl := rw_ }, ws, ?_, ⟨fun p hp => (show p < (c.cells.set n _).length by rw [List.length_set]; exact wr.1 p hp), fun p hp => ?_⟩, wlen, fun q => hz _ q nrw0, z2, z3, z4⟩⟩
    · have hx := hoA.same (S4.put (o := .dK (ownK { A with cl := rw_ } c)) nH)
      refine ⟨upd_same, ?_, hx.wl, hx.bd, hx.wr, hx.fa, hx.nd⟩
      rw [upd_ne o2rw.symm, erw4]
      show _ = some (HO.lst ((c.cells.set n _).map fun l => V.str (S l)))
      rw [List.map_set]
    · have hjl : j < l.length := by rw [pg.1]; exact hj
      have fg := fallen_get (l := l) (j := j) (g := g) hjl
      have mf2 : l ≠ List.replicate 256 102 ∧ c.stands.getD n false = true ∧ g < l.getD j 0 := by
        have h : (decide (l ≠ List.replicate 256 102) && (c.stands.getD n false && decide (g < l.getD j 0))) = true := mf
        rw [Bool.and_eq_true, Bool.and_eq_true] at h
        exact ⟨of_decide_eq_true h.1, h.2.1, of_decide_eq_true h.2.2⟩
      show ((c.cells.set n (l.take j ++ [g] ++ l.drop (j + 1))).getD p [] ≠ _ → ((c.stands.set n false).getD p false = true ↔ _ = some ((c.cells.set n (l.take j ++ [g] ++ l.drop (j + 1))).getD p []))) ∧ ((c.cells.set n (l.take j ++ [g] ++ l.drop (j + 1))).getD p [] = _ → _)
      rw [getD_setN, getD_setN]
      have hp2 : p < c.cells.length := by
        have : (put c n (l.take j ++ [g] ++ l.drop (j + 1)) false).cells.length = c.cells.length := List.length_set
        omega
      by_cases e : n = p
      · subst e
        rw [if_pos ⟨rfl, hn⟩, if_pos ⟨rfl, by rw [wf.ls, ← wf.lc]; exact hn⟩]
        have ex := (hw.1 mf2.1).mp mf2.2.1
        have nx : l ≠ l.take j ++ [g] ++ l.drop (j + 1) := fun z => by
          have h := fg j
          rw [if_pos rfl, ← z] at h
          omega
        refine ⟨fun _ => ⟨(fun z => nomatch z), fun z => absurd (Option.some.inj (ex.symm.trans z)) nx⟩, fun z => ?_⟩
        have h := fg j
        rw [if_pos rfl, z] at h
        have h2 : (List.replicate 256 102).getD j 0 = 102 := by rw [List.getD, List.getElem?_replicate, if_pos hj]; rfl
        obtain ⟨u, hu⟩ : ∃ u, l[j]? = some u := ⟨l[j], List.getElem?_eq_getElem hjl⟩
        have hcu := pg.2 u (List.mem_of_getElem? hu)
        have eu : l.getD j 0 = u := by rw [List.getD, hu]; rfl
        have : u ≤ 102 := by rcases cell_cases hcu with h | h | h | h | h | h | h | h | h | h | h | h | h | h | h | h <;> omega
        omega
      · rw [if_neg (fun z => e z.1), if_neg (fun z => e z.1)]
        exact wr.2 p hp2
theorem ok_law_chip_is_told {f : Addr} {fd : FuncData} (T : Txt K w mg) (F : FD K "_law_chip_is_told" s_law_chip_is_told f fd) (hm : mg "_law_chip_is_told" = some (.ref f)) (c_Chip_image : Mf CX0 P w K mg base 1 (He.ga K "Chip") "image" ["self"] (sp_Chip_image K)) (c_Chip_wear : Pf P w K mg base 1 (He.ga K "Chip") "wear" (sp_Chip_wear K)) (c_Chip_bad : Pf P w K mg base 1 (He.ga K "Chip") "bad" (sp_Chip_bad K)) (c_Chip_done : Pf P w K mg base 1 (He.ga K "Chip") "done" (sp_Chip_done K)) (c_Chip_cuts : Pf P w K mg base 1 (He.ga K "Chip") "cuts" (sp_Chip_cuts K)) (c_Chip_is_on : Pf P w K mg base 1 (He.ga K "Chip") "is_on" (sp_Chip_is_on K)) : Cg P w K mg base 3 "_law_chip_is_told" ["chip", "own"] (sp_law_chip_is_told K) := by
  refine cg_of F hm sc_law_chip_is_told (fun vs H Q E h => ?_) (fun _ _ _ _ _ _ us hl => match us, hl with | [_, _], _ => rfl) (fun _ _ _ _ _ _ us hl => match us, hl with | [_, _], _ => rfl) (fun cdv A outer s H vs Q E hG hr h => ?_)
  · obtain ⟨a, o, L, c, m, Z, rfl, _⟩ := h
    rfl
  · obtain ⟨a, o, L, c, m, Z, rfl, hc, wf, ho, hw, hd, hu, k⟩ := h
    refine ⟨_, (pss_cons (ps_if (PW.pt (pw_or (pt_cmpR op_ne (pe_callB (call_reprA hG hr) (by rfl) T.f_repr (by decide +kernel) (pa_cons (pe_p c_Chip_wear (pv 0) T.cl_Chip hr (by decide)) pa_nil)) (pe_callB (call_reprA hG hr) (by rfl) T.f_repr (by decide +kernel) (pa_cons (pe_callTy call_tuple_of (by rfl) T.f_tuple (by decide +kernel) (pa_cons (pe_dget (Nat.lt_of_le_of_lt (Nat.add_le_add_left (by decide) _) hr.units) (pv 1) pe_str (fun _ _ => rfl)) pa_nil)) pa_nil)) (nomark _)) (pw_or1 (pt_cmpR op_ne (pe_callB (call_reprA hG hr) (by rfl) T.f_repr (by decide +kernel) (pa_cons (pe_p c_Chip_bad (pv 0) T.cl_Chip hr (by decide)) pa_nil)) (pe_callB (call_reprA hG hr) (by rfl) T.f_repr (by decide +kernel) (pa_cons (pe_callTy call_tuple_of (by rfl) T.f_tuple (by decide +kernel) (pa_cons (pe_dget (Nat.lt_of_le_of_lt (Nat.add_le_add_left (by decide) _) hr.units) (pv 1) pe_str (fun _ _ => rfl)) pa_nil)) pa_nil)) (nomark _))))) (pss_one (ps_ret pe_bl)) pss_nil)
      (pss_cons (ps_if (pt_cmpR op_ne (pe_callB (call_reprA hG hr) (by rfl) T.f_repr (by decide +kernel) (pa_cons (pe_tup (pa_cons (pe_p c_Chip_done (pv 0) T.cl_Chip hr (by decide)) (pa_cons (pe_p c_Chip_cuts (pv 0) T.cl_Chip hr (by decide)) (pa_cons (pe_p c_Chip_is_on (pv 0) T.cl_Chip hr (by decide)) pa_nil)))) pa_nil)) (pe_callB (call_reprA hG hr) (by rfl) T.f_repr (by decide +kernel) (pa_cons (pe_tup (pa_cons (pe_dget (Nat.lt_of_le_of_lt (Nat.add_le_add_left (by decide) _) hr.units) (pv 1) pe_str (fun _ _ => rfl)) (pa_cons (pe_dget (Nat.lt_of_le_of_lt (Nat.add_le_add_left (by decide) _) hr.units) (pv 1) pe_str (fun _ _ => rfl)) (pa_cons (pe_dget (Nat.lt_of_le_of_lt (Nat.add_le_add_left (by decide) _) hr.units) (pv 1) pe_str (fun _ _ => rfl)) pa_nil)))) pa_nil)) (nomark _)) (pss_one (ps_ret pe_bl)) pss_nil)
      (pss_one (ps_ret (pe_cmpR (op_eqD hr.units) (pe_m0 c_Chip_image (pv 0) T.cl_Chip hr (by decide)) (pe_callTy call_tuple_of (by rfl) T.f_tuple (by decide +kernel) (pa_cons (pe_dget (Nat.lt_of_le_of_lt (Nat.add_le_add_left (by decide) _) hr.units) (pv 1) pe_str (fun _ _ => rfl)) pa_nil)) (nomark _)))))), ?_⟩
    obtain ⟨A, ws, hoA, wr, wlen, z1, z2, z3, z4⟩ := ho.ex
    have wn : ∀ z ∈ c.wear, z.natAbs < 10 ^ 9 := fun z hz => by have := hw z hz; omega
    have b64 := wf.b64
    have wl : c.wear.length ≤ 1000 := by rw [wf.lw]; omega
    have fw := told_tup wn wl
    have bn : ∀ z ∈ badL c.bad c.bl, z.natAbs < 10 ^ 9 := fun z hz => by
      obtain ⟨k, h1, _, rfl⟩ := (badL_mem _ _ _).mp hz
      omega
    have bl' : (badL c.bad c.bl).length ≤ 1000 := by
      unfold badL
      rw [List.length_map]
      exact Nat.le_trans (List.length_filter_le _ _) (by rw [List.length_range]; omega)
    have fb := told_tup bn bl'
    refine ⟨_, rfl, a, _, _, rfl, hc.obj, a, L, c, rfl, hc, wf, fun p1 H1 S1 n1 hp1 => ⟨_, _, rfl, .of (.tup (SqT.of hp1) (told_dpAll _)), fw.1, fw.2.1, fw.2.2, _, rfl, o, _, rfl, og_wear (hoA.same S1), A.wl, _, rfl, .inl ⟨SqL.of (hoA.same S1).wl, fun l nl => ⟨_, _, rfl, .of (.tup (SqT.of upd_same) (told_dpAll _)), fw.1, fw.2.1, fw.2.2, rfl, _, rfl, ?_⟩⟩⟩⟩
    rw [decide_eq_true rfl]
    have S2 := S1.trans (Same.new (o := .tup (c.wear.map V.int)) nl)
    revert S2
    generalize upd H1 l (.tup (c.wear.map V.int)) = H2
    intro S2
    refine iteF ⟨_, rfl, a, _, _, rfl, S2 _ _ hc.obj, a, L, c, rfl, hc.same S2, wf, fun p3 H3 S3 n3 hp3 => ⟨_, _, rfl, .of (.tup (SqT.of hp3) (told_dpAll _)), fb.1, fb.2.1, fb.2.2, _, rfl, o, _, rfl, og_bad ((hoA.same S2).same S3), A.bd, _, rfl, .inl ⟨SqL.of ((hoA.same S2).same S3).bd, fun l4 nl4 => ⟨_, _, rfl, .of (.tup (SqT.of upd_same) (told_dpAll _)), fb.1, fb.2.1, fb.2.2, rfl, _, rfl, ?_⟩⟩⟩⟩
    rw [decide_eq_true rfl]
    have S4 := (S2.trans S3).trans (Same.new (o := .tup ((badL c.bad c.bl).map V.int)) nl4)
    revert S4
    generalize upd H3 l4 (.tup ((badL c.bad c.bl).map V.int)) = H4
    intro S4
    refine iteF ?_
    dsimp only [tNext]
    have f3 := told_three (i := (c.done : Int)) (j := (c.cuts : Int)) (b := c.on) (by omega) (by omega)
    have hc4 := hc.same S4
    have ho4 := hoA.same S4
    refine ⟨_, rfl, a, _, _, rfl, hc4.obj, a, L, c, rfl, hc4, wf, _, rfl, a, _, _, rfl, hc4.obj, a, L, c, rfl, hc4, wf, _, rfl, a, _, _, rfl, hc4.obj, a, L, c, rfl, hc4, wf, by show 3 ≤ sizeLine; rw [sizeLine_eq]; decide, fun p5 n5 => ⟨_, _, rfl, .of (.tup (SqT.of upd_same) (.cons (.int _) (.cons (.int _) (.cons (.bl _) .nil)))), f3.1, f3.2.1, f3.2.2, ?_⟩⟩
    have S5 := S4.trans (Same.new (o := .tup [.int (c.done : Int), .int (c.cuts : Int), .bl c.on]) n5)
    revert S5
    generalize upd H4 p5 (.tup [.int (c.done : Int), .int (c.cuts : Int), .bl c.on]) = H5
    intro S5
    have ho5 := hoA.same S5
    refine ⟨_, rfl, o, _, rfl, og_done ho5, _, rfl, o, _, rfl, og_cuts ho5, _, rfl, o, _, rfl, og_on ho5, by show 3 ≤ sizeLine; rw [sizeLine_eq]; decide, fun p6 n6 => ⟨_, _, rfl, .of (.tup (SqT.of upd_same) (.cons (.int _) (.cons (.int _) (.cons (.bl _) .nil)))), f3.1, f3.2.1, f3.2.2, rfl, _, rfl, ?_⟩⟩
    rw [decide_eq_true rfl]
    have S6 := S5.trans (Same.new (o := .tup [.int (c.done : Int), .int (c.cuts : Int), .bl c.on]) n6)
    revert S6
    generalize upd H5 p6 (.tup [.int (c.done : Int), .int (c.cuts : Int), .bl c.on]) = H6
    intro S6
    refine iteF ?_
    dsimp only [tNext]
    have hc6 := hc.same S6
    have cellsOk : ∀ l ∈ c.cells, ∀ x ∈ l, x < 1114112 := fun l hl x hx => by
      have := (wf.page l hl).2 x hx
      rcases cell_cases this with h | h | h | h | h | h | h | h | h | h | h | h | h | h | h | h <;> omega
    have fs := strs_shaped cellsOk
    refine ⟨_, rfl, a, _, _, rfl, hc6.obj, rfl, a, L, c, rfl, hc6, wf, fun p7 n7 => ?_⟩
    have S7 := S6.trans (Same.new (o := .tup (c.cells.map fun l => V.str (S l))) n7)
    have e7 : (upd H6 p7 (.tup (c.cells.map fun l => V.str (S l)))) p7 = _ := upd_same
    revert S7 e7
    generalize upd H6 p7 (.tup (c.cells.map fun l => V.str (S l))) = H7
    intro S7 e7
    have ho7 := hoA.same S7
    refine ⟨_, rfl, o, _, rfl, og_cells ho7, A.cl, _, rfl, .inl ⟨SqL.of ho7.cl, fun p8 n8 => ⟨_, _, .tup (SqT.of ((Same.new n8) _ _ e7)) (strs_dpAll _), .tup (SqT.of upd_same) (strs_dpAll _), fs.1, fs.1, ?_⟩⟩⟩
    rw [fs.2]
    exact k _ (S7.trans (Same.new n8))
theorem ok_law_chip_pattern {f : Addr} {fd : FuncData} (T : Txt K w mg) (F : FD K "_law_chip_pattern" s_law_chip_pattern f fd) (hm : mg "_law_chip_pattern" = some (.ref f)) (c_law_take : Cg P w K mg base 1 "_law_take" ["pot", "upto"] sp_law_take) (c_law_of : Cg P w K mg base 2 "_law_of" ["pot", "some"] sp_law_of) : Cg P w K mg base 3 "_law_chip_pattern" ["pot"] sp_law_chip_pattern := by
  refine cg_of F hm sc_law_chip_pattern (fun vs H Q E h => ?_) (fun _ _ _ _ _ _ us hl => match us, hl with | [_], _ => rfl) (fun _ _ _ _ _ _ us hl => match us, hl with | [_], _ => rfl) (fun cdv A outer s H vs Q E hG hr h => ?_)
  · obtain ⟨a, m, rfl, _⟩ := h
    rfl
  · obtain ⟨a, m, rfl, hp, k⟩ := h
    refine ⟨_, (pss_cons (ps_set (i := 1) sc_law_chip_pattern.nd rfl (Or.inl rfl) (pe_g c_law_take hG hr (by decide) rfl (pa_cons (pv 0) (pa_cons pe_int pa_nil))))
      (pss_cons (ps_if (pt_cmpR op_lt (pv 1) pe_int (nomark _)) (pss_one (ps_ret (pe_ix (show IxR _ (rIxL K) from ix_list) (pe_lst (pa_cons pe_str (pa_cons pe_str pa_nil))) (pv 1) (fun _ _ => rfl)))) pss_nil)
      (pss_one (ps_ret (pe_join pe_str (pe_lc (own := [("lap", 2)]) rfl sc_law_chip_pattern.nd (pi_range1 rfl T.f_range (pa_cons (pe_op op_add pe_int (pe_g c_law_take hG hr (by decide) rfl (pa_cons (pv 0) (pa_cons (pe_ix (show IxR _ (rIxL K) from ix_list) (pe_lst (pa_cons pe_int (pa_cons pe_int (pa_cons pe_int (pa_cons pe_int pa_nil))))) (pv 1) (fun _ _ => rfl)) pa_nil)))) pa_nil)) (blkOk_by (N := ["pot", "way", "lap"]) (sc := defScope s_law_chip_pattern) (by decide +kernel)) (fun _ _ _ _ _ => (pg_name (i := 2) sc_law_chip_pattern.nd rfl (Or.inl rfl))) (fun _ _ _ _ _ => pts_nil) (fun _ _ _ _ _ => (pe_g c_law_of hG hr (by decide) rfl (pa_cons (pv 0) (pa_cons (pe_callTy (call_list_tx rfl) (by rfl) T.f_list (by decide +kernel) (pa_cons pe_str pa_nil)) pa_nil)))))))))), ?_⟩
    refine ⟨_, rfl, a, _, m + 20, rfl, by decide, by decide, hp, fun d H2 B P2 d0 d1 => ?_⟩
    refine ⟨_, rfl, _, _, rfl, rfl, _, rfl, ?_⟩
    by_cases q : d < 2
    · rw [decide_eq_true q]
      refine iteT ⟨by show 2 ≤ sizeLine; decide, fun D hD => ?_⟩
      have : d = 0 ∨ d = 1 := by omega
      rcases this with rfl | rfl
      · exact ⟨_, rfl, D, _, _, _, rfl, rfl, SqL.of upd_same, rfl, k [102] _ (B.trans (But.new hD)) ((P2.mono (by omega)).new hD) (by decide) (by decide) (by decide)⟩
      · exact ⟨_, rfl, D, _, _, _, rfl, rfl, SqL.of upd_same, rfl, k [48] _ (B.trans (But.new hD)) ((P2.mono (by omega)).new hD) (by decide) (by decide) (by decide)⟩
    · rw [decide_eq_false q]
      refine iteF ?_
      refine ⟨⟨_, rfl⟩, _, rfl, by show 4 ≤ sizeLine; decide, fun D hD => ?_⟩
      obtain ⟨u, hu, u1, u2⟩ : ∃ u : Nat, atI [V.int 0, V.int 0, V.int 7, V.int 19] d = some (.int (u : Int)) ∧ 1 ≤ u ∧ u ≤ 19 := by
        have : d = 2 ∨ d = 3 := by omega
        rcases this with rfl | rfl
        · exact ⟨7, rfl, by decide, by decide⟩
        · exact ⟨19, rfl, by decide, by decide⟩
      refine ⟨_, rfl, D, _, _, _, rfl, rfl, SqL.of upd_same, hu, a, _, m + 19, rfl, by omega, by omega, P2.new hD, fun e H3 B3 P3 e0 e1 => ?_⟩
      obtain ⟨n, rfl⟩ : ∃ n : Nat, e = (n : Int) := ⟨e.toNat, by omega⟩
      have B4 := (B.trans (But.new hD)).trans B3
      refine ⟨_, _, rfl, rfl, _, rfl, by omega, by omega, fun D2 hD2 => lc_pot walk_range a m 1 (fun y => ∃ c, y = V.str (S [c]) ∧ WM.IsCell c) hD2 (P3.mono (by omega)) (by omega) (fun _ _ => trivial) ?_ mono_name ?_⟩
      · rintro i x H4 H5 N kk hi hB hP ⟨rfl, rfl⟩ h1
        refine ⟨rfl, _, rfl, [48, 48, 48, 102, 102, 102, 51, 55, 98, 100], by rw [pat_list], by decide, fun p hp => ⟨a, p, _, kk, rfl, hP.ne hp, upd_same, by decide, by decide, hP.new hp, fun x H6 hx B6 P6 => ?_⟩⟩
        obtain ⟨c, hc, rfl⟩ := List.mem_map.mp hx
        exact h1 _ _ ((But.new hp).trans B6) ⟨c, rfl, pat_cells c hc⟩ P6
      · intro H4 ys hB hP hl hy hL
        obtain ⟨rs, rfl, r2, r3⟩ := unV ys hy
        refine ⟨_, D2, rs.map fun c => S [c], rfl, rfl, .inl (SqL.of (by rw [hL, List.map_map]; rfl)), ?_, ?_⟩
        · rw [join_len1, List.length_map]
          show rs.length + rs.length * 0 ≤ 16777216
          omega
        · rw [ofs_nil, WR.join_one]
          exact k rs _ (B4.trans hB) hP r3 (by omega) (by omega)
theorem ok_law_chip_page {f : Addr} {fd : FuncData} (T : Txt K w mg) (F : FD K "_law_chip_page" s_law_chip_page f fd) (hm : mg "_law_chip_page" = some (.ref f)) (c_law_of : Cg P w K mg base 2 "_law_of" ["pot", "some"] sp_law_of) (c_law_take : Cg P w K mg base 1 "_law_take" ["pot", "upto"] sp_law_take) : Cg P w K mg base 3 "_law_chip_page" ["pot"] sp_law_chip_page := by
  refine cg_of F hm sc_law_chip_page (fun vs H Q E h => ?_) (fun _ _ _ _ _ _ us hl => match us, hl with | [_], _ => rfl) (fun _ _ _ _ _ _ us hl => match us, hl with | [_], _ => rfl) (fun cdv A outer s H vs Q E hG hr h => ?_)
  · obtain ⟨a, m, rfl, _⟩ := h
    rfl
  · obtain ⟨a, m, rfl, hp, k⟩ := h
    refine ⟨_, (pss_cons (ps_set (i := 1) sc_law_chip_page.nd rfl (Or.inl rfl) (pe_join pe_str (pe_lc (own := [("lap", 2)]) rfl sc_law_chip_page.nd (pi_range1 rfl T.f_range (pa_cons (pe_op op_add pe_int (pe_g c_law_take hG hr (by decide) rfl (pa_cons (pv 0) (pa_cons pe_int pa_nil)))) pa_nil)) (blkOk_by (N := ["pot", "row", "lap"]) (sc := defScope s_law_chip_page) (by decide +kernel)) (fun _ _ _ _ _ => (pg_name (i := 2) sc_law_chip_page.nd rfl (Or.inl rfl))) (fun _ _ _ _ _ => pts_nil) (fun _ _ _ _ _ => (pe_g c_law_of hG hr (by decide) rfl (pa_cons (pv 0) (pa_cons (pe_callTy (call_list_tx rfl) (by rfl) T.f_list (by decide +kernel) (pa_cons pe_str pa_nil)) pa_nil)))))))
      (pss_one (ps_ret (pe_slice sl_str (pe_op op_mulS (pv 1) pe_int) po_none (po_some pe_int))))), ?_⟩
    refine ⟨⟨_, rfl⟩, _, rfl, a, _, m + 12, rfl, by decide, by decide, hp, fun d H2 B P2 d0 d1 => ?_⟩
    obtain ⟨n, rfl⟩ : ∃ n : Nat, d = (n : Int) := ⟨d.toNat, by omega⟩
    refine ⟨_, _, rfl, rfl, _, rfl, by omega, by omega, fun D hD => lc_pot walk_range a m 1 (fun y => ∃ c, y = V.str (S [c]) ∧ WM.IsCell c) hD (P2.mono (by omega)) (by omega) (fun _ _ => trivial) ?_ mono_name ?_⟩
    · rintro i x H4 H5 N kk hi hB hP ⟨rfl, rfl⟩ h1
      refine ⟨rfl, _, rfl, hexp, by rw [hexlit]; rfl, by decide, fun p hp => ⟨a, p, _, kk, rfl, hP.ne hp, upd_same, by decide, by decide, hP.new hp, fun x H6 hx B6 P6 => ?_⟩⟩
      obtain ⟨c, hc, rfl⟩ := List.mem_map.mp hx
      exact h1 _ _ ((But.new hp).trans B6) ⟨c, rfl, hexp_cells c hc⟩ P6
    · intro H4 ys hB hP hl hy hL
      obtain ⟨rs, rfl, r2, r3⟩ := unV ys hy
      refine ⟨_, D, rs.map fun c => S [c], rfl, rfl, .inl (SqL.of (by rw [hL, List.map_map]; rfl)), ?_, ?_⟩
      · rw [join_len1, List.length_map]
        show rs.length + rs.length * 0 ≤ 16777216
        omega
      · rw [ofs_nil, WR.join_one]
        refine ⟨_, rfl, _, _, rfl, rfl, by decide, by decide, by rw [S_len]; omega, ?_⟩
        rw [mulS]
        have e256 : Int.toNat 256 = 256 := rfl
        rw [e256]
        have rl := rep_len rs 256
        have hz : (S (List.replicate 256 rs).flatten).length ≤ sizeLine := by rw [S_len, rl, sizeLine_eq]; omega
        have c0 : cutS (S (List.replicate 256 rs).flatten) none (some 256) = S ((List.replicate 256 rs).flatten.take 256) := cutS_lo _ 256
        refine ⟨_, rfl, _, rfl, hz, ?_⟩
        rw [c0]
        exact k _ _ (B.trans hB) hP (cells_take (rep_all r3 256) _) (by rw [List.length_take, rl]; omega)
theorem ok_law_chip_faults {f : Addr} {fd : FuncData} (T : Txt K w mg) (F : FD K "_law_chip_faults" s_law_chip_faults f fd) (hm : mg "_law_chip_faults" = some (.ref f)) (c_law_some : Cg P w K mg base 2 "_law_some" ["pot", "pool", "many"] (sp_law_some K)) (c_law_of : Cg P w K mg base 2 "_law_of" ["pot", "some"] sp_law_of) (c_law_chip_pattern : Cg P w K mg base 3 "_law_chip_pattern" ["pot"] sp_law_chip_pattern) : Cg P w K mg base 4 "_law_chip_faults" ["pot", "many", "most"] (sp_law_chip_faults K) := by
  refine cg_of F hm sc_law_chip_faults (fun vs H Q E h => ?_) (fun _ _ _ _ _ _ us hl => match us, hl with | [_, _, _], _ => rfl) (fun _ _ _ _ _ _ us hl => match us, hl with | [_, _, _], _ => rfl) (fun cdv A outer s H vs Q E hG hr h => ?_)
  · obtain ⟨a, n, k, m, rfl, _⟩ := h
    rfl
  · obtain ⟨a, n, mo, m, rfl, l1, l2, hp, k⟩ := h
    refine ⟨_, (pss_cons (ps_set (i := 3) sc_law_chip_faults.nd rfl (Or.inl rfl) (pe_callB cr_sorted (by rfl) T.f_sorted (by decide +kernel) (pa_cons (pe_g c_law_some hG hr (by decide) rfl (pa_cons (pv 0) (pa_cons (pe_listRg rfl rfl T.f_list (prg_2 rfl T.f_range pe_int (pe_op op_add (pv 2) pe_int))) (pa_cons (pe_callB (call_min2 rfl) (by rfl) T.f_min (by decide +kernel) (pa_cons (pv 1) (pa_cons (pv 2) pa_nil))) pa_nil)))) pa_nil)))
      (pss_one (ps_ret (pe_callTy call_tuple_of (by rfl) T.f_tuple (by decide +kernel) (pa_cons (pe_lc (own := [("at", 4)]) rfl sc_law_chip_faults.nd (pi_list (pv 3)) (blkOk_by (N := ["pot", "many", "most", "ats", "at"]) (sc := defScope s_law_chip_faults) (by decide +kernel)) (fun _ _ _ _ _ => (pg_name (i := 4) sc_law_chip_faults.nd rfl (Or.inl rfl))) (fun _ _ _ _ _ => pts_nil) (fun _ _ _ _ _ => (pe_tup (pa_cons (pv 4) (pa_cons (pe_g c_law_of hG hr (by decide) rfl (pa_cons (pv 0) (pa_cons (pe_lst (pa_cons pe_str (pa_cons pe_str pa_nil))) pa_nil))) (pa_cons (pe_g c_law_chip_pattern hG hr (by decide) rfl (pa_cons (pv 0) pa_nil)) pa_nil)))))) pa_nil))))), ?_⟩
    have erg : rgV 1 ((mo : Int) + 1) = (((List.range mo).map fun i : Nat => (1 + (i : Int))).map V.int) := by
      unfold rgV
      rw [List.map_map]
      have : ((mo : Int) + 1 - 1).toNat = mo := by omega
      rw [this]
      rfl
    refine ⟨_, rfl, _, rfl, _, _, rfl, rfl, _, _, rfl, rfl, ⟨by omega, by omega⟩, fun r nr => ?_⟩
    rw [erg]
    refine ⟨_, rfl, _, rfl, _, _, rfl, a, r, (List.range mo).map fun i : Nat => (1 + (i : Int)), n, m + 22 * n, by rw [if_neg (by omega)], SqL.of upd_same, by rw [List.length_map, List.length_range]; exact l1, by rw [List.length_map, List.length_range]; omega, ?_, (hp.same (Same.new nr)).mono (by omega), fun ys q H2 B2 P2 nq hq ly ndy my => ?_⟩
    · exact List.Pairwise.map _ (fun a b h z => h (by omega)) (List.nodup_range (n := mo))
    refine ⟨q, ys, rfl, SqL.of hq, by omega, fun ns p pm up np => ?_⟩
    have ln : ns.length = n := by rw [pm.length_eq, ly]
    have ndn : ns.Nodup := pm.nodup_iff.mpr ndy
    have S3 : Same H2 (upd H2 p (.lst (ns.map V.int))) := Same.new np
    have B3 : But a H (upd H2 p (.lst (ns.map V.int))) := ((But.new nr).trans B2).trans (But.of S3)
    have P3 : PotAt (upd H2 p (.lst (ns.map V.int))) a (m + 22 * n) := P2.same S3
    have L3 : (upd H2 p (.lst (ns.map V.int))) p = some (.lst (ns.map V.int)) := upd_same
    show gName 3 _ _ _ _
    rw [gname_eq]
    dsimp only
    revert S3 B3 P3 L3
    generalize upd H2 p (.lst (ns.map V.int)) = H3
    intro S3 B3 P3 L3
    have pa : p ≠ a := P2.ne np
    have pos : ∀ y ∈ ns, 1 ≤ y := fun y hy => by
      obtain ⟨i, _, rfl⟩ := List.mem_map.mp (my y (pm.subset hy))
      omega
    refine ⟨_, rfl, p, rfl, ⟨_, SqL.of L3⟩, fun D hD => lc_it (walk_list (xs := ns.map V.int)) (fun i H' => But a H3 H' ∧ PotAt H' a (m + 22 * (n - i)) ∧ ∃ (rs : List Addr) (fa : List (Nat × Str × List Nat)), H' D = some (.lst (rs.map V.ref)) ∧ rs.length = i ∧ fa.length = i ∧ (∀ (j : Nat) (r : Addr) (f : Nat × Str × List Nat), rs[j]? = some r → fa[j]? = some f → H' r = some (.tup [.int (f.1 : Int), .str f.2.1, .str (S f.2.2)])) ∧ (∀ f ∈ fa, WM.Cells f.2.2 ∧ 1 ≤ f.2.2.length ∧ f.2.2.length ≤ 100 ∧ (f.2.1 = Str.ofString "cut" ∨ f.2.1 = Str.ofString "bad")) ∧ ∀ (j : Nat) (f : Nat × Str × List Nat), fa[j]? = some f → ns[j]? = some (f.1 : Int)) ⟨But.new hD, P3.new hD, [], [], upd_same, rfl, rfl, (fun j r f e _ => by cases e), (fun f hf => by cases hf), (fun j f e => by cases e)⟩ (fun i H4 _ hq => SqL.of (hq.1 _ _ pa L3)) ?_ ?_⟩
    · rintro i x H4 H4' hi ⟨B4, P4, rs, fa, D4, e1, e2, tp, ok, up4⟩ ⟨rfl, hv⟩
      rw [List.length_map] at hi
      have ei : ns[i]? = some ns[i] := List.getElem?_eq_getElem hi
      rw [List.getElem?_map, ei] at hv
      have hv2 := Option.some.inj hv
      subst hv2
      have q1 := pos _ (List.getElem_mem hi)
      obtain ⟨at_, hat⟩ : ∃ k : Nat, ns[i] = (k : Int) := ⟨ns[i].toNat, by omega⟩
      have Da : D ≠ a := P3.ne hD
      have ep : m + 22 * (n - i) = (m + 22 * (n - (i + 1)) + 21) + 1 := by omega
      rw [ep] at P4
      refine ⟨rfl, yes_of ?_⟩
      refine ⟨_, rfl, _, rfl, by show 2 ≤ sizeLine; decide, fun l nl => ⟨a, l, _, _, rfl, P4.ne nl, upd_same, by show 1 ≤ 2; decide, by show 2 ≤ 1000; decide, P4.new nl, fun w H5 hw B5 P5 => ⟨_, rfl, a, _, rfl, P5, fun pt H6 B6 P6 pc p1 p100 => ⟨by show 3 ≤ sizeLine; decide, fun T2 nT => ?_⟩⟩⟩⟩
      obtain ⟨ww, rfl, hww⟩ : ∃ ww : Str, w = .str ww ∧ (ww = Str.ofString "cut" ∨ ww = Str.ofString "bad") := by
        rcases List.mem_cons.mp hw with z | z
        · exact ⟨_, z, .inl rfl⟩
        · exact ⟨_, List.mem_singleton.mp z, .inr rfl⟩
      have E4 : ∀ b o, b ≠ a → H4' b = some o → H6 b = some o := fun b o nb e => B6 _ _ nb (B5 _ _ nb (by rw [upd_ne (ne_of_none e nl)]; exact e))
      have D6 := E4 _ _ Da D4
      have TD : T2 ≠ D := fun z => by rw [z, D6] at nT; cases nT
      refine ⟨_, by rw [upd_ne (fun z => TD z.symm)]; exact D6, by rw [List.length_map, e1, sizeLine_eq]; omega, fun b o nb eb => ?_, (P6.new nT).put Da, rs ++ [T2], fa ++ [(at_, ww, pt)], ?_, by rw [List.length_append, e1]; rfl, by rw [List.length_append, e2]; rfl, fun j r f g1 g2 => ?_, fun f hf => ?_, fun j f g => ?_⟩
      · have q6 := E4 b o nb (B4 b o nb eb)
        rw [upd_ne (ne_of_none eb hD), upd_ne (ne_of_none q6 nT)]
        exact q6
      · rw [upd_same, List.map_append]
        rfl
      · by_cases hj : j < i
        · rw [List.getElem?_append_left (by omega)] at g1 g2
          have q := tp j r f g1 g2
          have ra : r ≠ a := fun z => by
            obtain ⟨_, _, _, _, _, _, _, _, _, e⟩ := P4
            rw [z, e] at q
            cases q
          have q6 := E4 _ _ ra q
          rw [upd_ne (fun z => by rw [z, D4] at q; cases q), upd_ne (ne_of_none q6 nT)]
          exact q6
        · rw [List.getElem?_append_right (by omega)] at g1 g2
          have z1 : j - rs.length = 0 := by
            have := (List.getElem?_eq_some_iff.mp g1).1
            simpa using this
          have z2 : j - fa.length = 0 := by omega
          rw [z1] at g1
          rw [z2] at g2
          cases g1
          cases g2
          rw [upd_ne TD, upd_same, hat]
      · rcases List.mem_append.mp hf with z | z
        · exact ok f z
        · rw [List.mem_singleton.mp z]
          exact ⟨pc, p1, p100, hww⟩
      · by_cases hj : j < i
        · rw [List.getElem?_append_left (by omega)] at g
          exact up4 j f g
        · rw [List.getElem?_append_right (by omega)] at g
          have z2 : j - fa.length = 0 := by
            have := (List.getElem?_eq_some_iff.mp g).1
            simpa using this
          rw [z2] at g
          cases g
          have : j = i := by omega
          subst this
          rw [ei, hat]
    · rintro H4 ⟨B4, P4, rs, fa, D4, e1, e2, tp, ok, up4⟩
      rw [List.length_map, ln] at e1 e2 P4
      rw [Nat.sub_self, Nat.mul_zero, Nat.add_zero] at P4
      refine ⟨D, _, rfl, .inl ⟨SqL.of D4, fun t nt => ?_⟩⟩
      have ta := P4.ne nt
      have inc : ∀ (i : Nat) (x y : Int), ns[i]? = some x → ns[i + 1]? = some y → x < y := fun i x y g1 g2 => by
        obtain ⟨h1, rfl⟩ := List.getElem?_eq_some_iff.mp g1
        obtain ⟨h2, rfl⟩ := List.getElem?_eq_some_iff.mp g2
        have w1 := List.pairwise_iff_getElem.mp up i (i + 1) h1 h2 (by omega)
        have w2 := List.pairwise_iff_getElem.mp ndn i (i + 1) h1 h2 (by omega)
        omega
      refine k t fa _ ((B3.trans B4).trans (But.new nt)) (P4.new nt) (But.none (B3.trans B4) ta nt) ⟨rs, SqT.of upd_same, e1.trans e2.symm, fun j r f g1 g2 => SqT.of (by rw [upd_ne (ne_of_none (tp j r f g1 g2) nt)]; exact tp j r f g1 g2)⟩ ⟨fun i f g g1 g2 => ?_, fun f g => ?_, by omega, ok⟩ e2
      · have := inc i _ _ (up4 _ _ g1) (up4 _ _ g2)
        omega
      · have := pos _ (List.mem_of_getElem? (up4 _ _ g))
        omega
theorem ok_law_deed_drawn {f : Addr} {fd : FuncData} (T : Txt K w mg) (F : FD K "_law_deed_drawn" s_law_deed_drawn f fd) (hm : mg "_law_deed_drawn" = some (.ref f)) (c_law_take : Cg P w K mg base 1 "_law_take" ["pot", "upto"] sp_law_take) (c_law_of : Cg P w K mg base 2 "_law_of" ["pot", "some"] sp_law_of) (c_law_chip_page : Cg P w K mg base 3 "_law_chip_page" ["pot"] sp_law_chip_page) : Cg P w K mg base 4 "_law_deed_drawn" ["pot", "own"] (sp_law_deed_drawn K) := by
  refine cg_of F hm sc_law_deed_drawn (fun vs H Q E h => ?_) (fun _ _ _ _ _ _ us hl => match us, hl with | [_, _], _ => rfl) (fun _ _ _ _ _ _ us hl => match us, hl with | [_, _], _ => rfl) (fun cdv A outer s H vs Q E hG hr h => ?_)
  · obtain ⟨a, o, c, k, m, Z, rfl, _⟩ := h
    rfl
  · obtain ⟨a, o, c, kk, m, Z, rfl, ho, wf, h60, za, hp, k⟩ := h
    refine ⟨_, (pss_cons (ps_par (i := 2) (j := 3) rfl sc_law_deed_drawn.nd rfl rfl (by decide) rfl rfl (pa_cons (pe_g c_law_take hG hr (by decide) rfl (pa_cons (pv 0) (pa_cons pe_int pa_nil))) (pa_cons (pe_lc (own := [("at", 6), ("cells", 7)]) rfl sc_law_deed_drawn.nd (pi_enum rfl T.f_enumerate (pa_cons (pe_dget (Nat.lt_of_le_of_lt (Nat.add_le_add_left (by decide) _) hr.units) (pv 1) pe_str (fun _ _ => rfl)) pa_nil)) (blkOk_by (N := ["pot", "own", "way", "empty", "place", "cell", "at", "cells"]) (sc := defScope s_law_deed_drawn) (by decide +kernel)) (fun _ _ _ _ _ => show PG _ _ (gTup K 2 (gCons (gName 6) (gCons (gName 7) gNil))) from (pg_tup rfl (pgs_cons (pg_name (i := 6) sc_law_deed_drawn.nd rfl (Or.inl rfl)) (pgs_cons (pg_name (i := 7) sc_law_deed_drawn.nd rfl (Or.inl rfl)) pgs_nil)))) (fun _ _ _ _ _ => pts_one (pt_cmpR op_eq (pv 7) (pe_op op_mulS pe_str pe_int) (nomark _))) (fun _ _ _ _ _ => (pv 6))) pa_nil)) (by rfl))
      (pss_cons (ps_if (PW.pt (pw_and (pt_not (pt_val (pe_dget (Nat.lt_of_le_of_lt (Nat.add_le_add_left (by decide) _) hr.units) (pv 1) pe_str (fun _ _ => rfl)))) (pw_and1 (pt_chain op_lt op_lt pe_int (pv 2) pe_int)))) (pss_one (ps_ret (pe_tup (pa_cons pe_str pa_nil)))) pss_nil)
      (pss_cons (ps_if (PW.pt (pw_and (pt_cmpR op_lt (pv 2) pe_int (nomark _)) (pw_and1 (pt_cmpR (op_neD hr.units) (pv 3) (pe_lst pa_nil) (nomark _))))) (pss_one (ps_ret (pe_tup (pa_cons pe_str (pa_cons (pe_g c_law_of hG hr (by decide) rfl (pa_cons (pv 0) (pa_cons (pv 3) pa_nil))) (pa_cons (pe_g c_law_chip_page hG hr (by decide) rfl (pa_cons (pv 0) pa_nil)) pa_nil)))))) pss_nil)
      (pss_cons (ps_if (pt_cmpR op_lt (pv 2) pe_int (nomark _)) (pss_one (ps_ret (pe_tup (pa_cons pe_str (pa_cons (pe_g c_law_take hG hr (by decide) rfl (pa_cons (pv 0) (pa_cons (pe_dget (Nat.lt_of_le_of_lt (Nat.add_le_add_left (by decide) _) hr.units) (pv 1) pe_str (fun _ _ => rfl)) pa_nil))) pa_nil))))) pss_nil)
      (pss_cons (ps_par (i := 4) (j := 5) rfl sc_law_deed_drawn.nd rfl rfl (by decide) rfl rfl (pa_cons (pe_g c_law_take hG hr (by decide) rfl (pa_cons (pv 0) (pa_cons (pe_callB call_len_seq (by rfl) T.f_len PySem.boot_len (pa_cons (pe_dget (Nat.lt_of_le_of_lt (Nat.add_le_add_left (by decide) _) hr.units) (pv 1) pe_str (fun _ _ => rfl)) pa_nil)) pa_nil))) (pa_cons (pe_g c_law_take hG hr (by decide) rfl (pa_cons (pv 0) (pa_cons pe_int pa_nil))) pa_nil)) (by rfl))
      (pss_one (ps_ret (pe_tup (pa_cons pe_str (pa_cons (pv 4) (pa_cons (pv 5) (pa_cons (pe_g c_law_of hG hr (by decide) rfl (pa_cons (pv 0) (pa_cons (pe_callTy (call_list_tx rfl) (by rfl) T.f_list (by decide +kernel) (pa_cons pe_str pa_nil)) pa_nil))) pa_nil)))))))))))), ?_⟩
    have ef : (Str.ofString "f" : Str) = S [102] := by decide +kernel
    have S9 : sizeLine = 16777216 := sizeLine_eq
    have lcells : c.cells.length ≤ 960 := by rw [wf.lc]; exact Nat.mul_le_mul h60 wf.p16
    have lc0 : 1 ≤ c.cells.length := by
      rw [wf.lc]
      exact Nat.mul_pos (by have := wf.b4; omega) (by have := wf.p4; omega)
    refine ⟨_, rfl, a, _, _, rfl, by omega, by omega, hp.mono (by omega : (m + 14) + 1 ≤ m + 15), fun w H1 B1 P1 w0 w10 => ?_⟩
    have ho1 := ho.but B1 za hp
    obtain ⟨A, ws, hoA, wr, wlen, z1, z2, z3, z4⟩ := ho1.ex
    refine ⟨_, rfl, o, _, rfl, og_cells hoA, A.cl, _, rfl, SqL.of hoA.cl, fun D hD => lc_pure walk_enum (fun j => decide (c.cells.getD j [] = List.replicate 256 102)) (fun j => V.int (j : Nat)) hD (by rw [List.length_map]; omega) (fun H3 s3 => SqL.of (s3 _ _ hoA.cl)) (fun j y H3 H3' N N0 hj s3 hy h1 h2 => ?_) ?_⟩
    · obtain ⟨T4, x, y, rfl, nT, rfl, hu, hv⟩ := hy
      cases hu
      rw [List.length_map] at hj
      have ej : c.cells[j]? = some c.cells[j] := List.getElem?_eq_getElem hj
      have hv2 : (c.cells.map fun l => V.str (S l))[j]? = some y := hv
      rw [List.getElem?_map, ej] at hv2
      cases hv2
      have s4 := Same.new (o := .tup [.int (j : Nat), .str (S c.cells[j])]) nT
      refine ⟨T4, _, rfl, SqT.of upd_same, rfl, _, _, rfl, _, _, rfl, rfl, rfl, ?_⟩
      refine ⟨_, rfl, _, _, rfl, rfl, by decide, by decide, by decide, ?_⟩
      rw [ef, mulS, rep_one, show Int.toNat 256 = 256 from rfl]
      refine ⟨rfl, _, rfl, ?_⟩
      have eg : c.cells.getD j [] = c.cells[j] := by rw [List.getD_eq_getElem?_getD, ej]; rfl
      rw [S_dec]
      by_cases g : c.cells[j] = List.replicate 256 102
      · rw [decide_eq_true g]
        exact ⟨_, rfl, h1 _ s4 (by rw [eg]; exact decide_eq_true g)⟩
      · rw [decide_eq_false g]
        exact h2 _ s4 (by rw [eg]; exact decide_eq_false g)
    intro H3 s3 hL
    rw [List.length_map] at hL
    have Da : D ≠ a := P1.ne hD
    refine ⟨_, _, rfl, ?_⟩
    have ho3 := hoA.same s3
    have P3 := P1.same s3
    have B3 := B1.trans (But.of s3)
    clear hoA P1
    dsimp only
    show tSeq (tIfS _ _ _) _ _ [some (.ref a), some (.ref o), some (.int w), some (.ref D), none, none, none, none] _
    refine ifs_via (fun G => Same H3 G) (fun G => Same H3 G) (fun Q' q1 q2 => ?_) (fun G hG => ?_) fun G hG => ?_
    · refine ⟨_, rfl, o, _, rfl, og_on ho3, _, rfl, ?_⟩
      rcases c.on with _ | _
      · refine iteT ⟨_, rfl, _, _, rfl, rfl, _, rfl, ?_⟩
        by_cases c1 : (0 : Int) < w
        · rw [decide_eq_true c1]
          refine iteT ⟨_, _, rfl, rfl, _, rfl, ?_⟩
          by_cases c2 : w < 6
          · rw [decide_eq_true c2]
            exact q1 _ (Same.refl _)
          · rw [decide_eq_false c2]
            exact q2 _ (Same.refl _)
        · rw [decide_eq_false c1]
          exact iteF ⟨_, rfl, q2 _ (Same.refl _)⟩
      · exact iteF (q2 _ (Same.refl _))
    · have PG := P3.same hG
      exact ⟨by show 1 ≤ sizeLine; omega, fun t nt => k t .again _ ((B3.trans (But.of hG)).trans (But.new nt)) ((PG.same (Same.new nt)).mono (by omega)) ((B3.trans (But.of hG)).none (PG.ne nt) nt) upd_same trivial⟩
    dsimp only [tNext]
    have P4 := P3.same hG
    have B4 := B3.trans (But.of hG)
    have ho4 := ho3.same hG
    have hL4 := hG _ _ hL
    clear P3 B3 ho3 hL s3 hG
    show tSeq (tIfS _ _ _) _ _ [some (.ref a), some (.ref o), some (.int w), some (.ref D), none, none, none, none] _
    refine ifs_via (fun G2 => Same G G2 ∧ ((List.range c.cells.length).filter fun j => decide (c.cells.getD j [] = List.replicate 256 102)) ≠ []) (fun G2 => Same G G2) (fun Q' q1 q2 => ?_) (fun G2 hG2 => ?_) fun G2 hG2 => ?_
    · refine ⟨_, rfl, _, _, rfl, rfl, _, rfl, ?_⟩
      by_cases c1 : w < 6
      · rw [decide_eq_true c1]
        refine iteT (ne_nil rfl hL4 fun H5 s5 => ?_)
        by_cases c2 : ((List.range c.cells.length).filter fun j => decide (c.cells.getD j [] = List.replicate 256 102)) = []
        · rw [c2]
          exact q2 _ s5
        · rw [decide_eq_true c2]
          exact q1 _ ⟨s5, c2⟩
      · rw [decide_eq_false c1]
        exact iteF (q2 _ (Same.refl _))
    · obtain ⟨s5, ne⟩ := hG2
      refine ⟨_, rfl, _, rfl, a, D, _, m + 13, rfl, Da, s5 _ _ hL4, ?_, ?_, (P4.same s5).mono (by omega), fun x H6 hx B6 P6 => ?_⟩
      · rw [List.length_map]
        exact List.length_pos_iff.mpr ne
      · rw [List.length_map]
        exact Nat.le_trans (List.length_filter_le _ _) (by rw [List.length_range]; omega)
      · obtain ⟨j, hj, rfl⟩ := List.mem_map.mp hx
        obtain ⟨hj1, hj2⟩ := List.mem_filter.mp hj
        have jl := List.mem_range.mp hj1
        have ej : c.cells[j]? = some (List.replicate 256 102) := by
          have h := of_decide_eq_true hj2
          rw [List.getD_eq_getElem?_getD, List.getElem?_eq_getElem jl] at h
          rw [List.getElem?_eq_getElem jl]
          exact congrArg some h
        refine ⟨_, rfl, a, m, rfl, P6, fun l H7 B7 P7 lcs ll => ⟨by show 3 ≤ sizeLine; omega, fun t nt => ?_⟩⟩
        have BB := ((B4.trans (But.of s5)).trans B6).trans B7
        exact k t (.write j l) _ (BB.trans (But.new nt)) (P7.same (Same.new nt)) (BB.none (P7.ne nt) nt) upd_same ⟨ej, ll, lcs⟩
    dsimp only [tNext]
    have P5 := P4.same hG2
    have B5 := B4.trans (But.of hG2)
    have ho5 := ho4.same hG2
    clear P4 B4 ho4 hL4 hG2
    show tSeq (tIfS _ _ _) _ _ [some (.ref a), some (.ref o), some (.int w), some (.ref D), none, none, none, none] _
    refine ⟨_, rfl, _, _, rfl, rfl, _, rfl, ?_⟩
    by_cases c1 : w < 8
    · rw [decide_eq_true c1]
      refine iteT ⟨_, rfl, _, rfl, o, _, rfl, og_blocks ho5, a, _, m, rfl, by have := wf.b4; omega, by omega, P5.mono (by omega), fun b H6 B6 P6 b0 b1 => ⟨by show 2 ≤ sizeLine; omega, fun t nt => ?_⟩⟩
      obtain ⟨bn, rfl⟩ : ∃ bn : Nat, b = (bn : Int) := ⟨b.toNat, by omega⟩
      have BB := B5.trans B6
      exact k t (.erase bn) _ (BB.trans (But.new nt)) (P6.same (Same.new nt)) (BB.none (P6.ne nt) nt) upd_same (by show bn < c.bl; omega)
    rw [decide_eq_false c1]
    refine iteF ?_
    dsimp only [tNext]
    refine ⟨_, rfl, _, rfl, o, _, rfl, og_cells ho5, A.cl, _, rfl, .inl (SqL.of ho5.cl), a, _, m + 2, rfl, by rw [List.length_map]; omega, by rw [List.length_map]; omega, P5.mono (by omega), fun pl H6 B6 P6 p0 p1 => ⟨_, rfl, a, _, m + 1, rfl, by omega, by omega, P6, fun ce H7 B7 P7 e0 e1 => ⟨_, _, rfl, ?_⟩⟩⟩
    rw [List.length_map] at p1
    obtain ⟨pn, rfl⟩ : ∃ pn : Nat, pl = (pn : Int) := ⟨pl.toNat, by omega⟩
    obtain ⟨cn, rfl⟩ : ∃ cn : Nat, ce = (cn : Int) := ⟨ce.toNat, by omega⟩
    have BB := (B5.trans B6).trans B7
    dsimp only
    show tRet _ _ [some (.ref a), some (.ref o), some (.int w), some (.ref D), some (.int (pn : Int)), some (.int (cn : Int)), none, none] _
    refine ⟨_, rfl, _, rfl, _, rfl, [48, 49, 50, 51, 52, 53, 54, 55, 56, 57, 97, 98, 99, 100, 101], by rw [fall_list], by decide, fun p np => ⟨a, p, _, m, rfl, P7.ne np, upd_same, by decide, by decide, P7.new np, fun x H8 hx B8 P8 => ⟨by show 4 ≤ sizeLine; omega, fun t nt => ?_⟩⟩⟩
    obtain ⟨g, hg, rfl⟩ := List.mem_map.mp hx
    have BX := (BB.trans (But.new np)).trans B8
    exact k t (.fade pn cn g) _ (BX.trans (But.new nt)) (P8.same (Same.new nt)) (BX.none (P8.ne nt) nt) upd_same ⟨by omega, by omega, fall_cells g hg⟩
theorem ok_law_behind {f : Addr} {fd : FuncData} (T : Txt K w mg) (F : FD K "_law_behind" s_law_behind f fd) (hm : mg "_law_behind" = some (.ref f)) (c_law_chip_can_fade : Cg P w K mg base 2 "_law_chip_can_fade" ["own", "place", "cell", "sign"] (sp_law_chip_can_fade K)) (c_law_chip_written : Cg P w K mg base 2 "_law_chip_written" ["own", "place", "cells"] (sp_law_chip_written K)) (c_law_chip_erased : Cg P w K mg base 2 "_law_chip_erased" ["own", "block"] (sp_law_chip_erased K)) (c_law_chip_faded : Cg P w K mg base 1 "_law_chip_faded" ["own", "place", "cell", "sign"] (sp_law_chip_faded K)) : Cg P w K mg base 3 "_law_behind" ["own", "deed"] (sp_law_behind K) := by
  refine cg_of F hm sc_law_behind (fun vs H Q E h => ?_) (fun _ _ _ _ _ _ us hl => match us, hl with | [_, _], _ => rfl) (fun _ _ _ _ _ _ us hl => match us, hl with | [_, _], _ => rfl) (fun cdv A outer s H vs Q E hG hr h => ?_)
  · obtain ⟨o, t, c, d, m, Z, rfl, _⟩ := h
    rfl
  · obtain ⟨o, t, c, d, m, Z, rfl, ht, hd, ho, hm, wf, hf, h60, hz, k⟩ := h
    refine ⟨_, (pss_cons (ps_if (pt_cmpR op_eq (pe_ix (show IxR _ (rIxT K) from ix_tup) (pv 1) pe_int (fun _ _ => rfl)) pe_str (nomark _)) (pss_cons (ps_set (i := 2) sc_law_behind.nd rfl (Or.inl rfl) (pe_callTy (call_dictP rfl) (by rfl) T.f_dict (by decide +kernel) (pa_cons (LiI.pe_listItems rfl (pv 0) rfl T.f_list (by decide +kernel)) pa_nil)))
      (pss_cons (ps_asg pe_bl (pg_sub (pv 2) pe_str (set_dict (Nat.lt_of_le_of_lt (Nat.add_le_add_left (by decide) _) hr.units))))
      (pss_one (ps_ret (pe_tup (pa_cons (pv 2) (pa_cons pe_non pa_nil))))))) pss_nil)
      (pss_cons (ps_if (pt_cmpR op_eq (pe_ix (show IxR _ (rIxT K) from ix_tup) (pv 1) pe_int (fun _ _ => rfl)) pe_str (nomark _)) (pss_cons (ps_set (i := 3) sc_law_behind.nd rfl (Or.inl rfl) (pe_g c_law_chip_can_fade hG hr (by decide) rfl (pa_cons (pv 0) (pa_cons (pe_ix (show IxR _ (rIxT K) from ix_tup) (pv 1) pe_int (fun _ _ => rfl)) (pa_cons (pe_ix (show IxR _ (rIxT K) from ix_tup) (pv 1) pe_int (fun _ _ => rfl)) (pa_cons (pe_ix (show IxR _ (rIxT K) from ix_tup) (pv 1) pe_int (fun _ _ => rfl)) pa_nil))))))
      (pss_one (ps_ret (pe_ifExp (pt_val (pv 3)) (pe_tup (pa_cons (pe_g c_law_chip_faded hG hr (by decide) rfl (pa_cons (pv 0) (pa_cons (pe_ix (show IxR _ (rIxT K) from ix_tup) (pv 1) pe_int (fun _ _ => rfl)) (pa_cons (pe_ix (show IxR _ (rIxT K) from ix_tup) (pv 1) pe_int (fun _ _ => rfl)) (pa_cons (pe_ix (show IxR _ (rIxT K) from ix_tup) (pv 1) pe_int (fun _ _ => rfl)) pa_nil))))) (pa_cons pe_non pa_nil))) (pe_tup (pa_cons (pv 0) (pa_cons pe_str pa_nil))))))) pss_nil)
      (pss_cons (ps_if (pt_not (pt_val (pe_dget (Nat.lt_of_le_of_lt (Nat.add_le_add_left (by decide) _) hr.units) (pv 0) pe_str (fun _ _ => rfl)))) (pss_one (ps_ret (pe_tup (pa_cons (pv 0) (pa_cons pe_str pa_nil))))) pss_nil)
      (pss_one (ps_ret (pe_ifExp (pt_cmpR op_eq (pe_ix (show IxR _ (rIxT K) from ix_tup) (pv 1) pe_int (fun _ _ => rfl)) pe_str (nomark _)) (pe_g c_law_chip_written hG hr (by decide) rfl (pa_cons (pv 0) (pa_cons (pe_ix (show IxR _ (rIxT K) from ix_tup) (pv 1) pe_int (fun _ _ => rfl)) (pa_cons (pe_ix (show IxR _ (rIxT K) from ix_tup) (pv 1) pe_int (fun _ _ => rfl)) pa_nil)))) (pe_g c_law_chip_erased hG hr (by decide) rfl (pa_cons (pv 0) (pa_cons (pe_ix (show IxR _ (rIxT K) from ix_tup) (pv 1) pe_int (fun _ _ => rfl)) pa_nil))))))))), ?_⟩
    have S9 : sizeLine = 16777216 := sizeLine_eq
    cases d with
    | again =>
      obtain ⟨A, ws, hoA, wr, wlen, z1, z2, z3, z4⟩ := ho.ex
      refine ⟨_, rfl, t, _, _, _, rfl, rfl, ht, rfl, rfl, _, rfl, ?_⟩
      rw [decide_eq_true rfl]
      refine iteT ⟨_, rfl, o, _, rfl, hoA.obj, fun H1 p ts k1 np nts npt hp1 pr => ⟨p, ts, ownK A c, rfl, SqL.of hp1, Paired.mono (fun _ _ h => SqT.of h) pr, fun o2 no2 => ?_⟩⟩
      rw [own_copy]
      have S1 : Same H H1 := fun b o e => k1 b o e
      have nH : H o2 = none := S1.free no2
      have op := op_on A c true
      refine ⟨_, rfl, o2, _, rfl, DPut.k (k := .inr ("is_on" : Str)) upd_same (by show 10 < sizeLine; omega), ?_⟩
      rw [op]
      have S2 := (S1.trans (Same.new (o := .dK (ownK A c)) no2)).put (o := .dK (ownK A { c with on := true })) nH
      have e2 : (upd (upd H1 o2 (.dK (ownK A c))) o2 (.dK (ownK A { c with on := true }))) o2 = _ := upd_same
      revert S2 e2
      generalize upd (upd H1 o2 (.dK (ownK A c))) o2 (.dK (ownK A { c with on := true })) = H2
      intro S2 e2
      have hx := hoA.same S2
      have own : Own K Z H2 o2 { c with on := true } (m + 1) := ⟨A, ws, ⟨e2, hx.cl, hx.wl, hx.bd, hx.wr, hx.fa, hx.nd⟩, wr.cong rfl rfl, by omega, z1, z2, z3, z4⟩
      exact ⟨_, rfl, by show 2 ≤ sizeLine; omega, fun q nq => k q o2 _ (S2.trans (Same.new nq)) upd_same (own.same (Same.new nq))⟩
    | write n l =>
      have ho0 := ho
      obtain ⟨A, ws, hoA, wr, wlen, z1, z2, z3, z4⟩ := ho0.ex
      refine ⟨_, rfl, t, _, _, _, rfl, rfl, ht, rfl, rfl, _, rfl, ?_⟩
      rw [decide_eq_false (show ¬ V.str (Str.ofString "write") = V.str (Str.ofString "again") from fun z => absurd (V.str.inj z) (by decide +kernel))]
      refine iteF ?_
      dsimp only [tNext]
      refine ⟨_, rfl, t, _, _, _, rfl, rfl, ht, rfl, rfl, _, rfl, ?_⟩
      rw [decide_eq_false (show ¬ V.str (Str.ofString "write") = V.str (Str.ofString "fade") from fun z => absurd (V.str.inj z) (by decide +kernel))]
      refine iteF ?_
      dsimp only [tNext]
      refine ⟨_, rfl, o, _, rfl, og_on hoA, _, rfl, ?_⟩
      rcases eon : c.on with _ | _
      · rw [show behindC c (.write n l) = (c, .str (Str.ofString "cut")) from if_neg (by rw [eon]; exact Bool.false_ne_true)] at k
        refine iteT ⟨_, rfl, by show 2 ≤ sizeLine; omega, fun p np => k p o _ (Same.new np) upd_same ((ho.same (Same.new np)).mono (by omega))⟩
      · rw [show behindC c (.write n l) = ((written c n l).1, ownTold (written c n l).2) from if_pos eon] at k
        refine iteF ?_
        dsimp only [tNext]
        refine ⟨_, rfl, t, _, _, _, rfl, rfl, ht, rfl, rfl, _, rfl, ?_⟩
        rw [decide_eq_true rfl]
        exact iteT ⟨_, rfl, _, rfl, t, _, _, _, rfl, rfl, ht, rfl, _, rfl, t, _, _, _, rfl, rfl, ht, rfl, o, c, n, m, l, Z, rfl, ho, hm, wf, hf, h60, hd.1, hd.2.1, hd.2.2, hz, k⟩
    | erase b =>
      have ho0 := ho
      obtain ⟨A, ws, hoA, wr, wlen, z1, z2, z3, z4⟩ := ho0.ex
      refine ⟨_, rfl, t, _, _, _, rfl, rfl, ht, rfl, rfl, _, rfl, ?_⟩
      rw [decide_eq_false (show ¬ V.str (Str.ofString "erase") = V.str (Str.ofString "again") from fun z => absurd (V.str.inj z) (by decide +kernel))]
      refine iteF ?_
      dsimp only [tNext]
      refine ⟨_, rfl, t, _, _, _, rfl, rfl, ht, rfl, rfl, _, rfl, ?_⟩
      rw [decide_eq_false (show ¬ V.str (Str.ofString "erase") = V.str (Str.ofString "fade") from fun z => absurd (V.str.inj z) (by decide +kernel))]
      refine iteF ?_
      dsimp only [tNext]
      refine ⟨_, rfl, o, _, rfl, og_on hoA, _, rfl, ?_⟩
      rcases eon : c.on with _ | _
      · rw [show behindC c (.erase b) = (c, .str (Str.ofString "cut")) from if_neg (by rw [eon]; exact Bool.false_ne_true)] at k
        refine iteT ⟨_, rfl, by show 2 ≤ sizeLine; omega, fun p np => k p o _ (Same.new np) upd_same ((ho.same (Same.new np)).mono (by omega))⟩
      · rw [show behindC c (.erase b) = ((erased c b).1, ownTold (erased c b).2) from if_pos eon] at k
        refine iteF ?_
        dsimp only [tNext]
        refine ⟨_, rfl, t, _, _, _, rfl, rfl, ht, rfl, rfl, _, rfl, ?_⟩
        rw [decide_eq_false (show ¬ V.str (Str.ofString "erase") = V.str (Str.ofString "write") from fun z => absurd (V.str.inj z) (by decide +kernel))]
        exact iteF ⟨_, rfl, _, rfl, t, _, _, _, rfl, rfl, ht, rfl, o, c, b, m, Z, rfl, ho, hm, wf, hf, h60, hd, hz, fun p o2 H2 S2 e own => k p o2 H2 S2 e (own.mono (by omega))⟩
    | fade n j g =>
      refine ⟨_, rfl, t, _, _, _, rfl, rfl, ht, rfl, rfl, _, rfl, ?_⟩
      rw [decide_eq_false (show ¬ V.str (Str.ofString "fade") = V.str (Str.ofString "again") from fun z => absurd (V.str.inj z) (by decide +kernel))]
      refine iteF ?_
      dsimp only [tNext]
      refine ⟨_, rfl, t, _, _, _, rfl, rfl, ht, rfl, rfl, _, rfl, ?_⟩
      rw [decide_eq_true rfl]
      refine iteT ⟨_, rfl, _, rfl, t, _, _, _, rfl, rfl, ht, rfl, _, rfl, t, _, _, _, rfl, rfl, ht, rfl, _, rfl, t, _, _, _, rfl, rfl, ht, rfl, o, c, n, j, g, m, Z, rfl, ho, wf, hd.1, hd.2.1, hd.2.2, fun H1 S1 => ?_⟩
      refine ⟨_, rfl, _, rfl, ?_⟩
      have ht1 := sqT_same S1 ht
      have ho1 := ho.same S1
      rcases mf : mayFall c n j (c.cells.getD n []) [g] with _ | _
      · rw [show behindC c (.fade n j g) = (c, .str (Str.ofString "fade")) from if_neg (by rw [mf]; exact Bool.false_ne_true)] at k
        refine iteF ⟨_, rfl, by show 2 ≤ sizeLine; omega, fun p np => k p o _ (S1.trans (Same.new np)) upd_same ((ho1.same (Same.new np)).mono (by omega))⟩
      · rw [show behindC c (.fade n j g) = (put c n ((c.cells.getD n []).take j ++ [g] ++ (c.cells.getD n []).drop (j + 1)) false, .non) from if_pos mf] at k
        exact iteT ⟨_, rfl, _, rfl, t, _, _, _, rfl, rfl, ht1, rfl, _, rfl, t, _, _, _, rfl, rfl, ht1, rfl, _, rfl, t, _, _, _, rfl, rfl, ht1, rfl, o, c, n, j, g, m, Z, rfl, ho1, wf, hd.1, hd.2.1, hd.2.2, mf, fun z q e => hz z q (S1.free e), fun o2 H2 S2 own => ⟨by show 2 ≤ sizeLine; omega, fun p np => k p o2 _ ((S1.trans S2).trans (Same.new np)) upd_same ((own.same (Same.new np)).mono (by omega))⟩⟩
theorem ok_law_call {fd : FuncData} (T : Txt K w mg) (F : FD K "_law_call" s_law_call (He.fAd K ("_law_call", none)) fd) (hm : mg "_law_call" = some (.ref (He.fAd K ("_law_call", none)))) (c_law_heard : Cl P w K mg base 1 "_law_heard" ["call"] (sp_law_heard K)) (c_Chip_write : Mf (CXr P w) P w K mg base 4 (He.ga K "Chip") "write" ["self", "place", "cells"] (sp_Chip_write K)) (c_Chip_erase : Mf (CXr P w) P w K mg base 4 (He.ga K "Chip") "erase" ["self", "block"] (sp_Chip_erase K)) (c_Chip_again : Mf CX0 P w K mg base 1 (He.ga K "Chip") "again" ["self"] (sp_Chip_again K)) (c_Chip_fade : Mf (CXr P w) P w K mg base 5 (He.ga K "Chip") "fade" ["self", "place", "cell", "sign"] (sp_Chip_fade K)) (tb : TabB base mg (He.codeOf K ("_law_call", none)) (He.cT K ("_law_call", none)).2) : Cg P w K mg base 8 "_law_call" ["chip", "deed"] (sp_law_call K) := by
  refine cg_ofM F hm sc_law_call (fun vs H Q E h => ?_) (fun _ _ _ _ _ _ us hl => match us, hl with | [_, _], _ => rfl) (fun _ _ _ _ _ _ us hl => match us, hl with | [_, _], _ => rfl) (fun A outer s H vs Q E hG hr h => ?_)
  · obtain ⟨x, t, L, c, d, rfl, _⟩ := h
    rfl
  · obtain ⟨x, t, L, c, d, rfl, tb0, hc, wf, ht, hd, k⟩ := h
    refine ⟨_, (pss_cons (ps_if (pt_cmpR op_eq (pe_ix (show IxR _ (rIxT K) from ix_tup) (pv 1) pe_int (fun _ _ => rfl)) pe_str (nomark _)) (pss_one (ps_ret (pe_lamL (M := maker tb rfl rfl rfl rfl) c_law_heard hG hr (j := 4) (by decide) rfl (lamS_by (sc := defScope s_law_call) (by decide +kernel)) rfl (fun _ _ _ _ _ => rfl) (fun A2 outer2 s2 H2 E2 f2 c2 hG2 hr2 => (pe_mR c_Chip_write (pv 0) T.cl_Chip hr2 (by decide) (takes_of rfl rfl rfl rfl) (pa_cons (pe_ix (show IxR _ (rIxT K) from ix_tup) (pv 1) pe_int (fun _ _ => rfl)) (pa_cons (pe_ix (show IxR _ (rIxT K) from ix_tup) (pv 1) pe_int (fun _ _ => rfl)) pa_nil)))) pa_nil))) pss_nil)
      (pss_cons (ps_if (pt_cmpR op_eq (pe_ix (show IxR _ (rIxT K) from ix_tup) (pv 1) pe_int (fun _ _ => rfl)) pe_str (nomark _)) (pss_one (ps_ret (pe_lamL (M := maker tb rfl rfl rfl rfl) c_law_heard hG hr (j := 4) (by decide) rfl (lamS_by (sc := defScope s_law_call) (by decide +kernel)) rfl (fun _ _ _ _ _ => rfl) (fun A2 outer2 s2 H2 E2 f2 c2 hG2 hr2 => (pe_mR c_Chip_erase (pv 0) T.cl_Chip hr2 (by decide) (takes_of rfl rfl rfl rfl) (pa_cons (pe_ix (show IxR _ (rIxT K) from ix_tup) (pv 1) pe_int (fun _ _ => rfl)) pa_nil))) pa_nil))) pss_nil)
      (pss_one (ps_ret (pe_lamL (M := maker tb rfl rfl rfl rfl) c_law_heard hG hr (j := 5) (by decide) rfl (lamS_by (sc := defScope s_law_call) (by decide +kernel)) rfl (fun _ _ _ _ _ => rfl) (fun A2 outer2 s2 H2 E2 f2 c2 hG2 hr2 => (pe_ifExp (pt_cmpR op_eq (pe_ix (show IxR _ (rIxT K) from ix_tup) (pv 1) pe_int (fun _ _ => rfl)) pe_str (nomark _)) (pe_m0 c_Chip_again (pv 0) T.cl_Chip hr2 (by decide)) (pe_mR c_Chip_fade (pv 0) T.cl_Chip hr2 (by decide) (takes_of rfl rfl rfl rfl) (pa_cons (pe_ix (show IxR _ (rIxT K) from ix_tup) (pv 1) pe_int (fun _ _ => rfl)) (pa_cons (pe_ix (show IxR _ (rIxT K) from ix_tup) (pv 1) pe_int (fun _ _ => rfl)) (pa_cons (pe_ix (show IxR _ (rIxT K) from ix_tup) (pv 1) pe_int (fun _ _ => rfl)) pa_nil)))))) pa_nil))))), ?_⟩
    have cutk : ∀ (J G2 : Hp) (p1 : Addr), ButCN x L H J → Tabs (tabsC K) J → ChipAt K J x L c → ButC x L J G2 → ChipAt K G2 x L (behindC c d).1 → (behindC c d).2 = .str (Str.ofString "cut") → G2 p1 = some (.xd (fldV .non)) → ∀ b, G2 b = none → ∀ p, upd G2 b (ExA (.ref (He.ga K "Cut")) (some p1) b) p = none → Q (.ref p) (upd (upd G2 b (ExA (.ref (He.ga K "Cut")) (some p1) b)) p (.tup [.ref b, .non])) := by
      intro J G2 p1 bj tj cj bg cg du hx b hb p hp
      have S := (Same.new (o := ExA (.ref (He.ga K "Cut")) (some p1) b) hb).trans (Same.new (o := .tup [.ref b, .non]) hp)
      have nbp : b ≠ p := fun z => by rw [← z, upd_same] at hp; cases hp
      exact k p _ ((bj.trans (.of bg)).trans (.ofS S)) ((tabs_keep tj (bg.keep cj)).ext S) (cg.same S) ⟨_, _, upd_same, .inl ⟨du, b, p1, rfl, rfl, by rw [upd_ne nbp, upd_same], S _ _ hx⟩⟩
    have toldk : ∀ (J G2 : Hp) (v : V), ButCN x L H J → Tabs (tabsC K) J → ChipAt K J x L c → ButC x L J G2 → ChipAt K G2 x L (behindC c d).1 → (behindC c d).2 = v → (v = .non ∨ ∃ b, v = .bl b) → ∀ p, G2 p = none → Q (.ref p) (upd G2 p (.tup [.non, v])) := by
      intro J G2 v bj tj cj bg cg du hv p hp
      have S := Same.new (o := .tup [.non, v]) hp
      exact k p _ ((bj.trans (.of bg)).trans (.ofS S)) ((tabs_keep tj (bg.keep cj)).ext S) (cg.same S) ⟨_, _, upd_same, .inr (.inr ⟨rfl, du.symm, by rw [du]; exact hv⟩)⟩
    cases d with
    | again =>
      refine ⟨_, rfl, t, _, _, _, rfl, rfl, ht, rfl, rfl, _, rfl, ?_⟩
      rw [decide_eq_false (show ¬ V.str (Str.ofString "again") = V.str (Str.ofString "write") from fun z => absurd (V.str.inj z) (by decide +kernel))]
      refine iteF ?_
      dsimp only [tNext]
      refine ⟨_, rfl, t, _, _, _, rfl, rfl, ht, rfl, rfl, _, rfl, ?_⟩
      rw [decide_eq_false (show ¬ V.str (Str.ofString "again") = V.str (Str.ofString "erase") from fun z => absurd (V.str.inj z) (by decide +kernel))]
      refine iteF ?_
      dsimp only [tNext]
      refine ⟨tb0, fun H1 eN T1 cc hcc => ⟨hcc, rfl, rfl, fun p0 np0 => Clo.of ?_⟩⟩
      have S0 := Same.new (o := .tup [.non, .non]) np0
      have cj := (hc.extN eN).same S0
      have tj := T1.ext S0
      have bj : ButCN x L H _ := (ButCN.ofE eN).trans (.ofS S0)
      have ht1 := sqT_same S0 (ext_t eN ht)
      refine ⟨_, rfl, t, _, _, _, rfl, rfl, ht1, rfl, rfl, _, rfl, ?_⟩
      rw [decide_eq_true rfl]
      refine iteT ?_
      exact ⟨_, rfl, x, _, _, rfl, cj.obj, rfl, x, L, c, rfl, cj, fun G2 B2 C2 => toldk _ G2 .non bj tj cj B2 C2 rfl (.inl rfl)⟩
    | write n l =>
      refine ⟨_, rfl, t, _, _, _, rfl, rfl, ht, rfl, rfl, _, rfl, ?_⟩
      rw [decide_eq_true rfl]
      refine iteT ⟨tb0, fun H1 eN T1 cc hcc => ⟨hcc, rfl, rfl, fun p0 np0 => Clo.of ?_⟩⟩
      have S0 := Same.new (o := .tup [.non, .non]) np0
      have cj := (hc.extN eN).same S0
      have tj := T1.ext S0
      have bj : ButCN x L H _ := (ButCN.ofE eN).trans (.ofS S0)
      have ht1 := sqT_same S0 (ext_t eN ht)
      refine ⟨_, rfl, x, _, _, rfl, cj.obj, rfl, _, rfl, t, _, _, _, rfl, rfl, ht1, rfl, _, rfl, t, _, _, _, rfl, rfl, ht1, rfl, x, L, c, n, l, rfl, cj, wf, hd.1, hd.2.1, hd.2.2, fun e p1 G2 S2 hx => ?_, fun e e2 p1 G2 B2 C2 hx => ?_, fun e b e2 G2 B2 C2 => ?_⟩
      · have eb : behindC c (.write n l) = (c, .str (Str.ofString "cut")) := if_neg (by rw [e]; exact Bool.false_ne_true)
        exact ⟨T.xm_Cut, cutk _ G2 p1 bj tj cj (ButC.of S2) (by rw [eb]; exact cj.same S2) (by rw [eb]) hx⟩
      · have eb : behindC c (.write n l) = ((written c n l).1, ownTold (written c n l).2) := if_pos e
        exact ⟨T.xm_Cut, cutk _ G2 p1 bj tj cj B2 (by rw [eb]; exact C2) (by rw [eb, e2]; rfl) hx⟩
      · have eb : behindC c (.write n l) = ((written c n l).1, ownTold (written c n l).2) := if_pos e
        exact toldk _ G2 (.bl b) bj tj cj B2 (by rw [eb]; exact C2) (by rw [eb, e2]; rfl) (.inr ⟨b, rfl⟩)
    | erase n =>
      refine ⟨_, rfl, t, _, _, _, rfl, rfl, ht, rfl, rfl, _, rfl, ?_⟩
      rw [decide_eq_false (show ¬ V.str (Str.ofString "erase") = V.str (Str.ofString "write") from fun z => absurd (V.str.inj z) (by decide +kernel))]
      refine iteF ?_
      dsimp only [tNext]
      refine ⟨_, rfl, t, _, _, _, rfl, rfl, ht, rfl, rfl, _, rfl, ?_⟩
      rw [decide_eq_true rfl]
      refine iteT ⟨tb0, fun H1 eN T1 cc hcc => ⟨hcc, rfl, rfl, fun p0 np0 => Clo.of ?_⟩⟩
      have S0 := Same.new (o := .tup [.non, .non]) np0
      have cj := (hc.extN eN).same S0
      have tj := T1.ext S0
      have bj : ButCN x L H _ := (ButCN.ofE eN).trans (.ofS S0)
      have ht1 := sqT_same S0 (ext_t eN ht)
      refine ⟨_, rfl, x, _, _, rfl, cj.obj, rfl, _, rfl, t, _, _, _, rfl, rfl, ht1, rfl, x, L, c, n, rfl, cj, wf, hd, fun e p1 G2 S2 hx => ?_, fun e e2 p1 G2 B2 C2 hx => ?_, fun e b e2 G2 B2 C2 => ?_⟩
      · have eb : behindC c (.erase n) = (c, .str (Str.ofString "cut")) := if_neg (by rw [e]; exact Bool.false_ne_true)
        exact ⟨T.xm_Cut, cutk _ G2 p1 bj tj cj (ButC.of S2) (by rw [eb]; exact cj.same S2) (by rw [eb]) hx⟩
      · have eb : behindC c (.erase n) = ((erased c n).1, ownTold (erased c n).2) := if_pos e
        exact ⟨T.xm_Cut, cutk _ G2 p1 bj tj cj B2 (by rw [eb]; exact C2) (by rw [eb, e2]; rfl) hx⟩
      · have eb : behindC c (.erase n) = ((erased c n).1, ownTold (erased c n).2) := if_pos e
        exact toldk _ G2 (.bl b) bj tj cj B2 (by rw [eb]; exact C2) (by rw [eb, e2]; rfl) (.inr ⟨b, rfl⟩)
    | fade n j g =>
      refine ⟨_, rfl, t, _, _, _, rfl, rfl, ht, rfl, rfl, _, rfl, ?_⟩
      rw [decide_eq_false (show ¬ V.str (Str.ofString "fade") = V.str (Str.ofString "write") from fun z => absurd (V.str.inj z) (by decide +kernel))]
      refine iteF ?_
      dsimp only [tNext]
      refine ⟨_, rfl, t, _, _, _, rfl, rfl, ht, rfl, rfl, _, rfl, ?_⟩
      rw [decide_eq_false (show ¬ V.str (Str.ofString "fade") = V.str (Str.ofString "erase") from fun z => absurd (V.str.inj z) (by decide +kernel))]
      refine iteF ?_
      dsimp only [tNext]
      refine ⟨tb0, fun H1 eN T1 cc hcc => ⟨hcc, rfl, rfl, fun p0 np0 => Clo.of ?_⟩⟩
      have S0 := Same.new (o := .tup [.non, .non]) np0
      have cj := (hc.extN eN).same S0
      have tj := T1.ext S0
      have bj : ButCN x L H _ := (ButCN.ofE eN).trans (.ofS S0)
      have ht1 := sqT_same S0 (ext_t eN ht)
      refine ⟨_, rfl, t, _, _, _, rfl, rfl, ht1, rfl, rfl, _, rfl, ?_⟩
      rw [decide_eq_false (show ¬ V.str (Str.ofString "fade") = V.str (Str.ofString "again") from fun z => absurd (V.str.inj z) (by decide +kernel))]
      refine iteF ?_
      have el : c.cells[n]? = some (c.cells.getD n []) := by
        rw [List.getD_eq_getElem?_getD, List.getElem?_eq_getElem hd.1]
        rfl
      refine ⟨_, rfl, x, _, _, rfl, cj.obj, rfl, _, rfl, t, _, _, _, rfl, rfl, ht1, rfl, _, rfl, t, _, _, _, rfl, rfl, ht1, rfl, _, rfl, t, _, _, _, rfl, rfl, ht1, rfl, x, L, c, n, j, c.cells.getD n [], [g], rfl, cj, wf, el, hd.2.1, rfl, fun z hz => by rw [List.mem_singleton.mp hz]; exact hd.2.2, fun e p1 t1 G2 S2 ht2 hx => ?_, fun e G2 B2 C2 => ?_⟩
      · have eb : behindC c (.fade n j g) = (c, .str (Str.ofString "fade")) := if_neg (by rw [e]; exact Bool.false_ne_true)
        refine ⟨T.xm_BadFade, fun b hb p hp => ?_⟩
        have S := (Same.new (o := ExA (.ref (He.ga K "BadFade")) (some p1) b) hb).trans (Same.new (o := .tup [.ref b, .non]) hp)
        have nbp : b ≠ p := fun z => by rw [← z, upd_same] at hp; cases hp
        have SA := S2.trans S
        exact k p _ (bj.trans (.ofS SA)) (tj.ext SA) (by rw [eb]; exact cj.same SA) ⟨_, _, upd_same, .inr (.inl ⟨by rw [eb], n, j, g, b, p1, t1, rfl, rfl, rfl, by rw [upd_ne nbp, upd_same], S _ _ hx, S _ _ ht2⟩)⟩
      · have eb : behindC c (.fade n j g) = (put c n ((c.cells.getD n []).take j ++ [g] ++ (c.cells.getD n []).drop (j + 1)) false, .non) := if_pos e
        exact toldk _ G2 .non bj tj cj B2 (by rw [eb]; exact C2) (by rw [eb]) (.inl rfl)
theorem ok_law_is_done {f : Addr} {fd : FuncData} (T : Txt K w mg) (F : FD K "_law_is_done" s_law_is_done f fd) (hm : mg "_law_is_done" = some (.ref f)) (c_law_call : Cg P w K mg base 8 "_law_call" ["chip", "deed"] (sp_law_call K)) (x_Cut : ExT P w K mg base "Cut" (He.ga K "Cut")) (x_BadFade : ExT P w K mg base "BadFade" (He.ga K "BadFade")) : Cg P w K mg base 9 "_law_is_done" ["chip", "deed", "due"] (sp_law_is_done K) := by
  refine cg_of F hm sc_law_is_done (fun vs H Q E h => ?_) (fun _ _ _ _ _ _ us hl => match us, hl with | [_, _, _], _ => rfl) (fun _ _ _ _ _ _ us hl => match us, hl with | [_, _, _], _ => rfl) (fun cdv A outer s H vs Q E hG hr h => ?_)
  · obtain ⟨x, t, L, c, d, rfl, _⟩ := h
    rfl
  · obtain ⟨x, t, L, c, d, rfl, tb0, hc, wf, ht, hd, k⟩ := h
    refine ⟨_, (pss_cons (ps_asg (pe_g c_law_call hG hr (by decide) rfl (pa_cons (pv 0) (pa_cons (pv 1) pa_nil))) (pg_tup rfl (pgs_cons (pg_name (i := 3) sc_law_is_done.nd rfl (Or.inl rfl)) (pgs_cons (pg_name (i := 4) sc_law_is_done.nd rfl (Or.inl rfl)) pgs_nil))))
      (pss_cons (ps_if (pt_cmpR op_eq (pv 2) pe_str (nomark _)) (pss_one (ps_ret (pe_and (pe_callB call_isXi (by rfl) T.f_isinstance (by decide +kernel) (pa_cons (pv 3) (pa_cons (pe_clsn rfl x_Cut.gx) pa_nil))) (pe_one (pe_cmp (pc_isN (pe_xv (pv 3)))))))) pss_nil)
      (pss_cons (ps_if (pt_cmpR op_eq (pv 2) pe_str (nomark _)) (pss_one (ps_ret (pe_and (pe_callB call_isXi (by rfl) T.f_isinstance (by decide +kernel) (pa_cons (pv 3) (pa_cons (pe_clsn rfl x_BadFade.gx) pa_nil))) (pe_one (pe_cmpR op_eq (pe_callB (call_reprA hG hr) (by rfl) T.f_repr (by decide +kernel) (pa_cons (pe_xv (pv 3)) pa_nil)) (pe_callB (call_reprA hG hr) (by rfl) T.f_repr (by decide +kernel) (pa_cons (pe_tup (pa_cons (pe_ix (show IxR _ (rIxT K) from ix_tup) (pv 1) pe_int (fun _ _ => rfl)) (pa_cons (pe_ix (show IxR _ (rIxT K) from ix_tup) (pv 1) pe_int (fun _ _ => rfl)) pa_nil))) pa_nil)) (nomark _)))))) pss_nil)
      (pss_one (ps_ret (pe_and (pe_cmp (pc_isN (pv 3))) (pe_one (pe_cmpR op_eq (pe_callB (call_reprA hG hr) (by rfl) T.f_repr (by decide +kernel) (pa_cons (pv 4) pa_nil)) (pe_callB (call_reprA hG hr) (by rfl) T.f_repr (by decide +kernel) (pa_cons (pv 2) pa_nil)) (nomark _))))))))), ?_⟩
    obtain ⟨due, hdue⟩ : ∃ v, (behindC c d).2 = v := ⟨_, rfl⟩
    rw [hdue]
    refine ⟨_, rfl, _, rfl, x, t, L, c, d, rfl, tb0, hc, wf, ht, hd, fun p H1 B1 T1 C1 hp => ?_⟩
    obtain ⟨u, v, ep, cau⟩ := hp
    rw [hdue] at cau
    refine ⟨p, _, rfl, SqT.of ep, rfl, _, _, rfl, _, _, rfl, rfl, ?_⟩
    rcases cau with ⟨rfl, b, p1, rfl, rfl, eb, ep1⟩ | ⟨rfl, n, j, g, b, p1, q, rfl, rfl, rfl, eb, ep1, eq⟩ | ⟨rfl, rfl, hv⟩
    · refine ⟨_, rfl, rfl, _, rfl, ?_⟩
      rw [decide_eq_true rfl]
      refine iteT ?_
      refine ⟨_, rfl, .inl ⟨b, _, p1, _, _, _, true, rfl, eb, ep1, (fun u r => r), T.ic_Cut, T.ki_Cut_Cut, ?_⟩⟩
      refine ⟨true, rfl, iteT ⟨_, rfl, b, _, p1, _, _, rfl, eb, ep1, T.ic_Cut, T.nv_Cut, rfl, ?_⟩⟩
      show Q (.bl (decide (V.non = V.non))) _
      rw [decide_eq_true rfl]
      exact k _ B1 T1 C1
    · refine ⟨_, rfl, rfl, _, rfl, ?_⟩
      rw [decide_eq_false (show ¬ V.str (Str.ofString "fade") = V.str (Str.ofString "cut") from fun z => absurd (V.str.inj z) (by decide +kernel))]
      refine iteF ?_
      dsimp only [tNext]
      refine ⟨_, rfl, rfl, _, rfl, ?_⟩
      rw [decide_eq_true rfl]
      refine iteT ?_
      have f2 := told_two hd.2.1 hd.2.2
      have ht1 : SqT K H1 t (ddV (.fade n j g)) := by
        rcases ht with (h | ⟨o, h⟩) | h
        · exact .inl (.inl (B1 _ _ (fun z => by rw [z, hc.obj] at h; cases h) (fun z => by rw [z, hc.cells] at h; cases h) (fun z => by rw [z, hc.stands] at h; cases h) (fun z => by rw [z, hc.wear] at h; cases h) (fun z => by rw [z, hc.bad] at h; cases h) (by intro _ z; cases z) h))
        · exact .inl (.inr ⟨o, B1 _ _ (fun z => by rw [z, hc.obj] at h; cases h) (fun z => by rw [z, hc.cells] at h; cases h) (fun z => by rw [z, hc.stands] at h; cases h) (fun z => by rw [z, hc.wear] at h; cases h) (fun z => by rw [z, hc.bad] at h; cases h) (by intro _ z; cases z) h⟩)
        · exact .inr h
      refine ⟨_, rfl, .inl ⟨b, _, p1, _, _, _, true, rfl, eb, ep1, (fun u r => r), T.ic_BadFade, T.ki_BadFade_BadFade, ?_⟩⟩
      refine ⟨true, rfl, iteT ⟨_, rfl, b, _, p1, _, _, rfl, eb, ep1, T.ic_BadFade, T.nv_BadFade, rfl, _, _, rfl, .of (.tup (SqT.of eq) (.cons (.int _) (.cons (.str _) .nil))), f2.1, f2.2.1, f2.2.2, ?_⟩⟩
      refine ⟨_, rfl, t, _, _, _, rfl, rfl, ht1, rfl, _, rfl, t, _, _, _, rfl, rfl, ht1, rfl, by show 2 ≤ sizeLine; rw [sizeLine_eq]; decide, fun p3 n3 => ⟨_, _, rfl, .of (.tup (SqT.of upd_same) (.cons (.int _) (.cons (.str _) .nil))), f2.1, f2.2.1, f2.2.2, rfl, ?_⟩⟩
      rw [decide_eq_true rfl]
      have S3 := Same.new (o := .tup [.int (j : Int), .str (S [g])]) n3
      exact k _ (B1.trans (.ofS S3)) (T1.ext S3) (C1.same S3)
    · have e1 : ¬ v = .str (Str.ofString "cut") := by rcases hv with rfl | ⟨b, rfl⟩ <;> (intro z; cases z)
      have e2 : ¬ v = .str (Str.ofString "fade") := by rcases hv with rfl | ⟨b, rfl⟩ <;> (intro z; cases z)
      refine ⟨_, rfl, by rcases hv with rfl | ⟨b, rfl⟩ <;> rfl, _, rfl, ?_⟩
      rw [decide_eq_false e1]
      refine iteF ?_
      dsimp only [tNext]
      refine ⟨_, rfl, by rcases hv with rfl | ⟨b, rfl⟩ <;> rfl, _, rfl, ?_⟩
      rw [decide_eq_false e2]
      refine iteF ?_
      refine ⟨_, rfl, _, rfl, iteT ?_⟩
      rcases hv with rfl | ⟨b, rfl⟩
      · refine ⟨_, rfl, _, _, rfl, .of .non, by decide +kernel, by decide +kernel, by rw [sizeLine_eq]; decide +kernel, _, rfl, _, _, rfl, .of .non, by decide +kernel, by decide +kernel, by rw [sizeLine_eq]; decide +kernel, rfl, ?_⟩
        rw [decide_eq_true rfl]
        exact k _ B1 T1 C1
      · refine ⟨_, rfl, _, _, rfl, .of (.bl b), by cases b <;> decide +kernel, by cases b <;> decide +kernel, by rw [sizeLine_eq]; cases b <;> decide +kernel, _, rfl, _, _, rfl, .of (.bl b), by cases b <;> decide +kernel, by cases b <;> decide +kernel, by rw [sizeLine_eq]; cases b <;> decide +kernel, rfl, ?_⟩
        rw [decide_eq_true rfl]
        exact k _ B1 T1 C1
theorem ok_law_right {f : Addr} {fd : FuncData} (T : Txt K w mg) (F : FD K "_law_right" s_law_right f fd) (hm : mg "_law_right" = some (.ref f)) (c_law_chip_faults : Cg P w K mg base 4 "_law_chip_faults" ["pot", "many", "most"] (sp_law_chip_faults K)) (c_Chip___init__ : Kf P w K mg base 6 "Chip" (He.ga K "Chip") ["self", "blocks", "pages", "faults"] (sp_Chip___init__ K)) (c_law_chip_begun : Cg P w K mg base 1 "_law_chip_begun" ["blocks", "pages", "faults"] (sp_law_chip_begun K)) (c_law_deed_drawn : Cg P w K mg base 4 "_law_deed_drawn" ["pot", "own"] (sp_law_deed_drawn K)) (c_law_behind : Cg P w K mg base 3 "_law_behind" ["own", "deed"] (sp_law_behind K)) (c_law_take : Cg P w K mg base 1 "_law_take" ["pot", "upto"] sp_law_take) (c_law_chip_is_told : Cg P w K mg base 3 "_law_chip_is_told" ["chip", "own"] (sp_law_chip_is_told K)) (c_Chip_blocks : Pf P w K mg base 1 (He.ga K "Chip") "blocks" (sp_Chip_blocks K)) (c_Chip_pages : Pf P w K mg base 1 (He.ga K "Chip") "pages" (sp_Chip_pages K)) (c_law_is_done : Cg P w K mg base 9 "_law_is_done" ["chip", "deed", "due"] (sp_law_is_done K)) (c_Chip_read : Mf CX0 P w K mg base 4 (He.ga K "Chip") "read" ["self", "place"] (sp_Chip_read K)) (k_Chip___init__ : Kfk P w K mg base 6 "Chip" (He.ga K "Chip") ["self", "blocks", "pages", "faults"] ["faults", "pages", "blocks"] [0, 3, 2, 1] (sp_Chip___init__ K)) (k_Chip_read : Mfk CX0 P w K mg base 4 (He.ga K "Chip") "read" ["self", "place"] ["place"] [0, 1] (sp_Chip_read K)) : Cg P w K mg base 10 "_law_right" ["pot"] (sp_law_right K) := by
  refine cg_of F hm sc_law_right (fun vs H Q E h => ?_) (fun _ _ _ _ _ _ us hl => match us, hl with | [_], _ => rfl) (fun _ _ _ _ _ _ us hl => match us, hl with | [_], _ => rfl) (fun cdv A outer s H vs Q E hG hr h => ?_)
  · obtain ⟨a, m, rfl, _⟩ := h
    rfl
  · obtain ⟨a, m, rfl, tb0, hp, k⟩ := h
    refine ⟨_, (pss_cons (ps_par (i := 1) (j := 2) rfl sc_law_right.nd rfl rfl (by decide) rfl rfl (pa_cons (pe_op op_add pe_int (pe_g c_law_take hG hr (by decide) rfl (pa_cons (pv 0) (pa_cons pe_int pa_nil)))) (pa_cons (pe_g c_law_chip_faults hG hr (by decide) rfl (pa_cons (pv 0) (pa_cons (pe_g c_law_take hG hr (by decide) rfl (pa_cons (pv 0) (pa_cons pe_int pa_nil))) (pa_cons pe_int pa_nil)))) pa_nil)) (by rfl))
      (pss_cons (ps_asg (pe_tup (pa_cons (pe_newk k_Chip___init__ hr (by decide) rfl (pk_cons (pv 2) (pk_cons pe_int (pk_cons (pv 1) pk_nil)))) (pa_cons (pe_g c_law_chip_begun hG hr (by decide) rfl (pa_cons (pv 1) (pa_cons pe_int (pa_cons (pv 2) pa_nil)))) pa_nil))) (pg_tup rfl (pgs_cons (pg_name (i := 3) sc_law_right.nd rfl (Or.inr rfl)) (pgs_cons (pg_name (i := 4) sc_law_right.nd rfl (Or.inr rfl)) pgs_nil))))
      (pss_cons (ps_if (PW.pt (pw_or (pt_cmpR op_ne (pe_callB (call_reprA hG hr) (by rfl) T.f_repr (by decide +kernel) (pa_cons (pe_tup (pa_cons (pe_p c_Chip_blocks (pv 3) T.cl_Chip hr (by decide)) (pa_cons (pe_p c_Chip_pages (pv 3) T.cl_Chip hr (by decide)) pa_nil))) pa_nil)) (pe_callB (call_reprA hG hr) (by rfl) T.f_repr (by decide +kernel) (pa_cons (pe_tup (pa_cons (pv 1) (pa_cons pe_int pa_nil))) pa_nil)) (nomark _)) (pw_or1 (pt_not (pt_val (pe_g c_law_chip_is_told hG hr (by decide) rfl (pa_cons (pv 3) (pa_cons (pv 4) pa_nil)))))))) (pss_one (ps_ret pe_bl)) pss_nil)
      (pss_cons (ps_for PassesOwn.never rfl (pi_range1 rfl T.f_range (pa_cons pe_int pa_nil)) (pg_name (i := 5) sc_law_right.nd rfl (Or.inl rfl))
        (pss_cons (ps_set (i := 6) sc_law_right.nd rfl (Or.inl rfl) (pe_g c_law_deed_drawn hG hr (by decide) rfl (pa_cons (pv 0) (pa_cons (pv 4) pa_nil))))
      (pss_cons (ps_asg (pe_g c_law_behind hG hr (by decide) rfl (pa_cons (pv 4) (pa_cons (pv 6) pa_nil))) (pg_tup rfl (pgs_cons (pg_name (i := 4) sc_law_right.nd rfl (Or.inr rfl)) (pgs_cons (pg_name (i := 7) sc_law_right.nd rfl (Or.inl rfl)) pgs_nil))))
      (pss_one (ps_if (PW.pt (pw_or (pt_not (pt_val (pe_g c_law_is_done hG hr (by decide) rfl (pa_cons (pv 3) (pa_cons (pv 6) (pa_cons (pv 7) pa_nil)))))) (pw_or1 (pt_not (pt_val (pe_g c_law_chip_is_told hG hr (by decide) rfl (pa_cons (pv 3) (pa_cons (pv 4) pa_nil)))))))) (pss_one (ps_ret pe_bl)) pss_nil)))))
      (pss_cons (ps_set (i := 8) sc_law_right.nd rfl (Or.inl rfl) (pe_lst (pa_cons pe_int (pa_cons (pe_op op_sub (pe_op op_mul pe_int (pv 1)) pe_int) (pa_cons (pe_g c_law_take hG hr (by decide) rfl (pa_cons (pv 0) (pa_cons (pe_op op_mul pe_int (pv 1)) pa_nil))) pa_nil)))))
      (pss_one (ps_ret (pe_callB (cr_all rfl) (by rfl) T.f_all (by decide +kernel) (pa_cons (pe_lc (own := [("at", 9)]) rfl sc_law_right.nd (pi_list (pv 8)) (blkOk_by (N := ["pot", "blocks", "faults", "chip", "own", "lap", "deed", "due", "places", "at"]) (sc := defScope s_law_right) (by decide +kernel)) (fun _ _ _ _ _ => (pg_name (i := 9) sc_law_right.nd rfl (Or.inl rfl))) (fun _ _ _ _ _ => pts_nil) (fun _ _ _ _ _ => (pe_cmpR op_eq (pe_mk0 k_Chip_read (pv 3) T.cl_Chip hr (by decide) (pk_cons (pv 9) pk_nil)) (pe_ix (show IxR _ (rIxL K) from ix_list) (pe_dget (Nat.lt_of_le_of_lt (Nat.add_le_add_left (by decide) _) hr.units) (pv 4) pe_str (fun _ _ => rfl)) (pv 9) (fun _ _ => rfl)) (nomark _)))) pa_nil))))))))), ?_⟩
    have S9 : sizeLine = 16777216 := sizeLine_eq
    refine ⟨_, rfl, a, 3, m + 1999, rfl, by decide, by decide, hp, fun d1 H1 B1 P1 d10 d11 => ⟨_, _, rfl, rfl, _, rfl, _, rfl, a, 9, m + 1998, rfl, by decide, by decide, P1, fun d2 H2 B2 P2 d20 d21 => ?_⟩⟩
    obtain ⟨nf, rfl⟩ : ∃ j : Nat, d2 = (j : Int) := ⟨d2.toNat, by omega⟩
    refine ⟨a, nf, 30, m + 1700, rfl, by omega, by decide, P2.mono (by omega), fun t fa H3 B3 P3 nt FT FO lf => ⟨_, _, rfl, ?_⟩⟩
    obtain ⟨bl, hbl, b4, b6⟩ : ∃ j : Nat, 4 + d1 = (j : Int) ∧ 4 ≤ j ∧ j ≤ 6 := ⟨(4 + d1).toNat, by omega, by omega, by omega⟩
    dsimp only
    show tSeq _ _ _ [some (.ref a), some (.int (4 + d1)), some (.ref t), none, none, none, none, none, none, none] H3
    rw [hbl]
    have BA : But a H H3 := (B1.trans B2).trans B3
    have T3 := tabs_pot tb0 hp BA
    clear B1 B2 B3 P1 P2 hbl d10 d11 d20 nt
    refine ⟨_, rfl, _, rfl, rfl, rfl, fun x dx nx ndx ne => ?_⟩
    have S4 : Same H3 (upd (upd H3 dx (.own x)) x (.ins (He.ga K "Chip") dx [])) := (Same.new ndx).trans (Same.new (by rw [upd_ne ne.symm]; exact nx))
    refine ⟨x, dx, t, bl, 4, fa, rfl, upd_same, FT.same S4, FO, b4, by omega, by decide, by decide, fun L H4 K4 n1 n2 n3 n4 n5 C4 => ⟨rfl, ?_⟩⟩
    have S34 : Same H3 H4 := fun b o e => K4 b o (ne_of_none e nx) (S4 b o e)
    have a1 : H3 a ≠ none := pot_some P3
    have a4 : H4 a ≠ none := fun z => a1 (S34.free z)
    have hx1 : ∀ b, L.has x b → H3 b = none := fun b hb => by
      rcases hb with q | q | q | q | q | q <;> subst q
      · exact nx
      · exact S4.free n1
      · exact S4.free n2
      · exact S4.free n4
      · exact S4.free n5
      · exact S4.free n3
    have na : ¬ L.has x a := fun q => a1 (hx1 _ q)
    have b0 : ∀ b, H3 b = none → H b = none := fun b e => BA.none (fun z => a1 (by rw [← z]; exact e)) e
    refine ⟨_, rfl, _, rfl, t, bl, 4, fa, ZofC a x L, rfl, FT.same S34, by omega, by omega, by decide, zof_some a4 C4, fun o H5 S5 no O5 => ⟨by show 2 ≤ sizeLine; omega, fun p6 n6 => ⟨p6, _, rfl, SqT.of upd_same, rfl, _, _, rfl, _, _, rfl, rfl, ?_⟩⟩⟩
    have S36 := (S34.trans S5).trans (Same.new (o := .tup [.ref x, .ref o]) n6)
    have S46 := S5.trans (Same.new (o := .tup [.ref x, .ref o]) n6)
    have I6 : LedI K (ZofC a x L) (upd H5 p6 (.tup [.ref x, .ref o])) (upd H5 p6 (.tup [.ref x, .ref o])) a x L o (fresh bl 4 fa) (m + 1700) 0 := ⟨.refl, T3.ext S36, P3.same S36, C4.same S46, wf_fresh b4 (by omega) (by decide) (by decide) FO, O5.same (Same.new n6), NumB.fresh _ _ _ _, FO, zok_of (P3.same S36) (C4.same S46), na, fun z h => h⟩
    have N6 : ButN a H (upd H5 p6 (.tup [.ref x, .ref o])) := (ButN.of BA).trans (.ofS S36)
    have hx0 : ∀ b u, L.has x b → b ≠ a → (∀ ps, u ≠ HO.tbl ps) → H b = some u → False := fun b u hb _ _ e => by rw [b0 b (hx1 b hb)] at e; cases e
    clear b0 hx1 a4 a1 S34 S36 S46 S4 S5 O5 C4 K4 n1 n2 n3 n4 n5 ne nx ndx T3 P3 BA FT no
    revert I6 N6
    generalize upd H5 p6 (.tup [.ref x, .ref o]) = H6
    intro I6 N6
    dsimp only
    show tSeq (tIfS _ _ _) _ _ [some (.ref a), some (.int (bl : Int)), some (.ref t), some (.ref x), some (.ref o), none, none, none, none, none] H6
    have f2 := told_pair (i := (bl : Int)) (j := 4) (by omega) (by decide)
    refine ⟨_, rfl, x, _, _, rfl, I6.chip.obj, x, L, _, rfl, I6.chip, I6.wf, _, rfl, x, _, _, rfl, I6.chip.obj, x, L, _, rfl, I6.chip, I6.wf, by show 2 ≤ sizeLine; omega, fun p7 n7 => ⟨_, .tuple [.int (bl : Int), .int 4], rfl, .of (.tup (SqT.of upd_same) (.cons (.int (bl : Int)) (.cons (.int 4) .nil))), f2.1, f2.2.1, f2.2.2, _, rfl, by show 2 ≤ sizeLine; omega, fun p8 n8 => ⟨_, .tuple [.int (bl : Int), .int 4], rfl, .of (.tup (SqT.of upd_same) (.cons (.int (bl : Int)) (.cons (.int 4) .nil))), f2.1, f2.2.1, f2.2.2, rfl, _, rfl, ?_⟩⟩⟩
    rw [decide_eq_true rfl]
    refine iteF ?_
    have S8 := (Same.new (o := .tup [.int (bl : Int), .int 4]) n7).trans (Same.new (o := .tup [.int (bl : Int), .int 4]) n8)
    have I8 := I6.same S8
    have nb6 := I6.nb
    refine ⟨_, rfl, _, rfl, x, o, L, fresh bl 4 fa, 0, ZofC a x L, rfl, I8.chip, I8.wf, I8.own, fun z hz => by have := nb6.wear z hz; omega, by have := nb6.done; omega, by have := nb6.cuts; omega, fun H9 S9' => ⟨true, rfl, iteF ?_⟩⟩
    have I9 : LedI K (ZofC a x L) H9 H9 a x L o (fresh bl 4 fa) (m + 1700) 0 := { I8.same S9' with ld := .refl }
    have N9 : ButN a H H9 := N6.trans (.ofS (S8.trans S9'))
    clear I8 I6 N6 S8 S9' n7 n8
    dsimp only [tNext]
    show tSeq (tFor _ _ _) _ _ [some (.ref a), some (.int (bl : Int)), some (.ref t), some (.ref x), some (.ref o), none, none, none, none, none] H9
    refine ⟨30, rfl, by decide, by decide, for_it walk_range (fun i σ H1 => ∃ (c2 : CS) (o2 : Addr) (v5 v6 v7 : Option V), σ = [some (.ref a), some (.int (bl : Int)), some (.ref t), some (.ref x), some (.ref o2), v5, v6, v7, none, none] ∧ c2.bl = bl ∧ c2.pg = 4 ∧ LedI K (ZofC a x L) H9 H1 a x L o2 c2 (m + 1001 + 15 * (30 - i)) i) ⟨_, _, _, _, _, rfl, rfl, rfl, I9.dec (by omega)⟩ (fun _ _ _ _ _ => trivial) ?_ (fun σ H1 hq => ?_)⟩
    · rintro i y σ H1 H1' hi ⟨c2, o2, v5, v6, v7, rfl, f2, f3, I⟩ ⟨rfl, rfl⟩
      have hi30 : i < 30 := hi
      obtain ⟨q, e1, e2⟩ : ∃ q, m + 1001 + 15 * (30 - i) = q + 15 ∧ m + 1001 + 15 * (30 - (i + 1)) = q := ⟨m + 1001 + 15 * (30 - (i + 1)), by omega, rfl⟩
      rw [e1] at I
      rw [gname_eq]
      refine ⟨_, rfl, _, rfl, a, o2, c2, i, q, ZofC a x L, rfl, I.own, I.wf, by omega, .inl rfl, I.pot, fun td d H2 B2 P2 ntd etd hd => ?_⟩
      have I2 := I.but B2 P2
      dsimp only
      rw [gname_eq]
      refine ⟨_, rfl, _, rfl, o2, td, c2, d, i, ZofC a x L, rfl, SqT.of etd, hd, I2.own, by omega, I2.wf, I2.fo, by omega, I2.zo.ne, fun p o3 H3 S3 ep O3 => ?_⟩
      refine ⟨p, _, rfl, SqT.of ep, rfl, _, _, rfl, _, _, rfl, rfl, ?_⟩
      have I3 := I2.same S3
      have etd3 := S3 _ _ etd
      refine ⟨_, rfl, _, rfl, _, rfl, x, td, L, c2, d, rfl, I3.tb, I3.chip, I3.wf, SqT.of etd3, hd, fun H4 B4 T4 C4 => ⟨true, rfl, iteF ?_⟩⟩
      have I4 := I3.deed hd O3 B4 T4 C4
      obtain ⟨w1, w2, w3, w4, _⟩ := behind_wf I.wf hd
      have nb4 := I4.nb
      refine ⟨_, rfl, _, rfl, x, o3, L, (behindC c2 d).1, i + 1, ZofC a x L, rfl, I4.chip, I4.wf, I4.own, fun z hz => by have := nb4.wear z hz; omega, by have := nb4.done; omega, by have := nb4.cuts; omega, fun H5 S5 => ⟨true, rfl, iteF ?_⟩⟩
      exact ⟨_, o3, _, _, _, rfl, w2.trans f2, w3.trans f3, by rw [e2]; exact I4.same S5⟩
    obtain ⟨c, o2, v5, v6, v7, rfl, f2, f3, I⟩ := hq
    have N1 := butN_led N9 I.ld hx0
    have lc : c.cells.length = bl * 4 := by rw [I.wf.lc, f2, f3]
    clear I9 N9
    dsimp only
    refine ⟨_, rfl, _, _, rfl, rfl, .inl ⟨by omega, by omega⟩, _, _, rfl, rfl, _, rfl, _, rfl, _, _, rfl, rfl, .inl ⟨by omega, by omega⟩, a, 4 * bl, m + 1000, rfl, by omega, by omega, I.pot.mono (by omega), fun d H2 B2 P2 d0 d1 => ⟨by show 3 ≤ sizeLine; omega, fun p3 n3 => ?_⟩⟩
    have I3 := (I.but B2 P2).same (Same.new (o := .lst [.int 0, .int (4 * (bl : Int) - 1), .int d]) n3)
    have e3 : (upd H2 p3 (.lst [.int 0, .int (4 * (bl : Int) - 1), .int d])) p3 = some (.lst ([.int 0, .int (4 * (bl : Int) - 1), .int d])) := upd_same
    obtain ⟨j0, j1, j2, ej, l0, l1, l2⟩ : ∃ j0 j1 j2 : Nat, ([V.int 0, V.int (4 * (bl : Int) - 1), V.int d] = [j0, j1, j2].map fun j : Nat => V.int (j : Int)) ∧ j0 < bl * 4 ∧ j1 < bl * 4 ∧ j2 < bl * 4 :=
      ⟨0, 4 * bl - 1, d.toNat, by
        have h1 : ((4 * bl - 1 : Nat) : Int) = 4 * (bl : Int) - 1 := by omega
        have h2 : ((d.toNat : Nat) : Int) = d := by omega
        show _ = [V.int ((0 : Nat) : Int), V.int ((4 * bl - 1 : Nat) : Int), V.int ((d.toNat : Nat) : Int)]
        rw [h1, h2]
        rfl, by omega, by omega, by omega⟩
    have N3 : ButN a H (upd H2 p3 (.lst [.int 0, .int (4 * (bl : Int) - 1), .int d])) := (N1.trans (.of B2)).trans (.ofS (Same.new n3))
    revert I3 e3 N3
    dsimp only
    rw [gname_eq]
    generalize upd H2 p3 (.lst [.int 0, .int (4 * (bl : Int) - 1), .int d]) = H3
    intro I3 e3 N3
    rw [ej] at e3
    obtain ⟨A3, ws3, hoA3, _⟩ := I3.own.ex
    refine ⟨_, rfl, p3, rfl, ⟨_, SqL.of e3⟩, fun D hD => lc_pure (walk_list (xs := [j0, j1, j2].map fun j : Nat => V.int (j : Int))) (fun j => true) (fun j => V.bl true) hD (by show 3 ≤ _; omega) (fun H4 s4 => SqL.of (s4 _ _ e3)) (fun j y H4 H4' N N0 hj s4 hy h1 h2 => ?_) ?_⟩
    · obtain ⟨rfl, hv⟩ := hy
      obtain ⟨k3, hk3, rfl⟩ : ∃ k3 : Nat, k3 < bl * 4 ∧ y = V.int (k3 : Int) := by
        have hj3 : j < 3 := hj
        rcases (show j = 0 ∨ j = 1 ∨ j = 2 by omega) with rfl | rfl | rfl
        · exact ⟨j0, l0, (Option.some.inj hv).symm⟩
        · exact ⟨j1, l1, (Option.some.inj hv).symm⟩
        · exact ⟨j2, l2, (Option.some.inj hv).symm⟩
      have I4 := I3.same s4
      have ho4 := hoA3.same s4
      have ek : c.cells[k3]? = some c.cells[k3] := List.getElem?_eq_getElem (by omega)
      refine ⟨rfl, yes_of ?_⟩
      refine ⟨_, rfl, x, _, _, rfl, I4.chip.obj, rfl, _, rfl, rfl, x, L, c, k3, _, rfl, I4.chip, I4.wf, ek, ?_⟩
      refine ⟨_, rfl, o2, _, rfl, og_cells ho4, _, rfl, A3.cl, _, _, _, rfl, rfl, SqL.of ho4.cl, atI_nat (by rw [List.getElem?_map, ek]; rfl), rfl, ?_⟩
      rw [decide_eq_true rfl]
      exact h1 _ (Same.refl _) rfl
    intro H4 s4 hL4
    refine ⟨D, ((List.range ([j0, j1, j2].map fun j : Nat => V.int (j : Int)).length).filter fun j => true).map fun _ => true, rfl, SqL.of (by rw [List.map_map]; exact hL4), ?_⟩
    rw [show ∀ l : List Nat, (l.map fun _ => true).all id = true from fun l => List.all_eq_true.mpr fun b hb => by obtain ⟨_, _, rfl⟩ := List.mem_map.mp hb; rfl]
    exact k H4 (N3.trans (.ofS s4)) (I3.tb.ext s4)
theorem ok_law {f : Addr} {fd : FuncData} (T : Txt K w mg) (F : FD K "law" s_law f fd) (hm : mg "law" = some (.ref f)) (c_law_right : Cg P w K mg base 10 "_law_right" ["pot"] (sp_law_right K)) (c_law_pot : Cg P w K mg base 1 "_law_pot" ["script", "place"] (sp_law_pot K)) (c_law_cells : Cg P w K mg base 1 "_law_cells" ["script", "most"] (sp_law_cells K)) : Cg P w K mg base 11 "law" ["script"] (sp_law K) := by
  refine cg_of F hm sc_law (fun vs H Q E h => ?_) (fun _ _ _ _ _ _ us hl => match us, hl with | [_], _ => rfl) (fun _ _ _ _ _ _ us hl => match us, hl with | [_], _ => rfl) (fun cdv A outer s H vs Q E hG hr h => ?_)
  · obtain ⟨a, ns, rfl, _⟩ := h
    rfl
  · obtain ⟨a, ns, rfl, tb, hx, k⟩ := h
    refine ⟨_, (pss_one (ps_ret (pe_callB (cr_all rfl) (by rfl) T.f_all (by decide +kernel) (pa_cons (pe_lc (own := [("place", 1)]) rfl sc_law.nd (pi_list (pe_g c_law_cells hG hr (by decide) rfl (pa_cons (pv 0) (pa_cons pe_int pa_nil)))) (blkOk_by (N := ["script", "place"]) (sc := defScope s_law) (by decide +kernel)) (fun _ _ _ _ _ => (pg_name (i := 1) sc_law.nd rfl (Or.inl rfl))) (fun _ _ _ _ _ => pts_nil) (fun _ _ _ _ _ => (pe_g c_law_right hG hr (by decide) rfl (pa_cons (pe_g c_law_pot hG hr (by decide) rfl (pa_cons (pv 0) (pa_cons (pv 1) pa_nil))) pa_nil)))) pa_nil)))), ?_⟩
    refine ⟨_, rfl, a, ns, 2, rfl, hx, by decide, by decide, fun n q H2 hn hS hq hL => ⟨q, rfl, ⟨_, SqL.of hL⟩, fun D hD => lc_it (walk_list (xs := (List.range n).map fun i => V.int (i : Nat))) (fun i H1 => ExtN H2 H1 ∧ Tabs (tabsC K) H1 ∧ H1 D = some (.lst ((List.replicate i true).map V.bl))) ⟨ExtN.put (ExtN.refl _) hD, (tb.ext hS).ext (Same.new hD), upd_same⟩ (fun i H1 _ h => SqL.of (h.1 _ _ hL (fun ps z => nomatch z))) ?_ ?_⟩⟩
    · rintro i x H3 H4 hi ⟨x1, x2, x3⟩ ⟨rfl, hv⟩
      rw [List.length_map, List.length_range] at hi
      rw [List.getElem?_map, List.getElem?_range hi] at hv
      have hv2 := Option.some.inj hv
      subst hv2
      refine ⟨rfl, yes_of ?_⟩
      have hx4 : SqL K H4 a (ns.map V.int) := ext_l ((Same.ext hS).trans x1) hx
      refine ⟨_, rfl, _, rfl, a, ns, i, rfl, hx4, by omega, fun p H5 S5 np hp => ⟨p, 7000, rfl, x2.ext S5, hp, fun H6 B6 T6 => ?_⟩⟩
      have h6 : H6 D = some (.lst ((List.replicate i true).map V.bl)) := B6 _ _ (ne_of_none x3 np) (fun ps z => by cases z) (S5 _ _ x3)
      refine ⟨_, h6, by rw [List.length_map, List.length_replicate, sizeLine_eq]; omega, fun b o e nt => ?_, tabs_but T6 h6 But.put, ?_⟩
      · rw [upd_ne (ne_of_none e hD)]
        have e3 := x1 b o e nt
        exact B6 _ _ (ne_of_none e3 np) nt (S5 _ _ e3)
      · rw [upd_same, List.replicate_succ', List.map_append]
        rfl
    · rintro H3 ⟨_, _, x3⟩
      refine ⟨D, _, rfl, SqL.of x3, ?_⟩
      rw [show ∀ m : Nat, (List.replicate m true).all id = true from fun m => List.all_eq_true.mpr fun b hb => List.eq_of_mem_replicate hb]
      exact k _
end
/-! ### the head: facts by names, the run -/
def dflA (K : PySem.W.Frag) : Addr := match K.lookup (He.fAd K ("Chip", some "__init__")) with
  | some o => (match o.data with
    | .func fd => (match fd.defaults with
      | .ref T => (match K.lookup T with
        | some o2 => (match o2.data with
          | .seq its _ => (match its.toList with
            | .ref a :: _ => a
            | _ => 0)
          | _ => 0)
        | none => 0)
      | _ => 0)
    | _ => 0)
  | none => 0
def d_is_integer : He.DefD := ⟨("is_integer", none), "is_integer", "is_integer", defArgs s_is_integer, defBody s_is_integer, defScope s_is_integer, [], []⟩
def d_is_between : He.DefD := ⟨("is_between", none), "is_between", "is_between", defArgs s_is_between, defBody s_is_between, defScope s_is_between, [], []⟩
def d_has_only : He.DefD := ⟨("has_only", none), "has_only", "has_only", defArgs s_has_only, defBody s_has_only, defScope s_has_only, [], []⟩
def d_are_cells : He.DefD := ⟨("are_cells", none), "are_cells", "are_cells", defArgs s_are_cells, defBody s_are_cells, defScope s_are_cells, [], []⟩
def d_is_pattern : He.DefD := ⟨("is_pattern", none), "is_pattern", "is_pattern", defArgs s_is_pattern, defBody s_is_pattern, defScope s_is_pattern, [], []⟩
def d_is_cell : He.DefD := ⟨("is_cell", none), "is_cell", "is_cell", defArgs s_is_cell, defBody s_is_cell, defScope s_is_cell, [], []⟩
def d_is_page : He.DefD := ⟨("is_page", none), "is_page", "is_page", defArgs s_is_page, defBody s_is_page, defScope s_is_page, [], []⟩
def d_is_fault : He.DefD := ⟨("is_fault", none), "is_fault", "is_fault", defArgs s_is_fault, defBody s_is_fault, defScope s_is_fault, [], []⟩
def d_are_faults : He.DefD := ⟨("are_faults", none), "are_faults", "are_faults", defArgs s_are_faults, defBody s_are_faults, defScope s_are_faults, [], []⟩
def d_torn : He.DefD := ⟨("torn", none), "torn", "torn", defArgs s_torn, defBody s_torn, defScope s_torn, [], []⟩
def d_Chip___init__ : He.DefD := ⟨("Chip", some "__init__"), "__init__", "Chip.__init__", defArgs s_Chip___init__, defBody s_Chip___init__, defScope s_Chip___init__, [.adr dflA], []⟩
def g_Chip_blocks : GetD := ⟨"Chip", "blocks", "blocks", "Chip.blocks", defArgs s_Chip_blocks, defBody s_Chip_blocks, defScope s_Chip_blocks⟩
def g_Chip_pages : GetD := ⟨"Chip", "pages", "pages", "Chip.pages", defArgs s_Chip_pages, defBody s_Chip_pages, defScope s_Chip_pages⟩
def g_Chip_wear : GetD := ⟨"Chip", "wear", "wear", "Chip.wear", defArgs s_Chip_wear, defBody s_Chip_wear, defScope s_Chip_wear⟩
def g_Chip_bad : GetD := ⟨"Chip", "bad", "bad", "Chip.bad", defArgs s_Chip_bad, defBody s_Chip_bad, defScope s_Chip_bad⟩
def g_Chip_done : GetD := ⟨"Chip", "done", "done", "Chip.done", defArgs s_Chip_done, defBody s_Chip_done, defScope s_Chip_done⟩
def g_Chip_cuts : GetD := ⟨"Chip", "cuts", "cuts", "Chip.cuts", defArgs s_Chip_cuts, defBody s_Chip_cuts, defScope s_Chip_cuts⟩
def g_Chip_is_on : GetD := ⟨"Chip", "is_on", "is_on", "Chip.is_on", defArgs s_Chip_is_on, defBody s_Chip_is_on, defScope s_Chip_is_on⟩
def d_Chip_read : He.DefD := ⟨("Chip", some "read"), "read", "Chip.read", defArgs s_Chip_read, defBody s_Chip_read, defScope s_Chip_read, [], []⟩
def d_Chip_write : He.DefD := ⟨("Chip", some "write"), "write", "Chip.write", defArgs s_Chip_write, defBody s_Chip_write, defScope s_Chip_write, [], []⟩
def d_Chip_erase : He.DefD := ⟨("Chip", some "erase"), "erase", "Chip.erase", defArgs s_Chip_erase, defBody s_Chip_erase, defScope s_Chip_erase, [], []⟩
def d_Chip_again : He.DefD := ⟨("Chip", some "again"), "again", "Chip.again", defArgs s_Chip_again, defBody s_Chip_again, defScope s_Chip_again, [], []⟩
def d_Chip_fade : He.DefD := ⟨("Chip", some "fade"), "fade", "Chip.fade", defArgs s_Chip_fade, defBody s_Chip_fade, defScope s_Chip_fade, [], []⟩
def d_Chip_image : He.DefD := ⟨("Chip", some "image"), "image", "Chip.image", defArgs s_Chip_image, defBody s_Chip_image, defScope s_Chip_image, [], []⟩
def d_Chip__check_place : He.DefD := ⟨("Chip", some "_check_place"), "_check_place", "Chip._check_place", defArgs s_Chip__check_place, defBody s_Chip__check_place, defScope s_Chip__check_place, [], []⟩
def d_Chip__may_fall : He.DefD := ⟨("Chip", some "_may_fall"), "_may_fall", "Chip._may_fall", defArgs s_Chip__may_fall, defBody s_Chip__may_fall, defScope s_Chip__may_fall, [], []⟩
def d_Chip__next_deed : He.DefD := ⟨("Chip", some "_next_deed"), "_next_deed", "Chip._next_deed", defArgs s_Chip__next_deed, defBody s_Chip__next_deed, defScope s_Chip__next_deed, [], []⟩
def d_Chip__deed_told : He.DefD := ⟨("Chip", some "_deed_told"), "_deed_told", "Chip._deed_told", defArgs s_Chip__deed_told, defBody s_Chip__deed_told, defScope s_Chip__deed_told, [], []⟩
def d_law_pot : He.DefD := ⟨("_law_pot", none), "_law_pot", "_law_pot", defArgs s_law_pot, defBody s_law_pot, defScope s_law_pot, [], []⟩
def d_law_take : He.DefD := ⟨("_law_take", none), "_law_take", "_law_take", defArgs s_law_take, defBody s_law_take, defScope s_law_take, [], []⟩
def d_law_of : He.DefD := ⟨("_law_of", none), "_law_of", "_law_of", defArgs s_law_of, defBody s_law_of, defScope s_law_of, [], []⟩
def d_law_some : He.DefD := ⟨("_law_some", none), "_law_some", "_law_some", defArgs s_law_some, defBody s_law_some, defScope s_law_some, [], []⟩
def d_law_cells : He.DefD := ⟨("_law_cells", none), "_law_cells", "_law_cells", defArgs s_law_cells, defBody s_law_cells, defScope s_law_cells, [], []⟩
def d_law_heard : He.DefD := ⟨("_law_heard", none), "_law_heard", "_law_heard", defArgs s_law_heard, defBody s_law_heard, defScope s_law_heard, [], []⟩
def d_law_is_int : He.DefD := ⟨("_law_is_int", none), "_law_is_int", "_law_is_int", defArgs s_law_is_int, defBody s_law_is_int, defScope s_law_is_int, [], []⟩
def d_law_chip_begun : He.DefD := ⟨("_law_chip_begun", none), "_law_chip_begun", "_law_chip_begun", defArgs s_law_chip_begun, defBody s_law_chip_begun, defScope s_law_chip_begun, [], []⟩
def d_law_chip_is_cells : He.DefD := ⟨("_law_chip_is_cells", none), "_law_chip_is_cells", "_law_chip_is_cells", defArgs s_law_chip_is_cells, defBody s_law_chip_is_cells, defScope s_law_chip_is_cells, [], []⟩
def d_law_chip_torn : He.DefD := ⟨("_law_chip_torn", none), "_law_chip_torn", "_law_chip_torn", defArgs s_law_chip_torn, defBody s_law_chip_torn, defScope s_law_chip_torn, [], []⟩
def d_law_chip_fault : He.DefD := ⟨("_law_chip_fault", none), "_law_chip_fault", "_law_chip_fault", defArgs s_law_chip_fault, defBody s_law_chip_fault, defScope s_law_chip_fault, [], []⟩
def d_law_chip_deed : He.DefD := ⟨("_law_chip_deed", none), "_law_chip_deed", "_law_chip_deed", defArgs s_law_chip_deed, defBody s_law_chip_deed, defScope s_law_chip_deed, [], []⟩
def d_law_chip_written : He.DefD := ⟨("_law_chip_written", none), "_law_chip_written", "_law_chip_written", defArgs s_law_chip_written, defBody s_law_chip_written, defScope s_law_chip_written, [], []⟩
def d_law_chip_erased : He.DefD := ⟨("_law_chip_erased", none), "_law_chip_erased", "_law_chip_erased", defArgs s_law_chip_erased, defBody s_law_chip_erased, defScope s_law_chip_erased, [], []⟩
def d_law_chip_can_fade : He.DefD := ⟨("_law_chip_can_fade", none), "_law_chip_can_fade", "_law_chip_can_fade", defArgs s_law_chip_can_fade, defBody s_law_chip_can_fade, defScope s_law_chip_can_fade, [], []⟩
def d_law_chip_faded : He.DefD := ⟨("_law_chip_faded", none), "_law_chip_faded", "_law_chip_faded", defArgs s_law_chip_faded, defBody s_law_chip_faded, defScope s_law_chip_faded, [], []⟩
def d_law_chip_is_told : He.DefD := ⟨("_law_chip_is_told", none), "_law_chip_is_told", "_law_chip_is_told", defArgs s_law_chip_is_told, defBody s_law_chip_is_told, defScope s_law_chip_is_told, [], []⟩
def d_law_chip_pattern : He.DefD := ⟨("_law_chip_pattern", none), "_law_chip_pattern", "_law_chip_pattern", defArgs s_law_chip_pattern, defBody s_law_chip_pattern, defScope s_law_chip_pattern, [], []⟩
def d_law_chip_page : He.DefD := ⟨("_law_chip_page", none), "_law_chip_page", "_law_chip_page", defArgs s_law_chip_page, defBody s_law_chip_page, defScope s_law_chip_page, [], []⟩
def d_law_chip_faults : He.DefD := ⟨("_law_chip_faults", none), "_law_chip_faults", "_law_chip_faults", defArgs s_law_chip_faults, defBody s_law_chip_faults, defScope s_law_chip_faults, [], []⟩
def d_law_deed_drawn : He.DefD := ⟨("_law_deed_drawn", none), "_law_deed_drawn", "_law_deed_drawn", defArgs s_law_deed_drawn, defBody s_law_deed_drawn, defScope s_law_deed_drawn, [], []⟩
def d_law_behind : He.DefD := ⟨("_law_behind", none), "_law_behind", "_law_behind", defArgs s_law_behind, defBody s_law_behind, defScope s_law_behind, [], []⟩
def d_law_call : He.DefD := ⟨("_law_call", none), "_law_call", "_law_call", defArgs s_law_call, defBody s_law_call, defScope s_law_call, [], []⟩
def d_law_is_done : He.DefD := ⟨("_law_is_done", none), "_law_is_done", "_law_is_done", defArgs s_law_is_done, defBody s_law_is_done, defScope s_law_is_done, [], []⟩
def d_law_right : He.DefD := ⟨("_law_right", none), "_law_right", "_law_right", defArgs s_law_right, defBody s_law_right, defScope s_law_right, [], []⟩
def d_law : He.DefD := ⟨("law", none), "law", "law", defArgs s_law, defBody s_law, defScope s_law, [], []⟩
def gs : List GetD := [g_Chip_blocks, g_Chip_pages, g_Chip_wear, g_Chip_bad, g_Chip_done, g_Chip_cuts, g_Chip_is_on]
def d__init : He.DefD := ⟨("FlashError", some "__init__"), "__init__", "FlashError.__init__", defArgs s_xinit, defBody s_xinit, defScope s_xinit, [], []⟩
def fn1 : List He.DefD := [d_is_integer, d_is_between, d_has_only, d_are_cells, d_is_pattern, d_is_cell, d_is_page, d_is_fault, d_are_faults, d_torn, d_Chip___init__, d_Chip_read] ++ [d_Chip_write, d_Chip_erase, d_Chip_again, d_Chip_fade]
def fn2 : List He.DefD := [d_Chip_image, d_Chip__check_place, d_Chip__may_fall, d_Chip__next_deed, d_Chip__deed_told, d_law_pot, d_law_take, d_law_of, d_law_some, d_law_cells, d_law_heard, d_law_is_int] ++ [d_law_chip_begun, d_law_chip_is_cells, d_law_chip_torn, d_law_chip_fault]
def fn3 : List He.DefD := [d_law_chip_deed, d_law_chip_written, d_law_chip_erased, d_law_chip_can_fade, d_law_chip_faded, d_law_chip_is_told, d_law_chip_pattern, d_law_chip_page, d_law_chip_faults, d_law_deed_drawn, d_law_behind, d_law_call] ++ [d_law_is_done, d_law_right, d_law, d__init]
def fn4 : List He.DefD := []
def fn : List He.DefD := fn1 ++ (fn2 ++ (fn3 ++ (fn4)))
def fa1 : List He.Fa := [.glo "is_integer", .glo "is_between", .glo "has_only", .glo "are_cells", .glo "is_pattern", .glo "is_cell", .glo "is_page", .glo "is_fault", .glo "are_faults", .glo "torn", .glo "_law_pot", .glo "_law_take"] ++ [.glo "_law_of", .glo "_law_some", .glo "_law_cells", .glo "_law_heard", .glo "_law_is_int", .glo "_law_chip_begun", .glo "_law_chip_is_cells", .glo "_law_chip_torn", .glo "_law_chip_fault", .glo "_law_chip_deed", .glo "_law_chip_written", .glo "_law_chip_erased"] ++ [.glo "_law_chip_can_fade", .glo "_law_chip_faded", .glo "_law_chip_is_told", .glo "_law_chip_pattern", .glo "_law_chip_page"]
def fa2 : List He.Fa := [.glo "_law_chip_faults", .glo "_law_deed_drawn", .glo "_law_behind", .glo "_law_call", .glo "_law_is_done", .glo "_law_right", .glo "law", .glo "Chip", .cls "Chip", .mkr "Chip", .noat "Chip" "_blocks", .noat "Chip" "_pages"] ++ [.noat "Chip" "_faults", .noat "Chip" "_fault_at", .noat "Chip" "_cells", .noat "Chip" "_stands", .noat "Chip" "_texts", .noat "Chip" "_wear", .noat "Chip" "_is_bad", .noat "Chip" "_done", .noat "Chip" "_cuts", .noat "Chip" "_has_current", .meth "Chip" "read", .meth "Chip" "write"] ++ [.meth "Chip" "erase", .meth "Chip" "again", .meth "Chip" "fade", .meth "Chip" "image", .meth "Chip" "_check_place"]
def fa3 : List He.Fa := [.meth "Chip" "_may_fall", .meth "Chip" "_next_deed", .meth "Chip" "_deed_told", .glo "FlashError", .glo "Cut", .glo "BadFade", .free "isinstance", .free "int", .free "bool", .free "str", .free "len", .free "tuple"] ++ [.free "max", .free "zip", .free "range", .free "abs", .free "sum", .free "list", .free "min", .free "all", .free "enumerate", .free "dict", .free "sorted", .free "repr"] ++ [.str "CELLS" (SX.S [48, 49, 50, 51, 52, 53, 54, 55, 56, 57, 97, 98, 99, 100, 101, 102]), .int "PAGE_CELLS" 256, .str "EMPTY_PAGE" (SX.S (List.replicate 256 102)), .str "NO_FAULT" (SX.S [])]
def fa4 : List He.Fa := []
def fa : List He.Fa := fa1 ++ (fa2 ++ (fa3 ++ (fa4)))
def ts : List He.Tab := []
def ex (K : PySem.W.Frag) : Bool := exFB K (He.ga K "Cut") (He.fAd K ("FlashError", some "__init__")) && (exFB K (He.ga K "BadFade") (He.fAd K ("FlashError", some "__init__")) && (decide (PySem.W.exmOne K (.ref (He.ga K "Cut")) (.ref (He.ga K "FlashError")) = some true) && (decide (PySem.W.exmOne K (.ref (He.ga K "BadFade")) (.ref (He.ga K "FlashError")) = some true) && (decide (PySem.W.kitOne K (.ref (He.ga K "Cut")) (.ref (He.ga K "Cut")) = some true) && (decide (PySem.W.kitOne K (.type "NoneType") (.ref (He.ga K "Cut")) = some false) && (decide (PySem.W.kitOne K (.ref (He.ga K "BadFade")) (.ref (He.ga K "BadFade")) = some true)))))))
def tf : List He.Defn := [("_law_call", none)]
abbrev R : PySem.W.OpenRow := PySem.W.OpenLaw.row PySem.Challenge.rw_worneven_k00_whole_chips_deed_by_deed
abbrev hk : PySem.W.Hook := hookZ 5 fa fn ts tf gs ex
def ob (s : PySem.W.SharedT) : AlZ := obsZ 5 fa fn ts tf gs ex (HandSHeadRun.getT s)
theorem ob_eq (s : PySem.W.SharedT) : ob s = hk.obs s.abs := obsZ_eq (HandSHeadRun.getT_eq s)
def loose1 : List Str := (["_wall", "__name__", "FlashError", "BadSize", "BadFaults", "BadPlace", "BadCells", "NotEmpty", "Cut", "BadBlock", "BadFade", "CELLS"] : List Str) ++ (["SIGNS", "PAGE_CELLS", "EMPTY_PAGE", "is_integer", "is_between", "has_only", "are_cells", "is_pattern", "is_cell", "is_page", "TEXT_CELLS", "LACKS"] : List Str) ++ (["sums_of", "twice", "page_of", "sign_of", "text_in", "lifted", "told_by", "opened", "text_told", "NO_FAULT", "is_fault", "are_faults"] : List Str) ++ (["torn", "Chip", "_law_pot", "_law_take", "_law_of", "_law_some", "_law_cells", "_law_heard", "_law_is_int", "_law_chip_begun", "_law_chip_is_cells", "_law_chip_torn"] : List Str) ++ (["_law_chip_fault", "_law_chip_deed", "_law_chip_written", "_law_chip_erased", "_law_chip_can_fade", "_law_chip_faded", "_law_chip_is_told", "_law_chip_pattern", "_law_chip_page", "_law_chip_faults", "_law_deed_drawn", "_law_behind"] : List Str) ++ (["_law_call", "_law_is_done", "_law_right"] : List Str)
theorem runLA (w : World) : RunL R (PySem.W.view R.prog [67]) 6000 loose1 (w.withFollow "special-get-raises" false) := by
  intro os
  kernel_rfl
theorem run1A (w : World) : RunP R 6000 5 fa1 fn1 [] [] [] (fun _ => true) (w.withFollow "special-get-raises" false) := by
  intro os
  kernel_rfl
theorem run2A (w : World) : RunP R 6000 5 fa2 fn2 [] [] [] (fun _ => true) (w.withFollow "special-get-raises" false) := by
  intro os
  kernel_rfl
theorem run3A (w : World) : RunP R 6000 5 fa3 fn3 [] [] [] (fun _ => true) (w.withFollow "special-get-raises" false) := by
  intro os
  kernel_rfl
theorem run4A (w : World) : RunP R 6000 5 fa4 fn4 ts tf gs ex (w.withFollow "special-get-raises" false) := by
  intro os
  kernel_rfl
theorem runA (w : World) : HandSHeadRun.RunEq R (PySem.W.view R.prog [67]) hk ob 6000 loose1 (w.withFollow "special-get-raises" false) := runEq_of (runLA w) ((run1A w).app ((run2A w).app ((run3A w).app (run4A w))))
theorem runLB (w : World) : RunL R (PySem.W.view R.prog [67]) 6000 loose1 (w.withFollow "special-get-raises" true) := by
  intro os
  kernel_rfl
theorem run1B (w : World) : RunP R 6000 5 fa1 fn1 [] [] [] (fun _ => true) (w.withFollow "special-get-raises" true) := by
  intro os
  kernel_rfl
theorem run2B (w : World) : RunP R 6000 5 fa2 fn2 [] [] [] (fun _ => true) (w.withFollow "special-get-raises" true) := by
  intro os
  kernel_rfl
theorem run3B (w : World) : RunP R 6000 5 fa3 fn3 [] [] [] (fun _ => true) (w.withFollow "special-get-raises" true) := by
  intro os
  kernel_rfl
theorem run4B (w : World) : RunP R 6000 5 fa4 fn4 ts tf gs ex (w.withFollow "special-get-raises" true) := by
  intro os
  kernel_rfl
theorem runB (w : World) : HandSHeadRun.RunEq R (PySem.W.view R.prog [67]) hk ob 6000 loose1 (w.withFollow "special-get-raises" true) := runEq_of (runLB w) ((run1B w).app ((run2B w).app ((run3B w).app (run4B w))))
theorem run (w : World) : HandSHeadRun.RunEq R (PySem.W.view R.prog [67]) hk ob 6000 loose1 w := PySem.W.byRow2 "special-get-raises" (P := HandSHeadRun.RunEq R (PySem.W.view R.prog [67]) hk ob 6000 loose1) runA runB w
section
variable {P : Program} {w : World} {K : PySem.W.Frag} {h : Heap} {mg : Str → Option Value}
theorem ok_init {base : Heap} {f : Addr} {fd : FuncData} (F : FunD K "__init__" "FlashError.__init__" (defArgs s_xinit) (defBody s_xinit) (defScope s_xinit) [] [] f fd) : FnOk P w K mg base CX0 1 f fd ["self", "value"] (spEinit K) := by
  refine F.ok sc_xinit (fun vs H Q E h => ?_) (fun cdv A outer s H vs Q E hr h => ?_)
  · obtain ⟨a, C, v, rfl, _⟩ := h
    rfl
  · obtain ⟨a, C, v, rfl, T, nv, ha, k⟩ := h
    exact ⟨_, pss_one (ps_ost (pv 0) (pv 1)), ⟨_, rfl, _, rfl, a, C, rfl, T, nv, .inl ⟨ha, fun dx hd hne => k dx hd hne⟩⟩⟩
theorem more_of (c : SaysZ fa fn ts tf gs ex w h K) : (exFB K (He.ga K "Cut") (He.fAd K ("FlashError", some "__init__"))) = true ∧ (exFB K (He.ga K "BadFade") (He.fAd K ("FlashError", some "__init__"))) = true ∧ (decide (PySem.W.exmOne K (.ref (He.ga K "Cut")) (.ref (He.ga K "FlashError")) = some true)) = true ∧ (decide (PySem.W.exmOne K (.ref (He.ga K "BadFade")) (.ref (He.ga K "FlashError")) = some true)) = true ∧ (decide (PySem.W.kitOne K (.ref (He.ga K "Cut")) (.ref (He.ga K "Cut")) = some true)) = true ∧ (decide (PySem.W.kitOne K (.type "NoneType") (.ref (He.ga K "Cut")) = some false)) = true ∧ (decide (PySem.W.kitOne K (.ref (He.ga K "BadFade")) (.ref (He.ga K "BadFade")) = some true)) = true := by
  obtain ⟨y0, m0⟩ := He.ba (show (exFB K (He.ga K "Cut") (He.fAd K ("FlashError", some "__init__")) && (exFB K (He.ga K "BadFade") (He.fAd K ("FlashError", some "__init__")) && (decide (PySem.W.exmOne K (.ref (He.ga K "Cut")) (.ref (He.ga K "FlashError")) = some true) && (decide (PySem.W.exmOne K (.ref (He.ga K "BadFade")) (.ref (He.ga K "FlashError")) = some true) && (decide (PySem.W.kitOne K (.ref (He.ga K "Cut")) (.ref (He.ga K "Cut")) = some true) && (decide (PySem.W.kitOne K (.type "NoneType") (.ref (He.ga K "Cut")) = some false) && (decide (PySem.W.kitOne K (.ref (He.ga K "BadFade")) (.ref (He.ga K "BadFade")) = some true)))))))) = true from c.x.more)
  obtain ⟨y1, m1⟩ := He.ba (show (exFB K (He.ga K "BadFade") (He.fAd K ("FlashError", some "__init__")) && (decide (PySem.W.exmOne K (.ref (He.ga K "Cut")) (.ref (He.ga K "FlashError")) = some true) && (decide (PySem.W.exmOne K (.ref (He.ga K "BadFade")) (.ref (He.ga K "FlashError")) = some true) && (decide (PySem.W.kitOne K (.ref (He.ga K "Cut")) (.ref (He.ga K "Cut")) = some true) && (decide (PySem.W.kitOne K (.type "NoneType") (.ref (He.ga K "Cut")) = some false) && (decide (PySem.W.kitOne K (.ref (He.ga K "BadFade")) (.ref (He.ga K "BadFade")) = some true))))))) = true from m0)
  obtain ⟨y2, m2⟩ := He.ba (show (decide (PySem.W.exmOne K (.ref (He.ga K "Cut")) (.ref (He.ga K "FlashError")) = some true) && (decide (PySem.W.exmOne K (.ref (He.ga K "BadFade")) (.ref (He.ga K "FlashError")) = some true) && (decide (PySem.W.kitOne K (.ref (He.ga K "Cut")) (.ref (He.ga K "Cut")) = some true) && (decide (PySem.W.kitOne K (.type "NoneType") (.ref (He.ga K "Cut")) = some false) && (decide (PySem.W.kitOne K (.ref (He.ga K "BadFade")) (.ref (He.ga K "BadFade")) = some true)))))) = true from m1)
  obtain ⟨y3, m3⟩ := He.ba (show (decide (PySem.W.exmOne K (.ref (He.ga K "BadFade")) (.ref (He.ga K "FlashError")) = some true) && (decide (PySem.W.kitOne K (.ref (He.ga K "Cut")) (.ref (He.ga K "Cut")) = some true) && (decide (PySem.W.kitOne K (.type "NoneType") (.ref (He.ga K "Cut")) = some false) && (decide (PySem.W.kitOne K (.ref (He.ga K "BadFade")) (.ref (He.ga K "BadFade")) = some true))))) = true from m2)
  obtain ⟨y4, m4⟩ := He.ba (show (decide (PySem.W.kitOne K (.ref (He.ga K "Cut")) (.ref (He.ga K "Cut")) = some true) && (decide (PySem.W.kitOne K (.type "NoneType") (.ref (He.ga K "Cut")) = some false) && (decide (PySem.W.kitOne K (.ref (He.ga K "BadFade")) (.ref (He.ga K "BadFade")) = some true)))) = true from m3)
  obtain ⟨y5, m5⟩ := He.ba (show (decide (PySem.W.kitOne K (.type "NoneType") (.ref (He.ga K "Cut")) = some false) && (decide (PySem.W.kitOne K (.ref (He.ga K "BadFade")) (.ref (He.ga K "BadFade")) = some true))) = true from m4)
  exact ⟨y0, y1, y2, y3, y4, y5, m5⟩
theorem txt_of (X : K.In h) (G : h.Ns mainGlobals mg) (c : SaysZ fa fn ts tf gs ex w h K) : Txt K w mg := by
  have d := c.x.t.d
  obtain ⟨y0, y1, y2, y3, y4, y5, y6⟩ := more_of c
  exact ⟨(He.free_ok X G (d.fact 64 (f := .free "isinstance") rfl)),
    (He.free_ok X G (d.fact 65 (f := .free "int") rfl)),
    (He.free_ok X G (d.fact 66 (f := .free "bool") rfl)),
    (He.free_ok X G (d.fact 67 (f := .free "str") rfl)),
    (He.free_ok X G (d.fact 68 (f := .free "len") rfl)),
    (He.free_ok X G (d.fact 69 (f := .free "tuple") rfl)),
    (He.free_ok X G (d.fact 70 (f := .free "max") rfl)),
    (He.free_ok X G (d.fact 71 (f := .free "zip") rfl)),
    (He.free_ok X G (d.fact 72 (f := .free "range") rfl)),
    (He.free_ok X G (d.fact 73 (f := .free "abs") rfl)),
    (He.free_ok X G (d.fact 74 (f := .free "sum") rfl)),
    (He.free_ok X G (d.fact 75 (f := .free "list") rfl)),
    (He.free_ok X G (d.fact 76 (f := .free "min") rfl)),
    (He.free_ok X G (d.fact 77 (f := .free "all") rfl)),
    (He.free_ok X G (d.fact 78 (f := .free "enumerate") rfl)),
    (He.free_ok X G (d.fact 79 (f := .free "dict") rfl)),
    (He.free_ok X G (d.fact 80 (f := .free "sorted") rfl)),
    (He.free_ok X G (d.fact 81 (f := .free "repr") rfl)),
    (let ⟨t, e⟩ := He.str_ok X G (d.fact 82 (f := .str "CELLS" (SX.S [48, 49, 50, 51, 52, 53, 54, 55, 56, 57, 97, 98, 99, 100, 101, 102])) rfl); ⟨_, e, t, rfl⟩),
    (let ⟨t, e⟩ := He.int_ok X G (d.fact 83 (f := .int "PAGE_CELLS" 256) rfl); ⟨_, e, t, rfl⟩),
    (let ⟨t, e⟩ := He.str_ok X G (d.fact 84 (f := .str "EMPTY_PAGE" (SX.S (List.replicate 256 102))) rfl); ⟨_, e, t, rfl⟩),
    (let ⟨t, e⟩ := He.str_ok X G (d.fact 85 (f := .str "NO_FAULT" (SX.S [])) rfl); ⟨_, e, t, rfl⟩),
    (He.glo_ok X G (d.fact 61 (f := .glo "FlashError") rfl)),
    (He.glo_ok X G (d.fact 62 (f := .glo "Cut") rfl)),
    (He.glo_ok X G (d.fact 63 (f := .glo "BadFade") rfl)),
    (He.glo_ok X G (d.fact 36 (f := .glo "Chip") rfl)),
    (He.cls_ok (d.fact 37 (f := .cls "Chip") rfl)),
    (He.noat_ok (d.fact 39 (f := .noat "Chip" "_blocks") rfl)),
    (He.noat_ok (d.fact 40 (f := .noat "Chip" "_pages") rfl)),
    (He.noat_ok (d.fact 41 (f := .noat "Chip" "_faults") rfl)),
    (He.noat_ok (d.fact 42 (f := .noat "Chip" "_fault_at") rfl)),
    (He.noat_ok (d.fact 43 (f := .noat "Chip" "_cells") rfl)),
    (He.noat_ok (d.fact 44 (f := .noat "Chip" "_stands") rfl)),
    (He.noat_ok (d.fact 45 (f := .noat "Chip" "_texts") rfl)),
    (He.noat_ok (d.fact 46 (f := .noat "Chip" "_wear") rfl)),
    (He.noat_ok (d.fact 47 (f := .noat "Chip" "_is_bad") rfl)),
    (He.noat_ok (d.fact 48 (f := .noat "Chip" "_done") rfl)),
    (He.noat_ok (d.fact 49 (f := .noat "Chip" "_cuts") rfl)),
    (He.noat_ok (d.fact 50 (f := .noat "Chip" "_has_current") rfl)),
    ((exFB_ok y0).ic),
    ((exFB_ok y0).noV),
    (of_decide_eq_true y2),
    ((exFB_ok y1).ic),
    ((exFB_ok y1).noV),
    (of_decide_eq_true y3),
    (of_decide_eq_true y4),
    (of_decide_eq_true y5),
    (of_decide_eq_true y6)⟩
end
section
variable {P : Program} {w : World} {K : PySem.W.Frag} {h : Heap} {mg : Str → Option Value}
theorem facts (X : K.In h) (G : h.Ns mainGlobals mg) (c : SaysZ fa fn ts tf gs ex w h K) (base : Heap) (tb_law_call : TabB base mg (He.codeOf K ("_law_call", none)) (He.cT K ("_law_call", none)).2) : Cg P w K mg base 11 "law" ["script"] (sp_law K) := by
  have T := txt_of X G c
  have d := c.x.t.d
  obtain ⟨y0, y1, y2, y3, y4, y5, y6⟩ := more_of c
  obtain ⟨fd_xinit, F_xinit⟩ := d.def_ 47 (d := d__init) rfl
  have c_xinit := ok_init (P := P) (w := w) (mg := mg) (base := base) F_xinit
  have x_Cut : ExT P w K mg base "Cut" (He.ga K "Cut") := ext_of (exFB_ok y0) T.gx_Cut c_xinit (F_xinit.bindsN (fun _ _ _ _ _ _ us hl => match us, hl with | [_, _], _ => rfl))
  have x_BadFade : ExT P w K mg base "BadFade" (He.ga K "BadFade") := ext_of (exFB_ok y1) T.gx_BadFade c_xinit (F_xinit.bindsN (fun _ _ _ _ _ _ us hl => match us, hl with | [_, _], _ => rfl))
  obtain ⟨fd_is_integer, F_is_integer⟩ := d.def_ 0 (d := d_is_integer) rfl
  have c_is_integer := ok_is_integer (P := P) (base := base) T F_is_integer (He.glo_ok X G (d.fact 0 (f := .glo "is_integer") rfl))
  obtain ⟨fd_has_only, F_has_only⟩ := d.def_ 2 (d := d_has_only) rfl
  have c_has_only := ok_has_only (P := P) (base := base) T F_has_only (He.glo_ok X G (d.fact 2 (f := .glo "has_only") rfl))
  obtain ⟨fd_torn, F_torn⟩ := d.def_ 9 (d := d_torn) rfl
  have c_torn := ok_torn (P := P) (base := base) T F_torn (He.glo_ok X G (d.fact 9 (f := .glo "torn") rfl))
  obtain ⟨P_Chip_blocks, fd_Chip_blocks, F_Chip_blocks⟩ := c.get 0 (d := g_Chip_blocks) rfl
  have c_Chip_blocks := ok_Chip_blocks (P := P) (base := base) T F_Chip_blocks P_Chip_blocks
  obtain ⟨P_Chip_pages, fd_Chip_pages, F_Chip_pages⟩ := c.get 1 (d := g_Chip_pages) rfl
  have c_Chip_pages := ok_Chip_pages (P := P) (base := base) T F_Chip_pages P_Chip_pages
  obtain ⟨P_Chip_wear, fd_Chip_wear, F_Chip_wear⟩ := c.get 2 (d := g_Chip_wear) rfl
  have c_Chip_wear := ok_Chip_wear (P := P) (base := base) T F_Chip_wear P_Chip_wear
  obtain ⟨P_Chip_bad, fd_Chip_bad, F_Chip_bad⟩ := c.get 3 (d := g_Chip_bad) rfl
  have c_Chip_bad := ok_Chip_bad (P := P) (base := base) T F_Chip_bad P_Chip_bad
  obtain ⟨P_Chip_done, fd_Chip_done, F_Chip_done⟩ := c.get 4 (d := g_Chip_done) rfl
  have c_Chip_done := ok_Chip_done (P := P) (base := base) T F_Chip_done P_Chip_done
  obtain ⟨P_Chip_cuts, fd_Chip_cuts, F_Chip_cuts⟩ := c.get 5 (d := g_Chip_cuts) rfl
  have c_Chip_cuts := ok_Chip_cuts (P := P) (base := base) T F_Chip_cuts P_Chip_cuts
  obtain ⟨P_Chip_is_on, fd_Chip_is_on, F_Chip_is_on⟩ := c.get 6 (d := g_Chip_is_on) rfl
  have c_Chip_is_on := ok_Chip_is_on (P := P) (base := base) T F_Chip_is_on P_Chip_is_on
  obtain ⟨fd_Chip_again, F_Chip_again⟩ := d.def_ 14 (d := d_Chip_again) rfl
  have c_Chip_again := ok_Chip_again (P := P) (base := base) T F_Chip_again (He.meth_ok (d.fact 54 (f := .meth "Chip" "again") rfl))
  obtain ⟨fd_Chip_image, F_Chip_image⟩ := d.def_ 16 (d := d_Chip_image) rfl
  have c_Chip_image := ok_Chip_image (P := P) (base := base) T F_Chip_image (He.meth_ok (d.fact 56 (f := .meth "Chip" "image") rfl))
  obtain ⟨fd_law_pot, F_law_pot⟩ := d.def_ 21 (d := d_law_pot) rfl
  have c_law_pot := ok_law_pot (P := P) (base := base) T F_law_pot (He.glo_ok X G (d.fact 10 (f := .glo "_law_pot") rfl))
  obtain ⟨fd_law_take, F_law_take⟩ := d.def_ 22 (d := d_law_take) rfl
  have c_law_take := ok_law_take (P := P) (base := base) T F_law_take (He.glo_ok X G (d.fact 11 (f := .glo "_law_take") rfl))
  obtain ⟨fd_law_cells, F_law_cells⟩ := d.def_ 25 (d := d_law_cells) rfl
  have c_law_cells := ok_law_cells (P := P) (base := base) T F_law_cells (He.glo_ok X G (d.fact 14 (f := .glo "_law_cells") rfl))
  obtain ⟨fd_law_heard, F_law_heard⟩ := d.def_ 26 (d := d_law_heard) rfl
  have c_law_heard := ok_law_heard (P := P) (base := base) T F_law_heard (He.glo_ok X G (d.fact 15 (f := .glo "_law_heard") rfl))
  obtain ⟨fd_law_is_int, F_law_is_int⟩ := d.def_ 27 (d := d_law_is_int) rfl
  have c_law_is_int := ok_law_is_int (P := P) (base := base) T F_law_is_int (He.glo_ok X G (d.fact 16 (f := .glo "_law_is_int") rfl))
  obtain ⟨fd_law_chip_begun, F_law_chip_begun⟩ := d.def_ 28 (d := d_law_chip_begun) rfl
  have c_law_chip_begun := ok_law_chip_begun (P := P) (base := base) T F_law_chip_begun (He.glo_ok X G (d.fact 17 (f := .glo "_law_chip_begun") rfl))
  obtain ⟨fd_law_chip_is_cells, F_law_chip_is_cells⟩ := d.def_ 29 (d := d_law_chip_is_cells) rfl
  have c_law_chip_is_cells := ok_law_chip_is_cells (P := P) (base := base) T F_law_chip_is_cells (He.glo_ok X G (d.fact 18 (f := .glo "_law_chip_is_cells") rfl))
  obtain ⟨fd_law_chip_torn, F_law_chip_torn⟩ := d.def_ 30 (d := d_law_chip_torn) rfl
  have c_law_chip_torn := ok_law_chip_torn (P := P) (base := base) T F_law_chip_torn (He.glo_ok X G (d.fact 19 (f := .glo "_law_chip_torn") rfl))
  obtain ⟨fd_law_chip_fault, F_law_chip_fault⟩ := d.def_ 31 (d := d_law_chip_fault) rfl
  have c_law_chip_fault := ok_law_chip_fault (P := P) (base := base) T F_law_chip_fault (He.glo_ok X G (d.fact 20 (f := .glo "_law_chip_fault") rfl))
  obtain ⟨fd_law_chip_deed, F_law_chip_deed⟩ := d.def_ 32 (d := d_law_chip_deed) rfl
  have c_law_chip_deed := ok_law_chip_deed (P := P) (base := base) T F_law_chip_deed (He.glo_ok X G (d.fact 21 (f := .glo "_law_chip_deed") rfl))
  obtain ⟨fd_law_chip_faded, F_law_chip_faded⟩ := d.def_ 36 (d := d_law_chip_faded) rfl
  have c_law_chip_faded := ok_law_chip_faded (P := P) (base := base) T F_law_chip_faded (He.glo_ok X G (d.fact 25 (f := .glo "_law_chip_faded") rfl))
  obtain ⟨fd_is_between, F_is_between⟩ := d.def_ 1 (d := d_is_between) rfl
  have c_is_between := ok_is_between (P := P) (base := base) T F_is_between (He.glo_ok X G (d.fact 1 (f := .glo "is_between") rfl)) c_is_integer
  obtain ⟨fd_are_cells, F_are_cells⟩ := d.def_ 3 (d := d_are_cells) rfl
  have c_are_cells := ok_are_cells (P := P) (base := base) T F_are_cells (He.glo_ok X G (d.fact 3 (f := .glo "are_cells") rfl)) c_has_only
  obtain ⟨fd_law_of, F_law_of⟩ := d.def_ 23 (d := d_law_of) rfl
  have c_law_of := ok_law_of (P := P) (base := base) T F_law_of (He.glo_ok X G (d.fact 12 (f := .glo "_law_of") rfl)) c_law_take
  obtain ⟨fd_law_some, F_law_some⟩ := d.def_ 24 (d := d_law_some) rfl
  have c_law_some := ok_law_some (P := P) (base := base) T F_law_some (He.glo_ok X G (d.fact 13 (f := .glo "_law_some") rfl)) c_law_take
  obtain ⟨fd_law_chip_written, F_law_chip_written⟩ := d.def_ 33 (d := d_law_chip_written) rfl
  have c_law_chip_written := ok_law_chip_written (P := P) (base := base) T F_law_chip_written (He.glo_ok X G (d.fact 22 (f := .glo "_law_chip_written") rfl)) c_law_chip_fault c_law_chip_deed c_law_chip_torn
  obtain ⟨fd_law_chip_erased, F_law_chip_erased⟩ := d.def_ 34 (d := d_law_chip_erased) rfl
  have c_law_chip_erased := ok_law_chip_erased (P := P) (base := base) T F_law_chip_erased (He.glo_ok X G (d.fact 23 (f := .glo "_law_chip_erased") rfl)) c_law_chip_fault c_law_chip_deed c_law_chip_torn
  obtain ⟨fd_law_chip_can_fade, F_law_chip_can_fade⟩ := d.def_ 35 (d := d_law_chip_can_fade) rfl
  have c_law_chip_can_fade := ok_law_chip_can_fade (P := P) (base := base) T F_law_chip_can_fade (He.glo_ok X G (d.fact 24 (f := .glo "_law_chip_can_fade") rfl)) c_law_is_int c_law_chip_is_cells
  obtain ⟨fd_is_pattern, F_is_pattern⟩ := d.def_ 4 (d := d_is_pattern) rfl
  have c_is_pattern := ok_is_pattern (P := P) (base := base) T F_is_pattern (He.glo_ok X G (d.fact 4 (f := .glo "is_pattern") rfl)) c_are_cells
  obtain ⟨fd_is_cell, F_is_cell⟩ := d.def_ 5 (d := d_is_cell) rfl
  have c_is_cell := ok_is_cell (P := P) (base := base) T F_is_cell (He.glo_ok X G (d.fact 5 (f := .glo "is_cell") rfl)) c_are_cells
  obtain ⟨fd_is_page, F_is_page⟩ := d.def_ 6 (d := d_is_page) rfl
  have c_is_page := ok_is_page (P := P) (base := base) T F_is_page (He.glo_ok X G (d.fact 6 (f := .glo "is_page") rfl)) c_are_cells
  obtain ⟨fd_Chip__check_place, F_Chip__check_place⟩ := d.def_ 17 (d := d_Chip__check_place) rfl
  have c_Chip__check_place := ok_Chip__check_place (P := P) (base := base) T F_Chip__check_place (He.meth_ok (d.fact 57 (f := .meth "Chip" "_check_place") rfl)) c_is_between
  obtain ⟨fd_Chip__next_deed, F_Chip__next_deed⟩ := d.def_ 19 (d := d_Chip__next_deed) rfl
  have c_Chip__next_deed := ok_Chip__next_deed (P := P) (base := base) T F_Chip__next_deed (He.meth_ok (d.fact 59 (f := .meth "Chip" "_next_deed") rfl)) x_Cut
  obtain ⟨fd_Chip__deed_told, F_Chip__deed_told⟩ := d.def_ 20 (d := d_Chip__deed_told) rfl
  have c_Chip__deed_told := ok_Chip__deed_told (P := P) (base := base) T F_Chip__deed_told (He.meth_ok (d.fact 60 (f := .meth "Chip" "_deed_told") rfl)) x_Cut
  obtain ⟨fd_law_chip_is_told, F_law_chip_is_told⟩ := d.def_ 37 (d := d_law_chip_is_told) rfl
  have c_law_chip_is_told := ok_law_chip_is_told (P := P) (base := base) T F_law_chip_is_told (He.glo_ok X G (d.fact 26 (f := .glo "_law_chip_is_told") rfl)) c_Chip_image c_Chip_wear c_Chip_bad c_Chip_done c_Chip_cuts c_Chip_is_on
  obtain ⟨fd_law_chip_pattern, F_law_chip_pattern⟩ := d.def_ 38 (d := d_law_chip_pattern) rfl
  have c_law_chip_pattern := ok_law_chip_pattern (P := P) (base := base) T F_law_chip_pattern (He.glo_ok X G (d.fact 27 (f := .glo "_law_chip_pattern") rfl)) c_law_take c_law_of
  obtain ⟨fd_law_chip_page, F_law_chip_page⟩ := d.def_ 39 (d := d_law_chip_page) rfl
  have c_law_chip_page := ok_law_chip_page (P := P) (base := base) T F_law_chip_page (He.glo_ok X G (d.fact 28 (f := .glo "_law_chip_page") rfl)) c_law_of c_law_take
  obtain ⟨fd_law_behind, F_law_behind⟩ := d.def_ 42 (d := d_law_behind) rfl
  have c_law_behind := ok_law_behind (P := P) (base := base) T F_law_behind (He.glo_ok X G (d.fact 31 (f := .glo "_law_behind") rfl)) c_law_chip_can_fade c_law_chip_written c_law_chip_erased c_law_chip_faded
  obtain ⟨fd_is_fault, F_is_fault⟩ := d.def_ 7 (d := d_is_fault) rfl
  have c_is_fault := ok_is_fault (P := P) (base := base) T F_is_fault (He.glo_ok X G (d.fact 7 (f := .glo "is_fault") rfl)) c_is_integer c_is_pattern
  obtain ⟨fd_Chip_read, F_Chip_read⟩ := d.def_ 11 (d := d_Chip_read) rfl
  obtain ⟨c_Chip_read, k_Chip_read⟩ := ok_Chip_read (P := P) (base := base) T F_Chip_read (He.meth_ok (d.fact 51 (f := .meth "Chip" "read") rfl)) c_Chip__check_place
  obtain ⟨fd_Chip_write, F_Chip_write⟩ := d.def_ 12 (d := d_Chip_write) rfl
  have c_Chip_write := ok_Chip_write (P := P) (base := base) T F_Chip_write (He.meth_ok (d.fact 52 (f := .meth "Chip" "write") rfl)) c_Chip__check_place c_Chip__next_deed c_Chip__deed_told c_is_page c_torn
  obtain ⟨fd_Chip_erase, F_Chip_erase⟩ := d.def_ 13 (d := d_Chip_erase) rfl
  have c_Chip_erase := ok_Chip_erase (P := P) (base := base) T F_Chip_erase (He.meth_ok (d.fact 53 (f := .meth "Chip" "erase") rfl)) c_Chip__next_deed c_Chip__deed_told c_is_between c_torn
  obtain ⟨fd_Chip__may_fall, F_Chip__may_fall⟩ := d.def_ 18 (d := d_Chip__may_fall) rfl
  have c_Chip__may_fall := ok_Chip__may_fall (P := P) (base := base) T F_Chip__may_fall (He.meth_ok (d.fact 58 (f := .meth "Chip" "_may_fall") rfl)) c_is_between c_is_cell
  obtain ⟨fd_law_chip_faults, F_law_chip_faults⟩ := d.def_ 40 (d := d_law_chip_faults) rfl
  have c_law_chip_faults := ok_law_chip_faults (P := P) (base := base) T F_law_chip_faults (He.glo_ok X G (d.fact 29 (f := .glo "_law_chip_faults") rfl)) c_law_some c_law_of c_law_chip_pattern
  obtain ⟨fd_law_deed_drawn, F_law_deed_drawn⟩ := d.def_ 41 (d := d_law_deed_drawn) rfl
  have c_law_deed_drawn := ok_law_deed_drawn (P := P) (base := base) T F_law_deed_drawn (He.glo_ok X G (d.fact 30 (f := .glo "_law_deed_drawn") rfl)) c_law_take c_law_of c_law_chip_page
  obtain ⟨fd_are_faults, F_are_faults⟩ := d.def_ 8 (d := d_are_faults) rfl
  have c_are_faults := ok_are_faults (P := P) (base := base) T F_are_faults (He.glo_ok X G (d.fact 8 (f := .glo "are_faults") rfl)) c_is_fault
  obtain ⟨fd_Chip_fade, F_Chip_fade⟩ := d.def_ 15 (d := d_Chip_fade) rfl
  have c_Chip_fade := ok_Chip_fade (P := P) (base := base) T F_Chip_fade (He.meth_ok (d.fact 55 (f := .meth "Chip" "fade") rfl)) c_Chip__check_place c_Chip__may_fall x_BadFade
  obtain ⟨fd_Chip___init__, F_Chip___init__⟩ := d.def_ 10 (d := d_Chip___init__) rfl
  obtain ⟨c_Chip___init__, k_Chip___init__⟩ := ok_Chip___init__ (P := P) (base := base) T F_Chip___init__ (He.mkr_ok (d.fact 38 (f := .mkr "Chip") rfl)) c_is_between c_are_faults
  obtain ⟨fd_law_call, F_law_call⟩ := d.def_ 43 (d := d_law_call) rfl
  have c_law_call := ok_law_call (P := P) (base := base) T F_law_call (He.glo_ok X G (d.fact 32 (f := .glo "_law_call") rfl)) c_law_heard c_Chip_write c_Chip_erase c_Chip_again c_Chip_fade tb_law_call
  obtain ⟨fd_law_is_done, F_law_is_done⟩ := d.def_ 44 (d := d_law_is_done) rfl
  have c_law_is_done := ok_law_is_done (P := P) (base := base) T F_law_is_done (He.glo_ok X G (d.fact 33 (f := .glo "_law_is_done") rfl)) c_law_call x_Cut x_BadFade
  obtain ⟨fd_law_right, F_law_right⟩ := d.def_ 45 (d := d_law_right) rfl
  have c_law_right := ok_law_right (P := P) (base := base) T F_law_right (He.glo_ok X G (d.fact 34 (f := .glo "_law_right") rfl)) c_law_chip_faults c_Chip___init__ c_law_chip_begun c_law_deed_drawn c_law_behind c_law_take c_law_chip_is_told c_Chip_blocks c_Chip_pages c_law_is_done c_Chip_read k_Chip___init__ k_Chip_read
  obtain ⟨fd_law, F_law⟩ := d.def_ 46 (d := d_law) rfl
  have c_law := ok_law (P := P) (base := base) T F_law (He.glo_ok X G (d.fact 35 (f := .glo "law") rfl)) c_law_right c_law_pot c_law_cells
  exact c_law
end
theorem law_end {K : PySem.W.Frag} {H : Hp} {a : Addr} {ns : List Int} (hT : ∀ p ∈ tf.map (He.cT K), H p.2 = some (.tbl #[])) (hS : SqL K H a (ns.map V.int)) : sp_law K [.ref a] H (fun v _ => v = .bl true) E0 :=
  ⟨a, ns, rfl, tab_start (K := K) fun p hp => by rw [List.mem_singleton.mp hp]; exact hT (He.cT K ("_law_call", none)) (List.Mem.head _), hS, fun _ => rfl⟩
end W00
open PySem PySem.W PySem.Calls PyProof.Rows
theorem PySem.Challenge.cw_worneven_k00_whole_chips_deed_by_deed_holds : PySem.Challenge.rw_worneven_k00_whole_chips_deed_by_deed.Holds := by
  w_on; o_law
  refine HandSHeadRun.head_any (r := OpenLaw.row PySem.Challenge.rw_worneven_k00_whole_chips_deed_by_deed) (q := view (OpenLaw.row PySem.Challenge.rw_worneven_k00_whole_chips_deed_by_deed).prog [67]) (H := W00.hk) (ob := W00.ob) (M := 6000) (loose := W00.loose1) (d := HandSHeadRun.topDef (OpenLaw.row PySem.Challenge.rw_worneven_k00_whole_chips_deed_by_deed).prog 67) (kwd := []) W00.ob_eq
    (by kernel_rfl) (fun s => by kernel_rfl) W00.run (by kernel_rfl) (by kernel_rfl) (by kernel_rfl) (by rfl) (by first | assumption | decide +kernel) (by decide +kernel) ⟨rfl, rfl, rfl, rfl, rfl, by decide +kernel⟩ ?hw ?hc
  case hw => w_witness2
  case hc =>
    refine WR.walk_gT (l := PySem.Challenge.rw_worneven_k00_whole_chips_deed_by_deed) (n := 63) (k := 11) rfl (by decide) (by kernel_rfl) ⟨rfl, by decide, by decide⟩ ?F
    intro w mg h Y G
    obtain ⟨K, KX, c⟩ := Y
    exact ⟨K, W00.sp_law K, W00.tf.map (He.cT K), KX, fun p hp => by obtain ⟨q, hq, rfl⟩ := List.mem_map.mp hp; exact c.x.empty q hq, fun p hp => by obtain ⟨q, hq, rfl⟩ := List.mem_map.mp hp; exact c.x.out q hq,
      fun p hp => by obtain ⟨q, hq, rfl⟩ := List.mem_map.mp hp; exact PySem.W.codeHd_of_K KX (c.x.hd q hq),
      fun H a ns hl hT hS => W00.law_end hT hS,
      fun base _ _ tb => W00.facts KX G c base (tb _ (List.Mem.head _))⟩
